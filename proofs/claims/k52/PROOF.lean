import PyProof.Rows.All
import KE.KDictOf
import KE.KIsAll
import KE.KFromBytes
import KE.KDictSum
import KE.KEqDict
import KE.LcSums
import KE.KItem
import Lean
import PyProof.EqAt
import PyProof.EqKinds
import PyProof.TupleCall
import PyProof.Rows.SortStr
import PyProof.StrLawsReplace
import PyProof.StrLawsIdx
import PyProof.StrLawsIn
import PyProof.StrBlockI
import PyProof.StrBlockL
import PyProof.SliceList
import PyProof.InstStoreFacts
import PyProof.NsDelKeeps
import PyProof.StationsW
import PyProof.ExcArgs
import PyProof.ExcBaseAll.ValueError
import PyProof.StrCalls
import PyProof.ListRange
import PyProof.EnumMake
import PyProof.Draws
import PyProof.FactsAll.dict
import PyProof.StrBlock2
import PyProof.Rows.SumAny
import PyProof.NeKinds
import PyProof.Rows.MinMaxN
import PyProof.Rows.Range3
import PyProof.StrLawsFirst
import PyProof.AttrMissHeap
import PyProof.Rows.CallKwBuiltin
import KE.KMinKey
import PyProof.FString2
import KE.KDictLaws
import KE.KRevIter
import PySem.Challenge.RW_bandscribe_k52_whole_spoilt_signs
set_option genInjectivity false
set_option genSizeOfSpec false
open List renaming length_map→wa0,getElem?_eq_getElem→wa1,getD_eq_getElem?_getD→wa3,getElem?_map→wa4,length_append→wa5,getElem?_eq_some_iff→wa6,mem_of_getElem?→wa8,mem_map→wab,mem_cons_of_mem→wac,mem_cons_self→wae,map_map→waf,length_take→wag,map_append→wai,replicate→waj,range→wao,mem_singleton→wap,mem_filter→war,map_cons→wau,size_toArray→waB,length_range→waC,mem_append→waD,getElem?_append_right→waE,getElem?_append_left→waF,take_length→waG,length_cons→waH,mem_append_right→waJ,mem_cons→waK,getElem_mem→waL,append_assoc→waM,take_add_one→waO,length_replicate→waP,all_eq_true→waR,append_nil→waS,mem_append_left→waV,filter_cons_of_pos→waW,map_congr_left→waZ,mem_range→wb0,filter_cons_of_neg→wb1,length_filter_le→wb2,length_drop→wb3,filter_eq_self→wba,take_of_length_le→wbg,mem_of_mem_take→wbh,filter_append→wbj,filterMap_cons→wbl,take_sublist→wbn,take_append_drop→wbr,sum_cons→wbv,drop_eq_nil_of_le→wbA,eq_nil_of_length_eq_zero→wbB,nodup_cons→wbH,getElem_of_mem→wbU,not_mem_nil→wc0,count_pos_iff→wc2,idxOf_lt_length_iff→wc3,flatten_cons→wc6,length_set→wc8,range_succ→wc9,length_pos_iff→wcd,getElem_inj→wcl,any_eq_true→wcm,length_singleton→wcn,getElem?_eq_none→wco,drop_eq_getElem_cons→wcr,mem_or_eq_of_mem_set→wcs,getElem?_set_ne→wcv,drop_append_of_le_length→wcB,replicate_succ→wcE,length_reverse→wcF,mem_flatMap→wcG,map→wcZ,getElem_map→wd1,any_cons→wd9,find?_cons→wdg,mem_replicate→wdm,getElem?_set_self→wdo,nodup_nil→wdt,take_zero→wdu,dropLast_concat_getLast→wdw,lookup_cons→wdA,mem_iff_getElem→wdC,getElem_toArray→wdD,mem_of_mem_drop→wdE,map_take→wdH,length→wdI,filter_sublist→wdJ,getElem?_range→wdK,foldl_cons→wdL,nil_append→wdN,mem_filterMap→wdR,getElem?_take_of_lt→wdT,map_nil→wdV,prefix_append→we1,length_filterMap_le→we2,map_id'→we3,getElem_idxOf→we5,flatMap_cons→wec,drop_of_length_le→wef,set_eq_take_append_cons_drop→wei,map_drop→wek,filter_map→weK,flatMap_append→weP,drop_zero→weV,range'→weY,getElem_range→wf4,all_cons→wf6,foldl_append→wfg,nodup_append→wfh,getElem_take→wfi,ext_getElem?→wfj,filter_congr→wfl,extract_eq_take_drop→wfo,getElem?_eq_none_iff→wfq,all_map→wfC,any_map→wfE,suffix_refl→wfF,take_prefix→wfG,range'_succ→wfH,nodup_range→wfM,ext_getElem→wfP,length_eq_zero_iff→wfS,of_mem_zip→wg2,length_nil→wg4,lookup→wgb,eq_nil_or_concat→wgt,drop_left→wgu,take_left→wgv,singleton_append→wgw,filterMap_append→wgx,drop_take→wgy,getElem?_reverse→wgA,range_eq_range'→wgM,idxOf_cons_self→wgO,map_eq_nil_iff→wh2,contains_cons→whj,getElem?_drop→whk,getElem?_take→whl,any_eq_false→whp,mem_range'_1→whw,map_dropLast→whx,drop_sublist→why,append_inj'→whP,drop_length→whR,drop_append→whS,mem_flatten→whT,foldl→whW,idxOf_cons→wi3,sum_append→wi4,append_inj→wi5
open PySem.W renaming Frag→wa2,findIn→wbk,kia_one→wbG,emptyDict→wbS,recOk→wci,xlAt→wct,instObj→wcu,fnOf→wcx,callWith_K→wcI,keepIn→wcW,boot_heap→wdb,codeIn→we6,looks_clsIn→wea,plainGet→weo,methodCall_KW→wet,OpenLaw→weM,plainGet_of→weN,lookIn→weT,looks_findIn→weU,methodObj→wfa,hasDictIn→wfb,set_plain→wfc,isFn→wft,takerIn→wg0,cellsFrom_some→wgc,SharedT→wgm,kitOne→wgp,kdl_values→whe,specialIn→whm,plainOver→whq,kitx_list→whs,kitx_dict→wht,boot_o_0→whJ,handedIn→whK,kdl_dict→whN,kdl_call→whO,WalkO→whU,makesIn→whV,KeqHits→wi1
open PySem renaming wpAny_bind→wa7,Program→waq,wpAny_pure→wax,bootBuiltins→waX,mainGlobals→wb5,FuncData→wb6,wpAny_mono→wbb,compareOp→wbc,wpAny_loadPart_at→wbe,wpAny_holding→wbp,wpAny_truthy_bool→wbt,wpAny_Call_Name_kw→wbx,importedModules→wbF,codeAny_builtin→wbI,excClassObj→wbJ,strKind→wbM,wpAny_tryCatch→wbP,foldedSetIterable→wbR,wpAny_isSubtype_exc→wbT,OsState→wbV,sizeLine_eq→wc4,swapsWith→wc7,codeAny_mono→wch,plainId_quiet→wcj,cLine→wcp,wpAny_execs_nil→wcw,lookup_relabel_local→wcy,attributeBase→wcA,mem_of_lookup→wcD,keywordEach→wcH,wpAny_passesOwn→wcM,wpAny_pyIter_list→wcP,wpAny_pyIter_enum→wcQ,sysModules→wcR,codeAny_call_builtin→wcU,wpAny_seqItems→wcX,wpAny_execs_cons→wcY,plainObj_wpAny_Assign_Attribute→wd2,wpAny_getItem_str_slice→wd6,behindInMarks→wd8,Scope→wdc,Result→wdd,wpAny_call→wdf,tupleKind_room_in1→wdh,wpAny_updateSeq→wdk,wpAny_letGo→wdq,Keyword→wdr,GenState→wdx,assignEach→wdy,wpAny_standAt→wdF,wpAny_letOwnedTupleGo_enum→wdG,Within→wdQ,scanBound→wdY,boot_len→we8,wpAny_Assign_Name→we9,wpAny_field→weg,NameKind→wep,checkBuiltinCall→weq,getMethod→wes,seqItems?→wew,codeAny_handlers_test→wez,letOwnedTupleGo→weB,call_meets→weF,post_val_or_str→weH,wpAny_handleBy_cons→weR,Builtin→weS,wpAny_setField→weW,tupleKind→wf0,wpAny_newObj_type→wff,typeLookup→wfm,wpAny_lookBehind→wfu,pastItsLine_dict→wfv,call_meetsIn→wfy,wpAny_comprehension_free→wfB,wpAny_pyNext_enum_itemD→wfT,treeTable→wfW,codeAny_of_tree→wg5,setFlight→wg6,IsRangeIter→wg7,wpAny_pyNext_range_end→wg8,wpAny_pyIter_rangeiter→wg9,subscripted→wgd,wpAny_pyNext_enum_endD→wgi,codeAny_handlers_suite→wgl,wpAny_isTrue_Compare1→wgn,wpAny_loadPart→wgo,weight_type_call_type→wgs,wpAny_loadName_local→wgG,typeIs_str→wgH,PlainAttrs→wgI,excMatches→wgN,wpAny_pyIter_revIter→wgQ,rangeSize_one→wgT,wpAny_loadName_cell→wgX,wpAt_of_wpAny→wh0,wpAny_nsSet1→wh8,updateSeq→whi,seqIndex_of→whC,sliceBounds→whD,intItems_at→whE,wpAny_of_eq→whF,call→whX,wpAt_bind→whZ
open PySem.Heap renaming get?_push_of_some→wa9,lt_size→wah,get?_push_size→wat,get?_update_other→waQ,get?_update_self→wbD,size_push→wbO,SameBut→wfs,get?_update_ne→wgY
open Nat renaming le_refl→waa,le_trans→wak,lt_of_lt_of_le→wav,ne_of_lt→waw,zero_le→waz,mul_le_mul→wbd,lt_of_le_of_lt→wbi,lt_irrefl→wbm,sub_self→wbE,lt_succ_self→wbL,le_succ→wc5,mul_le_mul_left→wcb,ne_of_gt→wcg,add_sub_cancel_left→wcC,not_lt_zero→wcN,mul_add→wcV,min_eq_left→wdM,le_of_eq→wdS,lt_succ_of_lt→web,lt_trichotomy→wed,mul_le_mul_right→weI,lt_or_eq_of_le→wf3,le_of_lt→wfr,mul_comm→wfx,le_of_not_lt→wfz,zero_add→wfL,div_lt_iff_lt_mul→wgC,pow_le_pow_right→wgP,add_comm→whc,pos_of_ne_zero→whh,le_succ_of_le→whv,lt_succ_of_le→whA,mul_one→whI,le_antisymm→wi0
open Option.some renaming inj→wad
open Sum renaming inr→wal,inl→wb8
open PySem.Value renaming ref→wam,none→wbC,type→weA,int→wfX,str→wfY,bool→wgF,isStrOf→wgR,isStrOf_shape→wgW,float→whB
open Bool renaming false_ne_true→wan,and_eq_true→wbX,false_eq_true→wbY,false_and→wdv,and_false→we7,true_and→wel,eq_iff_iff→weC,not_true→wgV,or_eq_true→whY
open Int renaming toNat_natCast→waA,natCast_mul→waT,emod_lt_of_pos→wb4,emod_nonneg→wb9,natCast_add→wbz,zero_add→wbN,mul_comm→wd0,natCast_pow→wdO,le_trans→we4,le_refl→weZ,le_of_mul_le_mul_right→wf9,pow_succ→wfO,eq_ofNat_of_zero_le→wfU,le_ediv_iff_mul_le→wgj,add_mul→wgk,mul_ediv_add_emod→wgz,add_mul_ediv_left→wgB,toNat_of_nonneg→wh4,mul_sub→whG,mul_pos→whH,ediv_nonneg→wi2
open PySem.Txt renaming slice→waI,slice_le→wds,join→wdB
open PySem.F renaming plainAttrs_list→waN,slot_list_append→waU,type_list_append→waY,plain_min_loop→wbQ,called_set→wbZ,plain_max_loop→wc1,excBase_ValueError→wck,plainAttrs_dict→wd5,slot_list_index→wd7,slot_dict_values→wdX,entry_min_loop→weh,plainAttrs_str→wej,entry_max_loop→wer,slot_dict_get→weu,slot_dict_setdefault→weX,called_enumerate→wf2,args_list_index_2→wfp,entry_list_index→wfI,type_dict_values→wfN,args_dict_get_3→wfR,type_list_index→wfV,entry_dict_get→wgf,slot_str_join→wgD,type_str_join→wgE,entry_type_call→wgJ,slot_str_index→wh1,slot_list_pop→whb
open False renaming elim→wb7
open PySem.W.OpenRow renaming toRowW→wbf
open PySem.W.RowW renaming records→wbo
open PySem.W.OpenLaw renaming row→wbq
open PyProof.Rows renaming callWith_type1→wbs,envOfC→wcc,kws_cons→wex,callWith_builtin1→weD,kws_nil→weJ,int_text_len_1921→weL,callWith_kw→wfK,sortedS→wfQ,subscriptTail_builtinR→wge,subscriptTail→wgU,kmk_tree→wi6
open Ne renaming symm→wbu
open True renaming intro→wbw
open PySem.Around renaming under_plainId→wby,under→wh9,under_plain→whf
open PySem.Builtin.Str renaming strSliceIndices→wbK,occurrences→wd4,subAt→whu
open Array renaming getElem?_toList→wbW,length_toList→wca,getD_eq_getD_getElem?→wcJ,toArray_toList→wcT,getElem?_eq_some_iff→wf8,toList_inj→wfD,getElem?_eq_none→wgg,toList_extract→wgL
open Prod.mk renaming inj→wce
open Sum.inr renaming inj→wcf
open Classical renaming byContradiction→wcq,choose_spec→wey,choose→whQ
open PySem.Str renaming ofString→wcz,length→wdz
open PyProof.Rows.F renaming plain_set_update_loop→wcK,entry_set_update_loop→wdZ
open PySem.Builtin.Builtins renaming bindParams→wcL
open PySem.NameKind renaming free→wcO,cell→wf7
open PySem.Obj renaming mapSeq→wcS,mapFields→wda,data_mapFields→wdj,isFreed_of_fields→wev
open PySem.Builtin.Range renaming rangeSize→wd3,small→wh3
open PySem.Calls renaming spliced_cons→wde,callWith_builtin→wdp,evalArgs_plain→weE,call_len_list→weO,Name_function_global→wf5,spliced_nil→wfd,Constant_str→wh7
open ForInStep renaming yield→wdi
open PySem.PassesOwn renaming never→wdl,leaving→whz
open Option renaming map_eq_some_iff→wdn,map_some→weG,isSome_map→wfe,isSome_iff_exists→wfw,getD_some→whM
open Eq renaming trans→wdP
open PySem.Builtin.List renaming listTooLong→wdU
open Or renaming inl→wdW
open PySem.Code renaming quiet_builtin→we0,isFrame→wha
open PySem.Data renaming fields→wee,cell→wfZ
open List.cons renaming inj→wem
open Prod renaming ext→wen
open PySem.Heap.SameBut renaming update→weQ
open PySem.W.Looks renaming here→wf1
open List.Sublist renaming refl→wfk
open PySem.Walks renaming list→wfn
open PySem.SeqAt renaming list_indexAt→wfJ
open PySem.Within renaming cons→wg1
open PySem.SeqAt.EqAt renaming same→wg3,int_int→wgq,str_str→wgr,int_str→wh5,str_int→wh6
open PyProof renaming noPylong_small→wga
open PySem.StrLaws renaming sliceText_from→wgh,sliceText_to→wgK
open PySem.Paired renaming length→wgS
open PySem.EntryCells renaming newEntry→wgZ
open Nat.succ renaming inj→whd
open PySem.SeqAt.RcNeAt renaming lists→whg
open PySem.Flt renaming mathRow→whn
open PySem.Heap.Ns1 renaming of_empty→whr
open PySem.P renaming add_list→whL
open PySem.Builtin.Frozenset renaming updateFrom→wi7
open PySem.Shared renaming TypeIs→wi8
open PySem.IsRange renaming new→wi9
set_option Elab.async false
set_option linter.all false
set_option maxRecDepth 100000
set_option maxHeartbeats 4000000
namespace Tt
open PySem PySem.W PySem.Calls PyProof.Rows
noncomputable def FW(tb:String->Option weS)(p:waq)(w:World)(n₀:Nat)(ann:Option Value):Nat->wgm->Thread->Option wgm
 |0,_,_=>none
 |n+1,s,t=>match through t with
  |true=>some s
  |false=>match stepOk n₀ ann t with
   |false=>none
   |true=>match stepT (denote tb) p w s t with
    |some (s',t')=>FW tb p w n₀ ann n s' t'
    |none=>none
theorem FX{tb:String->Option weS}{p:waq}{w:World}{n₀:Nat}{ann:Option Value}:∀{n:Nat} {s s':wgm} {t:Thread},FW tb p w n₀ ann n s t=some s'->topRun tb p w n₀ ann n s.abs t=some s'.abs
 |0,_,_,_,h=>by cases h
 |n+1,s,s',t,h=>by
  unfold FW at h;unfold topRun
  cases ht:through t with
  |true=>rw[ht]at h;cases h;rfl
  |false=>
   rw[ht]at h
   cases hk:stepOk n₀ ann t with
   |false=>rw[hk]at h;cases h
   |true=>
    rw[hk]at h
    cases hs:stepT (denote tb) p w s t with
    |none=>rw[hs]at h;cases h
    |some r=>obtain⟨s₂,t₂⟩:=r;rw[hs]at h;rw[stepT_spec hs];exact FX h
noncomputable def sound(p:waq)(h₀:Heap)(s:wgm):Bool:=staticsOk (wbF p.main.body) h₀ s.abs.heap&&namesBound p s.abs.heap&&gensDone s.abs&&laidKept h₀ s.abs.heap
theorem Jf{p q:waq}{loose:List Str}{Xt:Shared->Bool}{α:Type}{Yf:Shared->α}{Ya:World->α}{N n m₀:Nat}{life:Params->Life}{g0:Bool}{H₀:Params->Heap}{T₀:Params->BT}{Rr:Array wdx}{d₀:Drawn}{k₀:Nat}{ann:Option Value}
 (OB:∀w:World,(fencedOpening wfW p w N).map (λs=>(s.heap,s.gens,s.drawn,s.toks))=some (H₀ w.params,Rr,d₀,k₀))
 (size:∀P:Params,((H₀ P).isNs wb5&&Rr.size==0,(H₀ P).objs.size,(H₀ P).nsMap wb5 "__annotations__")=(true,m₀,ann))
 (tree:∀P:Params,absHeap (T₀ P) n (life P)=H₀ P)
 (run:∀(w:World) (os:wbV),∃s,FW wfW p w m₀ ann N ⟨T₀ w.params,n,life w.params,Rr,d₀,k₀,os⟩ (topStub p)=some s/\sound p (H₀ w.params) s=true/\openSeen q loose (wbF p.main.body) Xt g0 s.abs=openGood q loose/\Yf s.abs=Ya w):LeftO p q loose Xt Yf Ya N g0:=λw=>by
 obtain⟨⟨h,gs,d,k,os⟩,e,e'⟩:=wdn.mp (OB w);obtain⟨rfl,rfl,rfl,rfl⟩:h=H₀ w.params/\gs=Rr/\d=d₀/\k=k₀:=by simpa using e'
 obtain⟨z1,z2,z3⟩:_/\_/\_:=by simpa only[Prod.mk.injEq] using size w.params
 obtain⟨s,r,l1,l2,l3⟩:=run w os;have r:=FX r
 have ea:(SharedT.mk (T₀ w.params) n (life w.params) gs d k os).abs=⟨H₀ w.params,gs,d,k,os⟩:=by
  unfold SharedT.abs;rw[tree]
 rw[ea]at r
 have t:topFrom wfW p w N ⟨H₀ w.params,gs,d,k,os⟩=some s.abs:=by
  unfold topFrom;dsimp only;rw[z1,z2,z3,r];show (match sound p (H₀ w.params) s with |true=>_ |false=>_)=_;rw[l1]
 unfold openEnds;rw[e];show (topFrom wfW p w N _).map _=_;rw[t];exact congrArg some (wen l2 l3)
theorem M9{S A B C:Type}{o:Option S}{f:S->A}{g:S->B}{h:S->C}{a:A}{b:B}{c:C}(x:o.map f=some a)(y:o.map g=some b)(z:o.map h=some c):∃s,o=some s/\f s=a/\g s=b/\h s=c:=by
 cases o with
 |none=>cases x
 |some s=>exact⟨s,rfl,wad x,wad y,wad z⟩
theorem four{S A B C D E F G:Type}{o:Option S}{f:S->A×B×C×D×E×F×G}{a:A×B×C×D×E×F×G}(h1:o.map (λs=>(f s).1)=some a.1)(h2:o.map (λs=>((f s).2.1,(f s).2.2.1))=some (a.2.1,a.2.2.1))(h3:o.map (λs=>((f s).2.2.2.1,(f s).2.2.2.2.1))=some (a.2.2.2.1,a.2.2.2.2.1))(h5:o.map (λs=>(f s).2.2.2.2.2.1)=some a.2.2.2.2.2.1)(h4:o.map (λs=>(f s).2.2.2.2.2.2)=some a.2.2.2.2.2.2):o.map f=some a:=by
 cases o with
 |none=>cases h1
 |some s=>
  have e1:(f s).1=a.1:=wad h1;have e2:((f s).2.1,(f s).2.2.1)=(a.2.1,a.2.2.1):=wad h2;have e3:((f s).2.2.2.1,(f s).2.2.2.2.1)=(a.2.2.2.1,a.2.2.2.2.1):=wad h3;have e5:(f s).2.2.2.2.2.1=a.2.2.2.2.2.1:=wad h5;have e4:(f s).2.2.2.2.2.2=a.2.2.2.2.2.2:=wad h4;exact congrArg some (wen e1 (wen (wce e2).1 (wen (wce e2).2 (wen (wce e3).1 (wen (wce e3).2 (wen e5 e4))))))
theorem cut(n:Nat){o:Option wgm}{as:List Addr}{v:List (Option Obj)}(h:o.map (λs=>(as.take n).map s.abs.heap.get?)=some (v.take n))(h':o.map (λs=>(as.drop n).map s.abs.heap.get?)=some (v.drop n)):o.map (λs=>as.map s.abs.heap.get?)=some v:=by
 cases o with
 |none=>cases h
 |some s=>
  have h1:(as.take n).map s.abs.heap.get?=v.take n:=wad h;have h2:(as.drop n).map s.abs.heap.get?=v.drop n:=wad h';show some (as.map s.abs.heap.get?)=some v;rw[<-wbr n as,wai,h1,h2,wbr]
end Tt
namespace K52
open PySem PySem.W
noncomputable def tp(i:Nat):Stmt:=PySem.Challenge.pw_bandscribe_k52_whole_spoilt_signs.main.body.getD i (.Pass ⟨0,0,0,0⟩)
noncomputable def view:waq:={PySem.Challenge.pw_bandscribe_k52_whole_spoilt_signs with main:={PySem.Challenge.pw_bandscribe_k52_whole_spoilt_signs.main with body:=[tp 0,tp 2,tp 3,tp 4,tp 5,tp 6,tp 7,tp 8,tp 9,tp 10,tp 11,tp 12,tp 13,tp 14,tp 15,tp 17,tp 19,tp 20,tp 21,tp 23,tp 24,tp 25,tp 26,tp 27,tp 28,tp 29,tp 30,tp 31,tp 32,tp 33,tp 34,tp 36,tp 37,tp 38,tp 39,tp 40,tp 42,tp 43,tp 44,tp 45,tp 46,tp 48,tp 49,tp 50,tp 51,tp 52,tp 54,tp 55,tp 56,tp 57,tp 58,tp 59,tp 60,tp 62,tp 63,tp 64,tp 65,tp 66,tp 67,tp 68,tp 69,tp 70,tp 71,tp 72,tp 73,tp 74,tp 75,tp 76,tp 78,tp 79,tp 80,tp 81,tp 82,tp 84,tp 85,tp 86,tp 87,tp 88,tp 89,tp 90,tp 91,tp 92,tp 93]}}
noncomputable def tree0(P:Params):BT:=(.node (boot_o_0 P) (.node (boot_o_1 P) (.node (boot_o_3 P) (.node (boot_o_7 P) .nil .nil) .nil) (.node (boot_o_5 P) (.node (boot_o_9 P) .nil .nil) .nil)) (.node (boot_o_2 P) (.node (boot_o_4 P) (.node (boot_o_8 P) .nil .nil) .nil) (.node (boot_o_6 P) (.node (boot_o_10 P) .nil .nil) .nil)))
noncomputable def run(w:World)(os:wbV):Option wgm:=(Tt.FW wfW PySem.Challenge.pw_bandscribe_k52_whole_spoilt_signs w 11 (some (wam 6)) 8100 ⟨tree0 w.params,11,(wdb w.params).life,Array.mk [],boot_drawn,boot_toks,os⟩ (topStub PySem.Challenge.pw_bandscribe_k52_whole_spoilt_signs))
noncomputable def lhsS(w:World)(os:wbV):=(run w os).map (λs=>Tt.sound PySem.Challenge.pw_bandscribe_k52_whole_spoilt_signs (wdb w.params) s)
noncomputable def lhsA1(w:World)(os:wbV):=(run w os).map (λs=>(openSeen view [] (wbF PySem.Challenge.pw_bandscribe_k52_whole_spoilt_signs.main.body) (λs=>wct view [] s&&wci (wbo (wbf (wbq PySem.Challenge.rw_bandscribe_k52_whole_spoilt_signs))) s) true s.abs).1)
noncomputable def lhsA2(w:World)(os:wbV):=(run w os).map (λs=>((openSeen view [] (wbF PySem.Challenge.pw_bandscribe_k52_whole_spoilt_signs.main.body) (λs=>wct view [] s&&wci (wbo (wbf (wbq PySem.Challenge.rw_bandscribe_k52_whole_spoilt_signs))) s) true s.abs).2.1,(openSeen view [] (wbF PySem.Challenge.pw_bandscribe_k52_whole_spoilt_signs.main.body) (λs=>wct view [] s&&wci (wbo (wbf (wbq PySem.Challenge.rw_bandscribe_k52_whole_spoilt_signs))) s) true s.abs).2.2.1))
noncomputable def lhsA3(w:World)(os:wbV):=(run w os).map (λs=>((openSeen view [] (wbF PySem.Challenge.pw_bandscribe_k52_whole_spoilt_signs.main.body) (λs=>wct view [] s&&wci (wbo (wbf (wbq PySem.Challenge.rw_bandscribe_k52_whole_spoilt_signs))) s) true s.abs).2.2.2.1,(openSeen view [] (wbF PySem.Challenge.pw_bandscribe_k52_whole_spoilt_signs.main.body) (λs=>wct view [] s&&wci (wbo (wbf (wbq PySem.Challenge.rw_bandscribe_k52_whole_spoilt_signs))) s) true s.abs).2.2.2.2.1))
noncomputable def lhsA5(w:World)(os:wbV):=(run w os).map (λs=>(openSeen view [] (wbF PySem.Challenge.pw_bandscribe_k52_whole_spoilt_signs.main.body) (λs=>wct view [] s&&wci (wbo (wbf (wbq PySem.Challenge.rw_bandscribe_k52_whole_spoilt_signs))) s) true s.abs).2.2.2.2.2.1)
noncomputable def lhsA4(w:World)(os:wbV):=(run w os).map (λs=>(openSeen view [] (wbF PySem.Challenge.pw_bandscribe_k52_whole_spoilt_signs.main.body) (λs=>wct view [] s&&wci (wbo (wbf (wbq PySem.Challenge.rw_bandscribe_k52_whole_spoilt_signs))) s) true s.abs).2.2.2.2.2.2)
noncomputable def lhsB(as:List Addr)(w:World)(os:wbV):=(run w os).map (λs=>as.map s.abs.heap.get?)
end K52
noncomputable def PySem.W.Fast.tw14598715356260435866:=whJ
theorem PySem.W.Fast.te14598715356260435866:whJ=PySem.W.Fast.tw14598715356260435866:=rfl
noncomputable def PySem.W.Fast.tw14735837247867348817:=PySem.Challenge.pw_bandscribe_k52_whole_spoilt_signs
theorem PySem.W.Fast.te14735837247867348817:PySem.Challenge.pw_bandscribe_k52_whole_spoilt_signs=PySem.W.Fast.tw14735837247867348817:=rfl
noncomputable def PySem.W.Fast.tw13899100880601395773:=whn
theorem PySem.W.Fast.te13899100880601395773:whn=PySem.W.Fast.tw13899100880601395773:=rfl
lay_quick K52.lhsS K52.lhsA1 K52.lhsA2 K52.lhsA3 K52.lhsA4 K52.lhsA5 K52.lhsB
section
open PySem PySem.W PyProof.Rows
local macro_rules |`(tactic|o_head $H)=>`(tactic|(refine PySem.W.holds_open (q:=K52.view) (loose:=[]) (Xt:=λs=>PySem.W.xlAt K52.view [] s&&PySem.W.recOk (PySem.W.RowW.records (PySem.W.OpenRow.toRowW (PySem.W.OpenLaw.row PySem.Challenge.rw_bandscribe_k52_whole_spoilt_signs))) s) (XP:=PySem.W.XL K52.view []) (Yf:=PySem.W.Hook.obs $H) (Ya:=PySem.W.Hook.val $H) (YP:=PySem.W.Hook.says $H) (N:=8100) ?hl (PySem.W.Hook.of $H) (PySem.W.Hook.keeps $H) (λs e=>PySem.W.xl_of s (Bool.and_eq_true_iff.mp e).1) PySem.W.XL.keeps (by rfl) (by rfl) (by rfl) (λs e=>PySem.W.recFacts_of (Bool.and_eq_true_iff.mp e).2) (by rfl) (by first |assumption |decide+kernel) (by decide+kernel) ⟨rfl,rfl,rfl,rfl,rfl,by decide+kernel⟩ ?hw ?hc;(case hl=>(intro w;contradiction))))
theorem K52.pre(h:False):(PySem.Challenge.rw_bandscribe_k52_whole_spoilt_signs).Holds:=by
 w_on;o_law;k_head
 all_goals contradiction
end
namespace K52
open PySem PySem.W
noncomputable def addrs:List Addr:=[2,3,15,17,18,20,21,22,29,30,31,32,35,42,43,44,47,54,56,57,59,60,61,62,63,66,73,75,76,78,79,80,81,82,85,92,94,95,97,98,99,100,101,104,111,113,114,116,117,118,119,120,123,130,132,133,135,136,137,138,139,142,149,150,151,154,161,162,163,166,173,174,175,178,185,187,188,190,191,192,193,194,197,204,206,207,209,210,211,212,213,216,223,224,225,228,235,237,238,240,241,242,243,244,247,249,250,252,253,254,256,257,259,260,261,263,264,266,267,275,277,278,280,281,282,284,285,287,288,289,292,293,294,296,297,299,300,301,303,304,306,307,308,310,311,313,314,315,318,319,320,322,323,325,326,327,328,329,330,331,334,337,338,339,341,342,344,345,346,348,349,351,352,353,355,356,358,359,360,363,364,365,367,368,370,371,372,374,375,377,378,379,381,382,384,385,386,389,390,391,394,395,403,405,406,408,409,410,412,413,415,416,417,419,420,422,423,424,426,427,429,430,431,433,434,436,437,438,440,441,443,444,445,447,448,450,451,452,454,455,457,458,459,461,462,464,465,466,469,470,471,472,473,474,475,478,480,481,483,484,485,487,488,490,491,492,494,495,497,498,499,501,502,504,505,506,509,510,511,514,515,516,518,519,521,522,523,526,527,528,530,531,533,534,535,537,538,540,541,542,545,546,547,550,551,552,554,555,557,558,559,561,562,564,565,566,568,569,571,572,573,576,577,585,588,589,590,591,592,593,594,597,600,601,602,604,605,607,608,609,612,613,614,616,617,619,620,621,624,625,626,628,629,631,632,640,643,644,645,647,648,650,651,652,653,654,655,656,659,661,662,664,665,666,668,669,671,672,673,675,676,678,679,680,683,684,685,688,689,690,693,694,695,697,698,700,701,702,704,705,707,708,709,712,713,714,716,717,719,720,721,723,724,726,727,728,731,732,733,735,736,738,739,740,742,743,745,746,754,757,758,759,761,762,764,765,766,768,769,771,772,773,775,776,778,779,780,782,783,785,786,787,789,790,792,793,794,796,797,799,800,801,804,805,806,808,809,811,812,813,815,816,818,819,820,821,822,823,824,827,829,830,832,833,834,836,837,839,840,841,844,845,846,848,849,851,852,853,855,856,858,859,860,862,863,865,866,867,869,870,872,873,874,876,877,879,880,881,884,885,886,889,890]
open PyProof.Rows in
theorem pS(w:World)(os:wbV):lhsS w os=some true:=wdP (congrFun (congrFun PySem.W.Fast.te4611439357614338098 w) os) (by kernel_rfl)
open PyProof.Rows in
theorem XC(w:World)(os:wbV):lhsA5 w os=some (plainGoodE view (looseW view [])):=wdP (congrFun (congrFun PySem.W.Fast.te7287060749990364351 w) os) (by kernel_rfl)
open PyProof.Rows in
theorem XE(w:World)(os:wbV):lhsA3 w os=some (true,pinGoodD (drecsOf view)):=wdP (congrFun (congrFun PySem.W.Fast.te8053933853056927693 w) os) (by kernel_rfl)
open PyProof.Rows in
theorem XF(w:World)(os:wbV):lhsA4 w os=some (plainGoodD view [],wideGood view,clsGoodW view []):=wdP (congrFun (congrFun PySem.W.Fast.te1637129810643306784 w) os) (by kernel_rfl)
open PyProof.Rows in
theorem XG(w:World)(os:wbV):lhsA1 w os=some (expectedOf view):=wdP (congrFun (congrFun PySem.W.Fast.te13437904175010765755 w) os) (by kernel_rfl)
open PyProof.Rows in
theorem XH(w:World)(os:wbV):lhsA2 w os=some (bltViewBooted,true):=wdP (congrFun (congrFun PySem.W.Fast.te8057599587439057951 w) os) (by kernel_rfl)
theorem XI(w:World)(os:wbV):lhsB (K52.addrs.take 160) w os=some (((K52.pre.heap_39 w.params).map λp=>some p.2).take 160):=wdP (congrFun (congrFun (congrFun PySem.W.Fast.te4770895706157109841 _) w) os) (by kernel_rfl)
theorem XJ(w:World)(os:wbV):lhsB (K52.addrs.drop 160) w os=some (((K52.pre.heap_39 w.params).map λp=>some p.2).drop 160):=wdP (congrFun (congrFun (congrFun PySem.W.Fast.te4770895706157109841 _) w) os) (by kernel_rfl)
theorem op:opening PySem.Challenge.pw_bandscribe_k52_whole_spoilt_signs=plainProg PySem.Challenge.pw_bandscribe_k52_whole_spoilt_signs.main.scope.names:=by kernel_rfl
theorem fe(s:Shared):fenceModules? PySem.Challenge.pw_bandscribe_k52_whole_spoilt_signs s=some s:=by kernel_rfl
theorem tr(P:Params):absHeap (tree0 P) 11 (wdb P).life=wdb P:=by kernel_rfl
theorem sz(P:Params):((wdb P).isNs wb5&&(Array.mk []:Array wdx).size==0,(wdb P).objs.size,(wdb P).nsMap wb5 "__annotations__")=(true,11,(some (wam 6))):=by kernel_rfl
theorem whole:LeftO PySem.Challenge.pw_bandscribe_k52_whole_spoilt_signs view [] (λs=>wct view [] s&&wci (wbo (wbf (wbq PySem.Challenge.rw_bandscribe_k52_whole_spoilt_signs))) s) (λs=>K52.addrs.map s.heap.get?) (λw=>((K52.pre.heap_39 w.params).map λp=>some p.2)) 8100:=Tt.Jf (H₀:=wdb) (T₀:=tree0) (life:=λP=>(wdb P).life) (boot_open op (by decide+kernel) fe) sz tr λw os=>Tt.M9 (o:=run w os) (f:=λs=>Tt.sound PySem.Challenge.pw_bandscribe_k52_whole_spoilt_signs (wdb w.params) s) (g:=λs=>openSeen view [] (wbF PySem.Challenge.pw_bandscribe_k52_whole_spoilt_signs.main.body) (λs=>wct view [] s&&wci (wbo (wbf (wbq PySem.Challenge.rw_bandscribe_k52_whole_spoilt_signs))) s) true s.abs) (h:=λs=>K52.addrs.map s.abs.heap.get?) (pS w os) (Tt.four (o:=run w os) (f:=λs=>openSeen view [] (wbF PySem.Challenge.pw_bandscribe_k52_whole_spoilt_signs.main.body) (λs=>wct view [] s&&wci (wbo (wbf (wbq PySem.Challenge.rw_bandscribe_k52_whole_spoilt_signs))) s) true s.abs) (a:=openGood view []) (XG w os) (XH w os) (XE w os) (XC w os) (XF w os)) (Tt.cut (o:=run w os) 160 (XI w os) (XJ w os))
end K52
section
local macro_rules|`(tactic|lia)=>`(tactic|lia-abstractProof)
local macro_rules(kind:=«term{_}»)|`({$x,*})=>`(⟨$x,*⟩)
local macro_rules|`(())=>`(by omega)
local macro_rules|`(∅)=>`(by decide+kernel)
local macro_rules|`(⋯)=>`(by decide)
namespace L2
open PySem PySem.Spec PyProof.Rows
noncomputable abbrev Key:=Sum Int Str
noncomputable def xf:Key->Value->Bool
 |.inl k,v=>Value.isInt k v
 |.inr x,v=>wgR x v
noncomputable def Sr(w:World):Key->Int
 |.inl k=>hashInt k
 |.inr x=>hashStr w x
theorem ck:∀{k:Key} {v:Value},xf k v=true->(∃i t,k=wb8 i/\v=wfX i t)\/(∃x t,k=wal x/\v=wfY x t)
 |.inl i,v,h=>by
  obtain⟨t,e⟩:=Value.isInt_shape (k:=i) (v:=v) h;exact .inl ⟨i,t,rfl,e⟩
 |.inr x,v,h=>by
  obtain⟨t,e⟩:=wgW (x:=x) (v:=v) h;exact .inr ⟨x,t,rfl,e⟩
theorem DX(i:Int)(t:Tok):xf (.inl i) (.int i t)=true:=by simp[xf,Value.isInt]
theorem DY(x:Str)(t:Tok):xf (.inr x) (.str x t)=true:=by simp[xf,wgR]
theorem Ma(a b:Int):decide ((wb8 a:Key)=wb8 b)=(a==b):=by
 grind
theorem Mb(a b:Str):decide ((wal a:Key)=wal b)=decide (a=b):=by simp_all [Key,wcf,decide_eq_false]
theorem Md(a:Int)(b:Str):decide ((wb8 a:Key)=wal b)=false:=decide_eq_false (λq=>nomatch q)
theorem Mf(a:Str)(b:Int):decide ((wal a:Key)=wb8 b)=false:=decide_eq_false (λq=>nomatch q)
noncomputable def bB(prog:waq)(w:World):PySem.KeyKind prog w Key where
 is:=xf
 hash:=Sr w
 inj:=λv a b ha hb=>by
  rcases ck ha with⟨i,t,rfl,rfl⟩ |⟨x,t,rfl,rfl⟩
  .rcases ck hb with⟨j,u,rfl,e⟩ |⟨y,u,rfl,e⟩
   .injection e with e1 _;rw[e1]
   .exact nomatch e
  .rcases ck hb with⟨j,u,rfl,e⟩ |⟨y,u,rfl,e⟩
   .exact nomatch e
   .injection e with e1 _;rw[e1]
 byValue:=λk v h=>by
   rcases ck h with⟨i,t,rfl,rfl⟩ |⟨x,t,rfl,rfl⟩<;>rfl
 pyHash:=λhv h=>by
  rcases ck hv with⟨i,t,rfl,rfl⟩ |⟨x,t,rfl,rfl⟩
  .exact wpAny_pyHash_int h
  .exact wpAny_pyHash_str h
 eqBool:=λhu hv h=>by
  rcases ck hu with⟨i,t,rfl,rfl⟩ |⟨x,t,rfl,rfl⟩
  .rcases ck hv with⟨j,u,rfl,rfl⟩ |⟨y,u,rfl,rfl⟩
   .rw[Ma]at h;exact wpAny_eqBool_int h
   .rw[Md]at h;exact wh5 i t y u _ _ _ _ h
  .rcases ck hv with⟨j,u,rfl,rfl⟩ |⟨y,u,rfl,rfl⟩
   .rw[Mf]at h;exact wh6 x t j u _ _ _ _ h
   .rw[Mb]at h;exact wpAny_eqBool_str h
 «strs»:=λk x t v h=>by
  rcases ck h with⟨i,u,rfl,e⟩ |⟨y,u,rfl,e⟩
  .exact nomatch e
  .injection e with e1 _
   subst e1;cases v<;>rfl
theorem zE(prog:waq)(w:World)(i:Int)(t:Tok):(bB prog w).is (.inl i) (.int i t)=true:=DX i t
theorem zF(prog:waq)(w:World)(x:Str)(t:Tok):(bB prog w).is (.inr x) (.str x t)=true:=DY x t
set_option genInjectivity true in
inductive V where
 |non |bl (b:Bool) |int (i:Int) |str (x:Str) |byt (b:Array UInt8) |flt (b:UInt64) |ref (a:Addr) |ty (n:String)
 deriving DecidableEq
def RelV:V->Value->Prop
 |.non,u=>u=wbC
 |.bl b,u=>u=wgF b
 |.int i,u=>∃t,u=wfX i t
 |.str x,u=>∃t,u=wfY x t
 |.byt b,u=>∃t,u=Value.bytes b t
 |.flt b,u=>∃t,u=whB b t
 |.ref a,u=>u=wam a
 |.ty n,u=>u=weA n
abbrev Vals:List V->List Value->Prop:=Paired RelV
theorem Vals.length{xs:List V}{us:List Value}(r:Vals xs us):xs.length=us.length:=wgS r
theorem Vals.get:∀{xs:List V} {us:List Value} {i:Nat} {x:V},Vals xs us->xs[i]?=some x->∃u,us[i]?=some u/\RelV x u
 |_,_,_,_,.nil,e=>by simp at e
 |_,_,0,_,.cons r _,e=>by simp at e;subst e;exact{_,rfl,r}
 |_,_,i+1,x,.cons _ t,e=>by
  obtain⟨u,a,b⟩:=Vals.get (i:=i) (x:=x) t (by simpa using e);exact{u,by simpa using a,b}
theorem Vals.set(r:RelV x u):∀{xs:List V} {us:List Value} (i:Nat),Vals xs us->Vals (xs.set i x) (us.set i u)
 |_,_,_,.nil=>.nil
 |_,_,0,.cons _ t=>.cons r t
 |_,_,i+1,.cons q t=>.cons q (Vals.set r i t)
theorem Vals.append:∀{xs ys:List V} {us ws:List Value},Vals xs us->Vals ys ws->Vals (xs++ys) (us++ws)
 |_,_,_,_,.nil,s=>s
 |_,_,_,_,.cons r t,s=>.cons r (Vals.append t s)
theorem Vals.take:∀{xs:List V} {us:List Value} (n:Nat),Vals xs us->Vals (xs.take n) (us.take n)
 |_,_,0,_=>.nil
 |_,_,_+1,.nil=>.nil
 |_,_,n+1,.cons r t=>.cons r (Vals.take n t)
theorem Vals.drop:∀{xs:List V} {us:List Value} (n:Nat),Vals xs us->Vals (xs.drop n) (us.drop n)
 |_,_,0,r=>r
 |_,_,_+1,.nil=>.nil
 |_,_,n+1,.cons _ t=>Vals.drop n t
def jb:Option V->Option Value->Prop
 |some v,some u=>RelV v u
 |none,none=>True
 |_,_=>False
def KV{κ:Type}:List (κ×V)->List (κ×Value)->Prop:=Paired λ(p:κ×V) (q:κ×Value)=>p.1=q.1/\RelV p.2 q.2
noncomputable def kV:Key->V
 |.inl i=>.int i
 |.inr x=>.str x
set_option genInjectivity true in
inductive HO where
 |lst (xs:List V)
 |tup (xs:List V)
 |dK (kvs:List (Key×V)) |dT (kvs:List (List Key×V))
 |set (S:Int->Bool) (n:Nat)
 |ins (C dx:Addr) (fs:List (Str×V))
 |own (x:Addr)
 |xd (fs:List (Str×V))
 |met (f x:Addr)
 |rng (lo hi:Int)
 |frz (o:Obj) (u:HO)
 |tbl (ps:Array Value)
 |ext (φ:Heap->Prop)
noncomputable abbrev Hp:=Addr->Option HO
noncomputable def upd(H:Hp)(a:Addr)(o:HO):Hp:=λb=>if b=a then some o else H b
theorem a6:upd H a o a=some o:=by unfold upd;rw[if_pos rfl]
theorem ae(h:b≠a):upd H a o b=H b:=by unfold upd;rw[if_neg h]
theorem D0:upd (upd H a o) a u=upd H a u:=by
 funext b;unfold upd;split<;>rfl
theorem OC{H:Hp}{a b:Addr}{o u:HO}(h:H a=some o)(h':H b=some u)(d:o≠u):a≠b:=by grind [wad]
theorem af{H:Hp}{a b:Addr}{o:HO}(h:H a=some o)(h':H b=none):a≠b:=by
 grind
section
variable(P:waq)(w:World)
def bW(H:Hp)(h:Heap)(a:Addr):HO->Prop
 |.lst xs=>xs.length<=sizeLine/\∃(its:List Value) (n:Nat),Vals xs its/\h.get? a=some {cls:=.type "list",data:=.seq its.toArray n}
 |.tup xs=>xs.length<=sizeLine/\∃its:List Value,Vals xs its/\IsTup h a its.toArray
 |.dK kvs=>kvs.length<=sizeLine/\(a==wcR)=false/\∃vs,KV kvs vs/\h.DictOf (bB P w) a vs
 |.dT kvs=>kvs.length<=sizeLine/\(a==wcR)=false/\∃xs:List (List Key×Addr×Value),
   Paired (λ(p:List Key×V) (q:List Key×Addr×Value)=>p.1=q.1/\H q.2.1=some (.tup (p.1.map kV))/\RelV p.2 q.2.2) kvs xs /\
   ∃o es ep,h.get? a=some o/\o.ExactDict/\o.data=.dict es ep/\es.toList=xs.map (entryOfKey (wf0 (bB P w)))/\(xs.map (·.1)).Nodup
 |.set S n=>h.SetOf (intKind P w) a S n
 |.ins C dx fs=>H dx=some (.own a)/\fs.length<=1000/\dx≠a/\h.get? a=some (wcu C dx) /\
   ∃mA,h.Ns1 dx mA/\(∀f,jb (fs.lookup f) (mA f))/\wdQ mA (fs.map (·.1))
 |.own _=>∃o,h.get? a=some o
 |.xd fs=>∃mA,h.Ns1 a mA/\∀f,jb (fs.lookup f) (mA f)
 |.rng lo hi=>∃t u v,h.get? a=some {cls:=.type "range",data:=.fields #[.int lo t,.int hi u,.int 1 v]}
 |.frz o u=>h.get? a=some o/\bW H h a u
 |.tbl ps=>h.get? a=some {cls:=.none,data:=.fields ps}
 |.met f x=>h.get? a=some (wfa (.ref f) (.ref x))
 |.ext φ=>φ h/\(∃o,h.get? a=some o)/\∀h1 h2:Heap,φ h1->(∀o,h1.get? a=some o->h2.get? a=some o)->φ h2
def jV(H:Hp)(h:Heap):Prop:=∀a o,H a=some o->bW P w H h a o
end
section
variable{P:waq}{w:World}{H H':Hp}{h h':Heap}{a:Addr}{o:HO}
theorem bW.lt(x:bW P w H h a o):a<h.objs.size:=by
 cases o with
 |lst c=>obtain⟨_,_,_,_,e⟩:=x;exact wah e
 |tup c=>obtain⟨_,_,_,p⟩:=x;exact p.lt
 |dK b=>obtain⟨_,_,_,_,o,_,_,e,_⟩:=x;exact wah e
 |dT b=>obtain⟨_,_,_,_,o,_,_,e,_⟩:=x;exact wah e
 |set S n=>obtain⟨o,_,_,_,e,_⟩:=x;exact wah e
 |ins C d fs=>obtain⟨_,_,_,e,_⟩:=x;exact wah e
 |own y=>obtain⟨_,e⟩:=x;exact wah e
 |xd fs=>obtain⟨_,⟨_,_,_,e,_⟩,_⟩:=x;exact wah e
 |rng lo hi=>obtain⟨_,_,_,e⟩:=x;exact wah e
 |frz ob u=>obtain⟨e,_⟩:=x;exact wah e
 |tbl ps=>exact wah (show h.get? a=some _ from x)
 |met f y=>exact wah (show h.get? a=some _ from x)
 |ext φ=>obtain⟨_,⟨_,e⟩,_⟩:=x;exact wah e
theorem Paired.Mg{α β:Type}{F G:α->β->Prop}:∀{g:List α} {j:List β},Paired F g j->(∀a b,F a b->G a b)->Paired G g j
 |_,_,.nil,_=>.nil
 |_,_,.cons r t,f=>.cons (f _ _ r) (Paired.Mg t f)
theorem bW.wt(x:bW P w H h a o)(k:∀b u,(b=a\/H b=some (.own a))->h.get? b=some u->h'.get? b=some u)
 (I:∀b,H b=some (.own a)->H' b=some (.own a)) (J:∀b xs,H b=some (.tup xs)->H' b=some (.tup xs)):bW P w H' h' a o:=by
 induction o with
 |lst xs=>obtain⟨z,j,n,r,e⟩:=x;exact{z,j,n,r,k _ _ (.inl rfl) e}
 |tup xs=>obtain⟨z,j,r,ob,e,c⟩:=x;exact{z,j,r,ob,k _ _ (.inl rfl) e,c}
 |dK l=>obtain⟨z,y,A,r,ob,g,i,e,c⟩:=x;exact{z,y,A,r,ob,g,i,k _ _ (.inl rfl) e,c}
 |dT l=>
  obtain⟨z,y,xs,r,ob,g,i,e,c⟩:=x;exact{z,y,xs,Paired.Mg r λp q z=>{z.1,J _ _ z.2.1,z.2.2},ob,g,i,k _ _ (.inl rfl) e,c}
 |set S n=>obtain⟨ob,g,i,t,e,c⟩:=x;exact{ob,g,i,t,k _ _ (.inl rfl) e,c}
 |ins C E fs=>
  obtain⟨d,z,ne,e,m,⟨s,g,i,B,c⟩,r⟩:=x;exact{I _ d,z,ne,k _ _ (.inl rfl) e,m,{s,g,i,k _ _ (.inr d) B,c},r}
 |own y=>obtain⟨ob,e⟩:=x;exact{ob,k _ _ (.inl rfl) e}
 |xd fs=>obtain⟨m,⟨s,g,i,e,c⟩,r⟩:=x;exact{m,{s,g,i,k _ _ (.inl rfl) e,c},r}
 |rng lo hi=>obtain⟨t,u,v,e⟩:=x;exact{t,u,v,k _ _ (.inl rfl) e}
 |frz ob u D=>obtain⟨e,q⟩:=x;exact{k _ _ (.inl rfl) e,D q}
 |tbl ps=>
  have e:h.get? a=some {cls:=.none,data:=.fields ps}:=x;show h'.get? a=some {cls:=.none,data:=.fields ps};exact k a _ (.inl rfl) e
 |met f y=>
  have e:h.get? a=some (wfa (.ref f) (.ref y)):=x;show h'.get? a=some (wfa (.ref f) (.ref y));exact k a _ (.inl rfl) e
 |ext φ=>obtain⟨p,⟨o,e⟩,st⟩:=x;exact⟨st _ _ p λo q=>k _ _ (.inl rfl) q,⟨o,k _ _ (.inl rfl) e⟩,st⟩
theorem jV.lt(x:jV P w H h)(e:H a=some o):a<h.objs.size:=(x a o e).lt
theorem jV.fresh(x:jV P w H h)(e:h.objs.size<=a):H a=none:=by
 cases q:H a with
 |none=>rfl
 |some u=>exact absurd (wav (x.lt q) e) (wbm _)
theorem jV.kept(x:jV P w H h)(k:∀b u,h.get? b=some u->h'.get? b=some u):jV P w H h':=λa o e=>
 (x a o e).wt (λb u _ q=>k b u q) (λ_ q=>q) λ_ _ q=>q
theorem jV.laid(x:jV P w H h)(k:∀b u,h.get? b=some u->h'.get? b=some u)(g:h.objs.size<=a)(new:bW P w (upd H a o) h' a o):jV P w (upd H a o) h':=λb u e=>by
 have hn:=x.fresh g
 by_cases d:b=a
 .grind [a6]
 .rw[ae d]at e;exact(x b u e).wt (λc v _ q=>k c v q) (λc q=>by rw[ae (af q hn)];exact q) λc f q=>by rw[ae (af q hn)];exact q
end
def Rd(H:Hp)(a:Addr)(u:HO):Prop:=H a=some u\/∃o,H a=some (.frz o u)
theorem Rd.ok{P:waq}{w:World}{H:Hp}{h:Heap}{a:Addr}{u:HO}(r:Rd H a u)(x:jV P w H h):bW P w H h a u:=by
 rcases r with r |⟨o,r⟩
 .exact x a u r
 .obtain⟨_,q⟩:=x a _ r;exact q
def OD:Option HO->Prop
 |some (.lst _)=>True
 |some (.dK _)=>True
 |some (.dT _)=>True
 |some (.set _ _)=>True
 |some (.ins _ _ _)=>True
 |some (.ext _)=>True
 |_=>False
section
variable{P:waq}{w:World}{H:Hp}{h h':Heap}{x e:Addr}{o':HO}
theorem jV.write(ok:jV P w H h)(g:OD (H x))(he:e=x\/H e=some (.own x))(k:∀b u,b≠e->h.get? b=some u->h'.get? b=some u)(l:∃u,h'.get? e=some u)
 (new:bW P w (upd H x o') h' x o'):jV P w (upd H x o') h':=λb u q=>by
 have d:∀c y,H c=some (.own y)->c≠x:=λc y r z=>by subst z;rw[r]at g;exact g
 have f:∀c i,H c=some (.tup i)->c≠x:=λc i r z=>by subst z;rw[r]at g;exact g
 by_cases j:b=x
 .subst j;rw[a6]at q;cases q;exact new
 .rw[ae j]at q
  by_cases a:b=e
  .have m:H b=some (.own x):=by
    rcases he with z |z
    .exact absurd (a.trans z) j
    .rw[a];exact z
   rw[q]at m;cases m;obtain⟨v,n⟩:=l;exact{v,by rw[a];exact n}
  .refine(ok b u q).wt (λc v hc r=>k c v ?_ r) (λc r=>by rw[ae (d c b r)];exact r) λc i r=>by rw[ae (f c i r)];exact r
   rcases hc with rfl |hc
   .exact a
   .rintro rfl;rcases he with z |z
    .exact d c b hc z
    .rw[hc]at z;cases z;exact j rfl
end
structure Un(fs ex:List Addr)(H H':Hp)(h h':Heap):Prop where
 keep:∀b o,h.get? b=some o->H b=none->b∉fs->b∉ex->h'.get? b=some o
 slot:∀b o,h.get? b=some o->H b=none->b∈fs->b∉ex->∃sl,h'.get? b=some {o with slots:=sl}
 free:∀b o,h.get? b=some o->H b=none->b∉ex->H' b=none
 there:∀b o,h.get? b=some o->b∉ex->∃o',h'.get? b=some o'
 uc:∀b xs,H b=some (.tup xs)->H' b=some (.tup xs)
 tD:∀b o u,H b=some (.frz o u)->H' b=some (.frz o u)
 ud:∀b ps,H b=some (.tbl ps)->∃more,H' b=some (.tbl (ps++more))
section
variable{fs XM ex ex':List Addr}{H H1 H2:Hp}{h h1 h2 h':Heap}{a x e:Addr}{o:HO}
theorem Un.any(u:Un fs ex H H1 h h1){b:Addr}{ob:Obj}(q:h.get? b=some ob)(n:H b=none)(g:b∉ex):∃sl,h1.get? b=some {ob with slots:=sl}:=by
 by_cases a:b∈fs
 .exact u.slot b ob q n a g
 .exact{ob.slots,u.keep b ob q n a g}
theorem Un.kept(k:∀b u,h.get? b=some u->h'.get? b=some u):Un fs ex H H h h':=
 {λb ob q _ _ _=>k b ob q,λb ob q _ _ _=>{ob.slots,k b ob q},λ_ _ _ n _=>n,λb ob q _=>{ob,k b ob q},λ_ _ q=>q,λ_ _ _ q=>q,λ_ ps q=>{#[],by rw[q];simp}}
theorem Un.refl:Un fs ex H H h h:=Un.kept λ_ _ q=>q
theorem Un.laid(k:∀b u,h.get? b=some u->h'.get? b=some u)(g:h.objs.size<=a)(hn:H a=none):Un fs ex H (upd H a o) h h' where
 keep:=λb u q _ _ _=>k b u q
 slot:=λb u q _ _ _=>{u.slots,k b u q}
 free:=λb u q n _=>by rw[ae (waw (wav (wah q) g))];exact n
 there:=λb u q _=>{u,k b u q}
 uc:=λb c q=>by rw[ae (af q hn)];exact q
 tD:=λb u c q=>by rw[ae (af q hn)];exact q
 ud:=λb ps q=>{#[],by rw[ae (af q hn),q];simp}
theorem Un.write(g:OD (H x))(he:e=x\/H e=some (.own x))(k:∀b u,b≠e->h.get? b=some u->h'.get? b=some u)(j:∃u,h'.get? e=some u):Un fs ex H (upd H x o) h h':=by
 have f:∀b,H b=none->b≠x:=λb n z=>by subst z;rw[n]at g;exact g
 have d:∀b,H b=none->b≠e:=λb n z=>by
  subst z;rcases he with r |r
  .grind
  .grind
 have c:∀b u,H b=some u->¬OD (some u)->b≠x:=λb u q i z=>by subst z;rw[q]at g;exact i g
 refine{λb u q n _ _=>k b u (d b n) q,λb u q n _ _=>{u.slots,k b u (d b n) q},λb u q n _=>by rw[ae (f b n)];exact n,λb u q _=>?_,
  λb l q=>by rw[ae (c b _ q λz=>z)];exact q,λb u l q=>by rw[ae (c b _ q λz=>z)];exact q,λb ps q=>{#[],by rw[ae (c b _ q λz=>z),q];simp}}
 by_cases a:b=e
 .subst a;exact j
 .exact{u,k b u a q}
end
noncomputable def Ss(h:Heap)(H:Hp):List Addr:=(wao h.objs.size).filter λa=>(H a).isSome
noncomputable def yr(h:Heap)(H:Hp):Heap:=PySem.W.hideAll h (Ss h H)
theorem DZ(h:Heap)(H:Hp):(yr h H).objs.size=h.objs.size:=PySem.W.hideAll_size _ _
theorem FY(e:h.get? b=some o)(n:H b=none):(yr h H).get? b=some o:=
 PySem.W.hideAll_get _ e λa=>by
  have q:(H b).isSome=true:=(war.mp a).2;rw[n]at q;simp at q
theorem Jg(e:(yr h H).get? b=some o):h.get? b=some o/\H b=none:=by
 have a:h.get? b=some o:=PySem.W.of_hideAll (Ss h H) e;refine{a,?_}
 cases q:H b with
 |none=>rfl
 |some x=>
  grind [Ss,wah,yr,PySem.W.hideAll_none]
noncomputable def Jh(g h:Heap)(L:Addr):List (Addr×Obj):=(wao h.objs.size).filterMap λa=>if a=L\/(g.get? a).isSome=true then none else(h.get? a).map λo=>(a,o)
noncomputable def rest(g h:Heap)(L d:Addr):List (Addr×Obj):=(Jh g h L).filter λp=>decide (p.1≠d)
structure Mod(K:wa2)(mg:Str->Option Value)(base:Heap):Prop where
 L5:K.In base
 glob:base.Ns wb5 mg
 blt:∃mb,base.Ns builtinsNs mb/\∀x:Str,x≠"__name__"->mb x=waX x
 nolimit:base.NoLimit
structure Cx where
 prog:waq
 w:World
 K:wa2
 mg:Str->Option Value
 base:Heap
 A:Around
 N:List Str
 s₀:Shared
 H₀:Hp
 env:Env
 outer:List Env
 stack:List Env
 ex:List Addr
 fn:Str->Bool
 calm:Bool
 pn:List (Addr×Obj)
 xe:Value->Shared->Prop
noncomputable def rH(l:List Env):List Addr:=l.filterMap (·.frame)
noncomputable abbrev Cx.fs(X:Cx):List Addr:=rH X.outer
def OG(sc:wdc)(x:Str):Prop:=sc.names.lookup x=some .local\/sc.names.lookup x=some .cell\/sc.names.lookup x=some .free
def Loc(sc:wdc)(x:Str):Prop:=sc.names.lookup x=some .local\/sc.names.lookup x=some .cell
def Look(env:Env)(h:Heap)(m:Str->Option Value)(x:Str)(u:Value):Prop:=
 (env.kindOf x=some .local/\m x=some u)\/((env.kindOf x=some .cell\/env.kindOf x=some .free)/\∃c,env.cells.lookup x=some c/\h.IsCell c (some u))
structure Cx.Ok(X:Cx):Prop where
 mod:Mod X.K X.mg X.base
 kind:X.env.scope.kind=.function
 glob:X.env.globals=wb5
 blt:X.env.builtins=builtinsNs
 above:X.s₀.heap.objs.size<=X.env.locals
 inj:∀x y c,X.env.cells.lookup x=some c->X.env.cells.lookup y=some c->x=y
 has:∀x,(X.env.kindOf x=some .cell\/X.env.kindOf x=some .free)->∃c,X.env.cells.lookup x=some c
 Mh:∀x c,X.fn x=true->X.env.cells.lookup x=some c->X.s₀.heap.objs.size<=c
 hd:X.calm=true->X.A.handled=none
 frames:X.A.frames=some X.stack
 O7:X.stack=X.outer\/(X.stack=X.env::X.outer/\X.env.frame=some X.env.locals)
 Rt:∀b∈X.ex,b≠X.env.locals/\∀x c,X.env.cells.lookup x=some c->c≠b
 bs:∀b o,X.base.get? b=some o->X.s₀.heap.get? b=some o/\X.H₀ b=none
 FZ:X.base.objs.size<=X.s₀.heap.objs.size
 Bi:∀b o,X.base.get? b=some o->b∉X.ex
 E1:∀b∈X.ex,b∉X.fs
 oU:X.s₀.heap.FunFrames X.base X.outer
 Ji:∀b∈X.fs,X.H₀ b=none
structure Inv(X:Cx)(pins:List (Addr×Obj))(σ:List (Option V))(H:Hp)(s:Shared):Prop where
 ok:X.Ok
 os:s.os=X.s₀.os
 bare:AllBare s.gens
 base:Un X.fs X.ex X.H₀ H X.s₀.heap s.heap
 loc:∃m,s.heap.Ns X.env.locals m/\∀(i:Nat) (x:Str) (v:V),X.N[i]?=some x->σ[i]?=some (some v)->OG X.env.scope x->∃u,RelV v u/\Look X.env s.heap m x u
 cell:∀x c,X.env.cells.lookup x=some c->∃v,s.heap.IsCell c v
 free:H X.env.locals=none
 jm:∀x c,X.env.cells.lookup x=some c->H c=none
 pin:∀p∈X.pn++pins,s.heap.get? p.1=some p.2/\H p.1=none/\p.1≠X.env.locals/\p.1∉X.fs/\∀v,p.2.data≠.cell v
 b7:jV X.prog X.w H s.heap
 len:σ.length=X.N.length
section
variable{X:Cx}{pins:List (Addr×Obj)}{σ:List (Option V)}{H H':Hp}{s:Shared}{h':Heap}
theorem Cx.Ok.Su(ok:X.Ok)(e:X.base.get? b=some o):b∉X.fs:=λa=>by
 have:=(ok.oU.mem a).1;rw[e]at this;cases this
theorem Inv.bs(I:Inv X pins σ H s):∀b o,X.base.get? b=some o->s.heap.get? b=some o/\H b=none:=λb o e=>
 {I.base.keep b o (I.ok.bs b o e).1 (I.ok.bs b o e).2 (I.ok.Su e) (I.ok.Bi b o e),I.base.free b o (I.ok.bs b o e).1 (I.ok.bs b o e).2 (I.ok.Bi b o e)}
theorem Inv.bk(I:Inv X pins σ H s):∀b o,X.base.get? b=some o->s.heap.get? b=some o:=λb o e=>(I.bs b o e).1
theorem Inv.mod(I:Inv X pins σ H s):Mod X.K X.mg X.base:=I.ok.mod
theorem Inv.hU(I:Inv X pins σ H s):X.K.In s.heap:=I.ok.mod.L5.keeps I.bk
theorem Inv.lt(I:Inv X pins σ H s):X.env.locals<s.heap.objs.size:=let ⟨_,hn,_⟩:=I.loc;hn.lt
theorem Inv.sz(I:Inv X pins σ H s):X.s₀.heap.objs.size<=s.heap.objs.size:=wak I.ok.above (wfr I.lt)
theorem Inv.Sv(I:Inv X pins σ H s)(h:s.heap.objs.size<=a):a∉X.fs:=λb=>by
 obtain⟨_,o,c,_⟩:=I.ok.oU.mem b;exact absurd (wav (wah c) (wak I.sz h)) (wbm _)
theorem Inv.Mi(I:Inv X pins σ H s):∀x c,X.env.cells.lookup x=some c->c≠X.env.locals:=λx c e z=>by
 obtain⟨v,o,d,hd⟩:=I.cell x c e;obtain⟨m,⟨f,g,h,a,b,_⟩,_⟩:=I.loc;rw[z,a]at d;cases d;rw[b]at hd;cases hd
theorem Inv.oU(I:Inv X pins σ H s):s.heap.FunFrames X.base X.outer:=by
 have all:∀(l:List Env),(∀b∈rH l,b∈X.fs)->X.s₀.heap.FunFrames X.base l->s.heap.FunFrames X.base l:=by
  intro l
  induction l with
  |nil=>intro _ _;trivial
  |cons env r g=>
   intro f hl;obtain⟨hk,⟨L,o,a,hn,h,hd⟩,i⟩:=hl;have c:L∈X.fs:=f L (by unfold rH;rw[wbl,a];exact wae);obtain⟨sl,e⟩:=I.base.slot L o h (I.ok.Ji L c) c λz=>I.ok.E1 L z c;exact{hk,{L,_,a,hn,e,hd},g (λb d=>f b (by unfold rH;rw[wbl,a];exact wac _ d)) i}
 exact all X.outer (λ_ d=>d) I.ok.oU
theorem Inv.stack(I:Inv X pins σ H s):s.heap.FunFrames X.base X.stack:=by
 rcases I.ok.O7 with e |⟨e,a⟩
 .rw[e];exact I.oU
 .rw[e];obtain⟨m,hn,_⟩:=I.loc;refine .cons (by rw[I.ok.kind];decide) a hn ?_ I.oU;exact Heap.get?_none_of_le (wak I.ok.FZ I.ok.above)
theorem Inv.ue(I:Inv X pins σ H s):∀b∈rH X.stack,b∈X.env.locals::X.fs:=λb a=>by
 rcases I.ok.O7 with e |⟨e,c⟩
 .grind
 .grind [rH]
theorem Inv.tQ(I:Inv X pins σ H s):∀b∈rH X.stack,H b=none:=λb a=>by
 rcases waK.mp (I.ue b a) with e |a
 .rw[e];exact I.free
 .obtain⟨_,o,c,_⟩:=I.ok.oU.mem a;exact I.base.free b o c (I.ok.Ji b a) λz=>I.ok.E1 b z a
theorem Inv.step{g':Array wdx}{t':Nat}{d':Drawn}{ch:List Addr}(I:Inv X pins σ H s)
 (g:∀b∈ch,(b∈X.ex\/X.s₀.heap.objs.size<=b)/\b≠X.env.locals/\(∀x c,X.env.cells.lookup x=some c->c≠b)/\∀p∈X.pn++pins,p.1≠b)
 (keep:∀b o,b≠X.env.locals->b∉X.fs->b∉ch->s.heap.get? b=some o->H b=none->h'.get? b=some o)
 (slot:∀b o,b≠X.env.locals->b∈X.fs->b∉ch->s.heap.get? b=some o->H b=none->∃sl,h'.get? b=some {o with slots:=sl}) (free:∀b o,b∉ch->s.heap.get? b=some o->H b=none->H' b=none)
 (there:∀b o,b∉ch->s.heap.get? b=some o->∃C,h'.get? b=some C)
 (uc:∀b xs,H b=some (.tup xs)->H' b=some (.tup xs)) (tD:∀b o u,H b=some (.frz o u)->H' b=some (.frz o u)) (ud:∀b ps,H b=some (.tbl ps)->∃more,H' b=some (.tbl (ps++more)))
 (ns:∀m,s.heap.Ns X.env.locals m->h'.Ns X.env.locals m) (b7:jV X.prog X.w H' h') (T:AllBare g') :
 Inv X pins σ H' {s with heap:=h',gens:=g',drawn:=d',toks:=t'}:=by
 have B:∀b o,X.s₀.heap.get? b=some o->b≠X.env.locals:=λb o e=>waw (wav (wah e) I.ok.above)
 have j:∀b o,X.s₀.heap.get? b=some o->b∉X.ex->b∉ch:=λb o e a y=>by
  rcases(g b y).1 with z |z
  .exact a z
  .exact absurd (wav (wah e) z) (wbm _)
 have f:∀x c,X.env.cells.lookup x=some c->∀v,s.heap.IsCell c v->h'.IsCell c v:=λx c e v ⟨o,A,hd⟩=>by
  have h:c∉ch:=λz=>(g c z).2.2.1 x c e rfl
  by_cases hc:c∈X.fs
  .obtain⟨sl,q⟩:=slot c o (I.Mi x c e) hc h A (I.jm x c e);exact{_,q,hd}
  .exact{o,keep c o (I.Mi x c e) hc h A (I.jm x c e),hd}
 refine{I.ok,I.os,T,{λb o e n y a=>?_,λb o e n y a=>?_,λb o e n a=>?_,λb o e a=>?_,λb xs e=>uc b xs (I.base.uc b xs e),λb o xs e=>tD b o xs (I.base.tD b o xs e),λb ps e=>?_},?_,λx c e=>?_,?_,λx c e=>?_,λp G=>?_,b7,I.len}
 .exact keep b o (B b o e) y (j b o e a) (I.base.keep b o e n y a) (I.base.free b o e n a)
 .obtain⟨sl,t⟩:=I.base.slot b o e n y a;obtain⟨E,D⟩:=slot b _ (B b o e) y (j b o e a) t (I.base.free b o e n a);exact⟨E,D⟩
 .obtain⟨C,t⟩:=I.base.there b o e a;exact free b C (j b o e a) t (I.base.free b o e n a)
 .obtain⟨C,t⟩:=I.base.there b o e a;exact there b C (j b o e a) t
 .obtain⟨m1,t⟩:=I.base.ud b ps e;obtain⟨L,D⟩:=ud b _ t;exact{m1++L,by rw[D,Array.append_assoc]}
 .obtain⟨m,hn,hl⟩:=I.loc;refine{m,ns m hn,λi x v t D M=>?_};obtain⟨u,r,l⟩:=hl i x v t D M;refine{u,r,?_};rcases l with l |⟨k,c,e,z⟩
  .exact .inl l
  .exact .inr {k,c,e,f x c e _ z}
 .obtain⟨v,z⟩:=I.cell x c e;exact{v,f x c e v z}
 .obtain⟨m,⟨o,_,_,A,_⟩,_⟩:=I.loc;exact free _ o (λz=>(g _ z).2.1 rfl) A I.free
 .obtain⟨v,o,A,hd⟩:=I.cell x c e;exact free c o (λz=>(g c z).2.2.1 x c e rfl) A (I.jm x c e)
 .obtain⟨e,n,ne,J,d⟩:=I.pin p G;have h:p.1∉ch:=λz=>(g p.1 z).2.2.2 p G rfl;exact{keep p.1 p.2 ne J h e n,free p.1 p.2 h e n,ne,J,d}
theorem Inv.un{t':Nat}(I:Inv X pins σ H s)(u:Un X.fs [] H H' s.heap h')(b7:jV X.prog X.w H' h'):Inv X pins σ H' {s with heap:=h',toks:=t'}:=by
 obtain⟨m,⟨o,k,l,g,r⟩,_⟩:=id I.loc;obtain⟨sl,h⟩:=u.any g I.free (by simp)
 exact I.step (g':=s.gens) (d':=s.drawn) (ch:=[]) (λ_ z=>nomatch z) (λb o _ c _ e n=>u.keep b o e n c (by simp)) (λb o _ c _ e n=>u.slot b o e n c (by simp)) (λb o _ e n=>u.free b o e n (by simp)) (λb o _ e=>u.there b o e (by simp)) u.uc u.tD u.ud (λp i=>by
  obtain⟨q,d,f,a,j⟩:=i;rw[g]at a;cases a
  exact{_,d,f,h,j}) b7 I.bare
theorem Inv.call{g':Array wdx}{t':Nat}{d':Drawn}{ch:List Addr}(I:Inv X pins σ H s)(u:Un (rH X.stack) ch H H' s.heap h')(b7:jV X.prog X.w H' h')(j:AllBare g')
 (g:∀b∈ch,(b∈X.ex\/X.s₀.heap.objs.size<=b)/\b≠X.env.locals/\(∀x c,X.env.cells.lookup x=some c->c≠b)/\∀p∈X.pn++pins,p.1≠b) :
 Inv X pins σ H' {s with heap:=h',gens:=g',drawn:=d',toks:=t'}:=by
 obtain⟨m,⟨o,t,v,i,r⟩,_⟩:=id I.loc;obtain⟨sl,d⟩:=u.any i I.free λz=>(g _ z).2.1 rfl
 exact I.step (ch:=ch) g (λb o d k hc e n=>u.keep b o e n (λz=>(waK.mp (I.ue b z)).elim d k) hc) (λb o _ _ hc e n=>u.any e n hc) (λb o hc e n=>u.free b o e n hc) (λb o hc e=>u.there b o e hc) u.uc u.tD u.ud (λy l=>by
  obtain⟨A,f,h,a,q⟩:=l;rw[i]at a;cases a
  exact{_,f,h,d,q}) b7 j
theorem Inv.turned{t':Nat}{it:Addr}(I:Inv X pins σ H s)(k:∀b o,b≠it->s.heap.get? b=some o->h'.get? b=some o)(hn:H it=none)(g:it≠X.env.locals)
 (j:it∈X.ex\/X.s₀.heap.objs.size<=it) (l:∀x c,X.env.cells.lookup x=some c->c≠it) (t:∀p∈X.pn++pins,p.1≠it):Inv X pins σ H {s with heap:=h',toks:=t'}:=by
 have a:∀b u,H b=some u->b≠it:=λb u e z=>by rw[z,hn]at e;cases e
 refine I.step (g':=s.gens) (d':=s.drawn) (ch:=[it]) (λb d=>?_) (λb o _ _ hc e _=>k b o (λz=>hc (by simp[z])) e) (λb o _ _ hc e _=>{o.slots,k b o (λz=>hc (by simp[z])) e}) (λ_ _ _ _ n=>n)
  (λb o hc e=>{o,k b o (λz=>hc (by simp[z])) e}) (λ_ _ e=>e) (λ_ _ _ e=>e) (λb ps e=>{#[],by rw[e];simp}) (λm f=>?_) (λb u e=>?_) I.bare
 .have e:b=it:=by simpa using d
  subst e;exact⟨j,g,l,t⟩
 .obtain⟨o,h,i,w,r⟩:=f;exact{o,h,i,k _ o (wbu g) w,r}
 .refine(I.b7 b u e).wt (λc v hc q=>k c v ?_ q) (λ_ q=>q) λ_ _ q=>q;rcases hc with z |z
  .rw[z];exact a b u e
  .exact a c _ z
theorem Inv.tok(I:Inv X pins σ H s)(t:Nat):Inv X pins σ H {s with toks:=t}:=I.un (h':=s.heap) (t':=t) Un.refl I.b7
theorem Inv.kept(I:Inv X pins σ H s)(k:∀b u,s.heap.get? b=some u->h'.get? b=some u):Inv X pins σ H {s with heap:=h',toks:=t'}:=I.un (Un.kept k) (I.b7.kept k)
theorem Inv.laid(I:Inv X pins σ H s)(k:∀b u,s.heap.get? b=some u->h'.get? b=some u)(g:s.heap.objs.size<=a)(new:bW X.prog X.w (upd H a o) h' a o) :
 Inv X pins σ (upd H a o) {s with heap:=h',toks:=t'}:=I.un (Un.laid k g (I.b7.fresh g)) (I.b7.laid k g new)
theorem Inv.write(I:Inv X pins σ H s)(j:OD (H x))(he:e=x\/H e=some (.own x))(k:∀b u,b≠e->s.heap.get? b=some u->h'.get? b=some u)(g:∃u,h'.get? e=some u)
 (new:bW X.prog X.w (upd H x o) h' x o):Inv X pins σ (upd H x o) {s with heap:=h',toks:=t'}:=I.un (Un.write j he k g) (I.b7.write j he k g new)
theorem Inv.D1(I:Inv X pins σ H s)(h:∀p∈g,s.heap.get? p.1=some p.2/\H p.1=none/\p.1≠X.env.locals/\p.1∉X.fs/\∀v,p.2.data≠.cell v):Inv X g σ H s:=
 {I.ok,I.os,I.bare,I.base,I.loc,I.cell,I.free,I.jm,λp a=>(waD.mp a).elim (λz=>I.pin p (waV _ z)) (h p),I.b7,I.len}
theorem zG{N:List Str}(g:N.Nodup){i j:Nat}{x:Str}(a:N[i]?=some x)(b:N[j]?=some x):i=j:=by
 obtain⟨e,c⟩:=wa6.mp a;obtain⟨f,d⟩:=wa6.mp b;exact(wcl g).mp (c.trans d.symm)
theorem xg{M:Model}{A:Around}{E:Value->Shared->Prop}{i:Nat}{x:Str}{v:V}{u:Value}{Q:Unit->Shared->Prop}(I:Inv X pins σ H s)(hN:X.N.Nodup)(hi:X.N[i]?=some x)(t:Loc X.env.scope x)(r:RelV v u)
 (h:∀s',Inv X pins (σ.set i (some v)) H s'->(∃a,wfs a s.heap s'.heap/\(a=X.env.locals\/X.env.cells.lookup x=some a))->Q .unit s') (hf:X.fn x=true\/X.env.scope.names.lookup x=some .local:=by first |exact .inl rfl |exact .inr rfl |assumption):wpAny M A (storeName X.env x u) Q E s:=by
 obtain⟨m,hn,hl⟩:=id I.loc;have L:(X.env.scope.kind == .class ||(X.env.scope.kind == .module&&X.env.locals != X.env.globals))=false:=by rw[I.ok.kind];rfl
 have hiσ:i<σ.length:=by rw[I.len];exact(wa6.mp hi).1
 have Mi:=I.Mi
 have g:∀{a:Addr} {h':Heap},(∃o,s.heap.get? a=some o/\H a=none)->wfs a s.heap h'->jV X.prog X.w H h':=λ{a h'} ha f b ob e=>by
  obtain⟨_,_,B⟩:=ha;refine(I.b7 b ob e).wt (λc U hc q=>(f.2 c ?_).trans q) (λ_ q=>q) λ_ _ q=>q;rintro rfl;rcases hc with rfl |hc
  .rw[B]at e;cases e
  .rw[B]at hc;cases hc
 rcases t with hk |hk
 .refine wpAny_storeName_local hk hn (λh' Z f=>?_) L;obtain⟨oL,_,_,XO,_⟩:=id hn;refine h _ {I.ok,I.os,I.bare,{λb o e n D t=>?_,λb o e n D t=>?_,I.base.free,λb o e t=>?_,I.base.uc,I.base.tD,I.base.ud},{_,Z,λj y v' l C e3=>?_},λy c e=>?_,I.free,I.jm,λp hp=>?_,g ⟨oL,XO,I.free⟩ f,by simpa using I.len} {_,f,.inl rfl}
  .exact(f.2 b (waw (wav (wah e) I.ok.above))).trans (I.base.keep b o e n D t)
  .obtain⟨sl,l⟩:=I.base.slot b o e n D t;exact{sl,(f.2 b (waw (wav (wah e) I.ok.above))).trans l}
  .obtain⟨o',l⟩:=I.base.there b o e t;exact{o',(f.2 b (waw (wav (wah e) I.ok.above))).trans l}
  .by_cases G:j=i
   .subst G;rw[hi]at l;cases l;rw[wdo hiσ]at C;cases C;exact{u,r,.inl {hk,by simp}}
   .rw[wcv (wbu G)]at C;obtain⟨u',r',q⟩:=hl j y v' l C e3;refine{u',r',?_};rcases q with⟨k,e⟩ |⟨k,c,e,z⟩
    .refine .inl {k,?_};have:y≠x:=λe=>G (zG hN l (e ▸ hi));simp[this,e]
    .exact .inr {k,c,e,z.sameBut f (Mi y c e)}
  .obtain⟨U,z⟩:=I.cell y c e;exact{U,z.sameBut f (Mi y c e)}
  .obtain⟨e,n,ne,nf,d⟩:=I.pin p hp;exact{(f.2 p.1 ne).trans e,n,ne,nf,d}
 .have J:X.fn x=true:=by
   rcases hf with z |z
   .exact z
   .rw[z]at hk;cases hk
  obtain⟨c,hc⟩:=I.ok.has x (.inl hk);obtain⟨U,z⟩:=I.cell x c hc;refine wpAny_storeName_cell I.ok.kind hk hc z (λh' O f=>?_);obtain⟨oc,R,S⟩:=id z;refine h {s with heap:=h'} {I.ok,I.os,I.bare,{λb o e n D t=>?_,λb o e n D t=>?_,I.base.free,λb o e t=>?_,I.base.uc,I.base.tD,I.base.ud},{m,hn.sameBut f (wbu (Mi x c hc)),λj y v' l C e3=>?_},λy Y e=>?_,I.free,I.jm,λp hp=>?_,g {oc,R,I.jm x c hc} f,by simpa using I.len} {c,f,.inr hc}
  .exact(f.2 b (waw (wav (wah e) (I.ok.Mh x c J hc)))).trans (I.base.keep b o e n D t)
  .obtain⟨sl,l⟩:=I.base.slot b o e n D t;exact{sl,(f.2 b (waw (wav (wah e) (I.ok.Mh x c J hc)))).trans l}
  .obtain⟨o',l⟩:=I.base.there b o e t;exact{o',(f.2 b (waw (wav (wah e) (I.ok.Mh x c J hc)))).trans l}
  .by_cases G:j=i
   .subst G;rw[hi]at l;cases l;rw[wdo hiσ]at C;cases C;exact{u,r,.inr {.inl hk,c,hc,O}}
   .rw[wcv (wbu G)]at C;obtain⟨u',r',q⟩:=hl j y v' l C e3;refine{u',r',?_};rcases q with q |⟨k,Y,e,z'⟩
    .exact .inl q
    .refine .inr {k,Y,e,z'.sameBut f ?_};rintro rfl;exact G (zG hN l (I.ok.inj _ _ _ e hc ▸ hi))
  .by_cases T:Y=c
   .subst T;exact{_,O}
   .obtain⟨w2,z2⟩:=I.cell y Y e;exact{w2,z2.sameBut f T}
  .obtain⟨e,n,ne,nf,d⟩:=I.pin p hp;refine{(f.2 p.1 ?_).trans e,n,ne,nf,d};intro q;rw[q,R]at e;have q':oc=p.2:=wad e;exact d U (by rw[<-q'];exact S)
theorem jn{E:Value->Shared->Prop}{Q:Unit->Shared->Prop}(I:Inv X pins σ H s)(g:X.N.Nodup)(hi:X.N[i]?=some x)(j:Loc X.env.scope x)(r:RelV v u)
 (h:∀s',Inv X pins (σ.set i (some v)) H s'->Q .unit s') (l:X.fn x=true\/X.env.scope.names.lookup x=some .local:=by first |exact .inl rfl |exact .inr rfl |assumption):wpAny M A (storeName X.env x u) Q E s:=
 xg I g hi j r (λs' a _=>h s' a) l
theorem Inv.xh(I:Inv X pins σ H s)(j:s'.os=s.os)(u:Un (rH X.stack) ch H H' s.heap s'.heap)(b7:jV X.prog X.w H' s'.heap)(l:AllBare s'.gens)
 (g:∀b∈ch,(b∈X.ex\/X.s₀.heap.objs.size<=b)/\b≠X.env.locals/\(∀x c,X.env.cells.lookup x=some c->c≠b)/\∀p∈X.pn++pins,p.1≠b):Inv X pins σ H' s':=by
 obtain⟨h',g',d',t',a⟩:=s';have e:a=s.os:=j;subst e;exact I.call (g':=g') (t':=t') (d':=d') u b7 l g
end
noncomputable abbrev XK:=Value->Option Addr->Hp->Prop
noncomputable abbrev St:=List (Option V)
noncomputable abbrev VK:=V->Hp->Prop
noncomputable abbrev TE:=St->Hp->VK->Prop
noncomputable abbrev TT:=St->Hp->(Bool->Hp->Prop)->Prop
noncomputable abbrev TA:=St->Hp->(List V->Hp->Prop)->Prop
structure Ends where
 nx:St->Hp->Prop
 rt:VK
 bk:St->Hp->Prop:=λ_ _=>False
 ct:St->Hp->Prop:=λ_ _=>False
noncomputable abbrev Ends.L6(D:Ends)(N:St->Hp->Prop):Ends:=⟨N,D.rt,D.bk,D.ct⟩
noncomputable abbrev Ends.lp(D:Ends)(N:St->Hp->Prop):Ends:=⟨N,D.rt,D.nx,N⟩
noncomputable abbrev Ends.fn(Q:VK):Ends:={λ_ H'=>Q .non H',Q,λ_ _=>False,λ_ _=>False}
noncomputable abbrev TS:=Ends->St->Hp->Prop
def EP(X:Cx)(pins:List (Addr×Obj))(σ:St)(Q:VK)(u:Value)(s':Shared):Prop:=∃v H',Inv X pins σ H' s'/\RelV v u/\Q v H'
def TP(X:Cx)(pins:List (Addr×Obj))(σ:St)(Q:Bool->Hp->Prop)(b:Bool)(s':Shared):Prop:=∃H',Inv X pins σ H' s'/\Q b H'
def AP(X:Cx)(pins:List (Addr×Obj))(σ:St)(Q:List V->Hp->Prop)(us:List Value)(s':Shared):Prop:=∃vs H',Inv X pins σ H' s'/\Vals vs us/\Q vs H'
def SP(X:Cx)(pins:List (Addr×Obj))(D:Ends)(f:Flow)(s':Shared):Prop:=
 match f with
 |.next=>∃σ' H',Inv X pins σ' H' s'/\D.nx σ' H'
 |.brk=>∃σ' H',Inv X pins σ' H' s'/\D.bk σ' H'
 |.cont=>∃σ' H',Inv X pins σ' H' s'/\D.ct σ' H'
 |.ret u=>∃v σ' H',Inv X pins σ' H' s'/\RelV v u/\D.rt v H'
abbrev Vl(X:Cx)(e:Expr)(t:TE):Prop:=
 ∀(pins:List (Addr×Obj)) (s:Shared) (σ:St) (H:Hp) (Q:VK),Inv X pins σ H s->t σ H Q->wpAny (model X.prog X.w) X.A (eval e X.env) (EP X pins σ Q) X.xe s
structure PE(X:Cx)(e:Expr)(t:TE):Prop where
 go:Vl X e t
instance {X:Cx} {e:Expr} {t:TE}:CoeFun (PE X e t) λ_=>Vl X e t:=⟨PE.go⟩
abbrev Vm(X:Cx)(e:Expr)(t:TT):Prop:=
 ∀(pins:List (Addr×Obj)) (s:Shared) (σ:St) (H:Hp) (Q:Bool->Hp->Prop),Inv X pins σ H s->t σ H Q->wpAny (model X.prog X.w) X.A (isTrue e X.env (eval e X.env)) (TP X pins σ Q) X.xe s
structure PT(X:Cx)(e:Expr)(t:TT):Prop where
 go:Vm X e t
instance {X:Cx} {e:Expr} {t:TT}:CoeFun (PT X e t) λ_=>Vm X e t:=⟨PT.go⟩
abbrev Vn(X:Cx)(e:Expr)(t:TT):Prop:=
 ∀(whole:Sem Value) (pins:List (Addr×Obj)) (s:Shared) (σ:St) (H:Hp) (Q:Bool->Hp->Prop),Inv X pins σ H s->t σ H Q->wpAny (model X.prog X.w) X.A (isTrue e X.env whole) (TP X pins σ Q) X.xe s
structure PW(X:Cx)(e:Expr)(t:TT):Prop where
 go:Vn X e t
instance {X:Cx} {e:Expr} {t:TT}:CoeFun (PW X e t) λ_=>Vn X e t:=⟨PW.go⟩
theorem PW.pt{X:Cx}{e:Expr}{t:TT}(h:PW X e t):PT X e t:={h _}
abbrev Vo(X:Cx)(es:List Expr)(t:TA):Prop:=
 ∀(pos:Pos) (pins:List (Addr×Obj)) (s:Shared) (σ:St) (H:Hp) (Q:List V->Hp->Prop),Inv X pins σ H s->t σ H Q->wpAny (model X.prog X.w) X.A (spliced (backTo pos (starEach es X.env))) (AP X pins σ Q) X.xe s
structure PA(X:Cx)(es:List Expr)(t:TA):Prop where
 go:Vo X es t
instance {X:Cx} {es:List Expr} {t:TA}:CoeFun (PA X es t) λ_=>Vo X es t:=⟨PA.go⟩
abbrev Vp(X:Cx)(st:Stmt)(t:TS):Prop:=
 ∀(pins:List (Addr×Obj)) (s:Shared) (σ:St) (H:Hp) (D:Ends),Inv X pins σ H s->t D σ H->wpAny (model X.prog X.w) X.A (exec st X.env) (SP X pins D) X.xe s
structure PS(X:Cx)(st:Stmt)(t:TS):Prop where
 go:Vp X st t
instance {X:Cx} {st:Stmt} {t:TS}:CoeFun (PS X st t) λ_=>Vp X st t:=⟨PS.go⟩
abbrev OH(X:Cx)(st:List Stmt)(t:TS):Prop:=
 ∀(pins:List (Addr×Obj)) (s:Shared) (σ:St) (H:Hp) (D:Ends),Inv X pins σ H s->t D σ H->wpAny (model X.prog X.w) X.A (execs st X.env) (SP X pins D) X.xe s
structure tR(X:Cx)(st:List Stmt)(t:TS):Prop where
 go:OH X st t
instance {X:Cx} {st:List Stmt} {t:TS}:CoeFun (tR X st t) λ_=>OH X st t:=⟨tR.go⟩
theorem bO{α:Type}{t:Sem α}{Q g:α->Shared->Prop}{M:Model}{A:Around}{E:Value->Shared->Prop}{s:Shared}(h:wpAny M A t Q E s)(j:∀a s,Q a s->g a s):wpAny M A t g E s:=wbb h j λ_ _ x=>x
section
variable{X:Cx}
inductive Jj(i:Nat)(σ:St)(H:Hp)(Q:VK):Prop
 |mk (v) (_:σ[i]?=some (some v)) (_:Q v H)
def tC(v:V):TE:=λ_ H Q=>Q v H
theorem Mj(j:X.N[i]?=some x)(p:OG X.env.scope x)(hd:(x==("__debug__":Str))=false:=by decide)(g:(x==("__classdict__":Str))=false:=by decide):PE X (.Name x pos) (Jj i):=by
 refine{?_};intro b s σ H Q I h;obtain⟨v,e,h⟩:=h;obtain⟨m,hn,hl⟩:=I.loc;obtain⟨u,r,l⟩:=hl i x v j e p;have fin:EP X b σ Q u s:=⟨v,H,I,r,h⟩;rcases l with⟨hk,d⟩ |⟨hk,c,hc,a⟩
 .exact wpAny_Name (wgG I.ok.kind hk hn d fin) hd
 .rcases hk with hk |hk
  .exact wpAny_Name (wgX I.ok.kind hk hc a fin) hd
  .exact wpAny_Name (wpAny_loadName_free I.ok.kind hk hc a fin g) hd
theorem aq{i j pos}:PE X (.Constant (.int i) j pos) (tC (.int i)):={λ_ _ _ H _ I h=>wpAny_Constant_int {.int i,H,I.tok _,{_,rfl},h}}
theorem dZ{b j pos}:PE X (.Constant (.bool b) j pos) (tC (.bl b)):={λ_ _ _ H _ I h=>Constant_bool {.bl b,H,I,rfl,h}}
theorem dn{j pos}:PE X (.Constant .none j pos) (tC .non):={λ_ _ _ H _ I h=>Constant_none {.non,H,I,rfl,h}}
theorem eB{x j pos}:PE X (.Constant (.str x) j pos) (tC (.str x)):={λ_ _ _ H _ I h=>wh7 {.str x,H,I.tok _,{_,rfl},h}}
def Gl(X:Cx)(x:Str):Prop:=X.env.kindOf x=some .globalImplicit
theorem gz{E:Value->Shared->Prop}{Q:Value->Shared->Prop}(I:Inv X g σ H s)(j:Gl X x)(l:X.mg x=some u)(h:Q u s)
 (hd:(x==("__debug__":Str))=false:=by decide):wpAny (model X.prog X.w) X.A (eval (.Name x pos) X.env) Q E s:=
 wf5 I.ok.kind j (Calls.loadGlobal_global (by rw[I.ok.glob];exact I.mod.glob.keeps I.bk) l h) hd
theorem gi{E:Value->Shared->Prop}{Q:Value->Shared->Prop}(I:Inv X g σ H s)(j:Gl X x)(l:X.mg x=none)(p:waX x=some u)(h:Q u s)
 (hn:x≠"__name__":=by decide) (hd:(x==("__debug__":Str))=false:=by decide):wpAny (model X.prog X.w) X.A (eval (.Name x pos) X.env) Q E s:=by
 obtain⟨c,a,b⟩:=I.mod.blt;exact wf5 I.ok.kind j (Calls.loadGlobal_builtin (by rw[I.ok.glob];exact I.mod.glob.keeps I.bk) l (by rw[I.ok.blt];exact a.keeps I.bk) ((b x hn).trans p) h) hd
theorem tS(g:Gl X x)(j:X.mg x=some u)(r:RelV v u)(hd:(x==("__debug__":Str))=false:=by decide):PE X (.Name x pos) (tC v):=
 {λ_ _ _ H _ I h=>gz I g j ⟨v,H,I,r,h⟩ hd}
theorem eY(g:Gl X x)(j:X.mg x=none)(l:waX x=some u)(r:RelV v u)(hn:x≠"__name__":=by decide)(hd:(x==("__debug__":Str))=false:=by decide):PE X (.Name x pos) (tC v):=
 {λ_ _ _ H _ I h=>gi I g j l ⟨v,H,I,r,h⟩ hn hd}
variable{a b:Expr}{ta tb:TE}{pos:Pos}
abbrev Vq(X:Cx)(op:CmpOp)(a b:Expr)(t:TE):Prop:=
 ∀(pins:List (Addr×Obj)) (s:Shared) (σ:St) (H:Hp) (Q:VK),Inv X pins σ H s->t σ H Q ->
  wpAny (model X.prog X.w) X.A (eval a X.env) (λv s₁=>wpAny (model X.prog X.w) X.A (eval b X.env) (λu s₂=>wpAny (model X.prog X.w) X.A (wbc op v u) (EP X pins σ Q) X.xe s₂) X.xe s₁) X.xe s
structure PC(X:Cx)(op:CmpOp)(a b:Expr)(t:TE):Prop where
 go:Vq X op a b t
instance {X:Cx} {op:CmpOp} {a b:Expr} {t:TE}:CoeFun (PC X op a b t) λ_=>Vq X op a b t:=⟨PC.go⟩
theorem G0(b:Expr)(h:op≠.In)(g:op≠.NotIn):wd8 op b=false:=by
 have a:(op==CmpOp.In)=false:=by grind
 have c:(op==CmpOp.NotIn)=false:=by grind
 cases b<;>simp[wd8,a,c]
inductive Vr(x:V)(H:Hp)(Q:Bool->Hp->Prop):Prop
 |mk (c) (_:x=.bl c) (_:Q c H)
def tB(t:TE):TT:=λσ H Q=>t σ H λx H1=>Vr x H1 Q
theorem yt{op:CmpOp}{t:TE}(h:PC X op a b t)(g:wd8 op b=false:=by first |exact G0 _ ⋯ ⋯ |rfl):PT X (.Compare a [op] [b] pos) (tB t):=by
 refine{?_};intro e s σ H Q I hw;refine wgn (bO (h e s σ H _ I hw) λv m g=>bO g λu n f=>bO f λc o ⟨x,i,j,k,l⟩=>?_) g;obtain⟨d,rfl,q⟩:=l;cases k;exact wbt ⟨i,j,q⟩
theorem bT{e:Expr}{t:TE}(h:PE X e t)(he:∀whole,isTrue e X.env whole=(do let v <-whole;standAt e.pos;holding [v] (truthy v)):=by intro _;rfl):PT X e (tB t):=by
 refine{?_};intro a s σ H Q I hw;refine isTrue_plain (bO (h a s σ H _ I hw) λv i ⟨x,b,c,f,g⟩=>?_) (he _);obtain⟨d,rfl,q⟩:=g;cases f;exact wbt ⟨b,c,q⟩
variable{tA Ru:TT}{rest:List Expr}
def Sw(t u:TT):TT:=λσ H Q=>t σ H λc H1=>if c=true then u σ H1 Q else Q false H1
def XQ(t u:TT):TT:=λσ H Q=>t σ H λc H1=>if c=true then Q true H1 else u σ H1 Q
def Sy(t:TT):TT:=λσ H Q=>t σ H λc H1=>Q (!c) H1
theorem oV(ha:PT X a tA):PW X (.BoolOp .And [a] pos) tA:=by
 refine{?_};intro d b s σ H Q I h;refine isTrue_and (bO (ha b s σ H Q I h) λc f e=>?_)
 cases c with
 |true=>exact isTrue_and_nil e
 |false=>exact e
theorem fF(ha:PT X a tA):PW X (.BoolOp .Or [a] pos) tA:=by
 refine{?_};intro d b s σ H Q I h;refine isTrue_or (bO (ha b s σ H Q I h) λc f e=>?_)
 cases c with
 |false=>exact isTrue_or_nil e
 |true=>exact e
theorem uf(ha:PT X a tA)(j:PW X (.BoolOp .And (b::rest) pos) Ru):PW X (.BoolOp .And (a::b::rest) pos) (Sw tA Ru):=by
 refine{?_};intro i d s σ H Q I h;refine isTrue_and (bO (ha d s σ H _ I h) λc k ⟨e,f,g⟩=>?_)
 cases c with
 |true=>exact j i d k σ e Q f g
 |false=>exact⟨e,f,g⟩
theorem fk(ha:PT X a tA)(j:PW X (.BoolOp .Or (b::rest) pos) Ru):PW X (.BoolOp .Or (a::b::rest) pos) (XQ tA Ru):=by
 refine{?_};intro i d s σ H Q I h;refine isTrue_or (bO (ha d s σ H _ I h) λc k ⟨e,f,g⟩=>?_)
 cases c with
 |true=>exact⟨e,f,g⟩
 |false=>exact j i d k σ e Q f g
theorem cS(ha:PT X a tA):PT X (.UnaryOp .Not a pos) (Sy tA):=by
 refine{?_};intro b s σ H Q I h;exact isTrue_not (ha b s σ H (λc d=>Q (!c) d) I h)
def OI(ta tb:TE):TE:=λσ H Q=>ta σ H λx H1=>∃c,x=.bl c/\if c=true then tb σ H1 Q else Q (.bl false) H1
def OJ(ta:TE):TE:=λσ H Q=>ta σ H λx H1=>∃c,x=.bl c/\Q (.bl (!c)) H1
theorem yu{op}(h:PE X a t):PE X (.BoolOp op [a] pos) t:={λb s σ H Q I hw=>BoolOp_one (h b s σ H Q I hw)}
theorem yv(ha:PE X a ta)(j:PE X (.BoolOp .And (b::rest) pos) tb):PE X (.BoolOp .And (a::b::rest) pos) (OI ta tb):=by
 refine{?_};intro d s σ H Q I h;refine BoolOp_and (bO (ha d s σ H _ I h) λv i ⟨x,f,g,k,e⟩=>?_);obtain⟨c,rfl,e⟩:=e;cases k;refine wbt ?_
 cases c with
 |true=>exact j d i σ f Q g e
 |false=>exact{.bl false,f,g,rfl,e}
theorem G1(ha:PE X a ta):PE X (.UnaryOp .Not a pos) (OJ ta):=by
 refine{?_};intro b s σ H Q I h;refine UnaryOp_ (bO (ha b s σ H _ I h) λv i ⟨x,e,f,g,d⟩=>?_);obtain⟨c,rfl,d⟩:=d;cases g;exact not_of (wbt {.bl (!c),e,f,rfl,d})
def XR(t:TT)(ta tb:TE):TE:=λσ H Q=>t σ H λc H1=>if c=true then ta σ H1 Q else tb σ H1 Q
theorem zH{c:Expr}(hc:PT X c tA)(ha:PE X a ta)(l:PE X b tb):PE X (.IfExp c a b pos) (XR tA ta tb):=by
 refine{?_};intro e s σ H Q I h;refine wpAny_IfExp (bO (hc e s σ H _ I h) λd f ⟨g,i,j⟩=>?_)
 cases d with
 |true=>exact ha e f σ g Q i j
 |false=>exact l e f σ g Q i j
end
def aL(K:wa2)(H:Hp)(a:Addr)(xs:List V):Prop:=
 Rd H a (.lst xs) \/
  ∃(o:Obj) (its:Array Value) (n:Nat),K.lookup a=some o/\o.cls=.type "list"/\o.dict=none/\o.data=.seq its n/\its.size<=sizeLine/\Vals xs its.toList
def gA(K:wa2)(H:Hp)(a:Addr)(xs:List V):Prop:=
 Rd H a (.tup xs) \/
  ∃(o:Obj) (its:Array Value) (n:Nat),K.lookup a=some o/\o.cls=.type "tuple"/\o.data=.seq its n/\its.size<=sizeLine/\Vals xs its.toList
noncomputable def Sz:Value->Option V
 |.none=>some .non
 |.bool b=>some (.bl b)
 |.int i _=>some (.int i)
 |.str x _=>some (.str x)
 |.bytes b _=>some (.byt b)
 |.float b _=>some (.flt b)
 |.ref a=>some (.ref a)
 |.type n=>some (.ty n)
 |_=>none
theorem RelV.abs{x:V}{u:Value}(r:RelV x u):Sz u=some x:=by
 cases x with
 |non=>cases r;rfl
 |bl _=>cases r;rfl
 |int _=>obtain⟨t,rfl⟩:=r;rfl
 |str _=>obtain⟨t,rfl⟩:=r;rfl
 |byt _=>obtain⟨t,rfl⟩:=r;rfl
 |flt _=>obtain⟨t,rfl⟩:=r;rfl
 |ref _=>cases r;rfl
 |ty _=>cases r;rfl
theorem RelV.inj{x y:V}{u:Value}(r:RelV x u)(q:RelV y u):x=y:=wad (r.abs.symm.trans q.abs)
theorem Vals.inj:∀{xs ys:List V} {us:List Value},Vals xs us->Vals ys us->xs=ys
 |_,_,_,.nil,.nil=>rfl
 |_,_,_,.cons r t,.cons a b=>by rw[r.inj a,Vals.inj t b]
section
variable{X:Cx}{pins:List (Addr×Obj)}{σ:St}{H:Hp}{s:Shared}{a:Addr}{xs ys:List V}
theorem aL.of{K:wa2}(h:H a=some (.lst xs)):aL K H a xs:=.inl (.inl h)
theorem gA.of{K:wa2}(h:H a=some (.tup xs)):gA K H a xs:=.inl (.inl h)
theorem Inv.list(I:Inv X pins σ H s)(h:aL X.K H a xs):∃g:List Value,Vals xs g/\PlainL s.heap a g.toArray/\xs.length<=sizeLine:=by
 rcases h with h |⟨o,g,n,hk,hc,hd,b,c,r⟩
 .obtain⟨z,g,n,r,e⟩:=h.ok I.b7;exact{g,r,{_,n,e,rfl,rfl,rfl},z}
 .refine{g.toList,r,{o,n,I.hU a o hk,hc,hd,by simpa using b},?_};have e:=r.length;simp only[wca]at e
  lia
theorem Inv.tuple(I:Inv X pins σ H s)(h:gA X.K H a xs):∃g:List Value,Vals xs g/\IsTup s.heap a g.toArray/\xs.length<=sizeLine:=by
 rcases h with h |⟨o,g,n,hk,hc,b,c,r⟩
 .obtain⟨z,g,r,p⟩:=h.ok I.b7;exact⟨g,r,p,z⟩
 .refine{g.toList,r,{o,I.hU a o hk,hc,n,by simpa using b},?_};have e:=r.length;simp only[wca]at e;omega
theorem Inv.oW(I:Inv X pins σ H s)(h:aL X.K H a xs)(h':aL X.K H a ys):xs=ys:=by
 obtain⟨c,r,⟨o,n,e,_,_,d⟩,_⟩:=I.list h;obtain⟨b,i,⟨j,k,f,_,_,g⟩,_⟩:=I.list h';rw[e]at f;cases f;rw[d]at g;injection g with l _
 have:c=b:=by grind
 subst this;exact r.inj i
end
noncomputable abbrev Cx.og(X:Cx)(E:Value->Shared->Prop):Cx:={X with xe:=E}
noncomputable abbrev Cx.L7(X:Cx):Cx:=X.og λ_ _=>False
theorem Cx.Ok.og{X:Cx}(ok:X.Ok)(E:Value->Shared->Prop):(X.og E).Ok:=
 ⟨ok.mod,ok.kind,ok.glob,ok.blt,ok.above,ok.inj,ok.has,ok.Mh,ok.hd,ok.frames,ok.O7,ok.Rt,ok.bs,ok.FZ,ok.Bi,ok.E1,ok.oU,ok.Ji⟩
theorem Cx.Ok.gj{X:Cx}{E:Value->Shared->Prop}(ok:(X.og E).Ok):X.Ok:=
 ⟨ok.mod,ok.kind,ok.glob,ok.blt,ok.above,ok.inj,ok.has,ok.Mh,ok.hd,ok.frames,ok.O7,ok.Rt,ok.bs,ok.FZ,ok.Bi,ok.E1,ok.oU,ok.Ji⟩
section
variable{X:Cx}{pins:List (Addr×Obj)}{σ:St}{H:Hp}{s:Shared}{E:Value->Shared->Prop}
theorem Inv.og(I:Inv X pins σ H s)(E:Value->Shared->Prop):Inv (X.og E) pins σ H s:={I.ok.og E,I.os,I.bare,I.base,I.loc,I.cell,I.free,I.jm,I.pin,I.b7,I.len}
theorem Inv.gj(I:Inv (X.og E) pins σ H s):Inv X pins σ H s:=⟨I.ok.gj,I.os,I.bare,I.base,I.loc,I.cell,I.free,I.jm,I.pin,I.b7,I.len⟩
theorem SP.gj(h:SP (X.og E) pins D f s'):SP X pins D f s':=by
 cases f with
 |next=>obtain⟨a,b,I,q⟩:=h;exact⟨a,b,I.gj,q⟩
 |brk=>obtain⟨a,b,I,q⟩:=h;exact⟨a,b,I.gj,q⟩
 |cont=>obtain⟨a,b,I,q⟩:=h;exact⟨a,b,I.gj,q⟩
 |ret u=>obtain⟨v,a,b,I,r,q⟩:=h;exact⟨v,a,b,I.gj,r,q⟩
theorem tR.L7{st:List Stmt}{t:TS}(h:tR X.L7 st t):tR X st t:={λpins s σ H D I hw=>
 wbb (h pins s σ H D (I.og _) hw) (λ_ _ q=>q.gj) λ_ _ z=>wb7 z}
end
section
variable{X:Cx}{st:Stmt}{rest:List Stmt}{t u:TS}{e:Expr}{te:TE}{pos:Pos}
def OM:TS:=λD σ H=>D.nx σ H
def Ml(t u:TS):TS:=λD σ H=>t (D.L6 (u D)) σ H
theorem aG:tR X [] OM:={λ_ _ σ H _ I h=>wcw ⟨σ,H,I,h⟩}
theorem a5(g:PS X st t)(j:tR X rest u):tR X (st::rest) (Ml t u):=by
 refine{?_};intro a s σ H D I h;refine wcY (bO (g a s σ H (D.L6 (u D)) I h) λf c q=>?_)
 cases f with
 |next=>
  obtain⟨b,d,e,q⟩:=q;exact j a c b d D e q
 |ret v=>exact q
 |brk=>exact q
 |cont=>exact q
theorem a9(g:PS X st t):tR X [st] t:=by
 refine{?_};intro a s σ H D I h;refine wcY (bO (g a s σ H D I h) λf b q=>?_)
 cases f with
 |next=>exact wcw q
 |ret v=>exact q
 |brk=>exact q
 |cont=>exact q
theorem Inv.quiet(I:Inv X g σ H s):interactive X.env=false:=by simp[interactive,I.ok.kind]
def OO(te:TE):TS:=λD σ H=>te σ H λ_ H1=>D.nx σ H1
theorem b8(he:PE X e te)(hs:wc7 e none pos.line X.env=pure false:=by rfl):PS X (.Expr e pos) (OO te):=by
 refine{?_};intro a s σ H D I h;exact wpAny_Expr_any (bO (he a s σ H _ I h) λv f ⟨x,b,c,g,d⟩=>⟨σ,b,c,d⟩) I.quiet hs
def SA(te:TE):TS:=λD σ H=>te σ H D.rt
theorem aw(he:PE X e te):PS X (.Return (some e) pos) (SA te):=by
 refine{?_};intro a s σ H D I h;exact wpAny_Return_some (bO (he a s σ H _ I h) λv g ⟨x,b,c,d,f⟩=>⟨x,σ,b,c,d,f⟩)
def SD(c:TT)(t u:TS):TS:=λD σ H=>c σ H λb H1=>if b=true then t D σ H1 else u D σ H1
theorem b6{c:Expr}{a b:List Stmt}{g:TT}(hc:PT X c g)(ha:tR X a t)(l:tR X b u):PS X (.If c a b pos) (SD g t u):=by
 refine{?_};intro e s σ H D I h;refine wpAny_If (bO (hc e s σ H _ I h) λd f ⟨i,j,k⟩=>?_)
 cases d with
 |true=>exact ha e f σ i D j k
 |false=>exact l e f σ i D j k
def Mm:TS:=λ_ _ _=>False
theorem cK:tR X g Mm:={λ_ _ _ _ _ _ h=>h.elim}
end
noncomputable abbrev TG:=V->St->Hp->(St->Hp->Prop)->Prop
noncomputable abbrev O8:=List V->St->Hp->(St->Hp->Prop)->Prop
abbrev Vs(X:Cx)(target:Expr)(t:TG):Prop:=
 ∀(pins:List (Addr×Obj)) (s:Shared) (σ:St) (H:Hp) (v:V) (u:Value) (Q:St->Hp->Prop),Inv X pins σ H s->RelV v u->t v σ H Q ->
  wpAny (model X.prog X.w) X.A (assign target X.env u) (λ_ s'=>∃σ' H',Inv X pins σ' H' s'/\Q σ' H') X.xe s
structure PG(X:Cx)(target:Expr)(t:TG):Prop where
 go:Vs X target t
instance {X:Cx} {target:Expr} {t:TG}:CoeFun (PG X target t) λ_=>Vs X target t:=⟨PG.go⟩
abbrev OQ(X:Cx)(ts:List Expr)(t:O8):Prop:=
 ∀(pins:List (Addr×Obj)) (s:Shared) (σ:St) (H:Hp) (vs:List V) (us:List Value) (Q:St->Hp->Prop),Inv X pins σ H s->Vals vs us->t vs σ H Q ->
  wpAny (model X.prog X.w) X.A (assignInOrder ((wdy ts X.env).map (·.2)) us) (λ_ s'=>∃σ' H',Inv X pins σ' H' s'/\Q σ' H') X.xe s
structure O9(X:Cx)(ts:List Expr)(t:O8):Prop where
 go:OQ X ts t
instance {X:Cx} {ts:List Expr} {t:O8}:CoeFun (O9 X ts t) λ_=>OQ X ts t:=⟨O9.go⟩
noncomputable abbrev Mo:=V->V->V->Hp->(Hp->Prop)->Prop
def OS(X:Cx)(t:Mo):Prop:=
 ∀(pins:List (Addr×Obj)) (s:Shared) (σ:St) (H:Hp) (o i v:V) (ov iv u:Value) (Q:Hp->Prop),Inv X pins σ H s->RelV o ov->RelV i iv->RelV v u->t o i v H Q ->
  wpAny (model X.prog X.w) X.A (setItem ov iv u) (λ_ s'=>∃H',Inv X pins σ H' s'/\Q H') X.xe s
noncomputable abbrev OT:=V->V->Hp->VK->Prop
def Rv(X:Cx)(op:Operator)(t:OT):Prop:=
 ∀(pins:List (Addr×Obj)) (s:Shared) (σ:St) (H:Hp) (x y:V) (v u:Value) (Q:VK),Inv X pins σ H s->RelV x v->RelV y u->t x y H Q ->
  wpAny (model X.prog X.w) X.A (inplaceOp op v u) (EP X pins σ Q) X.xe s
section
variable{X:Cx}{pos:Pos}
def bN(i:Nat):TG:=λv σ H Q=>Q (σ.set i (some v)) H
theorem jW(g:X.N.Nodup)(hi:X.N[i]?=some x)(j:Loc X.env.scope x)(l:X.fn x=true\/X.env.scope.names.lookup x=some .local:=by first |exact .inl rfl |exact .inr rfl |assumption):PG X (.Name x pos) (bN i):=by
 refine{?_};intro a s σ H v u Q I r h;exact wpAny_assign_Name (jn I g hi j r (λc b=>{_,H,b,h}) l)
inductive G2(vs:List V)(σ:St)(H:Hp)(Q:St->Hp->Prop):Prop
 |mk (_:vs=[]) (_:Q σ H)
inductive lU(t:TG)(u:O8)(vs:List V)(σ:St)(H:Hp)(Q:St->Hp->Prop):Prop
 |mk (v r) (_:vs=v::r) (_:t v σ H λσ' H'=>u r σ' H' Q)
theorem cQ:O9 X [] G2:=by
 refine{?_};intro a s σ H b c Q I r h;obtain⟨e,h⟩:=h;subst e;cases r;exact assignInOrder_nil ⟨σ,H,I,h⟩
theorem aP{e:Expr}{g:List Expr}{t:TG}{u:O8}(j:PG X e t)(l:O9 X g u)
 (hs:(wdy (e::g) X.env).map (·.2)=assign e X.env::(wdy g X.env).map (·.2):=by rfl):O9 X (e::g) (lU t u):=by
 refine{?_};intro a s σ H n o Q I r h;obtain⟨v,p,c,h⟩:=h;subst c
 cases r with
 |cons r d=>
  rw[hs];refine assignInOrder_cons (bO (j a s σ H _ _ _ I r h) λ_ f ⟨b,i,k,m⟩=>?_);exact l a f b i _ _ Q k d m
inductive G3(K:wa2)(n:Nat)(t:O8)(v:V)(σ:St)(H:Hp)(Q:St->Hp->Prop):Prop
 |mk (a xs) (_:v=.ref a) (_:gA K H a xs) (_:xs.length=n) (_:t xs σ H Q)
theorem dU(hc:X.calm=true)(h:O9 X g t)
 (hn:(wdy g X.env).length=n:=by rfl) (j:(wdy g X.env).findIdx? (·.1)=none:=by rfl):PG X (.Tuple g k pos) (G3 X.K n t):=by
 refine{?_};intro c s σ H v u Q I r hw;obtain⟨a,f,i,l,hl,hw⟩:=hw;subst i;cases r;obtain⟨m,d,p,y⟩:=I.tuple l;refine assign_Tuple_tuple (I.ok.hd hc) p (by simp[hn,<-hl,d.length]) j λq w=>?_;have x:Inv X c σ H {s with heap:=q}:=I.kept (t':=s.toks) λb o e=>w b o (waw (wah e)) e;exact h c _ σ H f _ Q x (by simpa using d) hw
def SE(to ti:TE)(t:Mo):TG:=λv σ H Q=>to σ H λo H1=>ti σ H1 λi H2=>t o i v H2 λH3=>Q σ H3
theorem G4{o i:Expr}{l p:TE}{t:Mo}(C:PE X o l)(hi:PE X i p)(hs:OS X t)
 (ha:∀v,assign (.Subscript o i pos) X.env v=(do
   let g <-holding [v] (eval o X.env)
   let j <-holding [v,g] (eval i X.env)
   standAt pos
   holding [v,g,j] (setItem g j v)
   release [v,g,j] []):=by intro _;rfl):PG X (.Subscript o i pos) (SE l p t):=by
 refine{?_};intro a s σ H v u Q I r h;rw[ha];refine wa7 (wbp (bO (C a s σ H _ I h) λg b ⟨x,c,d,e,f⟩=>?_));refine wa7 (wbp (bO (hi a b σ c _ d f) λj k ⟨y,m,n,q,w⟩=>?_));refine wa7 (wdF (wa7 (wbp (bO (hs a k σ m x y v g j u _ n e q r w) λ_ D ⟨z,A,B⟩=>?_))));exact wpAny_release ⟨σ,z,A,B⟩
def Jk(te:TE)(g:TG):TS:=λD σ H=>te σ H λx H1=>g x σ H1 D.nx
theorem ug{j e:Expr}{l:TE}{g:TG}(he:PE X e l)(p:PG X j g)(hs:swapsWithSole [j] e pos.line X.env=pure false:=by rfl)(hw:swappedStores [j] e X.env=pure none:=by rfl)
 (r:(wdy [j] X.env).map (·.2)=[assign j X.env]:=by rfl):PS X (.Assign [j] e pos) (Jk l g):=by
 refine{?_};intro a s σ H D I h;refine wpAny_Assign_stores (bO (he a s σ H _ I h) λv b ⟨x,c,d,f,i⟩=>?_) hs hw;rw[r];exact bO (p a b σ c x v _ d f i) λ_ k q=>q
theorem G5{i:Nat}{x:Str}{e:Expr}{j:TE}{g:Pos}(l:X.N.Nodup)(hi:X.N[i]?=some x)(p:Loc X.env.scope x)(he:PE X e j)(hs:wc7 e (some (.Name x g)) pos.line X.env=pure false:=by rfl)(r:X.fn x=true\/X.env.scope.names.lookup x=some .local:=by first |exact .inl rfl |exact .inr rfl |assumption) :
 PS X (.Assign [.Name x g] e pos) (Jk j (bN i)):=by
 refine{?_};intro a s σ H D I h;refine we9 (bO (he a s σ H _ I h) λv m ⟨y,b,c,d,f⟩=>?_) hs;exact jn c l hi p d (λn k=>{_,b,k,f}) r
inductive SG(i:Nat)(te:TE)(ti:OT)(D:Ends)(σ:St)(H:Hp):Prop
 |mk (x) (_:σ[i]?=some (some x)) (_:te σ H λy H1=>ti x y H1 λz H2=>D.nx (σ.set i (some z)) H2)
theorem uh{i:Nat}{x:Str}{e:Expr}{p:TE}{op:Operator}{t:OT}{g:Pos}(C:X.N.Nodup)(hi:X.N[i]?=some x)(j:Loc X.env.scope x)(he:PE X e p)(J:Rv X op t)(T:X.fn x=true\/X.env.scope.names.lookup x=some .local:=by first |exact .inl rfl |exact .inr rfl |assumption) :
 PS X (.AugAssign (.Name x g) op e pos) (SG i p t):=by
 refine{?_};intro a s σ H D I h;obtain⟨v,o,h⟩:=h;obtain⟨m,hn,hl⟩:=I.loc;have n:OG X.env.scope x:=by rcases j with k |k;exact .inl k;exact .inr (.inl k)
 obtain⟨u,r,l⟩:=hl i x v hi o n;refine wpAny_AugAssign_Name ?_
 have go:wpAny (model X.prog X.w) X.A (eval e X.env) (λw d=>wpAny (model X.prog X.w) X.A (inplaceOp op u w) (λr f=>wpAny (model X.prog X.w) X.A (storeName X.env x r) (λ_=>SP X a D .next) X.xe f) X.xe d) X.xe s:=by
  refine bO (he a s σ H _ I h) λw q ⟨y,B,E,G,L⟩=>?_;refine bO (J a q σ B v y u w _ E r G L) λz V ⟨Y,M,O,Q,R⟩=>?_;exact jn O C hi j Q (λZ S=>{_,M,S,R}) T
 rcases l with⟨hk,U⟩ |⟨hk,c,hc,b⟩
 .exact wgG I.ok.kind hk hn U go
 .rcases hk with hk |hk
  .exact wgX I.ok.kind hk hc b go
  .rcases j with k |k
   .have:X.env.scope.names.lookup x=some .free:=hk;rw[k]at this;cases this
   .have:X.env.scope.names.lookup x=some .free:=hk;rw[k]at this;cases this
noncomputable def XS(f:Int->Int->Int):OT:=λx y H Q=>∃i j,x=.int i/\y=.int j/\Q (.int (f i j)) H
theorem G6:Rv X .Add (XS λi j=>i+j):=by
 intro a s σ H x y v u Q I b c h;obtain⟨i,j,d,e,q⟩:=h;subst d;subst e;obtain⟨t,rfl⟩:=b;obtain⟨f,rfl⟩:=c;exact iadd_int {.int _,H,I.tok _,{_,rfl},q}
end
section
variable{X:Cx}{pos:Pos}
def Mp(c:TT)(tb:TS):TS:=λD σ H=>∃W:Nat->St->Hp->Prop,(∃m,W m σ H)/\∀m σ H,W m σ H ->
 c σ H λb H1=>if b=true then ∃N:St->Hp->Prop,(∀σ' H',N σ' H'->∃m',m'<m/\W m' σ' H')/\tb (D.lp N) σ H1 else D.nx σ H1
theorem jo{c:Expr}{body:List Stmt}{t:TT}{C:TS}(J:PassesOwn (model X.prog X.w) X.A X.env X.xe)(hc:PT X c t)(T:tR X body C):PS X (.While c body [] pos) (Mp t C):=by
 refine{?_};intro a s σ H D I h;obtain⟨W,⟨E,G⟩,g⟩:=h;refine wpAny_While (codeAny_whileLoop (λn L=>∃i u,Inv X a i u L/\W n i u) ?_ E ⟨σ,H,I,G⟩);rintro n M ⟨e,x,O,Q⟩;refine wcM J (bO (hc a M e x _ O (g n e x Q)) λb R ⟨y,z,k⟩=>?_)
 cases b with
 |true=>
  obtain⟨N,B,k⟩:=k;rw[if_pos rfl];refine wcM J (bO (T a R e y _ z k) λf S l=>?_)
  cases f with
  |next=>
   obtain⟨d,j,m,o⟩:=l;obtain⟨p,q,r⟩:=B d j o;exact⟨p,q,d,j,m,r⟩
  |cont=>
   obtain⟨d,j,m,o⟩:=l;obtain⟨p,q,r⟩:=B d j o;exact⟨p,q,d,j,m,r⟩
  |brk=>exact l
  |ret v=>exact l
 |false=>
  rw[if_neg wan];exact wcw ⟨e,y,z,k⟩
end
structure It where
 go:Nat->Hp->Prop
 ui:Nat->Hp->V->Hp->Prop
 stop:Nat->Hp->Prop
def uj(X:Cx)(pins:List (Addr×Obj))(H:Hp)(b:Addr):Prop:=
 H b=none/\b≠X.env.locals/\b∉X.fs/\(b∈X.ex\/X.s₀.heap.objs.size<=b)/\(∀x c,X.env.cells.lookup x=some c->c≠b)/\∀p∈X.pn++pins,p.1≠b
theorem Inv.yw{X:Cx}(I:Inv X g σ H s)(j:s.heap.objs.size<=b)(hn:l b=none):uj X g l b:=by
 refine{hn,wcg (wav I.lt j),I.Sv j,.inr (wak I.sz j),λx c e z=>?_,λp a z=>?_}
 .obtain⟨v,q⟩:=I.cell x c e;exact absurd (wav q.lt (by rw[z];exact j)) (wbm _)
 .exact absurd (wav (wah (I.pin p a).1) (by rw[z];exact j)) (wbm _)
structure Turn(P:waq)(w:World)(K:wa2)(tg:Expr)(J:It)(fp:List Addr)(it:Addr)(tn:Nat->Heap->Prop):Prop where
 mem:it∈fp
 obj:∀i h,tn i h->∀b∈fp,∃o,h.get? b=some o/\∀v,o.data≠.cell v
 keep:∀i h h',tn i h->(∀b∈fp,∀o,h.get? b=some o->h'.get? b=some o)->tn i h'
 item:∀(X:Cx),X.prog=P->X.w=w->X.K=K->X.calm=true->∀(i:Nat) (pins:List (Addr×Obj)) (s:Shared) (σ:St) (H:Hp) (E:Value->Shared->Prop),Inv X pins σ H s->(∀b∈fp,uj X pins H b)->tn i s.heap->J.go i H ->
  wpAny (model P w) X.A (pyNext (.ref it)) (λr s1=>∃u,r=some u /\
   wpAny (model P w) X.A (weB tg (.ref it) u) (λ_ s2=>∃x H',Inv X pins σ H' s2/\RelV x u/\J.ui i H x H'/\tn (i+1) s2.heap/\∀b∈fp,H' b=none) E s1) E s
 done:∀(X:Cx),X.prog=P->X.w=w->X.K=K->X.calm=true->∀(i:Nat) (pins:List (Addr×Obj)) (s:Shared) (σ:St) (H:Hp) (E:Value->Shared->Prop),Inv X pins σ H s->(∀b∈fp,uj X pins H b)->tn i s.heap->J.stop i H ->
   wpAny (model P w) X.A (pyNext (.ref it)) (λr s1=>r=none/\Inv X pins σ H s1) E s
 self:∀(A:Around) (i:Nat) (s:Shared) (Q:Value->Shared->Prop) (E:Value->Shared->Prop),tn i s.heap->Q (.ref it) s->wpAny (model P w) A (pyIter (.ref it)) Q E s
noncomputable abbrev TI:=St->Hp->(It->Hp->Prop)->Prop
def Oa(X:Cx)(pins:List (Addr×Obj))(σ:St)(tg:Expr)(R:It->Hp->Prop)(SH:Value)(s2:Shared):Prop:=
 ∃(it:Addr) (fp:List Addr) (tn:Nat->Heap->Prop) (J:It) (H':Hp),SH=.ref it/\Inv X pins σ H' s2/\Turn X.prog X.w X.K tg J fp it tn/\tn 0 s2.heap/\(∀b∈fp,uj X pins H' b)/\R J H'
abbrev Vt(X:Cx)(tg iter:Expr)(wi:TI):Prop:=
 ∀(pins:List (Addr×Obj)) (s:Shared) (σ:St) (H:Hp) (R:It->Hp->Prop),Inv X pins σ H s->wi σ H R ->
  wpAny (model X.prog X.w) X.A (eval iter X.env) (λv s1=>wpAny (model X.prog X.w) X.A (pyIter v) (Oa X pins σ tg R) X.xe s1) X.xe s
structure PI(X:Cx)(tg iter:Expr)(wi:TI):Prop where
 go:Vt X tg iter wi
instance {X:Cx} {tg iter:Expr} {wi:TI}:CoeFun (PI X tg iter wi) λ_=>Vt X tg iter wi:=⟨PI.go⟩
theorem xi{E:Value->Shared->Prop}{Q:Unit->Shared->Prop}(j:s.heap.get? it=some o)(hc:o.cls=.type n)(hd:o.data=.fields vs)
 (hn:["enumerate","zip","dict_itemiterator","dict_reverseitemiterator","odict_iterator","itertools.zip_longest","itertools.pairwise"].contains n=false) (g:Q .unit s):wpAny M A (weB l (.ref it) u) Q E s:=by
 unfold weB
 cases l<;>first
  |exact wax g
  |(cases u<;>first
     |exact wax g
     |(refine wa7 (wpAny_load j ?_)
       rw[hc,hd];show wpAny M A (if (["enumerate","zip","dict_itemiterator","dict_reverseitemiterator","odict_iterator","itertools.zip_longest","itertools.pairwise"].contains n&&vs[0]?==some (rawInt _))=true then _ else _) Q E s;rw[if_neg (by grind)]
       exact wax g))
noncomputable def Ob(K:wa2)(a:Addr):It:=
 {λi H=>∃xs x,aL K H a xs/\xs[i]?=some x,λi H x H'=>H'=H/\∀xs,aL K H a xs->xs[i]?=some x,λi H=>∃xs,aL K H a xs/\xs.length<=i}
noncomputable def L8(lo:Int)(n:Nat):It:={λi _=>i<n,λi H x H'=>H'=H/\x=.int (lo+i),λi _=>n<=i}
theorem E2{P:waq}{w:World}{K:wa2}{T:Expr}(a it:Addr):Turn P w K T (Ob K a) [it] it (λi h=>h.IsListIter it a i) where
 mem:=by simp
 obj:=λi h st b g=>by
  have e:b=it:=by simpa using g
  subst e;obtain⟨o,e,c,d⟩:=st;exact{o,e,λv z=>by rw[d]at z;cases z}
 keep:=λi h l st k=>st.at λo e=>k it (by simp) o e
 item:=by
  intro X q hw r hc i f s σ H E I m st t;subst q hw r;obtain⟨L,x,n,y⟩:=t;obtain⟨A,B,p,M⟩:=I.list n;obtain⟨u,N,O⟩:=B.get y;obtain⟨C,f1,f2,D,G,J⟩:=m it (by simp);refine wpAny_pyNext_list_item st p.isList (x:=u) (by simpa using N) λl j sb=>?_;have Q:Inv X f σ H {s with heap:=l}:=I.turned (t':=s.toks) (λb o g e=>(sb.2 b g).trans e) C f1 D G J;obtain⟨o,e,c,d⟩:=id j;exact{u,rfl,xi (s:={s with heap:=l}) e c d ⋯ {x,H,Q,O,{rfl,λU R=>by rw[I.oW R n];exact y},j,λb g=>(m b g).1}}
 done:=by
   intro X q hw r hc i f s σ H E I m st t;subst q hw r;obtain⟨L,n,y⟩:=t;obtain⟨A,B,p,M⟩:=I.list n;obtain⟨C,f1,f2,D,G,J⟩:=m it (by simp);have hl:=B.length;exact wpAny_pyNext_list_end (I.ok.hd hc) st p.isList (by simp;lia) λl S=>{rfl,I.turned (t':=s.toks) (λb o g e=>S b o g e) C f1 D G J}
 self:=λ_ _ _ _ _ st h=>wpAny_pyIter_listiter st h
theorem Bj{P:waq}{w:World}{K:wa2}{C:Expr}(it:Addr)(lo:Int)(n:Nat):Turn P w K C (L8 lo n) [it] it (λi h=>wg7 h it (lo+(i:Nat)*1) ((n:Int)-(i:Nat)) 1) where
 mem:=by simp
 obj:=λi h st b c=>by
  have e:b=it:=by simpa using c
  subst e
  exact{_,st,λv z=>by
   have y:wee _=wfZ v:=z
   cases y}
 keep:=λi h f st k=>k it (by simp) _ st
 item:=by
  intro X j hw l hc i a s σ H E I g st m;subst j hw l;obtain⟨p,f1,f2,q,r,u⟩:=g it (by simp);have A:=Walks.range (prog:=X.prog) (w:=X.w) (I.ok.hd hc) it lo 1 n;refine A.item i s _ _ m st λv f x B d D=>?_;obtain⟨t,rfl⟩:=B;have G:Inv X a σ H {s with heap:=f,toks:=x}:=I.turned (λb o c e=>D b o (by simpa using c) e) p f1 q r u;refine{_,rfl,xi (s:={s with heap:=f,toks:=x}) (n:="range_iterator") d rfl rfl ⋯ {.int (lo+i),H,G,{t,?_},⟨rfl,rfl⟩,d,λb c=>(g b c).1}};rw[Int.mul_one]
 done:=by
   intro X j hw l hc i a s σ H E I g st m;subst j hw l;obtain⟨p,f1,f2,q,r,u⟩:=g it (by simp);exact wg8 (I.ok.hd hc) st (by have:n<=i:=m;lia) λf J=>{rfl,I.turned (t':=s.toks) (λb o c e=>J b o c e) p f1 q r u}
 self:=λ_ _ _ _ _ st h=>wg9 st h
section
variable{X:Cx}{tg:Expr}
def OU(K:wa2)(tl:TE):TI:=λσ H R=>tl σ H λx H1=>∃a,x=.ref a/\(∃xs,aL K H1 a xs)/\R (Ob K a) H1
theorem aQ{l:Expr}{g:TE}(hl:PE X l g):PI X tg l (OU X.K g):=by
 refine{?_};intro c s σ H R I h;refine bO (hl c s σ H _ I h) λv d ⟨x,i,f,j,k⟩=>?_;obtain⟨a,e,⟨t,m⟩,q⟩:=k;subst e;cases j;obtain⟨n,u,p,w⟩:=f.list m;refine wcP p.isList ?_;refine{d.heap.objs.size,[d.heap.objs.size],_,_,i,rfl,f.kept (t':=d.toks) λb o e=>wa9 _ e,E2 a _,{_,wat _ rfl,rfl,rfl},λb r=>?_,q};have e:b=d.heap.objs.size:=by simpa using r
 subst e;exact f.yw (waa _) (f.b7.fresh (waa _))
theorem zI{g:List (Addr×Obj)}{σ:St}{H:Hp}{s:Shared}{R:It->Hp->Prop}{E:Value->Shared->Prop}{lo hi:Int}{t u v:Tok}{tk:Nat}(I:Inv X g σ H s)(j:-(2^62)<=lo)(l:lo<2^62)(p:-(2^62)<=hi)(r:hi<2^62)
 (q:R (L8 lo (hi-lo).toNat) H):wpAny (model X.prog X.w) X.A (pyIter (.ref s.heap.objs.size)) (Oa X g σ tg R) E {s with heap:=s.heap.push {cls:=.type "range",data:=.fields #[.int lo t,.int hi u,.int 1 v]},toks:=tk}:=by
 refine wpAny_pyIter_range (wi9 ..) (small_one j l p r) ?_;have a:Inv X g σ H {s with heap:=s.heap.push {cls:=.type "range",data:=.fields #[.int lo t,.int hi u,.int 1 v]},toks:=tk}:=I.kept λb o e=>wa9 _ e
 refine{(s.heap.push {cls:=.type "range",data:=.fields #[.int lo t,.int hi u,.int 1 v]}).objs.size,[(s.heap.push {cls:=.type "range",data:=.fields #[.int lo t,.int hi u,.int 1 v]}).objs.size],_,_,H,rfl,
  a.kept (t':=tk) λb o e=>wa9 _ e,Bj _ lo (hi-lo).toNat,?_,λb c=>?_,q}
 .have d:lo+((0:Nat):Int)*1=lo:=by simp
  have f:(((hi-lo).toNat:Nat):Int)-((0:Nat):Int)=wd3 lo hi 1:=by rw[wgT];split<;>lia
  show wg7 _ _ (lo+((0:Nat):Int)*1) ((((hi-lo).toNat:Nat):Int)-((0:Nat):Int)) 1;rw[d,f];exact wat _ rfl
 .have e:b=(s.heap.push {cls:=.type "range",data:=.fields #[.int lo t,.int hi u,.int 1 v]}).objs.size:=by simpa using c
  subst e;exact a.yw (waa _) (a.b7.fresh (waa _))
def OV(ta:TA):TI:=λσ H R=>ta σ H λvs H1=>∃j:Int,vs=[.int j]/\-(2^62)<=j/\j<2^62/\R (L8 0 j.toNat) H1
def OW(ta:TA):TI:=λσ H R=>ta σ H λvs H1=>∃i j:Int,vs=[.int i,.int j]/\(-(2^62)<=i/\i<2^62/\-(2^62)<=j/\j<2^62)/\R (L8 i (j-i).toNat) H1
theorem bZ(g:Gl X "range")(l:X.mg "range"=none)(ha:PA X [a] C)(hs:starEach [a] X.env=[(false,eval a X.env)]:=by rfl):PI X tg (.Call (.Name "range" p) [a] [] pos) (OV C):=by
 refine{?_};intro b s σ H R I h;refine Call_ (gi I g l boot_range (wbs (bO (ha pos b s σ H _ I h) λm n ⟨o,u,d,f,c⟩=>?_) hs rfl));obtain⟨j,e,c,i,q⟩:=c;subst e
 cases f with
 |cons r k=>
  cases k;obtain⟨t,rfl⟩:=r;exact call_range_1 (zI d (by lia) (by lia) c i (by simpa using q))
theorem qG(l:Gl X "range")(C:X.mg "range"=none)(ha:PA X [a,b] J)(hs:starEach [a,b] X.env=[(false,eval a X.env),(false,eval b X.env)]:=by rfl)(g:starEach [b] X.env=[(false,eval b X.env)]:=by rfl) :
 PI X tg (.Call (.Name "range" p) [a,b] [] pos) (OW J):=by
 refine{?_};intro c s σ H R I h;refine Call_ (gi I l C boot_range (wbs (bO (ha pos c s σ H _ I h) λw x ⟨y,z,k,m,d⟩=>?_) (by rw[hs,g]) (by rw[g];rfl)));obtain⟨i,j,e,⟨d,n,o,u⟩,q⟩:=d;subst e
 cases m with
 |cons r f=>
  cases f with
  |cons v f=>
   cases f;obtain⟨t,rfl⟩:=r;obtain⟨A,rfl⟩:=v;exact call_range_2 (zI k d n o u q)
def OX(wi:TI)(g:TG)(tb:TS):TS:=λD σ H=>wi σ H λJ H1=>∃W:Nat->Nat->St->Hp->Prop,(∃m,W 0 m σ H1)/\∀i m σ H,W i m σ H ->
 (J.stop i H/\D.nx σ H)\/(J.go i H/\∃N:St->Hp->Prop,(∀σ' H',N σ' H'->∃m',m'<m/\W (i+1) m' σ' H')/\∀x H',J.ui i H x H'->g x σ H' λσ2 H2=>tb (D.lp N) σ2 H2)
noncomputable def uk(fp:List Addr)(h:Heap):List (Addr×Obj):=fp.filterMap λb=>(h.get? b).map λo=>(b,o)
theorem jX(g:b∈j)(e:h.get? b=some o):(b,o)∈uk j h:=wdR.mpr {b,g,by rw[e];rfl}
theorem E3(g:p∈uk j h):p.1∈j/\h.get? p.1=some p.2:=by
 obtain⟨b,a,e⟩:=wdR.mp g
 cases q:h.get? b with
 |none=>grind
 |some o=>
  grind
theorem Inv.pinned(I:Inv X g σ H s)(l:∀b∈j,uj X g H b)(r:∀b∈j,∃o,s.heap.get? b=some o/\∀v,o.data≠.cell v):Inv X (g++uk j s.heap) σ H s:=
 I.D1 λp f=>(waD.mp f).elim (λz=>I.pin p (waJ _ z)) λz=>by
  obtain⟨a,e⟩:=E3 z;obtain⟨h,f1,f2,_⟩:=l p.1 a;obtain⟨o,c,d⟩:=r p.1 a;rw[e]at c;cases c;exact⟨e,h,f1,f2,d⟩
theorem Inv.oX(I:Inv X (g++pl) σ H s):Inv X g σ H s:=I.D1 λp a=>I.pin p (waJ _ (waV _ a))
theorem G7(C:PassesOwn (model X.prog X.w) X.A X.env X.xe)(hc:X.calm=true)(hi:PI X tg iter wi)(hg:PG X tg g)(j:tR X body tb)
 (hs:∀x,wbR iter X.env x=pure x:=by intro _;rfl):PS X (.For tg iter body [] pos) (OX wi g tb):=by
 refine{?_};intro a s σ H D I h;refine wpAny_For (bO (hi a s σ H _ I h) λv s1 h1=>bO h1 λSH s2 h2=>?_) hs;obtain⟨it,E,tn,J,H2,e,I2,T,R,f2,W,⟨m0,w0⟩,G⟩:=h2;subst e;have k:∀{y:Hp},(∀b∈E,y b=none)->∀b∈E,uj X a y b:=λhn b j=>{hn b j,(f2 b j).2};refine codeAny_forLoop_any (λn s'=>∃i l y,Inv X a l y s'/\tn i s'.heap/\(∀b∈E,y b=none)/\W i n l y) ?_ m0 {0,σ,H2,I2,R,λb j=>(f2 b j).1,w0};rintro n s3 ⟨i,p,Q,I3,L,M,w3⟩;rcases G i n p Q w3 with⟨stop,qn⟩ |⟨go,N,hN,step⟩
 .refine wcM C (bO (T.done X rfl rfl rfl hc i a s3 p Q X.xe I3 (k M) L stop) λr s4 ⟨S,I4⟩=>?_);subst S;exact wcw ⟨p,Q,I4,qn⟩
 .refine wcM C (bO (T.item X rfl rfl rfl hc i a s3 p Q X.xe I3 (k M) L go) λr s4 ⟨u,S,h4⟩=>?_);subst S;refine wcM C (bO h4 λ_ s5 ⟨x,H5,I5,r5,y5,B,U⟩=>?_);have V:=I5.pinned (k U) (T.obj _ _ B);refine wcM C (bO (hg _ s5 p H5 x u _ V r5 (step x H5 y5)) λ_ s6 ⟨Y,H6,I6,q6⟩=>?_);refine wcM C (bO (j _ s6 Y H6 _ I6 q6) λf Z z=>?_)
  have again:∀{c:St} {q:Hp},Inv X (a++uk E s5.heap) c q Z->N c q->∃m,m<n/\∃i l y,Inv X a l y Z/\tn i Z.heap/\(∀b∈E,y b=none)/\W i m l y:=λ{c q} t O=>by
   obtain⟨m',hm,w7⟩:=hN c q O;refine{m',hm,i+1,c,q,t.oX,T.keep _ _ _ B λb j o e=>(t.pin (b,o) (waJ _ (waJ _ (jX j e)))).1,λb j=>?_,w7};obtain⟨o,e,d⟩:=T.obj _ _ B b j;exact(t.pin (b,o) (waJ _ (waJ _ (jX j e)))).2.1
  cases f with
  |next=>obtain⟨c,q,t,O⟩:=z;exact again t O
  |cont=>obtain⟨c,q,t,O⟩:=z;exact again t O
  |brk=>obtain⟨c,q,t,z⟩:=z;exact⟨c,q,t.oX,z⟩
  |ret v=>obtain⟨x7,c,q,t,r7,z⟩:=z;exact⟨x7,c,q,t.oX,r7,z⟩
end
theorem d9{K:wa2}{a:Addr}{xs:List V}{g:TG}{C:TS}{D:Ends}{σ:St}{H:Hp}(Pv:Nat->St->Hp->Prop)(h0:Pv 0 σ H)(hl:∀i σ H,i<=xs.length->Pv i σ H->aL K H a xs)
 (hs:∀i x σ H,xs[i]?=some x->Pv i σ H->g x σ H λj t=>C (D.lp (Pv (i+1))) j t) (hd:∀σ H,Pv xs.length σ H->D.nx σ H) :
 ∃W:Nat->Nat->St->Hp->Prop,(∃m,W 0 m σ H)/\∀i m σ H,W i m σ H ->
  ((Ob K a).stop i H/\D.nx σ H)\/((Ob K a).go i H/\∃N:St->Hp->Prop,(∀l r,N l r->∃I,I<m/\W (i+1) I l r)/\∀x r,(Ob K a).ui i H x r->g x σ r λj t=>C (D.lp N) j t):=by
 refine{λi m σ H=>m=xs.length-i/\i<=xs.length/\Pv i σ H,{xs.length,by simp,waz _,h0},?_};rintro i m σ H ⟨rfl,hi,p⟩;have q:=hl i σ H hi p
 by_cases b:i<xs.length
 .refine .inr {{xs,xs[i],q,by simp[b]},Pv (i+1),λl r c=>{xs.length-(i+1),by lia,rfl,b,c},λx r y=>?_};obtain⟨e,y⟩:=y;subst e;exact hs i x σ _ (y xs q) p
 .have e:i=xs.length:=by lia
  subst e;exact .inl {{xs,q,waa _},hd σ H p}
theorem cw{lo:Int}{n:Nat}{g:TG}{C:TS}{D:Ends}{σ:St}{H:Hp}(Pv:Nat->St->Hp->Prop)(h0:Pv 0 σ H)
 (hs:∀i σ H,i<n->Pv i σ H->g (.int (lo+i)) σ H λj t=>C (D.lp (Pv (i+1))) j t) (hd:∀σ H,Pv n σ H->D.nx σ H) :
 ∃W:Nat->Nat->St->Hp->Prop,(∃m,W 0 m σ H)/\∀i m σ H,W i m σ H ->
  ((L8 lo n).stop i H/\D.nx σ H)\/((L8 lo n).go i H/\∃N:St->Hp->Prop,(∀l r,N l r->∃I,I<m/\W (i+1) I l r)/\∀x r,(L8 lo n).ui i H x r->g x σ r λj t=>C (D.lp N) j t):=by
 refine{λi m σ H=>m=n-i/\i<=n/\Pv i σ H,{n,by simp,waz _,h0},?_};rintro i m σ H ⟨rfl,hi,p⟩
 by_cases a:i<n
 .refine .inr {a,Pv (i+1),λl r b=>{n-(i+1),by lia,rfl,a,b},λx r y=>?_};obtain⟨e,y⟩:=y;subst e y;exact hs i σ _ a p
 .have e:i=n:=by lia
  subst e;exact .inl {waa _,hd σ H p}
noncomputable abbrev R2:=V->V->Hp->VK->Prop
def kQ(X:Cx)(f:Value->Value->Sem Value)(r:R2):Prop:=
 ∀(pins:List (Addr×Obj)) (s:Shared) (σ:St) (H:Hp) (x y:V) (v u:Value) (Q:VK),Inv X pins σ H s->RelV x v->RelV y u->r x y H Q ->
  wpAny (model X.prog X.w) X.A (f v u) (EP X pins σ Q) X.xe s
def SJ(X:Cx)(f:Value->Sem Value)(r:V->Hp->VK->Prop):Prop:=
 ∀(pins:List (Addr×Obj)) (s:Shared) (σ:St) (H:Hp) (x:V) (v:Value) (Q:VK),Inv X pins σ H s->RelV x v->r x H Q ->
  wpAny (model X.prog X.w) X.A (f v) (EP X pins σ Q) X.xe s
def dj(X:Cx)(f:Value)(r:List V->Hp->VK->Prop):Prop:=
 ∀(pins:List (Addr×Obj)) (s:Shared) (σ:St) (H:Hp) (xs:List V) (us:List Value) (Q:VK),Inv X pins σ H s->Vals xs us->r xs H Q ->
  wpAny (model X.prog X.w) X.A (call f us) (EP X pins σ Q) X.xe s
def OY(r:R2)(ta tb:TE):TE:=λσ H Q=>ta σ H λx H1=>tb σ H1 λy H2=>r x y H2 Q
def XU(r:V->Hp->VK->Prop)(ta:TE):TE:=λσ H Q=>ta σ H λx H1=>r x H1 Q
inductive rI(C:Int->Int->Prop)(g:Int->Int->V)(x y:V)(H:Hp)(Q:VK):Prop
 |mk (i j) (_:x=.int i) (_:y=.int j) (_:C i j) (_:Q (g i j) H)
inductive La(g:Int->Int->V)(x y:V)(H:Hp)(Q:VK):Prop
 |mk (i j) (_:x=.int i) (_:y=.int j) (_:Q (g i j) H)
inductive rU(g:Int->V)(x:V)(H:Hp)(Q:VK):Prop
 |mk (i) (_:x=.int i) (_:Q (g i) H)
section
variable{X:Cx}{a b c:Expr}{ta tb tc:TE}{pos:Pos}
theorem Mq(ha:PE X a ta)(C:PE X b tb){R:V->V->Hp->Prop}(I:Inv X g σ H s)
 (h:ta σ H λx t=>tb σ t λy j=>R x y j) {Q:Value->Shared->Prop} {f:Value->Value->Sem Value}
 (J:∀v u r x y j,Inv X g σ j r->RelV x v->RelV y u->R x y j->wpAny (model X.prog X.w) X.A (f v u) Q X.xe r) :
 wpAny (model X.prog X.w) X.A (eval a X.env) (λv l=>wpAny (model X.prog X.w) X.A (eval b X.env) (λu p=>wpAny (model X.prog X.w) X.A (f v u) Q X.xe p) X.xe l) X.xe s:=by
 refine bO (ha g s σ H _ I h) λv c ⟨x,t,d,e,i⟩=>?_;refine bO (C g c σ t _ d i) λu r ⟨y,j,k,m,n⟩=>?_;exact J v u r x y j k e m n
theorem aC(g:kQ X (binaryOp op) r)(ha:PE X a ta)(j:PE X b tb):PE X (.BinOp a op b pos) (OY r ta tb):=by
 refine{?_};intro c s σ H Q I h;exact wpAny_BinOp (Mq ha j I h λv u d x y e f i k q=>g c d σ e x y v u Q f i k q)
theorem OZ{r:V->Hp->VK->Prop}(g:SJ X (unaryOp op) r)(ha:PE X a ta):PE X (.UnaryOp op a pos) (XU r ta):=by
 refine{?_};intro b s σ H Q I h;exact UnaryOp_ (bO (ha b s σ H _ I h) λv c ⟨x,d,e,f,i⟩=>g b c σ d x v Q e f i)
theorem Rw{f:Value->Value->Sem Value}{C:Int->Int->Prop}{g:Int->Int->Int}
 (rule:∀(i j:Int) (t u:Tok) (s:Shared) (Q:Value->Shared->Prop) (E:Value->Shared->Prop),C i j->Q (.int (g i j) s.toks) {s with toks:=s.toks+1}->wpAny (model X.prog X.w) X.A (f (.int i t) (.int j u)) Q E s) :
 kQ X f (rI C λi j=>.int (g i j)):=by
 intro a s σ H x y v u Q I b c h;obtain⟨i,j,rfl,rfl,hc,q⟩:=h;obtain⟨t,rfl⟩:=b;obtain⟨d,rfl⟩:=c;exact rule i j t d s _ _ hc {.int (g i j),H,I.tok _,{_,rfl},q}
theorem P0{f:Value->Value->Sem Value}{g:Int->Int->Int}
 (rule:∀(i j:Int) (t u:Tok) (s:Shared) (Q:Value->Shared->Prop) (E:Value->Shared->Prop),Q (.int (g i j) s.toks) {s with toks:=s.toks+1}->wpAny (model X.prog X.w) X.A (f (.int i t) (.int j u)) Q E s) :
 kQ X f (La λi j=>.int (g i j)):=by
 intro a s σ H x y v u Q I b c h;obtain⟨i,j,rfl,rfl,q⟩:=h;obtain⟨t,rfl⟩:=b;obtain⟨d,rfl⟩:=c;exact rule i j t d s _ _ {.int (g i j),H,I.tok _,{_,rfl},q}
theorem Jl{f:Value->Value->Sem Value}{g:Int->Int->Bool}
 (rule:∀(i j:Int) (t u:Tok) (s:Shared) (Q:Value->Shared->Prop) (E:Value->Shared->Prop),Q (.bool (g i j)) s->wpAny (model X.prog X.w) X.A (f (.int i t) (.int j u)) Q E s) :
 kQ X f (La λi j=>.bl (g i j)):=by
 intro a s σ H x y v u Q I b c h;obtain⟨i,j,rfl,rfl,q⟩:=h;obtain⟨t,rfl⟩:=b;obtain⟨d,rfl⟩:=c;exact rule i j t d s _ _ {.bl (g i j),H,I,rfl,q}
def SK(i j:Int):Prop:=0<j/\j<1073741824
def Jm(i j:Int):Prop:=(-(2^64)<i/\i<2^64)\/(-(2^64)<j/\j<2^64)
theorem Jm.ok{i j:Int}(h:Jm i j):IntMulOk i j:=by
 rcases h with⟨a,b⟩ |⟨a,b⟩
 .exact .of_left (intBits_le_64 a b)
 .exact .of_right (intBits_le_64 a b)
theorem bu:kQ X (binaryOp .Add) (La λi j=>.int (i+j)):=P0 λ_ _ _ _ _ _ _ q=>add_int q
theorem gk:kQ X (binaryOp .Sub) (La λi j=>.int (i-j)):=P0 λ_ _ _ _ _ _ _ q=>sub_int q
theorem dW:kQ X (binaryOp .Mult) (rI Jm λi j=>.int (i*j)):=Rw λ_ _ _ _ _ _ _ hc q=>mul_int q hc.ok
theorem iN:kQ X (binaryOp .FloorDiv) (rI SK λi j=>.int (i/j)):=Rw λi j _ _ _ _ _ hc q=>by
 have a:(0:Int)<j:=hc.1;have b:j<1073741824:=hc.2;exact floordiv_int () (by rw[Int.fdiv_eq_ediv_of_nonneg i ()];exact q) (.inl (wga ()))
theorem cN:kQ X (binaryOp .Mod) (rI (λ_ j=>0<j) λi j=>.int (i%j)):=Rw λi j _ _ _ _ _ hc q=>by
 have a:(0:Int)<j:=hc;exact mod_int' (by lia) (by rw[Int.fmod_eq_emod_of_nonneg i (by lia)];exact q)
theorem XV{f:Value->Sem Value}{g:Int->Int}
 (rule:∀(i:Int) (t:Tok) (s:Shared) (Q:Value->Shared->Prop) (E:Value->Shared->Prop),Q (.int (g i) s.toks) {s with toks:=s.toks+1}->wpAny (model X.prog X.w) X.A (f (.int i t)) Q E s) :
 SJ X f (rU λi=>.int (g i)):=by
 intro a s σ H x v Q I b h;obtain⟨i,rfl,q⟩:=h;obtain⟨t,rfl⟩:=b;exact rule i t s _ _ {.int (g i),H,I.tok _,{_,rfl},q}
theorem Mr:SJ X (unaryOp .USub) (rU λi=>.int (-i)):=XV λ_ _ _ _ _ q=>neg_int q
end
noncomputable def P4:V->V->Bool
 |.non,.non=>true |.non,.int _=>true |.int _,.non=>true |.non,.bl _=>true |.bl _,.non=>true |.non,.str _=>true |.str _,.non=>true
 |.int _,.int _=>true |.bl _,.bl _=>true |.str _,.str _=>true |.byt _,.byt _=>true
 |.int _,.str _=>true |.str _,.int _=>true |.bl _,.str _=>true |.str _,.bl _=>true
 |_,_=>false
inductive XW(x y:V)(H:Hp)(Q:VK):Prop
 |mk (_:P4 x y=true) (_:Q (.bl (decide (x=y))) H)
inductive XX(x y:V)(H:Hp)(Q:VK):Prop
 |mk (_:P4 x y=true) (_:Q (.bl (!decide (x=y))) H)
theorem D2:decide (V.int i=V.int j)=(i==j):=by
 rw[weC];simp
theorem G8:decide (V.bl i=V.bl j)=(i==j):=by
 rw[weC];simp
theorem D3:decide (V.str i=V.str j)=(i==j):=by
 rw[weC];simp
theorem D4:decide (V.byt i=V.byt j)=(i.toList==j.toList):=by
 rw[weC];cases i;cases j;simp
section
variable{X:Cx}{a b c:Expr}{ta tb tc:TE}{pos:Pos}
theorem bH(I:Inv X g σ H s)(q:Q (.bl k) H)(e:k=j):EP X g σ Q (.bool j) s:=by
 subst e;exact{.bl k,H,I,rfl,q}
theorem rJ:kQ X (wbc .Eq) XW:=by
 intro e s σ H x y v u Q I d a h;obtain⟨c,q⟩:=h
 cases x with
 |non=>
  cases d
  cases y with
  |non=>cases a;exact PySem.EqNone.eq_none_none (bH I q (by simp))
  |bl j=>cases a;exact PySem.EqNone.eq_none_bool (bH I q (by simp))
  |int j=>obtain⟨b,rfl⟩:=a;exact PySem.EqNone.eq_none_int (bH I q (by simp))
  |str j=>obtain⟨b,rfl⟩:=a;exact PySem.EqNone.eq_none_str (bH I q (by simp))
  |_=>exact absurd (show false=true from c) wan
 |bl i=>
  cases d
  cases y with
  |non=>cases a;exact PySem.EqNone.eq_bool_none (bH I q (by simp))
  |bl j=>cases a;exact eq_bool (bH I q G8)
  |str j=>obtain⟨b,rfl⟩:=a;exact PySem.EqMixed.eq_bool_str (bH I q (by simp))
  |_=>exact absurd (show false=true from c) wan
 |int i=>
  obtain⟨t,rfl⟩:=d
  cases y with
  |non=>cases a;exact PySem.EqNone.eq_int_none (bH I q (by simp))
  |int j=>obtain⟨b,rfl⟩:=a;exact eq_int (bH I q D2)
  |str j=>obtain⟨b,rfl⟩:=a;exact PySem.EqMixed.eq_int_str (bH I q (by simp))
  |_=>exact absurd (show false=true from c) wan
 |str i=>
  obtain⟨t,rfl⟩:=d
  cases y with
  |non=>cases a;exact PySem.EqNone.eq_str_none (bH I q (by simp))
  |bl j=>cases a;exact PySem.EqMixed.eq_str_bool (bH I q (by simp))
  |int j=>obtain⟨b,rfl⟩:=a;exact PySem.EqMixed.eq_str_int (bH I q (by simp))
  |str j=>obtain⟨b,rfl⟩:=a;exact eq_str (bH I q D3)
  |_=>exact absurd (show false=true from c) wan
 |byt i=>
  obtain⟨t,rfl⟩:=d
  cases y with
  |byt j=>obtain⟨b,rfl⟩:=a;exact PySem.W.eq_bytes (bH I q D4)
  |_=>exact absurd (show false=true from c) wan
 |_=>cases y<;>exact absurd (show false=true from c) wan
theorem zJ:kQ X (wbc .NotEq) XX:=by
 intro e s σ H x y v u Q I d a h;obtain⟨c,q⟩:=h
 cases x with
 |non=>
  cases d
  cases y with
  |non=>cases a;exact PySem.EqNone.ne_none_none (bH I q (by simp))
  |bl j=>cases a;exact PySem.EqNone.ne_none_bool (bH I q (by simp))
  |int j=>obtain⟨b,rfl⟩:=a;exact PySem.EqNone.ne_none_int (bH I q (by simp))
  |str j=>obtain⟨b,rfl⟩:=a;exact PySem.EqNone.ne_none_str (bH I q (by simp))
  |_=>exact absurd (show false=true from c) wan
 |bl i=>
  cases d
  cases y with
  |non=>cases a;exact PySem.EqNone.ne_bool_none (bH I q (by simp))
  |bl j=>cases a;exact ne_bool (bH I q (congrArg not G8))
  |str j=>obtain⟨b,rfl⟩:=a;exact PySem.EqMixed.ne_bool_str (bH I q (by simp))
  |_=>exact absurd (show false=true from c) wan
 |int i=>
  obtain⟨t,rfl⟩:=d
  cases y with
  |non=>cases a;exact PySem.EqNone.ne_int_none (bH I q (by simp))
  |int j=>obtain⟨b,rfl⟩:=a;exact ne_int (bH I q (congrArg not D2))
  |str j=>obtain⟨b,rfl⟩:=a;exact PySem.EqMixed.ne_int_str (bH I q (by simp))
  |_=>exact absurd (show false=true from c) wan
 |str i=>
  obtain⟨t,rfl⟩:=d
  cases y with
  |non=>cases a;exact PySem.EqNone.ne_str_none (bH I q (by simp))
  |bl j=>cases a;exact PySem.EqMixed.ne_str_bool (bH I q (by simp))
  |int j=>obtain⟨b,rfl⟩:=a;exact PySem.EqMixed.ne_str_int (bH I q (by simp))
  |str j=>obtain⟨b,rfl⟩:=a;exact ne_str (bH I q (congrArg not D3))
  |_=>exact absurd (show false=true from c) wan
 |byt i=>
  obtain⟨t,rfl⟩:=d
  cases y with
  |byt j=>obtain⟨b,rfl⟩:=a;exact PySem.W.ne_bytes (bH I q (congrArg not D4))
  |_=>exact absurd (show false=true from c) wan
 |_=>cases y<;>exact absurd (show false=true from c) wan
theorem iO:kQ X (wbc .Lt) (La λi j=>.bl (decide (i<j))):=Jl λ_ _ _ _ _ _ _ q=>lt_int q
theorem G9:kQ X (wbc .LtE) (La λi j=>.bl (decide (i<=j))):=Jl λ_ _ _ _ _ _ _ q=>le_int q
theorem lV:kQ X (wbc .Gt) (La λi j=>.bl (decide (j<i))):=Jl λ_ _ _ _ _ _ _ q=>gt_int q
theorem D5:kQ X (wbc .GtE) (La λi j=>.bl (decide (j<=i))):=Jl λ_ _ _ _ _ _ _ q=>ge_int q
theorem xj:kQ X (wbc .In) (λx y H Q=>∃i j,x=.str i/\y=.str j/\Q (.bl (!(wd4 j i 0 j.length 1).isEmpty)) H):=by
 intro a s σ H x y v u Q I b c h;obtain⟨i,j,rfl,rfl,q⟩:=h;obtain⟨t,rfl⟩:=b;obtain⟨d,rfl⟩:=c;exact in_str (bH I q rfl)
theorem yx:kQ X (wbc .Is) (λx y H Q=>y=.non/\Q (.bl (decide (x=.non))) H):=by
 intro a s σ H x y v u Q I b c h;obtain⟨rfl,q⟩:=h;cases c;refine is_none_gen (bH I q ?_)
 cases x<;>first
  |(cases b;rfl)
  |(obtain⟨t,rfl⟩:=b;rfl)
theorem oY:kQ X (wbc .IsNot) (λx y H Q=>y=.non/\Q (.bl (!decide (x=.non))) H):=by
 intro a s σ H x y v u Q I b c h;obtain⟨rfl,q⟩:=h;cases c;refine isnot_none_gen (bH I q ?_)
 cases x<;>first
  |(cases b;rfl)
  |(obtain⟨t,rfl⟩:=b;rfl)
theorem oh(b:Expr)(h:op≠.In:=by decide)(g:op≠.NotIn:=by decide):wd8 op b=false:=by
 have a:(op==CmpOp.In)=false:=by grind
 have c:(op==CmpOp.NotIn)=false:=by grind
 cases b<;>simp[wd8,a,c]
theorem hV(g:kQ X (wbc op) r)(ha:PE X a ta)(j:PE X b tb)(l:wd8 op b=false):PE X (.Compare a [op] [b] pos) (OY r ta tb):=by
 refine{?_};intro c s σ H Q I h;exact wpAny_Compare1 (Mq ha j I h λv u d x y e f i k q=>g c d σ e x y v u Q f i k q) l
def Ga(t:TE):TT:=λσ H Q=>t σ H λx H'=>Vr x H' Q
theorem eZ(g:kQ X (wbc op) r)(ha:PE X a ta)(j:PE X b tb)(l:wd8 op b=false):PT X (.Compare a [op] [b] pos) (Ga (OY r ta tb)):=by
 refine{?_};intro d s σ H Q I h
 refine wgn (bO (ha d s σ H _ I h) λv f ⟨x,i,m,n,o⟩=>bO (j d f σ i _ m o) λu p ⟨y,q,t,w,A⟩=>
  bO (g d p σ q x y v u _ t n w A) λc G ⟨z,B,C,D,k,e,E⟩=>?_) l
 subst e;cases D;exact wbt ⟨B,C,E⟩
def Ms(r r':R2)(ta tb tc:TE):TE:=λσ H Q=>ta σ H λx H1=>tb σ H1 λy H2=>r x y H2 λz H3=>∃k,z=.bl k /\
 (if k=true then tc σ H3 λw' H4=>r' y w' H4 Q else Q (.bl false) H3)
theorem zK(p:kQ X (wbc op) r)(j:kQ X (wbc g) t)(ha:PE X a ta)(C:PE X b tb)(hc:PE X c tc)
 (J:lastMarks [op,g] [b,c]=false:=by with_unfolding_all rfl):PT X (.Compare a [op,g] [b,c] pos) (Ga (Ms r t ta tb tc)):=by
 refine{?_};intro f s σ H Q I h
 refine isTrue_chain (bO (ha f s σ H _ I h) λv o ⟨x,q,w,A,B⟩=>test_link (bO (C f o σ q _ w B) λu D ⟨y,E,G,i,L⟩=>
  bO (p f D σ E x y v u _ G A i L) λd M ⟨z,l,m,N,k,e,n⟩=>?_)) J
 subst e;cases N;refine wbt ?_
 cases k with
 |false=>
  obtain⟨k',O,R⟩:=n;cases O;exact ite_ff ⟨l,m,R⟩
 |true=>
  refine ite_tt (test_last (bO (hc f M σ l _ m n) λS T ⟨U,V,Y,Z,q4⟩=>bO (j f T σ V y U u S _ Y i Z q4) λd' s5 ⟨z2,H5,I5,r5,k2,e2,q5⟩=>?_));subst e2;cases r5;exact wbt ⟨H5,I5,q5⟩
theorem oi:(sizeLine:Nat)<2^63:=by rw[wc4];decide
theorem ia:kQ X (binaryOp .Add) (λx y H Q=>∃i j,x=.str i/\y=.str j/\i.length+j.length<=sizeLine/\Q (.str (i++j)) H):=by
 intro a s σ H x y v u Q I b c h;obtain⟨i,j,rfl,rfl,d,q⟩:=h;obtain⟨t,rfl⟩:=b;obtain⟨e,rfl⟩:=c;exact add_str (λe f=>{.str (i++j),H,I.tok _,{_,rfl},q}) d
theorem zL:kQ X (inplaceOp .Add) (λx y H Q=>∃i j,x=.str i/\y=.str j/\i.length+j.length<=sizeLine/\Q (.str (i++j)) H):=by
 intro a s σ H x y v u Q I b c h;obtain⟨i,j,rfl,rfl,d,q⟩:=h;obtain⟨t,rfl⟩:=b;obtain⟨e,rfl⟩:=c;exact iadd_str (λe f=>{.str (i++j),H,I.tok _,{_,rfl},q}) d
theorem vals1(r:Vals [x] us):∃u,us=[u]/\RelV x u:=by
 cases r with
 |cons a b=>cases b;exact{_,rfl,a}
theorem vals2(r:Vals [x,y] us):∃u g,us=[u,g]/\RelV x u/\RelV y g:=by
 cases r with
 |cons a b=>
  cases b with
  |cons c d=>cases d;exact{_,_,rfl,a,c}
theorem xk(hc:X.calm=true):dj X (.builtin "max") (λxs H Q=>∃i j,xs=[.int i,.int j]/\Q (.int (if j>i then j else i)) H):=by
 intro b s σ H xs c Q I r h;obtain⟨i,j,rfl,q⟩:=h;obtain⟨u,d,rfl,⟨t,rfl⟩,⟨e,rfl⟩⟩:=vals2 r;refine max_two_ints (I.ok.hd hc) λf g k=>{_,H,I.kept k,?_,q}
 by_cases a:j>i
 .rw[if_pos a,if_pos a];exact{_,rfl}
 .rw[if_neg a,if_neg a];exact{_,rfl}
theorem qH(hc:X.calm=true):dj X (.builtin "min") (λxs H Q=>∃i j,xs=[.int i,.int j]/\Q (.int (if j<i then j else i)) H):=by
 intro b s σ H xs c Q I r h;obtain⟨i,j,rfl,q⟩:=h;obtain⟨u,d,rfl,⟨t,rfl⟩,⟨e,rfl⟩⟩:=vals2 r;refine min_two_ints (I.ok.hd hc) λf g k=>{_,H,I.kept k,?_,q}
 by_cases a:j<i
 .rw[if_pos a,if_pos a];exact{_,rfl}
 .rw[if_neg a,if_neg a];exact{_,rfl}
end
structure Bk(h:Heap)(x dx C:Addr)(mA:Str->Option Value):Prop where
 obj:h.get? x=some (wcu C dx)
 ns:h.Ns1 dx mA
 ne:dx≠x
theorem E4{h:Heap}{g:Addr}{j:Str->Option Value}(n:h.Ns1 g j):∃l,h.get? g=some l/\∀name,weT name l=some (j name):=by
 obtain⟨o,c,m,d,hd,hk,_,f⟩:=n;refine{o,d,λname=>?_};have e:=f name;unfold nsFind findBy at e;rw[<-Array.find?_toList]at e;unfold weT;rw[hd];dsimp only;split
 .rename_i y q;rw[q]at e;exact congrArg some e
 .rename_i q;rw[q]at e
  have a:c.toList.any (·.refKey)=false:=by
   rw[whp];intro y i;obtain⟨z,t,b⟩:=hk y (Array.mem_toList_iff.mp i);simp[DictEntry.refKey,b]
  have k:¬c.toList.any (·.refKey)=true:=by rw[a];exact wan
  rw[if_neg k];exact congrArg some e
theorem Bk.look{h:Heap}{x j C:Addr}{l:Str->Option Value}(I:Bk h x j C l):∃g,PySem.W.InstAt h x (wcu C j) C (some g)/\∀name,weT name g=some (l name):=
 let ⟨g,a,hl⟩:=E4 I.ns
 {g,⟨I.obj,rfl,rfl,a⟩,hl}
section
variable{prog:waq}{w:World}{A:Around}{E:Value->Shared->Prop}{s:Shared}{K:wa2}{x dx C f:Addr}{mA:Str->Option Value}{name:Str}{v:Value}
theorem get_map{Q:Value->Shared->Prop}(X:K.In s.heap)(I:Bk s.heap x dx C mA)(j:weo K C name=true)(l:wfb K C=true)
 (ha:wbk K (.ref C) name=some none) (p:mA name=some v) (g:whK v=true) (h:Q v {s with toks:=s.toks+1}) :
 wpAny (model prog w) A (getAttr (.ref x) name expr) Q E s:=by
 obtain⟨a,J,hl⟩:=I.look;exact PySem.W.get_value X J (weN j).1 (PySem.W.findObj_own l ha rfl (by rw[hl,p])) g h
theorem Gb{Q:Value×List Value->Shared->Prop}(X:K.In s.heap)(I:Bk s.heap x dx C mA)(g:weo K C name=true)
 (j:wbk K (.ref C) name=some (some (.ref f))) (l:wft K (.ref f)=true) (p:mA name=none) (h:Q (.ref f,[.ref x]) s) :
 wpAny (model prog w) A (wes (.ref x) name pl) Q E s:=by
 obtain⟨a,J,hl⟩:=I.look;exact PySem.W.method_fn X J (weN g).1 (weN g).2 j (beq_iff_eq.mp l) (by show (weT name a).map (·.isSome)=some false;rw[hl,p];rfl) h
theorem Jn{Q:Unit->Shared->Prop}(X:K.In s.heap)(I:Bk s.heap x dx C mA)
 (hs:wbk K (.ref C) "__setattr__"=some (some (.builtin "object.__setattr__"))) (g:whq K C=true) (j:wg0 K C name=some none) (l:wfb K C=true)
 (hw:wdQ mA ns) (hsz:ns.length<=sizeLine)
 (h:∀h',Bk h' x dx C (λy=>if y=name then some v else mA y)->wfs dx s.heap h'->Q .unit {s with heap:=h',toks:=s.toks+2}) :
 wpAny (model prog w) A (setAttr (.ref x) name v) Q E s:=by
 obtain⟨p,J,hl⟩:=I.look;refine wfc X J hs (PySem.W.osa_open (s:={s with toks:=s.toks+1}) (r:=none) X J g j λb=>?_);obtain⟨q,hc,e⟩:=PySem.W.any_some l;have i:s.heap.get? x=some {.ref C,some dx,.plain,#[]}:=I.obj;refine wa7 (wax (wa7 (wa7 (wgo i (wa7 (wf1 (s:={s with toks:=s.toks+1}) (wea X hc) ?_))))));rw[e];refine wax (a:=some dx) (wa7 (wax (wa7 ?_)));refine wh8 (s:={s with toks:=s.toks+1}) I.ns λh' c d=>?_;obtain⟨t,k,m,f,n,o⟩:=c.count (wg1 name v hw);refine wa7 (wfu f (by grind [wfv,wak]) ?_);exact wax (h _ {(d.2 _ (wbu I.ne)).trans I.obj,c,I.ne} d)
theorem zM{R:wdd->Shared->Prop}(X:K.In s.heap)(l:whV K C=true)
 (hi:wbk K (.ref C) "__init__"=some (some (.ref f))) (p:PySem.W.typeIn K (.ref f)=some (.type "function"))
 (h:codeAny (model prog w) (A.under (.builtin "type.__call__" {.ref C::vs,j})) (.call (.ref f) {.ref (s.heap.objs.size+1)::vs,j}) (PySem.W.InitBack (s.heap.objs.size+1) R)
   {s with heap:=(s.heap.push wbS).push (wcu C s.heap.objs.size)}) :
 codeAny (model prog w) A (.call (.ref C) ⟨vs,j⟩) R s:=by
 obtain⟨a,g,d,t,os⟩:=s;exact PySem.W.make_core (PySem.W.makes_of X l) (weU X hi) (λself=>PySem.W.bind_fn X self p) (.inl rfl) h
end
noncomputable def cO(f:Str)(v:V):List (Str×V)->List (Str×V)
 |[]=>[(f,v)]
 |(g,x)::r=>if g=f then(g,v)::r else(g,x)::cO f v r
theorem aF(f g:Str)(v:V):∀fs:List (Str×V),(cO f v fs).lookup g=if g=f then some v else fs.lookup g
 |[]=>by
  show wgb g [(f,v)]=_
  by_cases h:g=f
  .grind
  .grind
 |(k,x)::r=>by
  have a:=aF f g v r;rw[show cO f v ((k,x)::r)=(if k=f then(k,v)::r else(k,x)::cO f v r) from rfl]
  by_cases hk:k=f
  .grind
  .grind
theorem qI(f:Str)(v:V):∀fs:List (Str×V),f∈(cO f v fs).map (·.1)/\∀g,g∈fs.map (·.1)->g∈(cO f v fs).map (·.1)
 |[]=>{by simp[cO],λg h=>by simp at h}
 |(k,x)::r=>by
  obtain⟨a,b⟩:=qI f v r;rw[show cO f v ((k,x)::r)=(if k=f then(k,v)::r else(k,x)::cO f v r) from rfl]
  by_cases hk:k=f
  .grind
  .grind
theorem rK(f:Str)(v:V):∀fs:List (Str×V),(cO f v fs).length<=fs.length+1
 |[]=>by simp[cO]
 |(k,x)::r=>by
  have a:=rK f v r;rw[show cO f v ((k,x)::r)=(if k=f then(k,v)::r else(k,x)::cO f v r) from rfl]
  by_cases hk:k=f
  .grind
  .grind
theorem jb.yy(r:jb (some v) o):∃u,o=some u/\RelV v u:=by
 cases o with
 |none=>exact(show False from r).elim
 |some u=>exact⟨u,rfl,r⟩
theorem jb.none_of(r:jb none o):o=none:=by grind [jb,cases False]
theorem E5(r:RelV v u):whK u=true:=by
 cases v with
 |non=>cases(show u=wbC from r);rfl
 |bl b=>cases(show u=wgF b from r);rfl
 |int i=>obtain⟨t,e⟩:=(show ∃t,u=wfX i t from r);cases e;rfl
 |str x=>obtain⟨t,e⟩:=(show ∃t,u=wfY x t from r);cases e;rfl
 |byt b=>obtain⟨t,e⟩:=(show ∃t,u=Value.bytes b t from r);cases e;rfl
 |flt b=>obtain⟨t,e⟩:=(show ∃t,u=whB b t from r);cases e;rfl
 |ref a=>cases(show u=wam a from r);rfl
 |ty n=>cases(show u=weA n from r);rfl
section
variable{P:waq}{w:World}{H H':Hp}{h h':Heap}{a C dx:Addr}{fs XM:List (Str×V)}
theorem tT(b7:jV P w H h)(e:H a=some (.ins C dx fs)):∃g,Bk h a dx C g/\(∀f,jb (fs.lookup f) (g f))/\wdQ g (fs.map (·.1))/\fs.length<=1000/\H dx=some (.own a):=by
 obtain⟨d,z,ne,ob,g,n,r,q⟩:=(show bW P w H h a (.ins C dx fs) from b7 a _ e);exact{g,⟨ob,n,ne⟩,r,q,z,d}
end
structure zN(K:wa2)(C:Addr):Prop where
 pg:weo K C Str.empty=true
 hd:wfb K C=true
 po:whq K C=true
 sa:wbk K (.ref C) "__setattr__"=some (some (.builtin "object.__setattr__"))
theorem zN.get{K:wa2}{C:Addr}(c:zN K C)(f:Str):weo K C f=true:=c.pg
def bU(K:wa2)(C:Addr)(f:Str):Prop:=wbk K (.ref C) f=some none
theorem bU.P5{K:wa2}{C:Addr}{f:Str}(n:bU K C f):wg0 K C f=some none:=by
 unfold wg0;rw[show wbk K (.ref C) f=some none from n];rfl
structure Jo(K:wa2)(C:Addr)(m:Str)(f:Addr):Prop where
 at_:wbk K (.ref C) m=some (some (.ref f))
 fn:wft K (.ref f)=true
 kp:wcW K (.ref f)=true
section
variable{X:Cx}{pins:List (Addr×Obj)}{σ:St}{H:Hp}{s:Shared}{a C dx:Addr}{fs:List (Str×V)}{f:Str}{v:V}{A:Around}{E:Value->Shared->Prop}
theorem Bl{Q:Value->Shared->Prop}(I:Inv X pins σ H s)(e:H a=some (.ins C dx fs))(c:zN X.K C)(n:bU X.K C f)(l:fs.lookup f=some v)
 (h:∀u s',Inv X pins σ H s'->RelV v u->Q u s'):wpAny (model X.prog X.w) A (getAttr (.ref a) f b) Q E s:=by
 obtain⟨g,O,r,_,_,_⟩:=tT I.b7 e;obtain⟨u,i,d⟩:=jb.yy (v:=v) (o:=g f) (by grind);exact get_map I.hU O (c.get f) c.hd n i (E5 d) (h u _ (I.tok _) d)
theorem um{Q:Value×List Value->Shared->Prop}(I:Inv X pins σ H s)(e:H a=some (.ins C dx fs))(c:zN X.K C)(k:Jo X.K C m g)(l:fs.lookup m=none)
 (h:Q (.ref g,[.ref a]) s):wpAny (model X.prog X.w) A (wes (.ref a) m pl) Q E s:=by
 obtain⟨b,O,r,_,_,_⟩:=tT I.b7 e;have hn:b m=none:=jb.none_of (by grind);exact Gb I.hU O (c.get m) k.at_ k.fn hn h
theorem Bm{Q:Unit->Shared->Prop}(I:Inv X pins σ H s)(e:H a=some (.ins C dx fs))(c:zN X.K C)(n:bU X.K C f)(hl:fs.length<1000)(l:RelV y u)
 (h:∀s',Inv X pins σ (upd H a (.ins C dx (cO f y fs))) s'->Q .unit s'):wpAny (model X.prog X.w) A (setAttr (.ref a) f u) Q E s:=by
 obtain⟨i,O,r,j,_,k⟩:=tT I.b7 e;have m:(fs.map (·.1)).length<=sizeLine:=by rw[wa0,wc4];lia
 refine Jn I.hU O c.sa c.po n.P5 c.hd j m λp d sb=>h _ ?_;have hd:∃o,p.get? dx=some o:=let ⟨o,_,_,t,_⟩:=d.ns;⟨o,t⟩
 refine I.write (x:=a) (e:=dx) (by rw[e];exact wbw) (.inr k) (λb q v z=>(sb.2 b v).trans z) hd ?_;refine{by rw[ae O.ne];exact k,?_,O.ne,d.obj,_,d.ns,λg=>?_,λg B=>?_}
 .have:=rK f y fs;lia
 .show jb ((cO f y fs).lookup g) (if g=f then some u else i g);rw[aF]
  by_cases q:g=f
  .rw[if_pos q,if_pos q];exact l
  .rw[if_neg q,if_neg q];exact r g
 .by_cases q:g=f
  .rw[q];exact(qI f y fs).1
  .refine(qI f y fs).2 g (j g λz=>B ?_);show (if g=f then some u else i g)=none;rw[if_neg q];exact z
theorem Inv.made(I:Inv X pins σ H s):Inv X pins σ (upd (upd H s.heap.objs.size (.own (s.heap.objs.size+1))) (s.heap.objs.size+1) (.ins C s.heap.objs.size []))
 {s with heap:=(s.heap.push wbS).push (wcu C s.heap.objs.size)}:=by
 have c:(s.heap.push wbS).get? s.heap.objs.size=some wbS:=wat s.heap rfl
 have d:((s.heap.push wbS).push (wcu C s.heap.objs.size)).get? (s.heap.objs.size+1)=some (wcu C s.heap.objs.size):=by
  have:=wat (s.heap.push wbS) (o:=wcu C s.heap.objs.size) rfl;rwa[wbO]at this
 have f:(s.heap.push wbS).Ns s.heap.objs.size (λ_=>none):={wbS,#[],_,c,rfl,(λe g=>absurd g (by simp)),λ_=>rfl};have h:=I.laid (a:=s.heap.objs.size) (o:=.own (s.heap.objs.size+1)) (h':=s.heap.push wbS) (t':=s.toks) (λb u q=>wa9 _ q) (waa _) {_,c};refine h.laid (a:=s.heap.objs.size+1) (o:=.ins C s.heap.objs.size []) (t':=s.toks) (λb u q=>wa9 _ q) (wdS (wbO _ _)) ?_;have ne:s.heap.objs.size≠s.heap.objs.size+1:=waw (wbL _);refine{by rw[ae ne,a6],waz _,ne,d,λ_=>none,(whr f).at λo q=>wa9 _ q,λ_=>wbw,λy i=>absurd rfl i}
theorem Jp{Q:Value->Shared->Prop}(j:wcA e f env (eval e env)=eval e env)
 (h:wpAny (model prog w) A (eval e env) (λo g=>wpAny (model prog w) A (getAttr o f true) Q E g) E s):wpAny (model prog w) A (eval (.Attribute e f pos) env) Q E s:=
 Attribute_any_ h (by rw[arm_eval_Attribute,j])
end
inductive XY(K:wa2)(f:Str)(x:V)(H:Hp)(Q:VK):Prop
 |mk (a C dx fs v) (_:x=.ref a) (_:H a=some (.ins C dx fs)) (_:zN K C) (_:bU K C f) (_:fs.lookup f=some v) (_:Q v H)
def P6(K:wa2)(ta:TE)(f:Str):TE:=λσ H Q=>ta σ H λx H1=>XY K f x H1 Q
def SM(K:wa2)(ta tv:TE)(f:Str):TS:=λD σ H=>tv σ H λy H1=>ta σ H1 λx H2=>∃a C dx fs,x=.ref a/\H2 a=some (.ins C dx fs)/\zN K C/\bU K C f/\fs.length<1000 /\
 D.nx σ (upd H2 a (.ins C dx (cO f y fs)))
section
variable{X:Cx}{o e value:Expr}{f:Str}{pos pos' SN:Pos}{ta tv:TE}
theorem az(he:PE X e ta)(g:wcA e f X.env (eval e X.env)=eval e X.env):PE X (.Attribute e f pos) (P6 X.K ta f):=by
 refine{?_};intro b s σ H Q I h;refine Jp g (bO (he b s σ H _ I h) λu p ⟨x,d,i,j,a,C,r,fs,v,ex,k,c,n,l,q⟩=>?_);subst ex;obtain rfl:u=wam a:=j;exact Bl i k c n l λt w m o=>⟨v,d,m,o,q⟩
theorem d1(ha:PE X o ta)(g:PE X value tv)(hs:wc7 value (some (.Attribute o f pos')) pos.line X.env=pure false):PS X (.Assign [.Attribute o f pos'] value pos) (SM X.K ta tv f):=by
 refine{?_};intro b s σ H D I h;refine wd2 (bO (g b s σ H _ I h) λu d ⟨y,e,i,j,q⟩=>bO (ha b d σ e _ i q) λk z m=>?_) hs;obtain⟨x,A,p,r,a,C,B,fs,ex,t,c,n,l,v⟩:=m;subst ex;obtain rfl:k=wam a:=r;exact Bm p t c n l j λE w=>{σ,_,w,v}
end
section
variable{X:Cx}{pins:List (Addr×Obj)}{σ:St}{H:Hp}{s:Shared}{A:Around}{E:Value->Shared->Prop}{Q:Value->Shared->Prop}{c:Value}{b:Bool}
set_option genInjectivity true in
inductive gE(K:wa2)(H:Hp):V->Value->Prop where
 |non:gE K H .non (.type "NoneType")
 |bl (x:Bool):gE K H (.bl x) (.type "bool")
 |int (i:Int):gE K H (.int i) (.type "int")
 |str (x:Str):gE K H (.str x) (.type "str")
 |flt (x:UInt64):gE K H (.flt x) (.type "float")
 |lst {a:Addr} {xs:List V} (e:H a=some (.lst xs)):gE K H (.ref a) (.type "list")
 |frz {a:Addr} {o:Obj} {xs:List V} (e:H a=some (.frz o (.lst xs))):gE K H (.ref a) (.type "list")
 |tup {a:Addr} {xs:List V} (e:H a=some (.tup xs)):gE K H (.ref a) (.type "tuple")
 |dK {a:Addr} {kvs:List (Key×V)} (e:H a=some (.dK kvs)):gE K H (.ref a) (.type "dict")
 |dT {a:Addr} {kvs:List (List Key×V)} (e:H a=some (.dT kvs)):gE K H (.ref a) (.type "dict")
 |ins {a C dx:Addr} {fs:List (Str×V)} (e:H a=some (.ins C dx fs)) (cl:zN K C) (ha:wbk K (.ref C) "__class__"=some (some (.builtin "object.__class__")))
   (hn:whm K (.builtin "object.__class__") "__get__"=some (some (.builtin "getset_descriptor.__get__"))) (qE:PySem.W.takesIn K (.builtin "object.__class__")=some true)
   (hm:PySem.W.mroIn K C (.type "object")=some true):gE K H (.ref a) (.ref C)
theorem E6(I:Inv X pins σ H s)(g:RelV x u)(ty:gE X.K H x t)(e:wgp X.K t c=some b)(h:∀tk,Q (.bool b) {s with toks:=tk}) :
 wpAny (model X.prog X.w) A (call (.builtin "isinstance") [u,c]) Q E s:=by
 cases ty with
 |non=>cases(show u=wbC from g);exact wbG PySem.W.kitx_none I.hU wbw e (λz=>nomatch z) h
 |bl y=>cases(show u=wgF y from g);exact wbG PySem.W.kitx_bool I.hU wbw e (λz=>nomatch z) h
 |int i=>obtain⟨t,q⟩:=(show ∃t,u=wfX i t from g);cases q;exact wbG PySem.W.kitx_int I.hU wbw e (λz=>nomatch z) h
 |str y=>obtain⟨t,q⟩:=(show ∃t,u=wfY y t from g);cases q;exact wbG PySem.W.kitx_str I.hU wbw e (λz=>nomatch z) h
 |flt y=>obtain⟨t,q⟩:=(show ∃t,u=whB y t from g);cases q;exact wbG PySem.W.kitx_float I.hU wbw e (λz=>nomatch z) h
 |@lst a k d=>
  cases(show u=wam a from g);obtain⟨_,_,n,_,f⟩:=(show bW X.prog X.w H s.heap a (.lst k) from I.b7 a _ d);exact wbG whs I.hU {_,f,rfl} e (λz=>nomatch z) h
 |@frz a ob k d=>
  cases(show u=wam a from g);obtain⟨_,_,_,n,_,f⟩:=(show bW X.prog X.w H s.heap a (.frz ob (.lst k)) from I.b7 a _ d);exact wbG whs I.hU {_,f,rfl} e (λz=>nomatch z) h
 |@tup a k d=>
  cases(show u=wam a from g);obtain⟨_,_,_,p⟩:=(show bW X.prog X.w H s.heap a (.tup k) from I.b7 a _ d);obtain⟨o,f,l,_⟩:=p;exact wbG PySem.W.kitx_tuple I.hU ⟨o,f,l⟩ e (λz=>nomatch z) h
 |@dK a j d=>
  cases(show u=wam a from g);obtain⟨_,_,B,_,p⟩:=(show bW X.prog X.w H s.heap a (.dK j) from I.b7 a _ d);obtain⟨o,m,r,f,l,_⟩:=p;exact wbG wht I.hU ⟨o,f,l.1⟩ e (λz=>nomatch z) h
 |@dT a j d=>
  cases(show u=wam a from g);obtain⟨_,_,k,_,o,m,r,f,l,_⟩:=(show bW X.prog X.w H s.heap a (.dT j) from I.b7 a _ d);exact wbG wht I.hU ⟨o,f,l.1⟩ e (λz=>nomatch z) h
 |@ins a C D fs d cl ha hn qE v=>
  cases(show u=wam a from g);obtain⟨G,O,_⟩:=tT I.b7 d;obtain⟨L,J,_⟩:=O.look;exact wbG (PySem.W.kitx_own (cl.get _) cl.hd ha hn qE v) I.hU J e (λz=>nomatch z) h
end
structure dJ(k:Nat)(A:Around):Prop where
 hd:A.handled=none
 dp:A.depth+3*k+5<recursionLimit
 un:A.units+16*k+200<wcp
theorem dJ.mono(r:dJ k A)(h:j<=k):dJ j A:={r.hd,by have:=r.dp;lia,by have:=r.un;lia}
theorem dJ.deeper(r:dJ (k+1) A)(env:Env):dJ k (A.deeper env):=
 {r.hd,by have:=r.dp;show A.depth+1+3*k+5<_;lia,by have:=r.un;show A.units+3+16*k+200<_;lia}
theorem Bn{A:Around}{C:Addr}{us:List Value}{g:List (Str×Value)}:(A.under (.builtin "type.__call__" {.ref C::us,g})).depth=A.depth+1:=by
 first |rfl |simp[wh9,Code.weight,Code.isCreation,Code.isGuard,Code.isCaller,Code.frames,wha,guardIds]
theorem Bo{A:Around}{C:Addr}{us:List Value}{g:List (Str×Value)}:(A.under (.builtin "type.__call__" {.ref C::us,g})).units=A.units+1:=by
 first |rfl |simp[wh9,Code.cUnits,Code.frames,wha]
theorem dJ.make(r:dJ (k+1) A)(C:Addr)(us:List Value)(g:List (Str×Value)):dJ k (A.under (.builtin "type.__call__" {.ref C::us,g})):=
 {r.hd,by have:=r.dp;rw[Bn];lia,by have:=r.un;rw[Bo];lia}
theorem dJ.depth(r:dJ k A):A.depth<recursionLimit:=by have:=r.dp;lia
theorem dJ.units(r:dJ k A):A.units+64<wcp:=by have:=r.un;lia
theorem dJ.oj(r:dJ k A):A.units<wcp:=by have:=r.un;lia
def yz:TA:=λ_ H Q=>Q [] H
def rL(ta:TE)(tr:TA):TA:=λσ H Q=>ta σ H λx H1=>tr σ H1 λxs H2=>Q (x::xs) H2
section
variable{X:Cx}{e:Expr}{es:List Expr}{te:TE}{t:TA}{pos:Pos}
theorem eC:PA X [] yz:={λ_ _ _ _ H Q I h=>wfd {[],H,I,.nil,h}}
theorem a8(ha:PE X e te)(g:PA X es t)(hs:starEach (e::es) X.env=(false,eval e X.env)::starEach es X.env:=by rfl):PA X (e::es) (rL te t):=by
 refine{?_};intro pos a s σ H Q I h;rw[hs];show wpAny _ _ (spliced ((false,eval e X.env)::backTo pos (starEach es X.env))) _ _ s;refine wde (bO (ha a s σ H _ I h) λu b ⟨x,c,d,f,i⟩=>?_);exact bO (g pos a b σ c _ d i) λo p ⟨j,k,l,m,n⟩=>{x::j,k,l,.cons f m,n}
inductive XZ(xs:List V)(H:Hp)(Q:VK):Prop
 |mk (_:xs.length<=sizeLine) (_:∀p,H p=none->Q (.ref p) (upd H p (.tup xs)))
def P7(t:TA):TE:=λσ H Q=>t σ H λxs H1=>XZ xs H1 Q
inductive Y0(xs:List V)(H:Hp)(Q:VK):Prop
 |mk (_:xs.length<=sizeLine) (_:∀p,H p=none->Q (.ref p) (upd H p (.lst xs)))
def P8(t:TA):TE:=λσ H Q=>t σ H λxs H1=>Y0 xs H1 Q
theorem dX{g}(h:PA X es t):PE X (.Tuple es g pos) (P7 t):=by
 refine{?_};intro a s σ H Q I i;refine wpAny_Tuple_spliced (bO (h pos a s σ H _ I i) λj c ⟨k,d,f,r,z,q⟩=>{by rw[<-r.length];exact z,?_});have l:d c.heap.objs.size=none:=f.b7.fresh (waa _);refine{.ref c.heap.objs.size,upd d c.heap.objs.size (.tup k),f.laid (t':=c.toks) (λb u e=>wa9 _ e) (waa _) ?_,rfl,q _ l};exact{z,j,r,{_,wat _ rfl,rfl,_,rfl}}
theorem cA(h:PA X es t):PE X (.List es pos) (P8 t):=by
 refine{?_};intro a s σ H Q I g;refine wpAny_List_spliced (bO (h pos a s σ H _ I g) λi c ⟨j,d,f,r,z,q⟩=>{by rw[<-r.length];exact z,?_});have k:d c.heap.objs.size=none:=f.b7.fresh (waa _);refine{.ref c.heap.objs.size,upd d c.heap.objs.size (.lst j),f.laid (t':=c.toks) (λb u e=>wa9 _ e) (waa _) ?_,rfl,q _ k};exact{z,i,0,r,wat _ rfl}
end
noncomputable abbrev Sp:=List V->Hp->VK->XK->Prop
noncomputable abbrev FO:=List Env->Hp->Shared->XK->Value->Shared->Prop
structure Bp(P:waq)(w:World)(K:wa2)(mg:Str->Option Value)(base:Heap)(A:Around)(outer:List Env)(s:Shared)(H:Hp):Prop where
 frames:A.frames=some outer
 mod:Mod K mg base
 bs:∀b o,base.get? b=some o->s.heap.get? b=some o/\H b=none
 FZ:base.objs.size<=s.heap.objs.size
 oU:s.heap.FunFrames base outer
 Ji:∀b∈rH outer,H b=none
 b7:jV P w H s.heap
 bare:AllBare s.gens
def CE(outer:List Env)(P:waq)(w:World)(H:Hp)(s:Shared)(Q:VK)(u:Value)(s':Shared):Prop:=
 ∃v H',s'.os=s.os/\AllBare s'.gens/\Un (rH outer) [] H H' s.heap s'.heap/\jV P w H' s'.heap/\RelV v u/\Q v H'
def CR(CX:FO)(outer:List Env)(P:waq)(w:World)(H:Hp)(s:Shared)(Q:VK)(E:XK)(r:wdd)(s':Shared):Prop:=
 match r with
 |.ok (.ret u)=>CE outer P w H s Q u s'
 |.ok _=>False
 |.error e=>CX outer H s E e s'
structure aS(P:waq)(w:World)(K:wa2)(mg:Str->Option Value)(base:Heap)(CX:FO)(k:Nat)(f:Addr)(fd:wb6)(ps:List Str)(sp:Sp):Prop where
 len:∀vs H Q E,sp vs H Q E->vs.length=ps.length
 run:∀(A:Around) (outer:List Env) (s:Shared) (H:Hp) (args:Args) (us:List Value) (vs:List V) (Q:VK) (E:XK),dJ k A->Bp P w K mg base A outer s H->BindsTo s fd args (ps.zip us)->Vals vs us->sp vs H Q E ->
  codeAny (model P w) A (.call (.ref f) args) (CR CX outer P w H s Q E) s
theorem Bp.make{P:waq}{w:World}{K:wa2}{mg:Str->Option Value}{base:Heap}{A:Around}{outer:List Env}{s:Shared}{H:Hp}(e:Bp P w K mg base A outer s H)(C:Addr)(us:List Value)(g:List (Str×Value)) :
 Bp P w K mg base (A.under (.builtin "type.__call__" {.ref C::us,g})) outer s H:={by first |exact e.frames |(simpa [wh9,Code.envs,wha,pushEnvs] using e.frames),e.mod,e.bs,e.FZ,e.oU,e.Ji,e.b7,e.bare}
section
variable{X:Cx}{pins:List (Addr×Obj)}{σ:St}{H:Hp}{s s':Shared}
theorem Inv.Jq(I:Inv X pins σ H s):Bp X.prog X.w X.K X.mg X.base X.A X.stack s H:=
 {I.ok.frames,I.ok.mod,I.bs,wak I.ok.FZ I.sz,I.stack,I.tQ,I.b7,I.bare}
theorem Inv.after(I:Inv X pins σ H s)(h:CE X.stack X.prog X.w H s Q u s'):EP X pins σ Q u s':=by
 obtain⟨v,c,os,bare,un,b7,r,q⟩:=h;obtain⟨e,g,d,t,a⟩:=s';obtain rfl:a=s.os:=os;exact{v,c,I.call (h':=e) (g':=g) (d':=d) (t':=t) (ch:=[]) un b7 bare (λb z=>absurd z (by simp)),r,q}
end
def Lb(sp:Sp)(wu:List V)(E:XK)(t:TA):TE:=λσ H Q=>t σ H λvs H1=>sp (vs++wu) H1 Q E
inductive Y1(C:Addr)(m:Str)(x:V)(H:Hp)(k:Prop):Prop
 |mk (a dx fs) (_:x=.ref a) (_:H a=some (.ins C dx fs)) (_:fs.lookup m=none) (_:k)
def D6(C:Addr)(m:Str)(sp:Sp)(wu:List V)(E:XK)(ta:TE)(t:TA):TE:=λσ H Q=>ta σ H λx H1=>Y1 C m x H1 (t σ H1 λvs H2=>sp (x::(vs++wu)) H2 Q E)
def P9(C:Addr)(sp:Sp)(wu:List V)(E:XK)(t:TA):TE:=λσ H Q=>t σ H λvs H1=>∀x dx,H1 x=none->H1 dx=none->dx≠x ->
 sp (.ref x::(vs++wu)) (upd (upd H1 dx (.own x)) x (.ins C dx [])) (λv H2=>v=.non/\Q (.ref x) H2) E
def Binds(K:wa2)(fd:wb6)(ps:List Str)(ds:List Value):Prop:=
 ∀(s:Shared) (us:List Value),K.In s.heap->(us++ds).length=ps.length->BindsTo s fd {us,[]} (ps.zip (us++ds))
theorem Binds.all{K:wa2}{fd:wb6}{ps:List Str}(h:∀us:List Value,us.length=ps.length->bindArgs fd {us,[]}=pure (ps.zip us)):Binds K fd ps []:=λs us _ hl=>by
 rw[waS]at hl ⊢;exact .of_eq (h us hl)
def Passes(CX:FO)(X:Cx)(E:XK):Prop:=∀(pins:List (Addr×Obj)) (σ:St) (H:Hp) (s:Shared) (e:Value) (s':Shared),Inv X pins σ H s->CX X.stack H s E e s'->X.xe e s'
section
variable{X:Cx}{CX:FO}{k:Nat}{f C:Addr}{fd:wb6}{ps:List Str}{sp:Sp}{wu:List V}{ds:List Value}{E:XK}{x m:Str}{p pos apos:Pos}{e o:Expr}{es:List Expr}{ta:TE}{t:TA}
theorem Bq(F:aS X.prog X.w X.K X.mg X.base CX k f fd ps sp)(j:dJ k X.A)(l:Binds X.K fd ps ds)(hd:Vals wu ds)(J:Passes CX X E)
 (I:Inv X g σ H s) (r:Vals vs us) (h:sp (vs++wu) H Q E):wpAny (model X.prog X.w) X.A (call (.ref f) us) (EP X g σ Q) X.xe s:=by
 have b:Vals (vs++wu) (us++ds):=r.append hd;have hl:(us++ds).length=ps.length:=by rw[<-b.length];exact F.len _ _ _ _ h
 refine wdf (wch (F.run X.A X.stack s H {us,[]} (us++ds) (vs++wu) Q E j I.Jq (l s us I.hU hl) b h) λr c a=>?_)
 cases r with
 |error e=>exact J g σ H s e c I a
 |ok fl=>
  cases fl with
  |ret u=>exact I.after a
  |next=>exact wb7 a
  |brk=>exact wb7 a
  |cont=>exact wb7 a
theorem jY(F:aS X.prog X.w X.K X.mg X.base CX k f fd ps sp)(j:dJ k X.A)(l:Gl X x)(J:X.mg x=some (.ref f))(hk:wcW X.K (.ref f)=true)(T:Binds X.K fd ps ds)(hd:Vals wu ds)(U:Passes CX X E)
 (ha:PA X (e::es) t) (g:(x==("__debug__":Str))=false:=by decide) (he:starEach (e::es) X.env=(false,eval e X.env)::starEach es X.env:=by rfl) (hpl:(backTo pos (starEach es X.env)).any (·.1)=false:=by rfl) :
 PE X (.Call (.Name x p) (e::es) [] pos) (Lb sp wu E t):=by
 refine{?_};intro a s σ H Q I h;refine wbx (gz I l J ?_ g);refine wcI (h₀:=X.base) I.ok.mod.L5 hk (bO (ha pos a s σ H _ I h) λc d ⟨i,m,b,r,q⟩=>{b.hU,?_}) he hpl;exact Bq F j T hd U b r q
theorem Jr(he:PE X o ta)(c:zN X.K C)(j:Jo X.K C m f)(F:aS X.prog X.w X.K X.mg X.base CX k f fd ps sp)(T:dJ k X.A)(U:Binds X.K fd ps ds)(hd:Vals wu ds)(hx:Passes CX X E)(ha:PA X (e::es) t)
 (g:starEach (e::es) X.env=(false,eval e X.env)::starEach es X.env:=by rfl) (hpl:(backTo pos (starEach es X.env)).any (·.1)=false:=by rfl)
 (ht:eval (.Call (.Attribute o m apos) (e::es) [] pos) X.env=(do
   let J <-eval o X.env
   standAt apos.atName
   let (f,first) <-holding [J] (wes J m pl)
   callWith pos f first (backTo pos (starEach (e::es) X.env)) (backToKw pos (wcH [] X.env))):=by rfl) :
 PE X (.Call (.Attribute o m apos) (e::es) [] pos) (D6 C m sp wu E ta t):=by
 refine{?_};intro b s σ H Q I h;refine wet (pl:=pl) (bO (he b s σ H _ I h) λu n ⟨x,p,d,v,a,B,fs,ex,y,l,q⟩=>?_) ht;subst ex;obtain rfl:u=wam a:=v;refine um d y c j l ?_;refine wcI (first:=[.ref a]) (h₀:=X.base) I.ok.mod.L5 j.kp (bO (ha pos b n σ p _ d q) λus D ⟨vs,G,i,r,z⟩=>{i.hU,?_}) g hpl;exact Bq (us:=.ref a::us) (vs:=.ref a::vs) F T U hd hx i (.cons rfl r) z
theorem Gd(he:PE X o ta)(c:zN X.K C)(g:Jo X.K C m f)(F:aS X.prog X.w X.K X.mg X.base CX k f fd ps sp)(r:dJ k X.A)(J:Binds X.K fd ps ds)(hd:Vals wu ds)(T:Passes CX X E)
 (U:eval (.Call (.Attribute o m apos) [] [] pos) X.env=(do
   let j <-eval o X.env
   standAt apos.atName
   let (f,first) <-holding [j] (wes j m pl)
   callWith pos f first (backTo pos (starEach [] X.env)) (backToKw pos (wcH [] X.env))):=by rfl) :
 PE X (.Call (.Attribute o m apos) [] [] pos) (D6 C m sp wu E ta yz):=by
 refine{?_};intro b s σ H Q I h;refine wet (pl:=pl) (bO (he b s σ H _ I h) λu n ⟨x,p,d,e,a,t,fs,ex,i,l,q⟩=>?_) U;subst ex;obtain rfl:u=wam a:=e;refine um d i c g l ?_;exact PySem.W.callWith_K0 (first:=[.ref a]) d.hU g.kp (Bq (us:=[.ref a]) (vs:=[.ref a]) F r J hd T d (.cons rfl .nil) q)
structure Mk(K:wa2)(C f:Addr):Prop where
 makes:whV K C=true
 init:wbk K (.ref C) "__init__"=some (some (.ref f))
 fn:wft K (.ref f)=true
 kp:wcW K (.ref C)=true
theorem Ge(M:Mk X.K C f)(F:aS X.prog X.w X.K X.mg X.base CX k f fd ps sp)(l:dJ (k+1) X.A)(J:Binds X.K fd ps ds)(hd:Vals wu ds)
 (T:Passes CX X E) (I:Inv X g σ H s) (r:Vals vs us)
 (h:∀x j,H x=none->H j=none->j≠x->sp (.ref x::(vs++wu)) (upd (upd H j (.own x)) x (.ins C j [])) (λv U=>v=.non/\Q (.ref x) U) E) :
 wpAny (model X.prog X.w) X.A (call (.ref C) us) (EP X g σ Q) X.xe s:=by
 have c:=h (s.heap.objs.size+1) s.heap.objs.size (I.b7.fresh (wc5 _)) (I.b7.fresh (waa _)) (waw (wbL _));have b:=Inv.made (C:=C) I;have d:Vals (V.ref (s.heap.objs.size+1)::(vs++wu)) (wam (s.heap.objs.size+1)::(us++ds)):=.cons rfl (r.append hd)
 have hl:(wam (s.heap.objs.size+1)::us++ds).length=ps.length:=by
  have e:=d.length;rw[F.len _ _ _ _ c]at e;exact e.symm
 refine wdf (zM (f:=f) I.hU M.makes M.init (beq_iff_eq.mp M.fn) (wch (F.run _ X.stack _ _ {wam (s.heap.objs.size+1)::us,[]} (wam (s.heap.objs.size+1)::(us++ds)) _ _ E (l.make C us [])
  (b.Jq.make C us []) (J _ (wam (s.heap.objs.size+1)::us) b.hU hl) d c) λr i a=>?_))
 cases r with
 |error e=>exact T g σ _ _ e i b a
 |ok fl=>
  cases fl with
  |ret u=>
   obtain⟨v,m,n,o,p,q⟩:=b.after a;subst p;exact{o,{V.ref (s.heap.objs.size+1),m,n,rfl,q}}
  |next=>exact wb7 a
  |brk=>exact wb7 a
  |cont=>exact wb7 a
theorem nh(M:Mk X.K C f)(F:aS X.prog X.w X.K X.mg X.base CX k f fd ps sp)(j:dJ (k+1) X.A)(l:Gl X x)(J:X.mg x=some (.ref C))(T:Binds X.K fd ps ds)(hd:Vals wu ds)(U:Passes CX X E)
 (ha:PA X (e::es) t) (g:(x==("__debug__":Str))=false:=by decide) (he:starEach (e::es) X.env=(false,eval e X.env)::starEach es X.env:=by rfl) (hpl:(backTo pos (starEach es X.env)).any (·.1)=false:=by rfl) :
 PE X (.Call (.Name x p) (e::es) [] pos) (P9 C sp wu E t):=by
 refine{?_};intro a s σ H Q I h;refine wbx (gz I l J ?_ g);refine wcI (h₀:=X.base) I.ok.mod.L5 M.kp (bO (ha pos a s σ H _ I h) λc d ⟨i,m,b,r,q⟩=>{b.hU,?_}) he hpl;exact Ge M F j T hd U b r q
end
abbrev Vu(X:Cx)(Mt:List wdr)(t:TA):Prop:=
 ∀(pos:Pos) (pins:List (Addr×Obj)) (s:Shared) (σ:St) (H:Hp) (Q:List V->Hp->Prop),Inv X pins σ H s->t σ H Q->wpAny (model X.prog X.w) X.A (evalAll ((backToKw pos (wcH Mt X.env)).map (·.2))) (AP X pins σ Q) X.xe s
structure PK(X:Cx)(Mt:List wdr)(t:TA):Prop where
 go:Vu X Mt t
instance {X:Cx} {Mt:List wdr} {t:TA}:CoeFun (PK X Mt t) λ_=>Vu X Mt t:=⟨PK.go⟩
section
variable{X:Cx}{CX:FO}{k:Nat}{f C:Addr}{fd:wb6}{ps ks:List Str}{sp:Sp}{E:XK}{x m:Str}{p pos apos Y2:Pos}{e o:Expr}{es:List Expr}{Mt:List wdr}{te ta:TE}{t tk:TA}{nm:Option Str}
variable{g:List Value->List Value->List Value}{gV:List V->List V->List V}
end
structure tU(N P:List Str)(sc:wdc):Prop where
 kind:sc.kind=.function
 co:sc.isCoroutine=false
 gen:sc.isGenerator=false
 nd:N.Nodup
 pre:N.take P.length=P
 par:∀x∈P,sc.names.lookup x=some .local\/sc.names.lookup x=some .cell
 Mu:∀y∈sc.names,y.2≠.free
theorem xm{kindOf:Str->Option wep}:∀{binds:List (Str×Value)} {m:Str->Option Value},(∀v,(x,v)∉binds)->bindL kindOf binds m x=m x
 |[],_,_=>rfl
 |(n,v)::r,m,h=>by
  unfold bindL;rw[xm λw hw=>h w (wac _ hw)];split
  .grind
  .rfl
theorem xn{kindOf:Str->Option wep}:∀{binds:List (Str×Value)} {m:Str->Option Value},(∀v,(x,v)∉binds)->bindC kindOf binds m x=m x
 |[],_,_=>rfl
 |(n,v)::r,m,h=>by
  unfold bindC;rw[xn λw hw=>h w (wac _ hw)];split
  .rfl
  .grind
theorem xo{kindOf:Str->Option wep}:∀{P:List Str} {vs:List Value} {i:Nat} {m:Str->Option Value},P.Nodup->P[i]?=some x->vs[i]?=some v->kindOf x=some .local ->
 bindL kindOf (P.zip vs) m x=some v
 |[],_,_,_,_,h,_,_=>by simp at h
 |_::_,[],_,_,_,_,h,_=>by simp at h
 |p::P,w::vs,0,m,nd,a,b,hk=>by
  simp at a b;subst a;subst b;show bindL kindOf ((p,w)::P.zip vs) m p=_;unfold bindL;rw[xm λv c=>(wbH.mp nd).1 (wg2 c).1,if_pos hk];simp
 |p::P,w::vs,i+1,m,nd,a,b,hk=>by
  show bindL kindOf ((p,w)::P.zip vs) m x=_;unfold bindL;exact xo (i:=i) (wbH.mp nd).2 (by simpa using a) (by simpa using b) hk
theorem xq{kindOf:Str->Option wep}:∀{P:List Str} {vs:List Value} {i:Nat} {m:Str->Option Value},P.Nodup->P[i]?=some x->vs[i]?=some v->kindOf x≠some .local ->
 bindC kindOf (P.zip vs) m x=some v
 |[],_,_,_,_,h,_,_=>by simp at h
 |_::_,[],_,_,_,_,h,_=>by simp at h
 |p::P,w::vs,0,m,nd,a,b,hk=>by
  simp at a b;subst a;subst b;show bindC kindOf ((p,w)::P.zip vs) m p=_;unfold bindC;rw[xn λv c=>(wbH.mp nd).1 (wg2 c).1,if_neg hk];simp
 |p::P,w::vs,i+1,m,nd,a,b,hk=>by
  show bindC kindOf ((p,w)::P.zip vs) m x=_;unfold bindC;exact xq (i:=i) (wbH.mp nd).2 (by grind) (by grind) hk
noncomputable def start(N:List Str)(vs:List V):St:=vs.map some++waj (N.length-vs.length) none
noncomputable def uo(CX:FO)(P:waq)(w:World)(K:wa2)(mg:Str->Option Value)(base:Heap)(N:List Str)(qual:Str)(scope:wdc)(f:Addr)(cd:Value)(A:Around)(outer:List Env)(s:Shared)(H:Hp)(E:XK):Cx where
 prog:=P
 w:=w
 K:=K
 mg:=mg
 base:=base
 A:=A.deeper (envOfC qual scope s.heap.objs.size f cd)
 N:=N
 s₀:=s
 H₀:=H
 env:=envOfC qual scope s.heap.objs.size f cd
 outer:=outer
 stack:=envOfC qual scope s.heap.objs.size f cd::outer
 ex:=[]
 calm:=true
 fn:=λ_=>true
 pn:=[]
 xe:=λe s'=>wpAny (model P w) (A.deeper (envOfC qual scope s.heap.objs.size f cd)) («leaving» (envOfC qual scope s.heap.objs.size f cd) e) (λ_ SQ=>CX outer H s E e SQ) (λe' SQ=>CX outer H s E e' SQ) s'
theorem zO{g:wdc}{n:Nat}{x:Str}(h:g.names.lookup x=some .cell):∃c,(cellsFrom n g.names []).lookup x=some c:=by
 have q:=wgc g.names n [] (.inl h);exact wfw.mp q
theorem E7{CX:FO}{P:waq}{w:World}{K:wa2}{mg:Str->Option Value}{base:Heap}{N ps:List Str}{g:Str}{scope:wdc}{f:Addr}{cd:Value}{A:Around}{outer:List Env}{s s1:Shared}{H:Hp}{E:XK}{us:List Value}{vs:List V}
 (S:tU N ps scope) (hd:A.handled=none) (j:Bp P w K mg base A outer s H) (hl:vs.length=ps.length) (r:Vals vs us)
 (x:InCallC s s.heap.objs.size (bindL (envOfC g scope s.heap.objs.size f cd).kindOf (ps.zip us) λ_=>none) (cellsFrom (s.heap.objs.size+1) scope.names []) (bindC (envOfC g scope s.heap.objs.size f cd).kindOf (ps.zip us) λ_=>none) s1) :
 Inv (uo CX P w K mg base N g scope f cd A outer s H E) [] (start N vs) H s1:=by
 have D:ps.length<=N.length:=by have:=congrArg wdI S.pre;rw[wag]at this;lia
 obtain⟨B,I,rfl,hk⟩:=x.done;have l:∀b:Addr,b∉(uo CX P w K mg base N g scope f cd A outer s H E).ex:=λb z=>absurd (show b∈([]:List Addr) from z) (by simp)
 refine{{j.mod,S.kind,rfl,rfl,waa _,λy z c B d=>?_,λy m=>?_,λy c _ h=>?_,λ_=>hd,Around.frames_deeper j.frames,.inr ⟨rfl,rfl⟩,λb z=>absurd z (l b),j.bs,j.FZ,λb _ _=>l b,λb z=>absurd z (l b),j.oU,j.Ji},
  rfl,j.bare,Un.kept hk,{_,x.toInCall.ns,λi y v B d J=>?_},λy c h=>{_,x.cell y c h},j.b7.fresh (waa _),λy c h=>?_,λp o=>absurd (show p∈([]:List (Addr×Obj)) from o) (by simp),j.b7.kept hk,?_}
 .exact name_of_addr x.apart (wcD B) (wcD d)
 .have m:scope.names.lookup y=some .cell\/scope.names.lookup y=some .free:=m;rcases m with m |m
  .exact zO m
  .exact absurd rfl (S.Mu _ (wcD m))
 .exact wfr (x.above y c (wcD h))
 .have hi:i<vs.length:=by
   unfold start at d
   by_cases hi:i<vs.length
   .exact hi
   .rw[waE (by simpa using hi)]at d;rw[List.getElem?_replicate]at d;split at d<;>cases d
  have ha:vs[i]?=some v:=by
   unfold start at d;rw[waF (by simpa using hi),wa4]at d
   cases e:vs[i]? with
   |none=>rw[e]at d;cases d
   |some a=>rw[e]at d;cases d;rfl
  obtain⟨u,C,G⟩:=r.get ha
  have o:ps[i]?=some y:=by
   rw[<-S.pre,wdT (by lia)];exact B
  have t:ps.Nodup:=by rw[<-S.pre];exact S.nd.sublist (wbn _ _)
  refine{u,G,?_};rcases S.par y (wa8 o) with k |k
  .exact .inl {k,xo t o C k}
  .obtain⟨c,e⟩:=zO (n:=s.heap.objs.size+1) k;refine .inr {.inl k,c,e,?_};have q:=x.cell y c e;rw[xq t o C (by show scope.names.lookup y≠_;rw[k];decide)]at q;exact q
 .exact j.b7.fresh (wfr (x.above y c (wcD h)))
 .unfold start;show _=N.length;rw[wa5,wa0,waP]
  lia
theorem Lc{CX:FO}{P:waq}{w:World}{K:wa2}{mg:Str->Option Value}{base:Heap}{k:Nat}{f:Addr}{name g:Str}{l:Arguments}{body:List Stmt}{scope:wdc}{dV kV C pm j ct oc:Value}{an od:Option Addr}
 {T:Array (Option Value)} {N ps:List Str} {sp:Sp} (lk:K.lookup f=some {oc,od,.func (wcx name g l body scope dV kV C pm an j ct),T}) (U:we6 K j g=true) (S:tU N ps scope)
 (len:∀vs H Q E,sp vs H Q E->vs.length=ps.length)
 (p:∀(A:Around) (outer:List Env) (s:Shared) (H:Hp) (vs:List V) (Q:VK) (E:XK),dJ k (A.deeper (envOfC g scope s.heap.objs.size f j))->sp vs H Q E ->
   ∃t,tR (uo CX P w K mg base N g scope f j A outer s H E) body t/\t (Ends.fn Q) (start N vs) H) :
 aS P w K mg base CX (k+1) f (wcx name g l body scope dV kV C pm an j ct) ps sp:=by
 refine{len,λA outer s H args O vs Q E z i R r m=>?_};have hl:=len _ _ _ _ m;have L:K.In s.heap:=i.mod.L5.keeps λb o e=>(i.bs b o e).1;have B:s.heap.NoLimit:=i.mod.nolimit.keeps λb o e=>(i.bs b o e).1
 have c:∀y∈ps.zip O,scope.names.lookup y.1=some .local\/(scope.names.lookup y.1=some .cell/\((cellsFrom (s.heap.objs.size+1) scope.names []).lookup y.1).isSome=true):=λ⟨n,v⟩ X=>by
  rcases S.par n (wg2 X).1 with q |q
  .exact .inl q
  .exact .inr {q,wgc _ _ _ (.inl q)}
 refine codeAny_call_function z.depth (L _ _ lk) rfl S.co S.gen rfl (PySem.W.codeRec_of L U) (R _ _ _ _ ?_);refine wpAny_newFunctionEnv_cells S.kind c λenv Y M x=>?_;subst Y;refine{B.keeps x.toInCall.keep,codeAny_func ?_};obtain⟨t,Z,hq⟩:=p A outer s H vs Q E (z.deeper _) m;have I:Inv (uo CX P w K mg base N g scope f j A outer s H E) [] (start N vs) H M:=E7 S z.hd i hl r x;refine wbb (Z [] M (start N vs) H _ I hq) (λfl D d=>?_) λe D d=>d
 have fin:∀{a:St} {h:Hp} {v:V} {u:Value},Inv (uo CX P w K mg base N g scope f j A outer s H E) [] a h D->RelV v u->Q v h->CE outer P w H s Q u D:=
  λ{a h v u} J G q=>⟨v,h,J.os,J.bare,J.base,J.b7,G,q⟩
 cases fl with
 |ret u=>
  obtain⟨v,a,h,J,G,q⟩:=d;exact fin J G q
 |next=>
  obtain⟨a,h,J,q⟩:=d;exact fin (v:=V.non) (u:=wbC) J rfl q
 |brk=>
  obtain⟨_,_,_,q⟩:=d;exact wb7 q
 |cont=>
  obtain⟨_,_,_,q⟩:=d;exact wb7 q
section
variable{X:Cx}{x:Str}{p pos:Pos}{e:Expr}{es:List Expr}{t:TA}{id T:String}{r:List V->Hp->VK->Prop}
def Rx(r:List V->Hp->VK->Prop)(t:TA):TE:=λσ H Q=>t σ H λvs H1=>r vs H1 Q
theorem aU(hc:dj X (.builtin id) r)(j:Gl X x)(l:X.mg x=none)(C:waX x=some (.builtin id))(ha:PA X (e::es) t)(hn:x≠"__name__":=by decide)(g:(x==("__debug__":Str))=false:=by decide)
 (he:starEach (e::es) X.env=(false,eval e X.env)::starEach es X.env:=by rfl) (hpl:(backTo pos (starEach es X.env)).any (·.1)=false:=by rfl):PE X (.Call (.Name x p) (e::es) [] pos) (Rx r t):=by
 refine{?_};intro a s σ H Q I h;refine wbx (gi I j l C ?_ hn g);exact weD (bO (ha pos a s σ H _ I h) λb c ⟨d,f,i,k,m⟩=>hc a c σ f d b Q i k m) he hpl
theorem bp(hc:dj X (.type T) r)(j:Gl X x)(l:X.mg x=none)(C:waX x=some (.type T))(ha:PA X (e::es) t)(hn:x≠"__name__":=by decide)(g:(x==("__debug__":Str))=false:=by decide)
 (he:starEach (e::es) X.env=(false,eval e X.env)::starEach es X.env:=by rfl) (hpl:(backTo pos (starEach es X.env)).any (·.1)=false:=by rfl):PE X (.Call (.Name x p) (e::es) [] pos) (Rx r t):=by
 refine{?_};intro a s σ H Q I h;refine wbx (gi I j l C ?_ hn g);exact wbs (bO (ha pos a s σ H _ I h) λb c ⟨d,f,i,k,m⟩=>hc a c σ f d b Q i k m) he hpl
end
end L2
namespace HT
open PySem PyProof.Rows
section
open PySem.SeqAt
open PySem.AutoSeq1 (wpAny_loadPart')
open PySem.MeetsSeq PySem.MeetsSeq2 PySem.MeetsSeq3
end
section
variable{prog:waq}{w:World}{A:Around}{E:Value->Shared->Prop}{s:Shared}
noncomputable def zP(n d:Nat):Option Int->Nat
 |none=>d
 |some v=>if v<0 then(v+(n:Int)).toNat else min v.toNat n
theorem Js(n d k:Nat):zP n d (some (k:Int))=min k n:=by
 show (if (k:Int)<0 then((k:Int)+(n:Int)).toNat else min (k:Int).toNat n)=min k n;rw[if_neg (by lia),waA]
end
end HT
namespace L2
open PySem PySem.Spec PyProof.Rows
noncomputable abbrev TO:=St->Hp->(Option Int->Hp->Prop)->Prop
abbrev Vv(X:Cx)(e:Option Expr)(t:TO):Prop:=
 ∀(pins:List (Addr×Obj)) (s:Shared) (σ:St) (H:Hp) (Q:Option Int->Hp->Prop),Inv X pins σ H s->t σ H Q ->
  wpAny (model X.prog X.w) X.A (evalPart e X.env) (λu s'=>∃o H',Inv X pins σ H' s'/\IsPart u o/\Q o H') X.xe s
structure PO(X:Cx)(e:Option Expr)(t:TO):Prop where
 go:Vv X e t
instance {X:Cx} {e:Option Expr} {t:TO}:CoeFun (PO X e t) λ_=>Vv X e t:=⟨PO.go⟩
noncomputable def Jt:TO:=λ_ H Q=>Q none H
inductive Y3(x:V)(H:Hp)(Q:Option Int->Hp->Prop):Prop
 |mk (i) (_:x=.int i) (_:Q (some i) H)
noncomputable def Pa(t:TE):TO:=λσ H Q=>t σ H λx H1=>Y3 x H1 Q
section
variable{X:Cx}{e:Expr}{te:TE}{lo hi:Option Expr}{tl th:TO}{pos p2:Pos}
theorem f5:PO X none Jt:=by
 refine{?_};intro a s σ H Q I h;rw[evalPart_none];exact wax {none,H,I,.none,h}
theorem bg(h:PE X e te):PO X (some e) (Pa te):=by
 refine{?_};intro a s σ H Q I hw;rw[evalPart_some];refine bO (h a s σ H _ I hw) λu g ⟨x,b,c,d,f⟩=>?_;obtain⟨i,rfl,q⟩:=f;obtain⟨t,rfl⟩:=d;exact{some i,b,c,.int i t,q}
def SR(X:Cx)(r:V->Option Int->Option Int->Hp->VK->Prop):Prop:=
 ∀(pins:List (Addr×Obj)) (s:Shared) (σ:St) (H:Hp) (x:V) (v vl vu:Value) (lo hi:Option Int) (sl:Addr) (Q:VK),Inv X pins σ H s->RelV x v->s.heap.IsSliceOf sl vl vu .none->IsPart vl lo->IsPart vu hi->r x lo hi H Q ->
  ∃T id,wfm (.type T) "__getitem__"=pure (some (.builtin id))/\s.TypeIs v T/\wpAny (model X.prog X.w) X.A (getItem v (.ref sl)) (EP X pins σ Q) X.xe s
def Y4(r:V->Option Int->Option Int->Hp->VK->Prop)(te:TE)(tl th:TO):TE:=λσ H Q=>te σ H λx H1=>tl σ H1 λl H2=>th σ H2 λu H3=>r x l u H3 Q
theorem bK{r:V->Option Int->Option Int->Hp->VK->Prop}(j:SR X r)(he:PE X e te)(hl:PO X lo tl)(p:PO X hi th):PE X (.Subscript e (.Slice lo hi none p2) pos) (Y4 r te tl th):=by
 refine{?_};intro a s σ H Q I h;refine Subscript_ (bO (he a s σ H _ I h) λv i ⟨x,k,m,n,o⟩=>?_);refine wpAny_Slice (bO (hl a i σ k _ m o) λd t ⟨l,y,z,pl,B⟩=>bO (p a t σ y _ z B) λf c ⟨u,g,C,D,E⟩=>?_);rw[evalPart_none];refine wax ?_;have G:Inv X a σ g {c with heap:=c.heap.push {cls:=.type "slice",data:=.fields #[d,f,.none]}}:=C.kept (t':=c.toks) λb ob q=>wa9 _ q;obtain⟨T,id,J,L,M⟩:=j a {c with heap:=c.heap.push {cls:=.type "slice",data:=.fields #[d,f,.none]}} σ g x v d f l u c.heap.objs.size Q G n (Heap.IsSliceOf.new ..) pl D E;show wpAny (model X.prog X.w) X.A (wgU e (.Slice lo hi none p2) v (.ref c.heap.objs.size)) (EP X a σ Q) X.xe {c with heap:=c.heap.push {cls:=.type "slice",data:=.fields #[d,f,.none]}};exact tail_any (ops:=[.ref c.heap.objs.size,v]) L J M (by with_unfolding_all rfl)
noncomputable def lW(xs:List V)(lo hi:Option Int):List V:=(xs.drop (HT.zP xs.length 0 lo)).take (HT.zP xs.length xs.length hi-HT.zP xs.length 0 lo)
theorem zQ(xs:List V)(lo hi:Option Int):(lW xs lo hi).length<=xs.length:=by
 unfold lW;rw[wag,wb3]
 lia
end
noncomputable def E8(n:Nat)(i:Int):Option Nat:=if 0<=i then(if i<n then some i.toNat else none) else if -(n:Int)<=i then some (i+n).toNat else none
noncomputable def uq{α:Type}(xs:List α)(i:Int):Option α:=(E8 xs.length i).bind λj=>xs[j]?
theorem D7(h:E8 n i=some j):seqIndex? i n=some j/\j<n/\-(n:Int)<=i/\i<n:=by
 unfold E8 at h
 by_cases h0:0<=i
 .rw[if_pos h0]at h
  by_cases a:i<n
  .rw[if_pos a]at h;have e:i.toNat=j:=wad h;exact{by rw[whC h0 a,e],by lia,by lia,a}
  .rw[if_neg a]at h;cases h
 .rw[if_neg h0]at h
  by_cases a:-(n:Int)<=i
  .rw[if_pos a]at h;have e:(i+n).toNat=j:=wad h;exact{by rw[seqIndex_neg (by lia) a,e],by lia,a,by lia}
  .rw[if_neg a]at h;cases h
theorem yA{α:Type}{xs:List α}{i:Int}{v:α}(h:uq xs i=some v):∃j,seqIndex? i xs.length=some j/\xs[j]?=some v/\j<xs.length/\-(xs.length:Int)<=i/\i<xs.length:=by
 unfold uq at h
 cases e:E8 xs.length i with
 |none=>rw[e]at h;cases h
 |some j=>
  rw[e]at h;obtain⟨a,b,c,d⟩:=D7 e;exact⟨j,a,h,b,c,d⟩
theorem bC{α:Type}{xs:List α}{j:Nat}{v:α}(h:xs[j]?=some v):uq xs (j:Int)=some v:=by
 have a:j<xs.length:=(wa6.mp h).1
 have e:E8 xs.length (j:Int)=some j:=by
  unfold E8;rw[if_pos (by lia),if_pos (by lia)];simp
 unfold uq;rw[e];exact h
theorem Gf{α:Type}(xs:List α)(v:α):uq (xs++[v]) (-1)=some v:=by
 have hl:(xs++[v]).length=xs.length+1:=by simp
 have e:E8 (xs++[v]).length (-1)=some xs.length:=by
  unfold E8;rw[hl,if_neg ⋯,if_pos (by lia)];congr 1
  lia
 unfold uq;rw[e];show (xs++[v])[xs.length]?=some v;simp
def Ju(b:Expr):Prop:=∀o i,wgd b false o i=operate [o,i] (getItem o i)
def Oc(X:Cx)(r:R2):Prop:=
 ∀(value slice:Expr) (pins:List (Addr×Obj)) (s:Shared) (σ:St) (H:Hp) (x y:V) (v u:Value) (Q:VK),Inv X pins σ H s->RelV x v->RelV y u->r x y H Q ->
  wgd slice false v u=operate [v,u] (getItem v u)->wpAny (model X.prog X.w) X.A (wgU value slice v u) (EP X pins σ Q) X.xe s
def Jv(X:Cx)(id:String)(r:V->List V->Hp->VK->Prop):Prop:=
 ∀(pins:List (Addr×Obj)) (s:Shared) (σ:St) (H:Hp) (x:V) (xs:List V) (v:Value) (us:List Value) (Q:VK),Inv X pins σ H s->RelV x v->Vals xs us->r x xs H Q ->
  wpAny (model X.prog X.w) X.A (call (.builtin id) (v::us)) (EP X pins σ Q) X.xe s
section
variable{X:Cx}{a b:Expr}{ta tb:TE}{pos:Pos}
theorem bc(g:Oc X r)(ha:PE X a ta)(j:PE X b tb)(hs:Ju b):PE X (.Subscript a b pos) (OY r ta tb):=by
 refine{?_};intro c s σ H Q I h;exact Subscript_ (Mq ha j I h λv u d x y e f i k q=>g a b c d σ e x y v u Q f i k q (hs _ _))
inductive Pb(K:wa2)(x y:V)(H:Hp)(Q:VK):Prop
 |mk (p xs i v) (_:x=.ref p) (_:y=.int i) (_:aL K H p xs) (_:uq xs i=some v) (_:Q v H)
inductive Pg(K:wa2)(x y:V)(H:Hp)(Q:VK):Prop
 |mk (p xs i v) (_:x=.ref p) (_:y=.int i) (_:gA K H p xs) (_:uq xs i=some v) (_:Q v H)
inductive SU(x y:V)(H:Hp)(Q:VK):Prop
 |mk (z i c) (_:x=.str z) (_:y=.int i) (_:z.length<=sizeLine) (_:uq z.cps.toList i=some c) (_:Q (.str ⟨#[c]⟩) H)
theorem bD:Oc X (Pb X.K):=by
 intro value slice a s σ H x y v u Q I k l h f;obtain⟨p,D,i,z,rfl,rfl,m,n,q⟩:=h;cases k;obtain⟨t,rfl⟩:=l;obtain⟨c,r,pl,E⟩:=I.list m;obtain⟨j,b,o,G,A,B⟩:=yA n;obtain⟨w,g,d⟩:=r.get o;have hl:=r.length;have hn:=oi;have fin:EP X a σ Q w s:=⟨z,H,I,d,q⟩
 by_cases h0:0<=i
 .have e:i.toNat=j:=by
   rw[whC h0 B]at b;exact wad b
  exact item_listR pl.isList h0 (by lia) (by rw[e];simpa using g) fin f
 .have e:(i+(c.toArray.size:Int)).toNat=j:=by
   rw[seqIndex_neg (by lia) A]at b;rw[waB,<-hl];exact wad b
  exact wge (x:=w) pl.isList.typeIs slot_list_getitem.lookup
   (wpAny_getItem_list_neg (Q:=λr C=>r=w/\EP X a σ Q r C) pl.isList (by lia) (by rw[waB]<;>lia) (by lia) (by rw[e];simpa using g) ⟨rfl,fin⟩) f
theorem fG:Oc X (Pg X.K):=by
 intro value slice a s σ H x y v u Q I c d h e;obtain⟨p,A,i,z,rfl,rfl,f,g,q⟩:=h;cases c;obtain⟨t,rfl⟩:=d;obtain⟨k,r,pl,B⟩:=I.tuple f;obtain⟨j,l,m,C,D,E⟩:=yA g;obtain⟨w,n,b⟩:=r.get m;have hl:=r.length;have hn:=oi;have fin:EP X a σ Q w s:=⟨z,H,I,b,q⟩
 exact wge (x:=w) pl.typeIs slot_tuple_getitem.lookup
  (getItem_tuple (j:=j) (Q:=λr o=>r=w/\EP X a σ Q r o) pl (by lia) (by lia) (by rw[waB,<-hl];exact l) (by simpa using n) ⟨rfl,fin⟩) e
theorem yB:Oc X SU:=by
 intro value slice a s σ H x y v u Q I b d h e;obtain⟨z,i,c,rfl,rfl,m,f,q⟩:=h;obtain⟨t,rfl⟩:=b;obtain⟨n,rfl⟩:=d;obtain⟨j,g,o,p,k,l⟩:=yA f;have hl:z.cps.toList.length=z.length:=by simp[wdz]
 rw[hl]at g k l;have hn:=oi
 exact tail_any (wgH s z t) slot_str_getitem.lookup (getItem_str (c:=c) (by
  grind) (by grind) {.str {#[c]},H,I.tok _,{_,rfl},q}) e
theorem Br(g:List Value)(n j:Nat)(u:Value):wcS (·.setIfInBounds j u) {cls:=.type "list",data:=.seq g.toArray n}={cls:=.type "list",data:=.seq (g.set j u).toArray n}:=by
 simp[wcS]
theorem Inv.lst(I:Inv X j σ H s)(h:H p=some (.lst xs)) :
 ∃(g:List Value) (n:Nat),Vals xs g/\s.heap.get? p=some {cls:=.type "list",data:=.seq g.toArray n}/\xs.length<=sizeLine:=by
 obtain⟨z,g,n,r,e⟩:=I.b7 p _ h;exact⟨g,n,r,e,z⟩
theorem Inv.Mv{g:List (Addr×Obj)}{σ:St}{H:Hp}{s:Shared}{p:Addr}{xs ys:List V}{j its':List Value}{n l:Nat}{f:Obj->Obj}(I:Inv X g σ H s)(h:H p=some (.lst xs))
 (J:s.heap.get? p=some {cls:=.type "list",data:=.seq j.toArray n}) (C:f {cls:=.type "list",data:=.seq j.toArray n}={cls:=.type "list",data:=.seq its'.toArray l}) (r:Vals ys its') (T:ys.length<=sizeLine) (t:Nat) :
 Inv X g σ (upd H p (.lst ys)) {s with heap:=s.heap.update p f,toks:=t}:=by
 have e:(s.heap.update p f).get? p=some {cls:=.type "list",data:=.seq its'.toArray l}:=by
  rw[wbD f J (by rw[C]<;>rfl),C]
 refine I.write (x:=p) (e:=p) (by rw[h];trivial) (.inl rfl) (λb u a q=>(waQ _ _ (wbu a)).trans q) {_,e} ?_;exact⟨T,its',l,r,e⟩
inductive Ph(o i v:V)(H:Hp)(Q:Hp->Prop):Prop
 |mk (p xs k j) (_:o=.ref p) (_:i=.int k) (_:H p=some (.lst xs)) (_:E8 xs.length k=some j) (_:Q (upd H p (.lst (xs.set j v))))
theorem set_list:OS X Ph:=by
 intro a s σ H o i v B C u Q I m w x h;obtain⟨p,y,k,j,rfl,rfl,e,z,q⟩:=h;cases m;obtain⟨t,rfl⟩:=w;obtain⟨b,n,r,d,A⟩:=I.lst e;obtain⟨c,D,f,g⟩:=D7 z;have hl:=r.length;have hn:=oi
 have l:Inv X a σ (upd H p (.lst (y.set j v))) {s with heap:=s.heap.update p (wcS (·.setIfInBounds j u))}:=
  I.Mv e d (Br b n j u) (r.set x j) (by rw[wc8];exact A) s.toks
 by_cases h0:0<=k
 .have hk:k.toNat=j:=by
   rw[whC h0 g]at c;exact wad c
  exact PySem.W.ki_setAt d h0 (by lia) (by rw[waB,<-hl];exact g) (by rw[hk];exact{_,l,q})
 .have hk:(k+(b.toArray.size:Int)).toNat=j:=by
   rw[seqIndex_neg (by lia) f]at c;rw[waB,<-hl];exact wad c
  exact PySem.W.ki_setBack d (by lia) (by rw[waB,<-hl];exact f) (by lia) (by rw[hk];exact{_,l,q})
theorem yC(lo hi:Option Int)(n:Nat):(whD lo hi none n).1=((HT.zP n 0 lo:Nat):Int)/\(whD lo hi none n).2.1=((HT.zP n n hi:Nat):Int)/\(whD lo hi none n).2.2=1:=by
 have key:∀(i:Int) (d:Nat),max 0 (min (if i<0 then i+(n:Int) else i) (n:Int))=((HT.zP n d (some i):Nat):Int):=by
  intro i d
  by_cases h:i<0<;>simp only[HT.zP,h,if_true,if_false]<;>lia
 exact{by cases lo with |none=>rfl |some i=>exact key i 0,by cases hi with |none=>rfl |some i=>exact key i n,rfl}
theorem wx(g:List Value)(lo hi:Option Int):slicePick g.toArray lo hi none=((g.drop (HT.zP g.length 0 lo)).take (HT.zP g.length g.length hi-HT.zP g.length 0 lo)).toArray:=by
 obtain⟨a,b,c⟩:=yC lo hi g.toArray.size;unfold slicePick;rw[a,b,c];simp only[sliceRange_one,pick_run,waB]<;>rfl
inductive SV(K:wa2)(x:V)(lo hi:Option Int)(H:Hp)(Q:VK):Prop
 |mk (a xs) (_:x=.ref a) (_:aL K H a xs) (_:∀p,H p=none->Q (.ref p) (upd H p (.lst (lW xs lo hi))))
theorem hX:SR X (SV X.K):=by
 intro e s σ H x v n p lo hi sl Q I g i pl j h;obtain⟨a,c,rfl,k,q⟩:=h;cases g;obtain⟨l,r,f,m⟩:=I.list k;have d:=r.length;refine{"list",_,slot_list_getitem.lookup,f.isList.typeIs,?_};refine wpAny_getItem_list_slice f.isList i pl j .none (by simp) ?_ (by grind);rw[wx,<-d];refine{.ref s.heap.objs.size,_,I.laid (t':=s.toks) (o:=.lst (lW c lo hi)) (λb ob q=>wa9 _ q) (waa _) ?_,rfl,q _ (I.b7.fresh (waa _))};exact{wak (zQ c lo hi) m,_,0,(r.drop (HT.zP c.length 0 lo)).take (HT.zP c.length c.length hi-HT.zP c.length 0 lo),wat _ rfl}
noncomputable def dk:V->Bool
 |.non=>true
 |.bl _=>true
 |.int _=>true
 |.str _=>true
 |_=>false
noncomputable def qJ:V->V->Bool
 |.non,.non=>true
 |.bl a,.bl b=>a==b
 |.bl a,.int b=>(if a then 1 else 0)==b
 |.int a,.bl b=>a==(if b then 1 else 0)
 |.int a,.int b=>a==b
 |.str a,.str b=>a==b
 |_,_=>false
theorem yD(j:RelV y u)(g:RelV x v)(p:dk y=true)(l:dk x=true):SeqAt.EqAt A s u v (qJ y x):=by
 cases y with
 |non=>
  cases j
  cases x with
  |non=>cases g;exact wg3 _
  |bl b=>cases g;exact SeqAt.EqAt.none_bool b
  |int b=>obtain⟨t,rfl⟩:=g;exact SeqAt.EqAt.none_int b t
  |str b=>obtain⟨t,rfl⟩:=g;exact SeqAt.EqAt.none_str b t
  |_=>exact absurd (show false=true from l) wan
 |bl a=>
  cases j
  cases x with
  |non=>cases g;exact SeqAt.EqAt.bool_none a
  |bl b=>cases g;exact SeqAt.EqAt.bool_bool a b
  |int b=>obtain⟨t,rfl⟩:=g;exact SeqAt.EqAt.bool_int a b t
  |str b=>obtain⟨t,rfl⟩:=g;exact SeqAt.EqAt.bool_str a b t
  |_=>exact absurd (show false=true from l) wan
 |int a=>
  obtain⟨c,rfl⟩:=j
  cases x with
  |non=>cases g;exact SeqAt.EqAt.int_none a c
  |bl b=>cases g;exact SeqAt.EqAt.int_bool a c b
  |int b=>obtain⟨t,rfl⟩:=g;exact wgq a c b t
  |str b=>obtain⟨t,rfl⟩:=g;exact wh5 a c b t
  |_=>exact absurd (show false=true from l) wan
 |str a=>
  obtain⟨c,rfl⟩:=j
  cases x with
  |non=>cases g;exact SeqAt.EqAt.str_none a c
  |bl b=>cases g;exact SeqAt.EqAt.str_bool a c b
  |int b=>obtain⟨t,rfl⟩:=g;exact wh6 a c b t
  |str b=>obtain⟨t,rfl⟩:=g;exact wgr a c b t
  |_=>exact absurd (show false=true from l) wan
 |_=>exact absurd (show false=true from p) wan
noncomputable def Bt(x:V)(u:Value):Bool:=match u with
 |.none=>qJ .non x
 |.bool b=>qJ (.bl b) x
 |.int i _=>qJ (.int i) x
 |.str z _=>qJ (.str z) x
 |_=>false
theorem Gg(r:RelV y u)(f:dk y=true):Bt x u=qJ y x:=by
 cases y with
 |non=>cases r;rfl
 |bl b=>cases r;rfl
 |int i=>obtain⟨t,rfl⟩:=r;rfl
 |str z=>obtain⟨t,rfl⟩:=r;rfl
 |_=>exact absurd (show false=true from f) wan
theorem oZ:∀{xs:List V} {us:List Value},Vals xs us->xs.all dk=true->us.any (Bt x)=xs.any λy=>qJ y x
 |_,_,.nil,_=>rfl
 |y::xs,u::us,.cons r t,f=>by
  rw[wf6,wbX]at f;rw[wd9,wd9,Gg r f.1,oZ t f.2]
theorem lX(g:RelV x v)(j:dk x=true):∀{xs:List V} {us:List Value},Vals xs us->xs.all dk=true->∀u∈us,SeqAt.EqAt A s u v (Bt x u)
 |_,_,.nil,_=>λu a=>by cases a
 |y::xs,u::us,.cons r t,f=>λb a=>by
  rw[wf6,wbX]at f;rcases waK.mp a with rfl |a
  .rw[Gg r f.1];exact yD r g f.1 j
  .exact lX g j t f.2 b a
noncomputable def oR(x:V)(xs:List V):Bool:=xs.any λy=>qJ y x
inductive Ry(K:wa2)(neg:Bool)(x y:V)(H:Hp)(Q:VK):Prop
 |mk (p xs) (_:y=.ref p) (_:(aL K H p xs\/gA K H p xs)) (_:dk x=true) (_:xs.all dk=true) (_:Q (.bl (if neg then !oR x xs else oR x xs)) H)
theorem qK:kQ X (wbc .In) (Ry X.K false):=by
 intro c s σ H x y v u Q I d f h;obtain⟨p,i,rfl,b,e,fs,q⟩:=h;cases f;rcases b with b |b
 .obtain⟨a,r,pl,g⟩:=I.list b;refine SeqAt.in_listAt (Bt x) pl.isList (λw hw=>lX d e r fs w (by grind)) {.bl _,H,I,rfl,?_};rw[show a.toArray.any (Bt x)=a.any (Bt x) by simp,oZ r fs];exact q
 .obtain⟨a,r,pl,g⟩:=I.tuple b;refine SeqAt.in_tupleAt (Bt x) pl (λw hw=>lX d e r fs w (by grind)) {.bl _,H,I,rfl,?_};rw[show a.toArray.any (Bt x)=a.any (Bt x) by simp,oZ r fs];exact q
theorem hZ:kQ X (wbc .NotIn) (Ry X.K true):=by
 intro c s σ H x y v u Q I d f h;obtain⟨p,i,rfl,b,e,fs,q⟩:=h;cases f;rcases b with b |b
 .obtain⟨a,r,pl,g⟩:=I.list b;refine SeqAt.notIn_listAt (Bt x) pl.isList (λw hw=>lX d e r fs w (by grind)) {.bl _,H,I,rfl,?_};rw[show a.toArray.any (Bt x)=a.any (Bt x) by simp,oZ r fs];exact q
 .obtain⟨a,r,pl,g⟩:=I.tuple b;refine SeqAt.notIn_tupleAt (Bt x) pl (λw hw=>lX d e r fs w (by grind)) {.bl _,H,I,rfl,?_};rw[show a.toArray.any (Bt x)=a.any (Bt x) by simp,oZ r fs];exact q
theorem yE:kQ X (wbc .NotIn) (λx y H Q=>∃i j,x=.str i/\y=.str j/\Q (.bl (!(!(wd4 j i 0 j.length 1).isEmpty))) H):=by
 intro a s σ H x y v u Q I b c h;obtain⟨i,j,rfl,rfl,q⟩:=h;obtain⟨t,rfl⟩:=b;obtain⟨d,rfl⟩:=c;exact notIn_str {.bl _,H,I,rfl,q}
theorem p0:dj X (.builtin "len") (λxs H Q=>∃p ys,xs=[.ref p]/\(aL X.K H p ys\/gA X.K H p ys)/\Q (.int ys.length) H):=by
 intro e s σ H xs i Q I r h;obtain⟨p,ys,rfl,a,q⟩:=h;obtain⟨u,rfl,f⟩:=vals1 r;cases f;have hn:=oi;rcases a with a |a
 .obtain⟨c,d,pl,g⟩:=I.list a;have b:=d.length;exact weO pl.isList (by grind) {.int ys.length,H,I.tok _,{s.toks+1,by grind},q}
 .obtain⟨c,d,pl,g⟩:=I.tuple a;have b:=d.length;exact len_tuple pl (by grind) {.int ys.length,H,I.tok _,{s.toks+1,by grind},q}
theorem yF:dj X (.builtin "len") (λxs H Q=>∃z,xs=[.str z]/\z.length<=sizeLine/\Q (.int z.length) H):=by
 intro a s σ H xs b Q I r h;obtain⟨z,rfl,c,q⟩:=h;obtain⟨u,rfl,t,rfl⟩:=vals1 r;have hn:=oi;exact len_str (by lia) {.int z.length,H,I.tok _,{_,rfl},q}
theorem cW:dj X (.type "list") (λxs H Q=>∃p ys,xs=[.ref p]/\(aL X.K H p ys\/gA X.K H p ys)/\∀l,H l=none->Q (.ref l) (upd H l (.lst ys))):=by
 intro g s σ H xs x Q I r h;obtain⟨p,ys,rfl,i,q⟩:=h;obtain⟨u,rfl,v⟩:=vals1 r;cases v
 have fin:∀(a:List Value),Vals ys a->ys.length<=sizeLine->∀(c:Heap) (d:Nat),(∀b t,s.heap.get? b=some t->c.get? b=some t) ->
  c.get? s.heap.objs.size=some {cls:=.type "list",dict:=none,data:=.seq a.toArray d,slots:=#[]}->EP X g σ Q (.ref s.heap.objs.size) {s with heap:=c}:=λa f j c d kp e=>
  {.ref s.heap.objs.size,_,I.laid (t':=s.toks) kp (waa _) (show bW X.prog X.w _ c _ (.lst ys) from ⟨j,a,d,f,e⟩),rfl,q _ (I.b7.fresh (waa _))}
 rcases i with i |i
 .obtain⟨a,f,pl,j⟩:=I.list i;have k:=f.length;obtain⟨o,m,hc,n,hd⟩:=pl.isList;exact call_list_seq p (.inl rfl) m hc hd (λc d kp e=>fin a f j c d kp e) (by grind)
 .obtain⟨a,f,pl,j⟩:=I.tuple i;have k:=f.length;obtain⟨o,m,hc,n,hd⟩:=pl;exact call_list_seq p (.inr rfl) m hc hd (λc d kp e=>fin a f j c d kp e) (by grind)
def SW(K:wa2)(T:String)(x:V)(H:Hp):Prop:=match x with
 |.str _=>T="str"
 |.int _=>T="int"
 |.ref p=>(T="list"/\∃xs,aL K H p xs)\/(T="tuple"/\∃o,K.lookup p=some o/\o.cls=.type "tuple"/\o.dict=none) \/
   (T="dict"/\((∃kvs,H p=some (.dK kvs))\/∃kvs,H p=some (.dT kvs)))\/(T="set"/\∃S n,H p=some (.set S n))
 |_=>False
theorem Gh(I:Inv X g σ H s)(r:RelV x v)(ty:SW X.K T x H) :
 s.TypeIs v T/\∀a,v=.ref a->∃ob,s.heap.get? a=some ob/\ob.dict=none:=by
 cases x with
 |str z=>
  obtain⟨t,rfl⟩:=r;cases(show T="str" from ty);exact{wgH s z t,λ_ e=>nomatch e}
 |int i=>
  obtain⟨t,rfl⟩:=r;cases(show T="int" from ty);exact{typeIs_int s i t,λ_ e=>nomatch e}
 |ref p=>
  cases r;rcases ty with⟨rfl,j,f⟩ |⟨rfl,o,hk,hc,hd⟩ |⟨rfl,hk⟩ |⟨rfl,S,n,hk⟩
  .obtain⟨h,_,pl,_⟩:=I.list f;refine{pl.isList.typeIs,λa e=>?_};cases e;obtain⟨o,n,e,c,hd,_⟩:=pl;exact⟨o,e,hd⟩
  .refine{{o,I.hU p o hk,hc},λa e=>?_};cases e;exact{o,I.hU _ o hk,hd}
  .have z:∃o,s.heap.get? p=some o/\o.ExactDict:=by
    rcases hk with⟨b,hk⟩ |⟨b,hk⟩
    .obtain⟨_,_,_,_,o,_,_,e,ex,_⟩:=I.b7 p _ hk;exact⟨o,e,ex⟩
    .obtain⟨_,_,_,_,o,_,_,e,ex,_⟩:=I.b7 p _ hk;exact⟨o,e,ex⟩
   obtain⟨o,e,ex⟩:=z;refine{⟨o,e,ex.1⟩,λa d=>?_};cases d;exact⟨o,e,ex.2.1⟩
  .obtain⟨o,_,_,_,e,ex,_⟩:=I.b7 p _ hk;refine{⟨o,e,ex.1⟩,λa d=>?_};cases d;exact⟨o,e,ex.2.1⟩
 |_=>exact wb7 ty
def Pj(K:wa2)(T:String)(r:V->List V->Hp->VK->Prop)(to:TE):TE:=λσ H Q=>to σ H λx H1=>SW K T x H1/\r x [] H1 Q
def Vw(K:wa2)(T:String)(r:V->List V->Hp->VK->Prop)(to:TE)(t:TA):TE:=λσ H Q=>to σ H λx H1=>SW K T x H1/\t σ H1 λxs H2=>r x xs H2 Q
variable{o e:Expr}{es:List Expr}{to:TE}{t:TA}{name:Str}{apos eS:Pos}{T id:String}{r:V->List V->Hp->VK->Prop}
theorem Gi(p:wgI T)(slot:Slot T name id)(l:typeOf (.builtin id)=pure (.type "method_descriptor"))(C:Jv X id r)(J:PE X o to)
 (g:wcA o name X.env (eval o X.env)=eval o X.env:=by rfl) (j:(apos.endLine==eS.line)=true:=by rfl):PE X (.Call (.Attribute o name apos) [] [] eS) (Pj X.K T r to):=by
 refine{?_};intro a s σ H Q I h;refine wpAny_Call_method0_late g j (bO (J a s σ H _ I h) λv d ⟨x,e,b,c,ty,f⟩=>?_);obtain⟨i,k⟩:=Gh b c ty;exact{T,id,p,slot,l,i,k,wdp rfl (PySem.evalArgs_none (C a d σ e x [] v [] Q b c .nil f))}
theorem hF(J:wgI T)(slot:Slot T name id)(C:typeOf (.builtin id)=pure (.type "method_descriptor"))(U:Jv X id r)(ho:PE X o to)(ha:PA X (e::es) t)
 (j:wcA o name X.env (eval o X.env)=eval o X.env:=by rfl)
 (p:((backTo eS (starEach (e::es) X.env)).all (λx=>!x.1)&&(backToKw eS (wcH [] X.env)).all (λx=>x.1.isSome)
   && decide ((e::es).length+([]:List wdr).length+(if ([]:List wdr).isEmpty then 0 else 1)<30))=true:=by rfl)
 (l:(apos.endLine==eS.line)=true:=by rfl) (hs:starEach (e::es) X.env=(false,eval e X.env)::starEach es X.env:=by rfl) (g:(backTo eS (starEach es X.env)).any (·.1)=false:=by rfl) :
 PE X (.Call (.Attribute o name apos) (e::es) [] eS) (Vw X.K T r to t):=by
 refine{?_};intro a s σ H Q I h;refine wpAny_Call_method_late j p l rfl (bO (ho a s σ H _ I h) λv f ⟨x,i,b,c,ty,k⟩=>?_);obtain⟨m,n⟩:=Gh b c ty;refine{T,id,J,slot,C,m,n,?_};have d:=ha eS a f σ i _ b k;rw[hs]at d ⊢;refine wdp (by show (false ||(backTo eS (starEach es X.env)).any (·.1))=false;rw[g]<;>rfl) (weE ?_);exact bO d λq u ⟨w,y,z,A,B⟩=>U a u σ y x w v q Q z c A B
end
def Vx(X:Cx)(id:String)(r:V->List V->Hp->VK->Prop):Prop:=
 ∀(pins:List (Addr×Obj)) (s:Shared) (σ:St) (H:Hp) (x:V) (xs:List V) (v:Value) (us:List Value) (Q:VK),Inv X pins σ H s->RelV x v->Vals xs us->r x xs H Q ->
  wpAny (model X.prog X.w) X.A (call (.builtin id) (v::us)) (EP X pins σ Q) X.xe s
theorem Vals.one:∀{x:V} {us:List Value},Vals [x] us->∃u,us=[u]/\RelV x u
 |_,_,.cons r .nil=>{_,rfl,r}
theorem Vals.zero:∀{us:List Value},Vals [] us->us=[]
 |_,.nil=>rfl
theorem Vals.dropLast(h:Vals xs us):Vals xs.dropLast us.dropLast:=by
 induction h with
 |nil=>exact .nil
 |cons r t a=>
  cases t with
  |nil=>exact .nil
  |cons q b=>exact .cons r a
theorem Vals.rep(h:Vals xs us):∀k:Nat,Vals (waj k xs).flatten (waj k us).flatten
 |0=>.nil
 |k+1=>by
  rw[wcE,wcE,wc6,wc6];exact Vals.append h (Vals.rep h k)
theorem foldl_rep(g:List Value):∀(k:Nat) (j:List Value),
 whW (λl p=>l++p) j.toArray (waj k g.toArray)=(j++(waj k g).flatten).toArray
 |0,j=>by simp
 |k+1,j=>by
  have e:j.toArray++g.toArray=(j++g).toArray:=by simp
  have a:(j++g)++(waj k g).flatten=j++(waj (k+1) g).flatten:=by
   grind
  rw[<-a,<-foldl_rep g k (j++g),<-e,wcE,wdL]
section
variable{X:Cx}{pins:List (Addr×Obj)}{σ:St}{H:Hp}{s:Shared}{l b:Addr}{xs ys zs:List V}
theorem Inv.Pk{g its':List Value}{n:Nat}{f:Array Value->Array Value}{t':Nat}(I:Inv X pins σ H s)(j:H l=some (.lst xs))
 (e:s.heap.get? l=some {cls:=.type "list",data:=.seq g.toArray n}) (p:f g.toArray=its'.toArray) (r:Vals ys its') (t:ys.length<=sizeLine) :
 Inv X pins σ (upd H l (.lst ys)) {s with heap:=s.heap.update l (wcS f),toks:=t'}:=by
 have q:=PySem.IsL.update e f;rw[p]at q;refine I.write (x:=l) (e:=l) (by rw[j];exact trivial) (.inl rfl) (λc u a b=>(waQ s.heap (wcS f) (wbu a)).trans b) {_,q} ?_;exact{t,its',_,r,q}
theorem Inv.Mw(I:Inv X pins σ H s)(j:Vals ys g)(p:ys.length<=sizeLine) :
 Inv X pins σ (upd H s.heap.objs.size (.lst ys)) {s with heap:=s.heap.push {cls:=.type "list",data:=.seq g.toArray},toks:=t'}:=
 I.laid (λ_ _ q=>wa9 _ q) (waa _) {p,g,0,j,wat _ rfl}
theorem Inv.fresh(I:Inv X pins σ H s):H s.heap.objs.size=none:=I.b7.fresh (waa _)
theorem Inv.Gj(I:Inv X pins σ H s)(j:H l=some (.lst xs)):xs.length<=sizeLine/\∃(g:List Value) (n:Nat),Vals xs g/\xs.length=g.length/\s.heap.get? l=some {cls:=.type "list",data:=.seq g.toArray n}:=by
 obtain⟨z,g,n,r,e⟩:=I.b7 l _ j;exact⟨z,g,n,r,r.length,e⟩
theorem Gk(h:n<=sizeLine):wdU n=false:=by grind [wdU,decide_eq_false]
end
section
variable{X:Cx}
inductive Jw(x:V)(vs:List V)(H:Hp)(Q:VK):Prop
 |mk (l xs y) (_:x=.ref l) (_:vs=[y]) (_:H l=some (.lst xs)) (_:xs.length<sizeLine) (_:Q .non (upd H l (.lst (xs++[y]))))
theorem cL:Vx X "list.append" Jw:=by
 intro b s σ H x i v j Q I d f h;obtain⟨l,k,y,rfl,rfl,c,m,q⟩:=h;cases d;obtain⟨u,rfl,g⟩:=f.one;obtain⟨z,a,n,r,hl,e⟩:=I.Gj c;refine weF waU {_,e,rfl} F.entry_list_append (F.args_list_append_2 _ _) (PySem.list_append l a.toArray n u (by grind)) {e,?_};refine{.non,_,I.Pk (its':=a++[u]) c e (by simp) (r.append (.cons g .nil)) ?_,rfl,q};rw[wa5,wcn]
 lia
inductive SX(x:V)(vs:List V)(H:Hp)(Q:VK):Prop
 |mk (l xs y) (_:x=.ref l) (_:vs=[]) (_:H l=some (.lst xs)) (_:xs[xs.length-1]?=some y) (_:Q y (upd H l (.lst xs.dropLast)))
theorem Mx:Vx X "list.pop" SX:=by
 intro d s σ H x m v o Q I g i h;obtain⟨l,p,y,rfl,rfl,f,j,q⟩:=h;cases g;have b:=i.zero;subst b;obtain⟨z,a,n,r,hl,e⟩:=I.Gj f;obtain⟨u,t,k⟩:=r.get j
 have c:a.toArray[a.toArray.size-1]?=some u:=by
  grind
 refine weF whb {_,e,rfl} F.entry_list_pop (F.args_list_pop_1 _) (MeetsSeq.list_pop_last l a.toArray n u c (by grind)) {e,?_};refine{y,_,I.Pk (its':=a.dropLast) f e ?_ r.dropLast ?_,k,q}
 .grind
 .grind
inductive SY(x y:V)(H:Hp)(Q:VK):Prop
 |mk (l b xs zs) (_:x=.ref l) (_:y=.ref b) (_:H l=some (.lst xs)) (_:H b=some (.lst zs)) (_:xs.length+zs.length<=sizeLine) (_:∀p,H p=none->Q (.ref p) (upd H p (.lst (xs++zs))))
theorem Bu:kQ X (binaryOp .Add) SY:=by
 intro d s σ H x y v u Q I f g h;obtain⟨l,b,t,w,rfl,rfl,i,j,A,q⟩:=h;cases f;cases g;obtain⟨z,c,n,r,hl,e⟩:=I.Gj i;obtain⟨B,a,C,k,m,o⟩:=I.Gj j;refine whL e o ?_ (by rw[waB,waB];omega);have p:c.toArray++a.toArray=(c++a).toArray:=by simp
 rw[p];exact{.ref _,_,I.Mw (t':=s.toks) (r.append k) (by rw[wa5];omega),rfl,q _ I.fresh}
inductive SZ(x y:V)(H:Hp)(Q:VK):Prop
 |mk (l k xs) (_:x=.ref l) (_:y=.int k) (_:H l=some (.lst xs)) (_:-(2^63)<=k) (_:k<2^63) (_:xs.length*k.toNat<=sizeLine) (_:∀p,H p=none->Q (.ref p) (upd H p (.lst (waj k.toNat xs).flatten)))
theorem Jx{α:Type}(xs:List α)(k:Nat):(waj k xs).flatten.length=k*xs.length:=by simp_all [wcE,wc6,wa5,Nat.succ_mul,whc]
theorem Gm:kQ X (binaryOp .Mult) SZ:=by
 intro p s σ H x y v u Q I A B h;obtain⟨l,k,L,rfl,rfl,C,D,E,w,q⟩:=h;cases A;obtain⟨t,rfl⟩:=B;obtain⟨z,b,n,r,hl,e⟩:=I.Gj C;have d:b.toArray.size*k.toNat<=sizeLine:=by rw[waB,<-hl];exact w
 have f:¬b.toArray.size*k.toNat>(2^63-1)/8:=by
  have:(sizeLine:Nat)<=(2^63-1)/8:=⋯
  lia
 have g:¬(!Builtin.List.listFitsIndex k)=true:=by
  rw[fitsIndex_both D E];exact wan
 have c:¬wdU (b.toArray.size*k.toNat)=true:=by
  rw[Gk d];exact wan
 have i:whW (λj o=>j++o) #[] (waj (if b.toArray.isEmpty=true then 0 else k.toNat) b.toArray)=(waj k.toNat b).flatten.toArray:=by
  have G:∀m:Nat,whW (λj o=>j++o) #[] (waj m b.toArray)=(waj m b).flatten.toArray:=λm=>by
   grind [foldl_rep]
  rw[G]
  cases b with
  |nil=>simp
  |cons a M=>grind
 refine wpAny_binaryOp_repeat_ref (T:="list") (U:="int") ⋯ {_,e,rfl} (λJ=>typeIs_int J k t) noFill_list_mul F.fills_int_mul F.slot_int_rmul repeat_list F.slot_int_index.lookup
  (weF F.slot_int_rmul (typeIs_int s k t) F.entry_int_rmul (F.args_int_rmul_2 _ _) (int___rmul___int_list k t l b.toArray n)
    {e,rfl,{_,e,rfl},weF F.slot_list_mul {_,e,rfl} F.entry_list_mul (F.args_list_mul_2 _ _) (AutoListH.list___mul___list_int_3 l b.toArray n k t g f c) {e,?_}})
 rw[i];exact{.ref _,_,I.Mw (t':=s.toks) (r.rep k.toNat) (by rw[Jx,wfx];exact w),rfl,q _ I.fresh}
end
section
variable{prog:waq}{w:World}{A:Around}{E:Value->Shared->Prop}{s:Shared}
set_option maxRecDepth 100000 in
end
section
variable{X:Cx}
end
section
variable{κ:Type}[DecidableEq κ]
noncomputable def bF(kvs:List (κ×V))(k:κ):Option V:=(kvs.find? λkv=>decide (kv.1=k)).map (·.2)
noncomputable def putK(kvs:List (κ×V))(k:κ)(v:V):List (κ×V):=
 if (kvs.any λkv=>decide (kv.1=k))=true then kvs.map (λkv=>if kv.1=k then(kv.1,v) else kv) else kvs++[(k,v)]
theorem Gn:bF ([]:List (κ×V)) k=none:=rfl
theorem cm{p:κ×V}{r:List (κ×V)}{k:κ}(e:p.1=k):bF (p::r) k=some p.2:=by simp[bF,wdg,e]
theorem cn{p:κ×V}{r:List (κ×V)}{k:κ}(e:¬p.1=k):bF (p::r) k=bF r k:=by simp[bF,wdg,e]
theorem ib(k:κ):∀kvs:List (κ×V),(kvs.any λg=>decide (g.1=k))=(bF kvs k).isSome
 |[]=>rfl
 |p::r=>by
  rw[wd9]
  by_cases e:p.1=k
  .simp only[cm e,decide_eq_true e,Bool.true_or,Option.isSome_some]
  .rw[cn e,decide_eq_false e,Bool.false_or];exact ib k r
theorem zR(k j:κ)(y:V):∀kvs:List (κ×V),bF (kvs.map λg=>if g.1=k then(g.1,y) else g) j=(bF kvs j).map λx=>if j=k then y else x
 |[]=>rfl
 |p::r=>by
  have a:=zR k j y r;rw[wau]
  by_cases h:p.1=k
  .rw[if_pos h]
   by_cases e:p.1=j
   .rw[cm (p:=(p.1,y)) e,cm e,weG,if_pos (e.symm.trans h)]
   .rw[cn (p:=(p.1,y)) e,cn e,a]
  .rw[if_neg h]
   by_cases e:p.1=j
   .rw[cm (p:=p) e,cm e,weG,if_neg (λz=>h (e.trans z))]
   .rw[cn (p:=p) e,cn e,a]
theorem xr(k j:κ)(y:V):∀kvs:List (κ×V),bF kvs k=none->bF (kvs++[(k,y)]) j=if j=k then some y else bF kvs j
 |[],_=>by
  by_cases e:k=j
  .rw[if_pos e.symm];exact cm (p:=(k,y)) e
  .rw[if_neg (λz=>e z.symm)];exact cn (p:=(k,y)) e
 |p::r,hn=>by
  rw[List.cons_append];have hk:¬p.1=k:=λz=>by rw[cm z]at hn;cases hn
  rw[cn hk]at hn;have a:=xr k j y r hn
  by_cases e:p.1=j
  .rw[cm e,cm e,if_neg (λz=>hk (e.trans z))]
  .rw[cn e,cn e,a]
theorem ur(kvs:List (κ×V))(k j:κ)(y:V):bF (putK kvs k y) j=if j=k then some y else bF kvs j:=by
 unfold putK
 by_cases a:(kvs.any λb=>decide (b.1=k))=true
 .rw[if_pos a,zR];rw[ib]at a
  by_cases e:j=k
  .obtain⟨x,c⟩:=wfw.mp a;rw[if_pos e,e,c,weG,if_pos rfl]
  .rw[if_neg e]
   cases bF kvs j with
   |none=>rfl
   |some x=>rw[weG,if_neg e]
 .rw[if_neg a];refine xr k j y kvs ?_;rw[ib]at a
  cases q:bF kvs k with
  |none=>rfl
  |some x=>rw[q]at a;exact(a rfl).elim
theorem gF(kvs:List (κ×V))(k:κ)(v:V):(putK kvs k v).length<=kvs.length+1:=by
 unfold putK;split
 .rw[wa0];lia
 .rw[wa5,waH,wg4];lia
theorem fH{kvs:List (κ×V)}{k:κ}(v:V)(h:bF kvs k=none):putK kvs k v=kvs++[(k,v)]:=by simp_all [putK,ib,if_neg]
theorem jb.jq(r:jb o u):o.isSome=u.isSome:=by
 cases o with
 |none=>cases u with
  |none=>rfl
  |some _=>exact(show False from r).elim
 |some _=>cases u with
  |none=>exact(show False from r).elim
  |some _=>rfl
theorem jb.getD(r:jb o u)(rd:RelV d d'):RelV (o.getD d) (u.getD d'):=by
 cases o with
 |none=>cases u with
  |none=>exact rd
  |some _=>exact(show False from r).elim
 |some _=>cases u with
  |none=>exact(show False from r).elim
  |some _=>exact r
theorem KV.val{kvs:List (κ×V)}{vs:List (κ×Value)}(r:KV kvs vs)(k:κ):jb (bF kvs k) (valueAt vs k):=by
 unfold KV at r
 induction r with
 |nil=>exact wbw
 |@cons p q ps a h t f=>
  obtain⟨d,g⟩:=h
  by_cases e:p.1=k
  .have c:q.1=k:=d.symm.trans e;have b:valueAt (q::a) k=some q.2:=by simp[valueAt,wdg,c]
   rw[cm e,b];exact g
  .have c:¬q.1=k:=λz=>e (d.trans z);have b:valueAt (q::a) k=valueAt a k:=by simp[valueAt,wdg,c]
   rw[cn e,b];exact f
theorem KV.any{kvs:List (κ×V)}{vs:List (κ×Value)}(r:KV kvs vs)(k:κ):(kvs.any λg=>decide (g.1=k))=vs.any λg=>decide (g.1=k):=by
 unfold KV at r
 induction r with
 |nil=>rfl
 |cons h t a=>rw[wd9,wd9,a,h.1]
theorem KV.repl(r:KV kvs vs)(k:κ)(j:RelV y u) :
 KV (kvs.map λg=>if g.1=k then(g.1,y) else g) (vs.map λg=>if g.1=k then(g.1,u) else g):=by
 unfold KV at r ⊢
 induction r with
 |nil=>exact .nil
 |@cons p q ps d h t b=>
  rw[wau,wau];refine .cons ?_ b;obtain⟨a,c⟩:=h
  by_cases e:p.1=k
  .rw[if_pos e,if_pos (a.symm.trans e)];exact⟨a,j⟩
  .rw[if_neg e,if_neg (λz=>e (a.trans z))];exact⟨a,c⟩
theorem KV.put{kvs:List (κ×V)}{vs:List (κ×Value)}(r:KV kvs vs)(k:κ){y:V}{u:Value}(g:RelV y u):KV (putK kvs k y) (stored vs k u):=by
 unfold putK stored;rw[r.any k]
 by_cases e:(vs.any λa=>decide (a.1=k))=true
 .rw[if_pos e,if_pos e];exact r.repl k g
 .rw[if_neg e,if_neg e];exact Paired.snoc r ⟨rfl,g⟩
theorem KV.keys{kvs:List (κ×V)}{vs:List (κ×Value)}(r:KV kvs vs):kvs.map (·.1)=vs.map (·.1):=by
 unfold KV at r
 induction r with
 |nil=>rfl
 |cons h t a=>grind
theorem KV.length{kvs:List (κ×V)}{vs:List (κ×Value)}(r:KV kvs vs):kvs.length=vs.length:=wgS r
end
theorem rM(r:RelV (kV k) u):(bB P w).is k u=true:=by grind [RelV,kV,bB,zE,zF]
theorem xt:∀{g:List Key} {us:List Value},Vals (g.map kV) us->ItemsAre (bB P w) g us
 |[],_,r=>by rw[wdV]at r;cases r;exact .nil
 |k::g,_,r=>by
  rw[wau]at r
  cases r with
  |cons h t=>exact .cons (rM h) (xt t)
abbrev KT(H:Hp):List (List Key×V)->List (List Key×Addr×Value)->Prop:=Paired λp q=>p.1=q.1/\H q.2.1=some (.tup (p.1.map kV))/\RelV p.2 q.2.2
theorem KT.val{H:Hp}{kvs:List (List Key×V)}{xs:List (List Key×Addr×Value)}(r:KT H kvs xs)(k:List Key):jb (bF kvs k) ((atKey xs k).map (·.2)):=by
 induction r with
 |nil=>exact wbw
 |@cons p q ps a h t f=>
  obtain⟨d,_,g⟩:=h
  by_cases e:p.1=k
  .have c:q.1=k:=d.symm.trans e;have b:atKey (q::a) k=some q.2:=by simp[atKey,wdg,c]
   rw[cm e,b];exact g
  .have c:¬q.1=k:=λz=>e (d.trans z);have b:atKey (q::a) k=atKey a k:=by simp[atKey,wdg,c]
   rw[cn e,b];exact f
theorem KT.repl(r:KT H kvs xs)(k:List Key)(j:RelV y u) :
 KT H (kvs.map λg=>if g.1=k then(g.1,y) else g) (xs.map (putAt k u)):=by
 induction r with
 |nil=>exact .nil
 |@cons p q ps f h t c=>
  rw[wau,wau];refine .cons ?_ c;obtain⟨a,b,d⟩:=h;unfold putAt
  by_cases e:p.1=k
  .rw[if_pos e,if_pos (a.symm.trans e)];exact⟨a,b,j⟩
  .rw[if_neg e,if_neg (λz=>e (a.trans z))];exact⟨a,b,d⟩
theorem KT.put{H:Hp}{kvs:List (List Key×V)}{xs:List (List Key×Addr×Value)}(r:KT H kvs xs)(k:List Key){b:Addr}{y:V}{u:Value}(j:H b=some (.tup (k.map kV)))(g:RelV y u) :
 KT H (putK kvs k y) (storedH xs k b u):=by
 have e:(kvs.any λa=>decide (a.1=k))=(atKey xs k).isSome:=by
  rw[ib,(r.val k).jq,wfe]
 unfold putK storedH;rw[e]
 by_cases q:(atKey xs k).isSome=true
 .rw[if_pos q,if_pos q];exact r.repl k g
 .rw[if_neg q,if_neg q];exact Paired.snoc r ⟨rfl,j,g⟩
theorem KT.keeps(r:KT H kvs xs)(g:∀b ys,H b=some (.tup ys)->j b=some (.tup ys)):KT j kvs xs:=
 Paired.Mg r λ_ _ z=>{z.1,g _ _ z.2.1,z.2.2}
section
variable{P:waq}{w:World}{H:Hp}{h:Heap}{a:Addr}
theorem Ld(ok:jV P w H h)(e:Rd H a u):bW P w H h a u:=e.ok ok
theorem kR(ok:jV P w H h)(e:Rd H a (.dK kvs)):kvs.length<=sizeLine/\(a==wcR)=false/\∃vs,KV kvs vs/\h.DictOf (bB P w) a vs:=
 show bW P w H h a (.dK kvs) from Ld ok e
theorem rN(ok:jV P w H h)(e:H a=some (.dK kvs)):kvs.length<=sizeLine/\(a==wcR)=false/\∃vs,KV kvs vs/\h.DictOf (bB P w) a vs:=kR ok (.inl e)
theorem qL(ok:jV P w H h)(e:H a=some (.tup (g.map kV))):(wf0 (bB P w)).is h g a:=by
 obtain⟨_,b,r,o,c,d,n,f⟩:=(show bW P w H h a (.tup (g.map kV)) from ok a _ e);exact{o,b.toArray,n,c,d,f,by simpa using xt r}
theorem uv(ok:jV P w H h)(e:Rd H a (.dT kvs)):kvs.length<=sizeLine/\(a==wcR)=false /\
 ∃xs,KT H kvs xs/\h.DictOfH (wf0 (bB P w)) a xs:=by
 obtain⟨z,y,xs,r,o,b,c,d,f,g,i,j⟩:=(show bW P w H h a (.dT kvs) from Ld ok e);refine{z,y,xs,r,o,b,c,d,f,g,i,λx k=>?_,j}
 have all:∀{l:List (List Key×V)} {m:List (List Key×Addr×Value)},KT H l m->∀x∈m,(wf0 (bB P w)).is h x.1 x.2.1:=by
  intro l m q
  induction q with
  |nil=>grind
  |@cons p q ps n s t u=>
   grind [qL]
 exact all r x k
theorem Pm(ok:jV P w H h)(e:H a=some (.dT kvs)):kvs.length<=sizeLine/\(a==wcR)=false /\
 ∃xs,KT H kvs xs/\h.DictOfH (wf0 (bB P w)) a xs:=uv ok (.inl e)
end
def eA(H:Hp)(a:Addr)(y:V)(r:Option V):Prop:=
 (∃kvs k,Rd H a (.dK kvs)/\y=kV k/\r=bF kvs k)\/∃kvs k b,Rd H a (.dT kvs)/\y=.ref b/\H b=some (.tup (k.map kV))/\r=bF kvs k
def jZ(H:Hp)(a:Addr)(y v:V)(H':Hp):Prop:=
 (∃kvs k,H a=some (.dK kvs)/\y=kV k/\kvs.length<sizeLine/\H'=upd H a (.dK (putK kvs k v))) \/
 ∃kvs k b,H a=some (.dT kvs)/\y=.ref b/\H b=some (.tup (k.map kV))/\kvs.length<sizeLine/\H'=upd H a (.dT (putK kvs k v))
theorem eA.k{H:Hp}{a:Addr}{kvs:List (Key×V)}{k:Key}(e:H a=some (.dK kvs)):eA H a (kV k) (bF kvs k):=.inl {kvs,k,.inl e,rfl,rfl}
theorem jZ.k{H:Hp}{a:Addr}{kvs:List (Key×V)}{k:Key}{v:V}(e:H a=some (.dK kvs))(hl:kvs.length<sizeLine):jZ H a (kV k) v (upd H a (.dK (putK kvs k v))):=.inl ⟨kvs,k,e,rfl,hl,rfl⟩
section
variable{X:Cx}{pins:List (Addr×Obj)}{σ:St}{H:Hp}{s:Shared}{a:Addr}{y v:V}{u r:Value}{o:Option V}{A:Around}{E:Value->Shared->Prop}
theorem Inv.big(I:Inv X pins σ H s):wcR<s.heap.objs.size:=by
 have h:wb5<s.heap.objs.size:=(I.mod.glob.keeps I.bk).lt;exact Nat.lt_trans ⋯ h
theorem E9{Q:Value->Shared->Prop}(C:A.units+1<wcp)(I:Inv X pins σ H s)(g:eA H a y (some v))(t:RelV y u)(h:∀j s',Inv X pins σ H s'->RelV v j->Q j s') :
 wpAny (model X.prog X.w) A (getItem (.ref a) u) Q E s:=by
 rcases g with⟨d,k,e,f,l⟩ |⟨d,k,b,e,f,n,l⟩
 .subst f;obtain⟨z,hd,q,rel,i⟩:=kR I.b7 e;obtain⟨j,hw,c⟩:=jb.yy (v:=v) (o:=valueAt q k) (by rw[l];exact rel.val k);exact wpAny_getItem_of (rM t) i.mapOf hw (h j _ (I.tok _) c)
 .subst f;cases(show u=wam b from t);obtain⟨z,hd,r,rel,i⟩:=uv I.b7 e;obtain⟨j,hw,c⟩:=jb.yy (v:=v) (o:=(atKey r k).map (·.2)) (by rw[l];exact rel.val k);obtain⟨p,x,m⟩:=wdn.mp hw;refine wpAny_getItem_heap (wdh C) (qL I.b7 n) i x ?_;rw[m];exact h j _ (I.tok _) c
theorem T1{Q:Value->Shared->Prop}(p:A.units+1<wcp)(I:Inv X pins σ H s)(g:eA H a y o)(j:RelV y u)(h:∀s',Inv X pins σ H s'->Q (.bool o.isSome) s') :
 wpAny (model X.prog X.w) A (wbc .In u (.ref a)) Q E s:=by
 rcases g with⟨c,k,e,d,l⟩ |⟨c,k,b,e,d,i,l⟩
 .subst d;obtain⟨z,hd,m,rel,f⟩:=kR I.b7 e;refine wpAny_in_of (rM j) hd f.mapOf ?_;rw[<-(rel.val k).jq,<-l];exact h _ (I.tok _)
 .subst d;cases(show u=wam b from j);obtain⟨z,hd,n,rel,f⟩:=uv I.b7 e;refine wpAny_in_heap (wdh p) (qL I.b7 i) hd f ?_;have q:=(rel.val k).jq;rw[wfe]at q;rw[<-q,<-l];exact h _ (I.tok _)
theorem Jy{Q:Value->Shared->Prop}(p:A.units+1<wcp)(I:Inv X pins σ H s)(g:eA H a y o)(j:RelV y u)(h:∀s',Inv X pins σ H s'->Q (.bool (!o.isSome)) s') :
 wpAny (model X.prog X.w) A (wbc .NotIn u (.ref a)) Q E s:=by
 rcases g with⟨c,k,e,d,l⟩ |⟨c,k,b,e,d,i,l⟩
 .subst d;obtain⟨z,hd,m,rel,f⟩:=kR I.b7 e;refine wpAny_notIn_of (rM j) hd f.mapOf ?_;rw[<-(rel.val k).jq,<-l];exact h _ (I.tok _)
 .subst d;cases(show u=wam b from j);obtain⟨z,hd,n,rel,f⟩:=uv I.b7 e;refine wpAny_notIn_heap (wdh p) (qL I.b7 i) hd f ?_;have q:=(rel.val k).jq;rw[wfe]at q;rw[<-q,<-l];exact h _ (I.tok _)
theorem tV(I:Inv X pins σ H s)(g:OD (H a))(hs:wfs a s.heap h')(he:∃q,h'.get? a=some q)(new:bW X.prog X.w (upd H a ob) h' a ob) :
 Inv X pins σ (upd H a ob) {s with heap:=h',toks:=t'}:=
 I.write (x:=a) (e:=a) g (.inl rfl) (λb q c z=>(hs.2 b c).trans z) he new
theorem Bv(z:kvs.length<=sizeLine)(hd:(a==wcR)=false)(rel:KV kvs vs)(dd:h'.DictOf (bB P w) a vs) :
 bW P w g h' a (.dK kvs):=⟨z,hd,vs,rel,dd⟩
theorem Ea{Q:Unit->Shared->Prop}(J:A.units+1<wcp)(I:Inv X pins σ H s)(g:jZ H a y v T)(t:RelV y u)(C:RelV v r)(h:∀s',Inv X pins σ T s'->Q .unit s') :
 wpAny (model X.prog X.w) A (setItem (.ref a) u r) Q E s:=by
 rcases g with⟨d,k,e,j,l,m⟩ |⟨d,k,b,e,j,x,l,m⟩
 .subst j m;obtain⟨z,hd,G,rel,n⟩:=rN I.b7 e;have o:G.length<=sizeLine:=by rw[<-rel.length];exact z
  have hl:(putK d k v).length<=sizeLine:=by have:=gF d k v;lia
  refine wpAny_setItem_pairs (hsz:=o) (rM t) n λB f p=>h _ ?_;have L:∃q,B.get? a=some q:=let ⟨q,_,_,i,_⟩:=f;⟨q,i⟩
  exact tV I (by rw[e];exact wbw) p L (Bv hl hd (rel.put k C) f)
 .subst j m;cases(show u=wam b from t);obtain⟨z,hd,M,rel,n⟩:=Pm I.b7 e;have o:M.length<=sizeLine:=by rw[<-wgS rel];exact z
  have hl:(putK d k v).length<=sizeLine:=by have:=gF d k v;lia
  refine wpAny_setItem_heap (hsz:=o) (wdh J) (qL I.b7 x) n λB f p=>h _ ?_;obtain⟨q,N,O,i,R,S,U,_,V⟩:=f;refine tV I (by rw[e];exact wbw) p ⟨q,i⟩ {hl,hd,_,(rel.put k x C).keeps λc Y D=>?_,q,N,O,i,R,S,U,V};rw[ae (OC D e (λz=>nomatch z))];exact D
end
section
variable{X:Cx}{pins:List (Addr×Obj)}{σ:St}{H:Hp}{s:Shared}{a:Addr}{kvs:List (Key×V)}{k:Key}{u:Value}{A:Around}{E:Value->Shared->Prop}
end
def Pn(i:Expr):Prop:=∀ov iv,wgd i false ov iv=operate [ov,iv] (getItem ov iv)
theorem Jz{prog:waq}{w:World}{A:Around}{E:Value->Shared->Prop}{s:Shared}{env:Env}{value slice:Expr}{pos:Pos}{T id:String}{Q:Value->Shared->Prop}
 (hl:wfm (.type T) "__getitem__"=pure (some (.builtin id))) (hs:Pn slice)
 (h:wpAny (model prog w) A (eval value env) (λo j=>wpAny (model prog w) A (eval slice env) (λi g=>g.TypeIs o T/\wpAny (model prog w) A (getItem o i) Q E g) E j) E s) :
 wpAny (model prog w) A (eval (.Subscript value slice pos) env) Q E s:=by
 refine Subscript_ (wbb h (λo j c=>wbb c (λi g a=>?_) λ_ _ x=>x) λ_ _ x=>x);obtain⟨e,a⟩:=a;unfold wgU;refine wa7 ?_;rw[getitemInPython_of_ne e.not_modules];refine wa7 (wpAny_specialOf e hl ?_)
 have fin:wpAny (model prog w) A (wgd slice false o i) (λr b=>wpAny (model prog w) A (letTemporaryGo value o r >>= λ_=>pure r) Q E b) E g:=by
  rw[hs o i];exact wpAny_operating (wbb a (λr b d=>wa7 (wpAny_letTemporaryGo (wax d))) λ_ _ x=>x)
 first
  |exact wax (wa7 fin)
  |exact wa7 (wax (wa7 fin))
  |exact wa7 fin
theorem zS{X:Cx}(I:Inv X j σ H s)(g:eA H a y o):s.TypeIs (.ref a) "dict":=by
 rcases g with⟨c,k,e,_,_⟩ |⟨c,k,b,e,_,_,_⟩
 .obtain⟨_,_,f,_,d⟩:=kR I.b7 e;exact d.typeIs
 .obtain⟨_,_,h,_,d⟩:=uv I.b7 e;exact d.typeIs
def Pp(td ty:TE):TE:=λσ H Q=>td σ H λx H1=>ty σ H1 λy H2=>∃a v,x=.ref a/\eA H2 a y (some v)/\Q v H2
def T3(ty td:TE):TE:=λσ H Q=>ty σ H λy H1=>td σ H1 λx H2=>∃a o,x=.ref a/\eA H2 a y o/\Q (.bl o.isSome) H2
def JA(ty td:TE):TE:=λσ H Q=>ty σ H λy H1=>td σ H1 λx H2=>∃a o,x=.ref a/\eA H2 a y o/\Q (.bl (!o.isSome)) H2
def Le(td ty tv:TE):TS:=λD σ H=>tv σ H λv H1=>td σ H1 λx H2=>ty σ H2 λy H3=>∃a H4,x=.ref a/\jZ H3 a y v H4/\D.nx σ H4
section
variable{X:Cx}{o i e value:Expr}{pos pos' SN:Pos}{td ty tv:TE}
theorem d8(j:X.A.units+1<wcp)(l:PE X o td)(hi:PE X i ty)(hs:Pn i):PE X (.Subscript o i pos) (Pp td ty):=by
 refine{?_};intro b s σ H Q I h;refine Jz PySem.F.slot_dict_getitem.lookup hs (bO (l b s σ H _ I h) λu e ⟨x,f,k,m,n⟩=>bO (hi b e σ f _ k n) λw z ⟨y,p,d,q,a,v,ex,g,r⟩=>?_);subst ex;obtain rfl:u=wam a:=m;exact{zS d g,E9 j d g q λB C t c=>⟨v,p,t,c,r⟩}
theorem Go(j:X.A.units+1<wcp)(hi:PE X i ty)(l:PE X o td):PC X .In i o (T3 ty td):=by
 refine{?_};intro b s σ H Q I h;refine bO (hi b s σ H _ I h) λv c ⟨y,d,e,f,k⟩=>bO (l b c σ d _ e k) λu w ⟨x,m,n,p,a,q,ex,g,r⟩=>?_;subst ex;obtain rfl:u=wam a:=p;exact T1 j n g f λz t=>{.bl q.isSome,m,t,rfl,r}
theorem xu(j:X.A.units+1<wcp)(hi:PE X i ty)(l:PE X o td):PC X .NotIn i o (JA ty td):=by
 refine{?_};intro b s σ H Q I h;refine bO (hi b s σ H _ I h) λv c ⟨y,d,e,f,k⟩=>bO (l b c σ d _ e k) λu w ⟨x,m,n,p,a,q,ex,g,r⟩=>?_;subst ex;obtain rfl:u=wam a:=p;exact Jy j n g f λz t=>{.bl (!q.isSome),m,t,rfl,r}
theorem ee(j:X.A.units+1<wcp)(l:PE X o td)(hi:PE X i ty)(p:PE X value tv)(hs:wc7 value (some (.Subscript o i pos')) pos.line X.env=pure false) :
 PS X (.Assign [.Subscript o i pos'] value pos) (Le td ty tv):=by
 refine{?_};intro b s σ H D I h;refine wpAny_Assign_Subscript (bO (p b s σ H _ I h) λr c ⟨v,d,e,f,k⟩=>bO (l b c σ d _ e k) λu m ⟨x,n,q,t,w⟩=>bO (hi b m σ n _ q w) λJ L ⟨y,M,z,B,a,C,ex,g,E⟩=>?_) hs;subst ex;obtain rfl:u=wam a:=t;exact Ea j z g B f λN G=>⟨σ,C,G,E⟩
end
theorem uw(h:Heap)(g:wcR<h.objs.size):bW P w H (h.push {cls:=.type "dict",data:=.dict #[]}) h.objs.size (.dK []):=
 {waz _,beq_eq_false_iff_ne.mpr (wbu (waw g)),[],.nil,Heap.DictOf.new h}
def My:TE:=λ_ H Q=>∀p,H p=none->Q (.ref p) (upd H p (.dK []))
section
variable{X:Cx}{pos:Pos}
theorem da:PE X (.Dict [] [] pos) My:={λb s σ H Q I h=>
 wpAny_Dict_empty {.ref s.heap.objs.size,_,I.laid (a:=s.heap.objs.size) (o:=.dK []) (t':=s.toks) (λ_ _ q=>wa9 _ q) (waa _) (uw s.heap I.big),rfl,h _ (I.b7.fresh (waa _))}}
end
def Bw:List (TE×TE)->St->Hp->(List (V×V)->Hp->Prop)->Prop
 |[],_,H,Q=>Q [] H
 |(tk,tv)::r,σ,H,Q=>tk σ H λx H1=>tv σ H1 λy H2=>Bw r σ H2 λps H3=>Q ((x,y)::ps) H3
abbrev VV:List (V×V)->List (Value×Value)->Prop:=Paired λp q=>RelV p.1 q.1/\RelV p.2 q.2
abbrev Pq(X:Cx)(pos:Pos)(keys:List (Option Expr))(values:List Expr)(Lf:List (TE×TE)):Prop:=
 ∀(pins:List (Addr×Obj)) (s:Shared) (σ:St) (H:Hp) (Q:List (V×V)->Hp->Prop),Inv X pins σ H s->Bw Lf σ H Q ->
  wpAny (model X.prog X.w) X.A (evalPairs (pairTrees keys values X.env pos)) (λvs s'=>∃ps H',Inv X pins σ H' s'/\VV ps vs/\Q ps H') X.xe s
structure Od(X:Cx)(pos:Pos)(keys:List (Option Expr))(values:List Expr)(Lf:List (TE×TE)):Prop where
 go:Pq X pos keys values Lf
instance {X:Cx} {pos:Pos} {keys:List (Option Expr)} {values:List Expr} {Lf:List (TE×TE)}:CoeFun (Od X pos keys values Lf) λ_=>Pq X pos keys values Lf:=⟨Od.go⟩
theorem D8{X:Cx}:Od X pos [] [] []:={λa s σ H Q I h=>pairTrees_nil_walk {[],H,I,.nil,h}}
theorem zT{X:Cx}(hk:PE X k tk)(j:PE X v l)(p:Od X pos r vs g) :
 Od X pos (some k::r) (v::vs) ((tk,l)::g):={λa s σ H Q I h=>
 pairTrees_cons_walk (bO (hk a s σ H _ I h) λu b ⟨x,c,d,e,f⟩=>bO (j a b σ c _ d f) λA i ⟨y,m,n,o,q⟩=>
  bO (p a i σ m _ n q) λB C ⟨ps,t,w,rel,z⟩=>{(x,y)::ps,t,w,.cons ⟨e,o⟩ rel,z})}
noncomputable def k6(kvs more:List (Key×V)):List (Key×V):=more.foldl (λacc kv=>putK acc kv.1 kv.2) kvs
theorem KV.merge:∀{more:List (Key×V)} {rs:List (Key×Value)} {kvs:List (Key×V)} {vs:List (Key×Value)},KV more rs->KV kvs vs->KV (k6 kvs more) (merged vs rs):=by
 intro more rs kvs vs r;unfold KV at r
 induction r generalizing kvs vs with
 |nil=>intro q;exact q
 |@cons p q ps c h t a=>
  intro b
  have e:KV (putK kvs p.1 p.2) (stored vs q.1 q.2):=by
   have:=b.put p.1 h.2;rw[<-h.1];exact this
  exact a e
theorem wy:∀(more kvs:List (Key×V)),(k6 kvs more).length<=kvs.length+more.length:=by intro more;induction more<;>grind [putK,gF,k6,waH]
theorem ux:∀{kvs:List (Key×V)} {ws:List (Value×Value)},VV (kvs.map λg=>(kV g.1,g.2)) ws->∃rs,Carries (bB P w) ws rs/\KV kvs rs
 |[],_,r=>by rw[wdV]at r;cases r;exact{[],wbw,.nil}
 |p::kvs,_,r=>by
  rw[wau]at r
  cases r with
  |@cons a b as bs h t=>
   obtain⟨rs,c,q⟩:=ux (P:=P) (w:=w) t;obtain⟨b1,d⟩:=b;exact{(p.1,d)::rs,{rM h.1,rfl,c},.cons ⟨rfl,h.2⟩ q}
def Pt(Lf:List (TE×TE)):TE:=λσ H Q=>∀p,H p=none->Bw Lf σ (upd H p (.dK [])) λps H2=>H2 p=some (.dK [])/\∃kvs:List (Key×V),ps=kvs.map (λkv=>(kV kv.1,kv.2))/\kvs.length<=15/\Q (.ref p) (upd H2 p (.dK (k6 [] kvs)))
theorem Dc{X:Cx}(h:Od X pos keys values j)(g:keys.all (·.isSome)=true)(hl:keys.length=values.length)(h0:keys≠[])
 (l:keys.length<=15):PE X (.Dict keys values pos) (Pt j):=by
 refine{?_};intro b s σ H Q I q;have hn:=I.b7.fresh (waa s.heap.objs.size);have k:=I.laid (a:=s.heap.objs.size) (o:=.dK []) (h':=s.heap.push {cls:=.type "dict",data:=.dict #[]}) (t':=s.toks) (λ_ _ q=>wa9 _ q) (waa _) (uw s.heap I.big);refine wpAny_Dict_walk (knd:=bB X.prog X.w) g hl h0 l (bO (h b _ σ _ _ k (q _ hn)) λD E ⟨ps,G,i,rel,e,d,m,lk,n⟩=>?_);subst m;obtain⟨p,c,r⟩:=ux (P:=X.prog) (w:=X.w) rel;obtain⟨z,hd,t,u,v⟩:=rN i.b7 e;cases u;refine{p,c,v,λh' f x=>{.ref s.heap.objs.size,_,?_,rfl,n}}
 have y:(k6 [] d).length<=sizeLine:=by
  have A:=wy d [];rw[wg4]at A;rw[wc4];lia
 have B:∃q,h'.get? s.heap.objs.size=some q:=let ⟨q,_,_,C,_⟩:=f;⟨q,C⟩
 exact tV i (by rw[e];exact wbw) x B (Bv y hd (r.merge .nil) f)
structure M1(X:Cx)(o:Expr)(m:Str)(apos:Pos)(e:Expr)(eS:Pos):Prop where
 base:wcA o m X.env (eval o X.env)=eval o X.env
 few:((backTo eS (starEach [e] X.env)).all (λx=>!x.1)&&(backToKw eS (wcH [] X.env)).all (λx=>x.1.isSome)
  && decide (([e]:List Expr).length+([]:List wdr).length+(if ([]:List wdr).isEmpty then 0 else 1)<30))=true
 line:(apos.endLine==eS.line)=true
 trees:backTo eS (starEach [e] X.env)=[(false,eval e X.env)]
structure M2(X:Cx)(o:Expr)(m:Str)(apos:Pos)(e f:Expr)(eS:Pos):Prop where
 base:wcA o m X.env (eval o X.env)=eval o X.env
 few:((backTo eS (starEach [e,f] X.env)).all (λx=>!x.1)&&(backToKw eS (wcH [] X.env)).all (λx=>x.1.isSome)
  && decide (([e,f]:List Expr).length+([]:List wdr).length+(if ([]:List wdr).isEmpty then 0 else 1)<30))=true
 line:(apos.endLine==eS.line)=true
 trees:backTo eS (starEach [e,f] X.env)=[(false,eval e X.env),(false,eval f X.env)]
def T4(H:Hp)(a:Addr):Prop:=(∃kvs,Rd H a (.dK kvs))\/∃kvs,Rd H a (.dT kvs)
theorem Gp{X:Cx}(I:Inv X j σ H s)(d:T4 H a) :
 s.TypeIs (.ref a) "dict"/\(∀b,wam a=.ref b->∃ob,s.heap.get? b=some ob/\ob.dict=none)/\(a==wcR)=false:=by
 rcases d with⟨f,e⟩ |⟨f,e⟩
 .obtain⟨_,hd,i,_,c⟩:=kR I.b7 e;refine{c.typeIs,λb q=>?_,hd};cases q;obtain⟨ob,_,_,g,h,_⟩:=c;exact⟨ob,g,h.2.1⟩
 .obtain⟨_,hd,k,_,c⟩:=uv I.b7 e;refine{c.typeIs,λb q=>?_,hd};cases q;obtain⟨ob,_,_,g,h,_⟩:=c;exact⟨ob,g,h.2.1⟩
section
variable{X:Cx}{pins:List (Addr×Obj)}{σ:St}{H:Hp}{s:Shared}{a:Addr}{y d:V}{u r:Value}{o:Option V}{A:Around}{E:Value->Shared->Prop}
theorem Mz{Q:Value->Shared->Prop}(t:A.units+1<wcp)(I:Inv X pins σ H s)(g:eA H a y o)(j:RelV y u)(rd:RelV d r)(h:∀p s',Inv X pins σ H s'->RelV (o.getD d) p->Q p s') :
 wpAny (model X.prog X.w) A (call (.builtin "dict.get") [.ref a,u,r]) Q E s:=by
 rcases g with⟨f,k,e,i,l⟩ |⟨f,k,b,e,i,m,l⟩
 .subst i;obtain⟨z,hd,q,rel,c⟩:=kR I.b7 e;refine wfy weu c.typeIs wgf (wfR _ _ _) (meets_dict_get_default (bB X.prog X.w) a (rM j) hd r) {_,c.mapOf,h _ _ (I.tok _) ?_};rw[l];exact(rel.val k).getD rd
 .subst i;cases(show u=wam b from j);obtain⟨z,hd,n,rel,c⟩:=uv I.b7 e;refine wfy weu c.typeIs wgf (wfR _ _ _) (meetsH_dict_get_default (wf0 (bB X.prog X.w)) a b hd r) {wdh t,k,n,qL I.b7 m,c,h _ _ (I.tok _) ?_};rw[l];exact(rel.val k).getD rd
end
def MA(td ty tx:TE):TE:=λσ H Q=>td σ H λx H1=>∃a,x=.ref a/\T4 H1 a/\ty σ H1 λy H2=>tx σ H2 λz H3=>∃o,eA H3 a y o/\Q (o.getD z) H3
section
variable{X:Cx}{o e f:Expr}{apos eS:Pos}{td ty tx:TE}
theorem Gq(j:X.A.units+1<wcp)(l:PE X o td)(he:PE X e ty)(p:PE X f tx)(m:M2 X o "get" apos e f eS):PE X (.Call (.Attribute o "get" apos) [e,f] [] eS) (MA td ty tx):=by
 refine{?_};intro b s σ H Q I h;refine wpAny_Call_method m.base m.few m.line wd5 weu PySem.F.type_dict_get (bO (l b s σ H _ I h) λu k ⟨x,n,i,q,a,ex,d,r⟩=>?_);subst ex;obtain rfl:u=wam a:=q;obtain⟨t,v,_⟩:=Gp i d;refine{t,v,?_};rw[m.trees]
 refine wdp rfl (weE (wde (bO (he b k σ n _ i r) λO w ⟨y,B,C,D,E⟩=>
  wde (bO (p b w σ B _ C E) λR S ⟨z,G,J,L,T,g,M⟩=>wfd ?_))))
 exact Mz j J g D L λU V N c=>{_,G,N,c,M}
end
section
variable{X:Cx}{pins:List (Addr×Obj)}{σ:St}{H:Hp}{s:Shared}{a:Addr}{kvs:List (Key×V)}{A:Around}{E:Value->Shared->Prop}
end
section
variable{X:Cx}{pins:List (Addr×Obj)}{σ:St}{H:Hp}{s:Shared}{a:Addr}{y:V}{u:Value}{A:Around}{E:Value->Shared->Prop}
end
end L2
namespace Vy
open PySem PySem.W PySem.Calls PyProof.Rows
theorem tE:∀(ns:List Int) (vs:List Value),WellAll P h vs (ns.map WData.int)->IntsAre vs ns:=by
 intro ns
 induction ns with
 |nil=>
  intro vs w;rw[wdV]at w;cases w;exact .nil
 |cons n ns c=>
  intro vs w;rw[wau]at w
  cases w with
  |cons a b=>
   cases a;exact .cons _ _ (c _ b)
theorem Eb{l:weM}{n:Nat}(hn:l.most=some n){P:Params}{h:Heap}{args:List WData}{g:List Value}
 (j:l.row.toRowW.claim.pre args=true) (p:WellAll P h g args) :
 ∃a vs ns,g=[wam a]/\args=[WData.list (ns.map WData.int)]/\h.get? a=some {cls:=.type "list",data:=.seq vs.toArray}/\IntsAre vs ns/\ns.length<=n:=by
 have i:WShape.hasAll [] args [.list .int]=true:=(pre_splitW j).1;have hc:l.pre.holds [] {args:=args}=true:=(pre_splitW j).2;obtain⟨d,r,rfl,k,m⟩:=hasAllW_cons i;obtain rfl:=hasAllW_nil m;obtain⟨w,rfl,o⟩:=hasW_list k;obtain⟨ns,rfl⟩:=items_int o
 have b:ns.length<=n:=by
  unfold OpenLaw.pre at hc
  have e:(WTm.not (.lt (.lit (.int (n:Int))) (.len (.arg 0)))).holds [] {args:=[.list (ns.map .int)]}=true:=by
   have e:=(holds_andW hc).1;rw[hn]at e;exact e
  have f:=condW_of e (w_not (w_lt w_lit (w_len_list (w_arg rfl))));rw[wa0]at f;refine wfz λq=>?_;have s:(n:Int)<((ns.length:Nat):Int):=()
  first
   |(rw[decide_eq_true s]at f;exact absurd f ⋯)
   |(simp at f;omega)
 cases p with
 |cons t u=>
  cases u
  cases t with
  |list v c=>exact{_,_,ns,rfl,rfl,v,tE ns _ c,b}
theorem Ec(l:weM)(args:List WData):l.row.toRowW.claim.post args (.bool true) args=true:=
 postW_of (r:=l.row.toRowW) (X:=(true==true))
  (show WShape.has [] (.bool true) .bool=true by first |rfl |decide |simp[WShape.has,WShape.arms,WShape.armsAll])
  (show (WTm.eq .res (.lit (.bool true))).value [] {args:=args,res:=some (.bool true),after:=args}=some (.bool (true==true)) from w_eq_bool (w_res rfl) w_lit) rfl
theorem zU{l:weM}{n:Nat}{q:waq}{loose:List Str}{XP:(Str->Option Value)->Heap->Prop}{YP:World->Heap->Prop}{d:DefRec}
 (hn:l.most=some n) (p:d.params.defaults=[])
 (call:∀(w:World) (s₀ g:Shared) (mg t:Str->Option Value) (fa:Addr) (o:Obj) (pm cd j:Value) (a:Addr) (vs:List Value) (ns:List Int),
   Ground q loose [] XP w s₀ mg t g.heap->YP w g.heap ->
   g.heap.get? fa=some o->o.data=.func (docDef d.name d.params d.body d.scope pm cd j)->g.heap.CodeRec cd d.name->mg d.name=some (.ref fa) ->
   g.heap.get? a=some {cls:=.type "list",data:=.seq vs.toArray}->IntsAre vs ns->ns.length<=n->g.gens=#[] ->
   codeAny (model l.prog w) callerA (.call (.ref fa) {[.ref a],[]}) (λr s'=>r=.ok (.ret (.bool true))/\OldK g.heap s'.heap/\s'.os=g.os/\AllBare s'.gens) g) :
 whU q loose XP YP l.row.toRowW d [] (λf vs=>whX f vs):=by
 intro w s₀ g mg t G Y fa o pm cd j x kV y hd i s k z args u as c v A m B;obtain rfl:x=.none:=Dflts.none s p;obtain rfl:kV=.none:=Dflts.noKw s;obtain⟨a,vs,ns,rfl,rfl,e,b,h⟩:=Eb hn c m;refine enter_call (wch (call w s₀ g mg t fa o pm cd j a vs ns G Y y (fd_plain hd) i k e b h z) λr s' C=>?_);obtain⟨rfl,D,E,H⟩:=C;exact{.inl {.bool true,.bool true,[],rfl,λ_=>rfl,.bool true,Ec l _,λ_=>{List.Pairwise.nil,λ_ I=>(nomatch I)}},D,E,H}
section
variable{prog:waq}{w:World}{A:Around}{E:Value->Shared->Prop}{s:Shared}{K:Frag}
end
end Vy
namespace L2
open PySem PySem.Spec PyProof.Rows
theorem xx:∀{vs:List Value} {ns:List Int},IntsAre vs ns->Vals (ns.map V.int) vs
 |_,_,.nil=>.nil
 |_,_,.cons n t h=>.cons ⟨t,rfl⟩ (xx h)
def Only(H:Hp):Prop:=∀b,H b=none\/∃o xs,H b=some (.frz o (.lst xs))
theorem Gr{P:waq}{w:World}{K:wa2}{mg I:Str->Option Value}{CX:FO}{k:Nat}{fa a:Addr}{fd:wb6}{x:Str}{sp:Sp}{g:Shared}{vs:List Value}{ns:List Int}
 (KX:K.In g.heap) (p:g.heap.Ns wb5 mg) (j:g.heap.Ns builtinsNs I) (J:∀x:Str,x≠"__name__"->I x=waX x) (t:g.heap.NoLimit) (hg:g.gens=#[])
 (ha:g.heap.get? a=some {cls:=.type "list",data:=.seq vs.toArray}) (hi:IntsAre vs ns) (hl:ns.length<=sizeLine) (hr:dJ k callerA)
 (F:∀base:Heap,K.In base->base.Ns wb5 mg->aS P w K mg base CX k fa fd [x] sp) (l:∀(s:Shared) (u:Value),BindsTo s fd {[u],[]} [(x,u)])
 (T:∀H:Hp,Only H->aL K H a (ns.map V.int)->sp [.ref a] H (λv _=>v=.bl true) λ_ _ _=>False)
 (U:∀H e s',CX [] H g (λ_ _ _=>False) e s'->False) :
 codeAny (model P w) callerA (.call (.ref fa) {[.ref a],[]}) (λr s'=>r=.ok (.ret (.bool true))/\OldK g.heap s'.heap/\s'.os=g.os/\AllBare s'.gens) g:=by
 have G:=xx hi;have f:=hi.length
 have core:∀H:Hp,Only H->aL K H a (ns.map V.int)->jV P w H g.heap->(∀b,H b≠none->b=a)->(H a≠none->K.lookup a=none) ->
  codeAny (model P w) callerA (.call (.ref fa) {[.ref a],[]}) (λr s'=>r=.ok (.ret (.bool true))/\OldK g.heap s'.heap/\s'.os=g.os/\AllBare s'.gens) g:=by
  intro H L O b7 M Q;have Dd:∀{b:Addr} {o:Obj},g.heap.get? b=some o->H b=none->(yr g.heap H).get? b=some o:=λe n=>FY e n
  have D:∀{b:Addr} {o:Obj} {i:Array DictEntry} {y:Nat},g.heap.get? b=some o->o.data=.dict i y->H b=none:=λ{b o i y} e d=>by
   cases q:H b with
   |none=>rfl
   |some u=>
    have E:b=a:=M b (by rw[q];simp);subst E;rw[ha]at e;cases e;have R:Data.seq vs.toArray _=Data.dict i y:=d;cases R
  have c:∀{b:Addr} {m:Str->Option Value},g.heap.Ns b m->(yr g.heap H).Ns b m:=λ{b m} ⟨o,i,y,e,d,r⟩=>{o,i,y,Dd e (D e d),d,r}
  have A:K.In (yr g.heap H):=λb o e=>Dd (KX b o e) (by
   cases q:H b with
   |none=>rfl
   |some u=>
    have E:b=a:=M b (by rw[q];simp);subst E
    rw[Q (by rw[q];simp)]at e;cases e)
  have S:Mod K mg (yr g.heap H):={A,c p,{I,c j,J},let ⟨X,Y,Z⟩:=t;{X,c Y,Z}};have e0:Bp P w K mg (yr g.heap H) callerA [] g H:={rfl,S,λb o e=>Jg e,wdS (DZ _ _),trivial,λb j=>absurd (show b∈([]:List Addr) from j) (by simp),b7,.of_eq hg};refine wch ((F _ A (c p)).run callerA [] g H {[.ref a],[]} [.ref a] [.ref a] _ _ hr e0 (l g (.ref a)) (.cons rfl .nil) (T H L O)) λr s' h=>?_
  cases r with
  |error e=>exact(U H e s' h).elim
  |ok fl=>
   cases fl with
   |next=>exact wb7 h
   |brk=>exact wb7 h
   |cont=>exact wb7 h
   |ret u=>
    obtain⟨v,H',os,bare,un,B,r',q⟩:=h;have q':v=.bl true:=q;subst q';obtain rfl:u=wgF true:=r';refine{rfl,OldK.of_keep λb o e=>?_,os,bare}
    cases q:H b with
    |none=>exact un.keep b o e q (by intro z;exact absurd (show b∈([]:List Addr) from z) (by simp)) (by simp)
    |some u=>
     rcases L b with z |⟨ob,xs,z⟩
     .rw[q]at z;cases z
     .have z2:=un.tD b ob _ z;obtain⟨N,_⟩:=b7 b _ z;obtain⟨e2,_⟩:=B b _ z2;rw[e]at N;cases N;exact e2
 cases hk:K.lookup a with
 |some o=>
  have e:=KX a o hk;rw[ha]at e;cases e;refine core (λ_=>none) (λ_=>.inl rfl) (.inr {_,vs.toArray,_,hk,rfl,rfl,rfl,by rw[waB,f];exact hl,by simpa using G}) (λb u z=>by have C:(none:Option HO)=some u:=z;cases C) (λb z=>absurd rfl z) λz=>absurd rfl z
 |none=>
  refine core (λb=>if b=a then some (.frz {cls:=.type "list",data:=.seq vs.toArray} (.lst (ns.map V.int))) else none) (λb=>?_) (.inl (.inr {{cls:=.type "list",data:=.seq vs.toArray},if_pos rfl})) (λb u z=>?_) (λb z=>?_) λ_=>hk
  .by_cases j:b=a
   .exact .inr {_,_,if_pos j}
   .exact .inl (if_neg j)
  .by_cases j:b=a
   .have C:=(if_pos j).symm.trans z;cases C;subst j;exact{ha,by rw[wa0];exact hl,vs,_,G,ha}
   .have C:=(if_neg j).symm.trans z;cases C
  .by_cases j:b=a
   .exact j
   .exact absurd (if_neg j) z
noncomputable abbrev KOf{K:wa2}{h:Heap}(_:K.In h):wa2:=K
theorem JB{l:weM}{n k:Nat}{q:waq}{loose:List Str}{XP:(Str->Option Value)->Heap->Prop}{YP:World->Heap->Prop}{d:DefRec}{K:Params->wa2}{CX:World->FO}{sp:World->Sp}{x:Str}
 (hn:l.most=some n) (p:n<=sizeLine) (r:d.params.defaults=[]) (I:dJ k callerA)
 (J:∀(w:World) (h:Heap),YP w h->(K w.params).In h)
 (F:∀(w:World) (mg:Str->Option Value) (fa:Addr) (h:Heap),(K w.params).In h->h.Ns wb5 mg->mg d.name=some (.ref fa) ->
   ∃fd:wb6,(∀(s:Shared) (u:Value),BindsTo s fd {[u],[]} [(x,u)]) /\
    ∀base:Heap,(K w.params).In base->base.Ns wb5 mg->aS l.prog w (K w.params) mg base (CX w) k fa fd [x] (sp w))
 (t:∀(w:World) (H:Hp) (a:Addr) (ns:List Int),ns.length<=n->Only H->aL (K w.params) H a (ns.map V.int)->sp w [.ref a] H (λv _=>v=.bl true) λ_ _ _=>False)
 (C:∀(w:World) (H:Hp) (s:Shared) (e:Value) (s':Shared),CX w [] H s (λ_ _ _=>False) e s'->False) :
 whU q loose XP YP l.row.toRowW d [] (λf vs=>whX f vs):=by
 refine Vy.zU hn r λw z j mg Q fa o pm R B a vs ns G Y S hd D y m i c E=>?_;have A:=J w _ Y;obtain⟨fd,L,M⟩:=F w mg fa _ A G.T.g y;exact Gr A G.T.g G.T.b G.T.builtins G.T.nolimit E m i (wak c p) I M L (λH N O=>t w H a ns c N O) λH e s'=>C w H j e s'
noncomputable def inClass(s:Stmt)(j:Nat):Stmt:=match s with
 |.ClassDef _ _ _ body _ _ _ _ _ _ _=>body.getD j (.Pass ⟨0,0,0,0⟩)
 |_=>.Pass ⟨0,0,0,0⟩
noncomputable def dq(s:Stmt):Arguments:=match s with
 |.FunctionDef _ a _ _ _ _ _ _ _ _=>a
 |_=>{posonlyargs:=[],args:=[],vararg:=none,kwonlyargs:=[],kw_defaults:=[],kwarg:=none,defaults:=[]}
noncomputable def cg(s:Stmt):List Stmt:=match s with
 |.FunctionDef _ _ b _ _ _ _ _ _ _=>b
 |_=>[]
noncomputable def aH(s:Stmt):wdc:=match s with
 |.FunctionDef _ _ _ _ _ _ sc _ _ _=>sc
 |_=>{kind:=.function,names:=[],isGenerator:=false,isCoroutine:=false}
noncomputable abbrev cP:FO:=λ_ _ _ _ _ _=>False
abbrev E0:XK:=λ_ _ _=>False
theorem p5{X:Cx}:Passes cP X E0:=λ_ _ _ _ _ _ _ h=>h.elim
structure zV(K:wa2)(x qual:Str)(st:Stmt)(f:Addr)(fd:wb6):Prop where
 ex:∃(oc:Value) (od:Option Addr) (kV doc pm:Value) (an:Option Addr) (gG ct:Value) (Gs:Array (Option Value)),
  fd=wcx x qual (dq st) (cg st) (aH st) .none kV doc pm an gG ct/\K.lookup f=some {oc,od,.func fd,Gs}/\we6 K gG qual=true
 kp:wcW K (.ref f)=true
section
variable{P:waq}{w:World}{K:wa2}{mg:Str->Option Value}{base:Heap}
theorem zV.ok{x g:Str}{st:Stmt}{f:Addr}{fd:wb6}{N ps:List Str}{k:Nat}{sp:Sp}(F:zV K x g st f fd)(S:tU N ps (aH st))(len:∀vs H Q E,sp vs H Q E->vs.length=ps.length)
 (l:∀(j:Value) (A:Around) (outer:List Env) (s:Shared) (H:Hp) (vs:List V) (Q:VK) (E:XK),dJ k (A.deeper (envOfC g (aH st) s.heap.objs.size f j))->sp vs H Q E ->
   ∃t,tR (uo cP P w K mg base N g (aH st) f j A outer s H E).L7 (cg st) t/\t (Ends.fn Q) (start N vs) H):aS P w K mg base cP (k+1) f fd ps sp:=by
 obtain⟨i,m,kV,c,pm,n,j,ct,d,rfl,lk,a⟩:=F.ex;refine Lc lk a S len λA outer s H vs Q E e b=>?_;obtain⟨t,h,q⟩:=l j A outer s H vs Q E e b;exact⟨t,h.L7,q⟩
theorem zV.binds{x g:Str}{st:Stmt}{f:Addr}{fd:wb6}{ps:List Str}(F:zV K x g st f fd)
 (h:∀(kV j pm:Value) (p:Option Addr) (l ct:Value) (us:List Value),us.length=ps.length->bindArgs (wcx x g (dq st) (cg st) (aH st) .none kV j pm p l ct) {us,[]}=pure (ps.zip us)):Binds K fd ps []:=by
 obtain⟨c,d,kV,j,pm,p,l,ct,a,rfl,lk,b⟩:=F.ex;exact .all (h kV j pm p l ct)
theorem Gu{x g:Str}{st:Stmt}{f:Addr}{C:Value}{I t:Option Addr}{r:Array (Option Value)}{kV p pm j ct:Value}(l:K.lookup f=some {C,I,.func (wcx x g (dq st) (cg st) (aH st) .none kV p pm t j ct),r})
 (c:we6 K j g=true) (k:wcW K (.ref f)=true):zV K x g st f (wcx x g (dq st) (cg st) (aH st) .none kV p pm t j ct):={⟨C,I,kV,p,pm,t,j,ct,r,rfl,l,c⟩,k}
end
theorem eW(g:dJ k A):A.units+1<wcp:=wbi (Nat.add_le_add_left (by decide:1<=64) _) g.units
theorem bE(h:n<=1000):n<sizeLine:=wbi h ⋯
section
variable{X:Cx}
theorem pv(i:Nat)(j:X.N[i]?=some x:=by rfl)(l:OG X.env.scope x:=by first |exact wdW rfl |exact Or.inr (wdW rfl) |exact Or.inr (Or.inr rfl))(hd:(x==("__debug__":Str))=false:=by decide)
 (g:(x==("__classdict__":Str))=false:=by decide):PE X (.Name x pos) (Jj i):=Mj j l hd g
end
theorem bx{A B:Prop}(h:B):if false=true then A else B:=by
 grind
theorem eD{A B:Prop}(h:A):if true=true then A else B:=by
 grind
theorem uz{c A B:Prop}[Decidable c](g:c->A)(j:¬c->B):if c then A else B:=by
 by_cases h:c
 .rw[if_pos h];exact g h
 .rw[if_neg h];exact j h
def a7(H H':Hp):Prop:=∀b o,H b=some o->H' b=some o
theorem a7.refl(H:Hp):a7 H H:=λ_ _ h=>h
theorem a7.trans(a:a7 H g)(b:a7 g j):a7 H j:=λc o h=>b c o (a c o h)
theorem a7.free(e:a7 H g)(h:g l=Option.none):H l=Option.none:=by
 cases q:H l with
 |none=>rfl
 |some o=>
  rw[e l o q]at h;cases h
theorem a7.seq{K:wa2}{H g:Hp}{a:Addr}{xs:List V}(e:a7 H g)(h:aL K H a xs):aL K g a xs:=by
 rcases h with(h |⟨o,h⟩) |h
 .exact .inl (.inl (e _ _ h))
 .exact .inl (.inr {o,e _ _ h})
 .exact .inr h
section
variable{κ:Type}[DecidableEq κ]
theorem Gv{kvs:List (κ×V)}{k:κ}(h:bF kvs k=none):¬k∈kvs.map (·.1):=by
 intro m;obtain⟨p,a,e⟩:=wab.mp m;have q:(kvs.any λb=>decide (b.1=k))=true:=wcm.mpr {p,a,decide_eq_true e};rw[ib,h]at q;exact absurd q (by simp)
theorem yG{kvs:List (κ×V)}{k:κ}{v:V}(h:bF kvs k=some v):k∈kvs.map (·.1):=by
 have q:(kvs.any λa=>decide (a.1=k))=true:=by
  rw[ib,h]
  all_goals rfl
 obtain⟨p,b,e⟩:=wcm.mp q;exact wab.mpr {p,b,of_decide_eq_true e}
end
theorem a7.upd(h:H a=none):a7 H (upd H a o):=λb u e=>by rw[ae (af e h)];exact e
structure lS(J:It)(Ok:Hp->Prop)(xs:List V):Prop where
 go:∀i H,Ok H->i<xs.length->J.go i H
 ui:∀i H x H',Ok H->i<xs.length->J.ui i H x H'->H'=H/\xs[i]?=some x
 stop:∀H,Ok H->J.stop xs.length H
theorem aR(K:wa2)(a:Addr)(xs:List V):lS (Ob K a) (λH=>aL K H a xs) xs:=
 {λi H q hi=>{xs,xs[i],q,by simp[hi]},λi H x b q _ y=>{y.1,y.2 xs q},λH q=>{xs,q,waa _}}
noncomputable def Rz(n:Nat)(val:Nat->V):It:={λi _=>i<n,λi H x H'=>H'=H/\x=val i,λi _=>n<=i}
theorem MC{val:Nat->V}(hn:xs.length=n)(g:∀i x,xs[i]?=some x->val i=x):lS (Rz n val) (λ_=>True) xs:=by
 subst hn;refine{λi H _ hi=>hi,λi H x a _ hi y=>{y.1,?_},λH _=>waa _};have e:xs[i]?=some xs[i]:=by simp[hi]
 rw[e,y.2,g i _ e]
theorem k8(lo:Int)(n:Nat):lS (L8 lo n) (λ_=>True) ((wao n).map λi=>V.int (lo+(i:Nat))):=by
 refine{λi H _ hi=>(show i<n by simpa using hi),λi H x b _ hi y=>{y.1,?_},λH _=>?_}
 .have a:i<n:=by simpa using hi
  rw[y.2];simp[a]
 .show n<=_;simp
theorem lY{J:It}{Ok:Hp->Prop}{xs:List V}{g:TG}{I:TS}{D:Ends}{σ:St}{H:Hp}(t:lS J Ok xs)(Pv:Nat->St->Hp->Prop)(h0:Pv 0 σ H)(U:∀i σ H,i<=xs.length->Pv i σ H->Ok H)
 (hs:∀i x σ H,xs[i]?=some x->Pv i σ H->g x σ H λl C=>I (D.lp (Pv (i+1))) l C) (hd:∀σ H,Pv xs.length σ H->D.nx σ H) :
 ∃W:Nat->Nat->St->Hp->Prop,(∃m,W 0 m σ H)/\∀i m σ H,W i m σ H ->
  (J.stop i H/\D.nx σ H)\/(J.go i H/\∃N:St->Hp->Prop,(∀r j,N r j->∃T,T<m/\W (i+1) T r j)/\∀x j,J.ui i H x j->g x σ j λl C=>I (D.lp N) l C):=by
 refine{λi m σ H=>m=xs.length-i/\i<=xs.length/\Pv i σ H,{xs.length,by simp,waz _,h0},?_};rintro i m σ H ⟨rfl,hi,p⟩;have q:=U i σ H hi p
 by_cases a:i<xs.length
 .refine .inr {t.go i H q a,Pv (i+1),λr j b=>{xs.length-(i+1),by lia,rfl,a,b},λx j y=>?_};obtain⟨e,c⟩:=t.ui i H x j q a y;subst e;exact hs i x σ _ c p
 .have e:i=xs.length:=by lia
  subst e;exact .inl {t.stop H q,hd σ H p}
abbrev Lg(nm:String):Prop:=["enumerate","zip","dict_itemiterator","dict_reverseitemiterator","odict_iterator","itertools.zip_longest","itertools.pairwise"].contains nm=false
theorem Bx{P:waq}{w:World}{K:wa2}{U:Expr}{it:Addr}{n:Nat}{Pv:Nat->Value->Prop}{St:Nat->Heap->Prop}{val:Nat->V}
 (T:∀A:Around,A.handled=none->Walks P w A it [it] [it] n Pv St)
 (g:∀i h,St i h->∃(o:Obj) (nm:String) (vs:Array Value),h.get? it=some o/\o.cls=.type nm/\o.data=.fields vs/\Lg nm)
 (j:∀i h h',St i h->(∀o,h.get? it=some o->h'.get? it=some o)->St i h')
 (l:∀(A:Around) (i:Nat) (s:Shared) (Q:Value->Shared->Prop) (E:Value->Shared->Prop),St i s.heap->Q (.ref it) s->wpAny (model P w) A (pyIter (.ref it)) Q E s)
 (p:∀i u,Pv i u->RelV (val i) u):Turn P w K U (Rz n val) [it] it (λi h=>St i h/\i<=n) where
 mem:=by simp
 obj:=λi h st b f=>by
  have e:b=it:=by simpa using f
  subst e;obtain⟨o,nm,vs,e,c,d,_⟩:=g i h st.1;exact{o,e,λv z=>by rw[d]at z;cases z}
 keep:=λi h h' st k=>{j i h h' st.1 λo e=>k it (by simp) o e,st.2}
 item:=by
  intro X t hw x hc i a s σ H E I q st r;subst t hw x;obtain⟨y,f1,f2,B,C,D⟩:=q it (by simp);refine(T X.A (I.ok.hd hc)).item i s _ _ r st.1 λv h' G L m J=>?_;have M:Inv X a σ H {s with heap:=h',toks:=G}:=I.turned (λb o f e=>J b o (by simpa using f) e) y f1 B C D;obtain⟨o,nm,vs,e,c,d,hn⟩:=g _ _ m;exact{_,rfl,xi (s:={s with heap:=h',toks:=G}) e c d hn {val i,H,M,p i v L,⟨rfl,rfl⟩,⟨m,r⟩,λb f=>(q b f).1}}
 done:=by
   intro X t hw x hc i a s σ H E I q st r;subst t hw x;obtain⟨y,f1,f2,B,C,D⟩:=q it (by simp)
   have e:i=n:=by
    have N:=st.2;have O:n<=i:=r
    lia
   subst e;exact(T X.A (I.ok.hd hc)).done s _ _ st.1 λh' G J=>{rfl,I.turned (λb o f e=>J b o (by simpa using f) e) y f1 B C D}
 self:=λA i s Q E st h=>l A i s Q E st.1 h
noncomputable def xA(z:Str)(i:Nat):V:=.str {#[z.cps.getD i 0]}
noncomputable def eT(z:Str):List V:=z.cps.toList.map λc=>V.str {#[c]}
theorem p6(z:Str):lS (Rz z.cps.size (xA z)) (λ_=>True) (eT z):=by simp_all [MC,eT,wa4,wad,wbW,xA,wcJ]
def T5(tl:TE):TI:=λσ H R=>tl σ H λx H1=>∃z,x=.str z/\R (Rz z.cps.size (xA z)) H1
section
variable{X:Cx}{tg:Expr}
theorem yH{l:Expr}{C:TE}(hl:PE X l C):PI X tg l (T5 C):=by
 refine{?_};intro f s σ H R I h;refine bO (hl f s σ H _ I h) λv a ⟨x,B,n,D,G⟩=>?_;obtain⟨z,e,q⟩:=G;subst e;obtain⟨t,rfl⟩:=D
 have fin:∀(j:String) (o:Obj),(∀m:Around,m.handled=none->Walks X.prog X.w m a.heap.objs.size [a.heap.objs.size] [a.heap.objs.size] z.cps.size (SignAt z) (λi h=>h.IsStrIter a.heap.objs.size j z t i)) ->
  (∀(A:Around) (i:Nat) (s:Shared) (Q:Value->Shared->Prop) (E:Value->Shared->Prop),s.heap.IsStrIter a.heap.objs.size j z t i->Q (.ref a.heap.objs.size) s->wpAny (model X.prog X.w) A (pyIter (.ref a.heap.objs.size)) Q E s) ->
  Lg j->(a.heap.push o).IsStrIter a.heap.objs.size j z t 0->Oa X f σ tg R (.ref a.heap.objs.size) {a with heap:=a.heap.push o}:=by
  intro j o J g p r
  refine{a.heap.objs.size,[a.heap.objs.size],_,_,B,rfl,n.kept (t':=a.toks) λb o e=>wa9 _ e,
   Bx (val:=xA z) J (λi h st=>?_) (λi h O st k=>?_) g (λi u L=>?_),{r,waz _},λb M=>?_,q}
  .obtain⟨o,e,c,d⟩:=st;exact{o,j,_,e,c,d,p}
  .obtain⟨o,e,c,d⟩:=st;exact{o,k o e,c,d}
  .obtain⟨c,N,hc,e⟩:=L;refine{N,?_};rw[e,wcJ,hc];rfl
  .have e:b=a.heap.objs.size:=by simpa using M
   subst e;exact n.yw (waa _) (n.b7.fresh (waa _))
 cases ha:z.cps.all (· < 128)
 .exact wpAny_pyIter_wide ha (fin "str_iterator" _ (λm y=>Walks.strWide y _ z t) (λA i s Q E st h=>wpAny_pyIter_striter_wide st h) ⋯ {_,wat _ rfl,rfl,rfl})
 .exact wpAny_pyIter_ascii ha (fin "str_ascii_iterator" _ (λm y=>Walks.strAscii y _ z t) (λA i s Q E st h=>wpAny_pyIter_striter_ascii st h) ⋯ {_,wat _ rfl,rfl,rfl})
end
def MD(scope:wdc)(env:Env):Prop:=∀y∈scope.names,y.2=.free->env.kindOf y.1=some .cell\/env.kindOf y.1=some .free
theorem om:∀{names:List (Str×wep)} (g:List (Str×Addr)),(∀y∈names,y.2=.free->∃c,env.cells.lookup y.1=some c)->(∀y c,g.lookup y=some c->env.cells.lookup y=some c) ->
 ∃cl:List (Str×Addr),(forIn names g (λ(x:Str×wep) p=>(match x with |(name,kind)=>if kind == .free then do let c <-cellOf env name;pure (wdi ((name,c)::p)) else pure (wdi p):Sem (ForInStep (List (Str×Addr))))))=pure cl /\
  (∀y c,cl.lookup y=some c->env.cells.lookup y=some c)/\(∀y c,g.lookup y=some c->∃j,cl.lookup y=some j)/\∀y∈names,y.2=.free->∃c,cl.lookup y.1=some c
 |[],g,_,ha=>{g,rfl,ha,λy c e=>⟨c,e⟩,λ_ h=>nomatch h}
 |(n,k)::r,g,f,ha=>by
  rw[List.forIn_cons]
  by_cases hk:k=.free
  .obtain⟨c,hc⟩:=f (n,k) wae hk;have i:(k==wcO)=true:=by rw[hk];rfl
   obtain⟨cl,l,m,d,o⟩:=om (env:=env) (names:=r) ((n,c)::g) (λy a=>f y (wac _ a)) (λy j e=>by
    rw[wdA]at e
    cases q:y==n with
    |true=>
     rw[q]at e;have:c=j:=wad e;subst this;have:y=n:=eq_of_beq q;subst this;exact hc
    |false=>
     rw[q]at e
     exact ha y j e)
   refine{cl,?_,m,λy j e=>?_,λy a b=>?_}
   .rw[<-l];simp only[i,if_true];have s:cellOf env n=pure c:=by unfold cellOf;rw[hc]
    rw[s];rfl
   .by_cases q:y=n
    .subst q;exact d y c (by simp[wdA])
    .refine d y j ?_;have:(y==n)=false:=beq_eq_false_iff_ne.mpr q;rw[wdA,this];exact e
   .rcases waK.mp a with rfl |a
    .exact d n c (by simp[wdA])
    .exact o y a b
  .have i:(k==wcO)=false:=by simpa using hk
   obtain⟨cl,l,m,d,o⟩:=om (env:=env) (names:=r) g (λy a=>f y (wac _ a)) ha;refine{cl,?_,m,d,λy a b=>?_}
   .rw[<-l];simp only[i,wbY,if_false];rfl
   .rcases waK.mp a with rfl |a
    .exact absurd b hk
    .exact o y a b
theorem nD(g:∀y∈scope.names,y.2=.free->∃c,env.cells.lookup y.1=some c) :
 ∃cl,closureFor scope env=pure cl/\(∀y c,cl.lookup y=some c->env.cells.lookup y=some c)/\∀y∈scope.names,y.2=.free->∃c,cl.lookup y.1=some c:=by
 obtain⟨cl,b,d,_,f⟩:=om (env:=env) (names:=scope.names) [] g (λy c e=>by simp at e);refine{cl,?_,d,f};simp only[closureFor]
 first
  |(rw[b];rfl)
  |(have a:=b;simp only at a ⊢;rw[a];rfl)
  |(refine wdP (congrArg (λm=>m >>= λh=>pure h) ?_) ?_;exact pure cl;exact b;rfl)
theorem yI(g:∀y∈scope.names,y.2≠.cell)(h:(relabel scope env).names.lookup x=some .cell\/(relabel scope env).names.lookup x=some .free):∃k,(x,k)∈scope.names/\k=wcO:=by
 unfold relabel at h;dsimp only at h
 have key:∀(names:List (Str×wep)),(∀y∈names,y.2≠.cell) ->
  ((names.map λ(n,k)=>if (k==wcO&&env.scope.kind == .function&&env.kindOf n==some .cell) then(n,wf7) else(n,k)).lookup x=some .cell \/
   (names.map λ(n,k)=>if (k==wcO&&env.scope.kind == .function&&env.kindOf n==some .cell) then(n,wf7) else(n,k)).lookup x=some .free)->∃k,(x,k)∈names/\k=wcO:=by
  intro names
  induction names with
  |nil=>grind
  |cons y r a=>
   grind
 exact key scope.names g h
noncomputable def bI(X:Cx)(scope:wdc)(N:List Str)(cl:List (Str×Addr))(L:Addr)(s:Shared)(H:Hp)(ex:List Addr)(pn:List (Addr×Obj)):Cx where
 prog:=X.prog
 w:=X.w
 K:=X.K
 mg:=X.mg
 base:=X.base
 A:=X.A
 N:=N
 s₀:=s
 H₀:=H
 env:=compEnvC scope cl L X.env
 outer:=X.stack
 stack:=X.stack
 ex:=ex
 fn:=λ_=>false
 calm:=X.calm
 pn:=pn
 xe:=λ_ _=>False
abbrev Pu(X:Cx)(ifs:List Expr)(t:TT):Prop:=
 ∀(pins:List (Addr×Obj)) (s:Shared) (σ:St) (H:Hp) (Q:Bool->Hp->Prop),Inv X pins σ H s->t σ H Q ->
  wpAny (model X.prog X.w) X.A (forIn ifs true λc r=>if r=true then do let ok <-isTrue c X.env (eval c X.env);pure (wdi ok) else pure (wdi r)) (TP X pins σ Q) X.xe s
structure FP(X:Cx)(ifs:List Expr)(t:TT):Prop where
 go:Pu X ifs t
instance {X:Cx} {ifs:List Expr} {t:TT}:CoeFun (FP X ifs t) λ_=>Pu X ifs t:=⟨FP.go⟩
def wA:TT:=λ_ H Q=>Q true H
theorem bj{X:Cx}:FP X [] wA:={λ_ _ _ H _ I h=>wpAny_tests_nil ⟨H,I,h⟩}
theorem gB{X:Cx}(h:PT X c t):FP X [c] t:={λa s σ H Q I hw=>wpAny_tests_one (h a s σ H Q I hw)}
section
variable{prog:waq}{w:World}{A:Around}{E:Value->Shared->Prop}{R:wdd->Shared->Prop}{s:Shared}
theorem Ed(I:Nat->Shared->Prop)
 (J:∀n s,I n s->wpAny (model prog w) A (pyNext it) (λr g=>match r with
   |none=>R (.ok .next) g
   |some v=>wpAny (model prog w) A (weB target it v) (λ_ j=>wpAny (model prog w) A (assign target env v) (λ_ p=>
     wpAny (model prog w) A (forIn T true λc r=>if r=true then do let ok <-isTrue c env (eval c env);pure (wdi ok) else pure (wdi r)) (λok l=>
      if ok=true then wpAny (model prog w) A (eval U env) (λx t=>
       wpAny (model prog w) A (call (.builtin "list.append") [acc,x]) (λ_ C=>∃m,m<n/\I m C) (notedBy (model prog w) A env λe s'=>R (.error e) s') t) (notedBy (model prog w) A env λe s'=>R (.error e) s') l
      else ∃m,m<n/\I m l) (notedBy (model prog w) A env λe s'=>R (.error e) s') p) (notedBy (model prog w) A env λe s'=>R (.error e) s') j) (notedBy (model prog w) A env λe s'=>R (.error e) s') g) (notedBy (model prog w) A env λe s'=>R (.error e) s') s)
 (n:Nat) (h:I n s) :
 codeAny (model prog w) A (.compLoop (.ListComp U [⟨target,iter,T,0⟩] scope pos) 0 it acc env) R s:=by
 refine codeAny_loop rfl I (λn s q=>?_) n h;show wpAny _ A ((compTurn (.ListComp U [⟨target,iter,T,0⟩] scope pos) 0 it acc env).onRaise (λx=>do noteFrame x env;theTreesLotGoes x)) _ _ s;refine wpAny_noted ?_;rw[compTurn_list];refine wa7 (wdF (wa7 (wbb (J n s q) (λr g b=>?_) λ_ _ a=>a)))
 cases r with
 |none=>exact wax b
 |some v=>
  refine wa7 (wbb b (λ_ j f=>?_) λ_ _ a=>a);refine wa7 (wbb f (λ_ p i=>wa7 (wbb i (λok l d=>?_) λ_ _ a=>a)) λ_ _ a=>a)
  cases ok with
  |false=>exact wax ⟨rfl,d⟩
  |true=>
   exact wa7 (wa7 (wbb d (λx t k=>wa7 (wbb k (λ_ C o=>wax (wax ⟨rfl,o⟩)) λ_ _ a=>a)) λ_ _ a=>a))
end
def nE(J:It)(l:Addr)(σf:St)(tt:TT)(te:TE)(H:Hp)(Q:Hp->Prop):Prop:=
 ∃W:Nat->Nat->List V->Hp->Prop,(∃m,W 0 m [] (upd H l (.lst [])))/\∀i m ys H2,W i m ys H2->H2 l=some (.lst ys) /\
  ((J.stop i H2/\Q H2)\/(J.go i H2/\ys.length<sizeLine/\∀x H3,J.ui i H2 x H3->tt (some x::σf) H3 λb H4=>
    if b=true then te (some x::σf) H4 λy H5=>H5 l=some (.lst ys)/\∃m',m'<m/\W (i+1) m' (ys++[y]) (upd H5 l (.lst (ys++[y])))
    else ∃m',m'<m/\W (i+1) m' ys H4))
def xB(g:TG)(n:Nat)(J:It)(l:Addr)(σf:St)(tt:TT)(te:TE)(H:Hp)(Q:Hp->Prop):Prop:=
 ∃W:Nat->Nat->List V->Hp->Prop,(∃m,W 0 m [] (upd H l (.lst [])))/\∀i m ys H2,W i m ys H2->H2 l=some (.lst ys) /\
  ((J.stop i H2/\Q H2)\/(J.go i H2/\ys.length<sizeLine/\∀x H3 vs,vs.length=n->J.ui i H2 x H3->g x (vs++σf) H3 λσ' H'=>(∃Pw,Pw.length=n/\σ'=Pw++σf)/\tt σ' H' λb H4=>
    if b=true then te σ' H4 λy H5=>H5 l=some (.lst ys)/\∃m',m'<m/\W (i+1) m' (ys++[y]) (upd H5 l (.lst (ys++[y])))
    else ∃m',m'<m/\W (i+1) m' ys H4))
def Px{α:Type}:Nat->(List α->Prop)->Prop
 |0,P=>P []
 |n+1,P=>∀a,Px n λus=>P (a::us)
theorem iM{α:Type}:∀n P,Px n P->∀us:List α,us.length=n->P us
 |0,_,h,[],_=>h
 |n+1,_,h,a::us,e=>iM n _ (h a) us (whd e)
theorem De(h:nE J l g j r H Q):xB (bN 0) 1 J l g j r H Q:=
 let ⟨W,a,t⟩:=h
 {W,a,λi m d e w=>let ⟨p,q⟩:=t i m d e w;{p,q.imp id λ⟨a,b,c⟩=>{a,b,λx f k n y=>by revert k;refine iM 1 _ ?_;exact λ_=>{{[some x],rfl,rfl},c x f y}}}}
noncomputable def pick(σ:St)(ix:List Nat):St:=ix.map λi=>(σ[i]?).join
def Py(wi:TI)(ix:List Nat)(tt:TT)(te:TE):TE:=λσ H Q=>wi σ H λJ H1=>∀l,H1 l=none->nE J l (pick σ ix) tt te H1 (λH2=>Q (.ref l) H2)
def ME(wi:TI)(ix:List Nat)(tt:TT)(te:TE)(i:Nat):TS:=λD σ H=>wi σ H λJ H1=>∀l,H1 l=none->nE J l (pick σ ix) tt te H1 (λH2=>D.nx (σ.set i (some (.ref l))) H2)
structure bV(X:Cx)(scope:wdc)(x:Str)(ys:List Str)(ix:List Nat):Prop where
 kind:scope.kind=.function
 Gw:∀y∈scope.names,y.2≠.cell
 names:∀y∈scope.names,y.2=.local->scope.names.lookup y.1=some .local
 var:scope.names.lookup x=some .local
 free:MD scope X.env
 nd:(x::ys).Nodup
 len:ix.length=ys.length
 slots:∀(j:Nat) (y:Str),ys[j]?=some y->∃i:Nat,ix[j]?=some i/\X.N[i]?=some y/\(X.env.scope.names.lookup y=some .cell\/X.env.scope.names.lookup y=some .free)/\scope.names.lookup y=some .free
theorem uA(h:scope.names.lookup x=some .free):(relabel scope env).names.lookup x=some .cell\/(relabel scope env).names.lookup x=some .free:=by
 unfold relabel;dsimp only
 have key:∀(names:List (Str×wep)),names.lookup x=some .free ->
  ((names.map λ(n,k)=>if (k==wcO&&env.scope.kind == .function&&env.kindOf n==some .cell) then(n,wf7) else(n,k)).lookup x=some .cell \/
   (names.map λ(n,k)=>if (k==wcO&&env.scope.kind == .function&&env.kindOf n==some .cell) then(n,wf7) else(n,k)).lookup x=some .free):=by
  intro names
  induction names with
  |nil=>grind
  |cons y r a=>
   grind
 exact key scope.names h
section
variable{X:Cx}{pins:List (Addr×Obj)}{σ:St}{H:Hp}{s₂:Shared}{scope:wdc}{x:Str}{xs ys:List Str}{ix:List Nat}{cl:List (Str×Addr)}{fp:List Addr}{L:Addr}
theorem JC(B:bV X scope x ys ix)(I:Inv X pins σ H s₂)(j:∀b∈fp,uj X pins H b)(l:∀b∈fp,b<s₂.heap.objs.size)(r:s₂.heap.objs.size<=L)
 (g:∀y c,cl.lookup y=some c->X.env.cells.lookup y=some c) (p:∀y∈scope.names,y.2=.free->∃c,cl.lookup y.1=some c):(bI X scope N cl L s₂ H fp (X.pn++pins)).Ok where
 mod:=I.ok.mod
 kind:=B.kind
 glob:=I.ok.glob
 blt:=I.ok.blt
 above:=r
 inj:=λa b c i m=>I.ok.inj a b c (g a c i) (g b c m)
 has:=λa ha=>by
  obtain⟨k,f,hk⟩:=yI (env:=X.env) B.Gw (x:=a) ha;exact p (a,k) f hk
 Mh:=λ_ _ h=>nomatch h
 hd:=I.ok.hd
 frames:=I.ok.frames
 O7:=.inl rfl
 Rt:=λb d=>{waw (wav (l b d) r),λy c h=>(j b d).2.2.2.2.1 y c (g y c h)}
 bs:=I.bs
 FZ:=wak I.ok.FZ I.sz
 Bi:=λb o e d=>by
  rcases(j b d).2.2.2.1 with z |z
  .exact I.ok.Bi b o e z
  .exact absurd (wav (wav (wah e) I.ok.FZ) z) (wbm _)
 E1:=λb d f=>by
  rcases waK.mp (I.ue b f) with z |z
  .exact(j b d).2.1 z
  .exact(j b d).2.2.1 z
 oU:=I.stack
 Ji:=I.tQ
theorem Gx{m₁:Str->Option Value}(B:bV X scope x ys ix)(I:Inv X pins σ H s₂)(hf:∀b∈fp,uj X pins H b)(J:∀b∈fp,b<s₂.heap.objs.size)(T:s₂.heap.objs.size<=L)
 (g:∀y c,cl.lookup y=some c->X.env.cells.lookup y=some c) (C:∀y∈scope.names,y.2=.free->∃c,cl.lookup y.1=some c)
 (kp:∀b o,s₂.heap.get? b=some o->t.get? b=some o) (U:t.Ns L m₁) (hl:l=s₂.heap.objs.size) (T6:l≠L) (ho:t.get? l=some {cls:=.type "list",data:=.seq ([]:List Value).toArray n₀}) :
 Inv (bI X scope (xs++ys) cl L s₂ H fp (X.pn++pins)) [] (waj xs.length none++pick σ ix) (upd H l (.lst [])) {s₂ with heap:=t,toks:=tk}:=by
 subst hl;have Q:=I.b7.fresh (waa s₂.heap.objs.size);refine{JC B I hf J T g C,rfl,I.bare,Un.laid kp (waa _) Q,{m₁,U,λi y v D E Z=>?_},λy c e=>?_,?_,λy c e=>?_,λp O=>?_,I.b7.laid kp (waa _) {waz _,[],n₀,.nil,ho},?_}
 .obtain⟨j,rfl⟩:∃j,i=xs.length+j:=by
   by_cases z:i<xs.length
   .rw[waF (by simpa using z)]at E;simp[z]at E
   .exact{i-xs.length,by lia}
  have G:ys[j]?=some y:=by
   have D:(xs++ys)[xs.length+j]?=some y:=D;rwa[waE (Nat.le_add_right _ _),wcC]at D
  obtain⟨i,hi,R,hk,a⟩:=B.slots j y G
  have f:(σ[i]?).join=some v:=by
   have:(pick σ ix)[j]?=some (some v):=by rwa[waE (by simp),waP,wcC]at E
   unfold pick at this;rw[wa4,hi]at this;exact wad this
  have s:σ[i]?=some (some v):=by
   cases q:σ[i]? with
   |none=>rw[q]at f;cases f
   |some z=>rw[q]at f;rw[show z=some v from f]
  obtain⟨m,hn,M⟩:=I.loc;have N:OG X.env.scope y:=.inr (hk.imp id id);obtain⟨u,r,l⟩:=M i y v R s N;refine{u,r,.inr {uA a,?_}};rcases l with⟨k,_⟩ |⟨_,c,hc,h⟩
  .have A:X.env.scope.names.lookup y=some .local:=k;rcases hk with z |z
   .rw[z]at A;cases A
   .rw[z]at A;cases A
  .obtain⟨S,w⟩:=C (y,.free) (wcD a) rfl;have:=g y S w;rw[hc]at this;cases this;obtain⟨o,q,d⟩:=h;exact{c,w,o,kp c o q,d}
 .obtain⟨v,o,q,d⟩:=I.cell y c (g y c e);exact{v,o,kp c o q,d}
 .show upd H s₂.heap.objs.size (.lst []) L=none;rw[ae (wbu T6)];exact I.b7.fresh T
 .obtain⟨v,o,q,d⟩:=I.cell y c (g y c e);rw[ae (waw (wah q))];exact I.jm y c (g y c e)
 .rw[waS]at O;obtain⟨q,n,ne,V,d⟩:=I.pin p O;have lt:=wah q;refine{kp _ _ q,by rw[ae (waw lt)];exact n,waw (wav lt T),λY=>?_,d};rcases waK.mp (I.ue p.1 Y) with z |z
  .exact ne z
  .exact V z
 .simp[pick,B.len,bI]
theorem xC{tn:Nat->Heap->Prop}{Qd:Addr->Hp->Prop}{RR:Value->Addr->wdd->Shared->Prop}{E:Value->Shared->Prop}
 (hc:X.calm=true) (B:bV X scope x ys ix) (I:Inv X pins σ H s₂) (T:Turn X.prog X.w X.K tg J fp it tn) (Vz:tn 0 s₂.heap) (U:∀b∈fp,uj X pins H b)
 (wB:∀y c,cl.lookup y=some c->X.env.cells.lookup y=some c) (Y5:∀y∈scope.names,y.2=.free->∃c,cl.lookup y.1=some c)
 (ht:∀L s H ex pn,FP (bI X scope (xs++ys) cl L s H ex pn) ifs tt) (he:∀L s H ex pn,PE (bI X scope (xs++ys) cl L s H ex pn) elt te)
 (hg:∀L s H ex pn,PG (bI X scope (xs++ys) cl L s H ex pn) tg g) (hw:∀l,H l=none->xB g xs.length J l (pick σ ix) tt te H (Qd l))
 (Y6:∀D L H' s' m,Inv X pins σ H' s'->s'.heap.Ns L m->H' L=none->L≠X.env.locals->X.s₀.heap.objs.size<=L->(∀y c,X.env.cells.lookup y=some c->c≠L)->(∀p∈X.pn++pins,p.1≠L)->Qd D H'->RR (.ref D) L (.ok .next) s') :
 wpAny (model X.prog X.w) X.A (newList []) (λacc t=>wpAny (model X.prog X.w) X.A (newFunctionEnv scope X.env.globals cl [] X.env.qual none .none (some X.env)) (λPz s₄=>
  codeAny (model X.prog X.w) X.A (.compStart (.ListComp elt [⟨tg,iter,ifs,0⟩] scope pos) 0 (.ref it) acc {Pz with scope:=relabel scope X.env}) (RR acc Pz.locals) s₄) E t) E s₂:=by
 refine wff (wpAny_newFunctionEnv B.Gw (by intro y hy;simp at hy) (λk j a=>?_) B.kind);dsimp only at j a ⊢;generalize O:s₂.heap.push {cls:=.type "list",dict:=none,data:=.seq ([]:List Value).toArray}=C at j a ⊢;have hC:C.objs.size=s₂.heap.objs.size+1:=by rw[<-O,wbO]
 have VA:s₂.heap.objs.size≠C.objs.size:=by rw[hC];exact waw (wbL _)
 have f:s₂.heap.objs.size<=C.objs.size:=by rw[hC];exact wc5 _
 have old:∀b o,s₂.heap.get? b=some o->k.get? b=some o:=λb o e=>a.extBut b o (waw (wav (wah e) f)) (wa9 _ (O ▸ wa9 _ e));have T7:k.get? s₂.heap.objs.size=some {cls:=.type "list",data:=.seq ([]:List Value).toArray}:=a.extBut _ _ VA (wa9 _ (O ▸ wat _ rfl));have Q:∀b∈fp,b<s₂.heap.objs.size:=λb h=>let ⟨o,e,_⟩:=T.obj 0 _ Vz b h;wah e
 have Y7:∀b∈fp,∀o,s₂.heap.get? b=some o->k.get? b=some o:=λb _ o e=>old b o e;have VB:tn 0 k:=T.keep 0 _ _ Vz Y7;obtain⟨W,⟨m0,w0⟩,turn⟩:=hw s₂.heap.objs.size (I.b7.fresh (waa _))
 have N:∀t:Shared,t={s₂ with heap:=k,toks:=s₂.toks+([]:List (Str×Value)).length} ->
  codeAny (model X.prog X.w) X.A (.compLoop (.ListComp elt [⟨tg,iter,ifs,0⟩] scope pos) 0 (.ref it) (.ref s₂.heap.objs.size) (compEnvC scope cl C.objs.size X.env))
   (RR (.ref s₂.heap.objs.size) C.objs.size) t:=by
  rintro t rfl;have I0:=Gx (xs:=xs) (tk:=s₂.toks+([]:List (Str×Value)).length) (n₀:=0) (m₁:=_) (L:=C.objs.size) B I U Q f wB Y5 old j rfl VA T7
  refine Ed (env:=compEnvC scope cl C.objs.size X.env)
   (λn s'=>∃i G vs H',vs.length=xs.length/\Inv (bI X scope (xs++ys) cl C.objs.size s₂ H fp (X.pn++pins)) [] (vs++pick σ ix) H' s'/\tn i s'.heap/\(∀b∈fp,H' b=none)/\W i n G H') ?_ m0
   {0,[],_,_,waP,I0,VB,λb h=>by rw[ae (waw (Q b h))];exact(U b h).1,w0}
  rintro n s3 ⟨i,G,vs,H3,hv,I3,VC,VD,w3⟩;obtain⟨JD,alt⟩:=turn i n G H3 w3
  have M:∀{H':Hp},(∀b∈fp,H' b=none)->∀b∈fp,uj (bI X scope (xs++ys) cl C.objs.size s₂ H fp (X.pn++pins)) [] H' b:=λhn b h=>
   {hn b h,waw (wav (Q b h) f),λhm=>by
     rcases waK.mp (I.ue b hm) with z |z
     .exact(U b h).2.1 z
     .exact(U b h).2.2.1 z,.inl h,λy c e=>(U b h).2.2.2.2.1 y c (wB y c e),λp hp=>(U b h).2.2.2.2.2 p (by simpa [bI] using hp)}
  rcases alt with⟨stop,qd⟩ |⟨go,hsz,step⟩
  .refine bO (T.done (bI X scope (xs++ys) cl C.objs.size s₂ H fp (X.pn++pins)) rfl rfl rfl hc i [] s3 _ H3 _ I3 (M VD) VC stop) λr s4 ⟨hr,Y⟩=>?_;subst hr;obtain⟨m,hn,_⟩:=Y.loc;refine Y6 s₂.heap.objs.size C.objs.size H3 s4 m ?_ hn Y.free (wcg (wav I.lt f)) (wak I.sz f) (λy c e=>?_) (λp hp=>?_) qd
   .exact I.xh Y.os Y.base Y.b7 Y.bare λb h=>{(U b h).2.2.2.1,(U b h).2.1,(U b h).2.2.2.2.1,(U b h).2.2.2.2.2}
   .obtain⟨v,o,q,d⟩:=I.cell y c e;exact waw (wav (wah q) f)
   .exact waw (wav (wah (I.pin p hp).1) f)
  .refine bO (T.item (bI X scope (xs++ys) cl C.objs.size s₂ H fp (X.pn++pins)) rfl rfl rfl hc i [] s3 _ H3 _ I3 (M VD) VC go) λr s4 ⟨u,hr,h4⟩=>?_;subst hr;refine bO h4 λ_ s5 ⟨xv,H5,I5,r5,y5,R,Y8⟩=>?_;have Y9:=I5.pinned (M Y8) (T.obj _ _ R);refine wbb (hg _ _ _ _ _ _ s5 _ H5 xv u _ Y9 r5 (step xv _ vs hv y5)) (λ_ s6 {σ6,H6,I6,⟨Pw,VE,e6⟩,q6}=>?_) λ_ _ z=>wb7 z;subst e6;refine wbb (ht _ _ _ _ _ _ s6 _ _ _ I6 q6) (λb s7 ⟨H7,I7,q7⟩=>?_) λ_ _ z=>wb7 z
   have again:∀{S:St} {V:Hp} {Z:Shared},Inv (bI X scope (xs++ys) cl C.objs.size s₂ H fp (X.pn++pins)) ([]++uk fp s5.heap) S V Z ->
    Inv (bI X scope (xs++ys) cl C.objs.size s₂ H fp (X.pn++pins)) [] S V Z/\tn (i+1) Z.heap/\∀b∈fp,V b=none:=λ{S V Z} I8=>by
    refine{I8.oX,T.keep _ _ _ R λb h o e=>(I8.pin (b,o) (waJ _ (waJ _ (jX h e)))).1,λb h=>?_};obtain⟨o,e,d⟩:=T.obj _ _ R b h;exact(I8.pin (b,o) (waJ _ (waJ _ (jX h e)))).2.1
   cases b with
   |false=>
    rw[if_neg wan]at q7 ⊢;obtain⟨m',hm,w7⟩:=q7;obtain⟨a1,a2,a3⟩:=again I7;exact{m',hm,i+1,G,Pw,H7,VE,a1,a2,a3,w7}
   |true=>
    rw[if_pos rfl]at q7 ⊢;refine wbb (he _ _ _ _ _ _ s7 _ _ _ I7 q7) (λuy Z ⟨y,V,I8,r8,RA,m',hm,w8⟩=>?_) λ_ _ z=>wb7 z
    refine wbb (cL (X:=bI X scope (xs++ys) cl C.objs.size s₂ H fp (X.pn++pins)) _ Z _ V (.ref s₂.heap.objs.size) [y] (.ref s₂.heap.objs.size) [uy] (λ_ H9=>H9=upd V s₂.heap.objs.size (.lst (G++[y]))) I8 rfl (.cons r8 .nil) {_,G,y,rfl,rfl,RA,hsz,rfl})
     (λ_ s9 {v9,H9,I9,_,e9}=>?_) λ_ _ z=>wb7 z
    subst e9;obtain⟨a1,a2,a3⟩:=again I9;exact{m',hm,i+1,G++[y],Pw,_,VE,a1,a2,a3,w8}
 exact codeAny_compStart_list (N _ rfl) (T.self X.A 0 _ _ _ VB (N _ rfl))
theorem uB{C:It->Addr->St->Hp->(Hp->Prop)->Prop}(hc:X.calm=true)(B:bV X scope x ys ix)(hg:∀cl L s H ex pn,PG (bI X scope (xs++ys) cl L s H ex pn) U g)(hC:∀J l j H Q,C J l j H Q->xB g xs.length J l j tt te H Q)(hi:PI X U iter wi)
 (ht:∀cl L s H ex pn,FP (bI X scope (xs++ys) cl L s H ex pn) p tt) (he:∀cl L s H ex pn,PE (bI X scope (xs++ys) cl L s H ex pn) r te)
 (hs:∀v,wbR iter X.env v=pure v:=by intro _;rfl):PE X (.ListComp r [⟨U,iter,p,0⟩] scope pos) (λσ H Q=>wi σ H λJ H1=>∀l,H1 l=none->C J l (pick σ ix) H1 (λH2=>Q (.ref l) H2)):=by
 refine{?_};intro pins s σ H Q I h;obtain⟨cl,a,d,f⟩:=nD (scope:=scope) (env:=X.env) (λy G i=>I.ok.has y.1 (B.free y G i));rw[eval_ListComp];refine wfB (use:=none) rfl hs a B.kind B.names (bO (hi pins s σ H _ I h) λZ s1 k=>bO k λM s2 n=>?_);obtain⟨it,fp,tn,J,H2,e,N,T,t,f2,hw⟩:=n;subst e;refine xC (RR:=λu C=>compPost (model X.prog X.w) X.A X.xe none (EP X pins σ Q) u C) (Qd:=λl z=>Q (.ref l) z) hc B N T t f2 d f (ht cl) (he cl) (hg cl) (λl h=>hC _ _ _ _ _ (hw l h)) ?_;intro D L z O m R hn c k n S V q;exact{m,hn,λh' E=>{.ref D,z,R.turned (it:=L) (t':=O.toks) (λb o Y e=>(E.2 b Y).trans e) c k (.inr n) S V,rfl,q}}
theorem Df(B:bV X scope x ys ix)(cl L s H ex pn):PG (bI X scope ([x]++ys) cl L s H ex pn) (.Name x g) (bN 0):=
 have a:(relabel scope X.env).names.lookup x=some .local:=wcy B.var
 jW B.nd rfl (.inl a) (.inr a)
theorem cG(hc:X.calm=true)(B:bV X scope x ys ix)(hi:PI X (.Name x t) iter I)
 (T:∀cl L s H ex pn,FP (bI X scope (x::ys) cl L s H ex pn) g p) (he:∀cl L s H ex pn,PE (bI X scope (x::ys) cl L s H ex pn) j r)
 (hs:∀v,wbR iter X.env v=pure v:=by intro _;rfl):PE X (.ListComp j [{.Name x t,iter,g,0}] scope pos) (Py I ix p r):=
 uB (C:=λJ l a H Q=>nE J l a p r H Q) (xs:=[x]) hc B (Df B) (λ_ _ _ _ _=>De) hi T he hs
end
section
variable{X:Cx}{scope:wdc}{x:Str}{xs ys:List Str}{ix:List Nat}
theorem rP{C:It->Addr->St->Hp->(Hp->Prop)->Prop}(hc:X.calm=true)(B:bV X scope x ys ix)(hN:X.N.Nodup)(hy:X.N[i]?=some y)(r:X.env.scope.names.lookup y=some .local)(hg:∀cl L s H ex pn,PG (bI X scope (xs++ys) cl L s H ex pn) tg g)(hC:∀J l t H Q,C J l t H Q->xB g xs.length J l t tt te H Q)(hi:PI X tg iter wi)
 (ht:∀cl L s H ex pn,FP (bI X scope (xs++ys) cl L s H ex pn) j tt) (he:∀cl L s H ex pn,PE (bI X scope (xs++ys) cl L s H ex pn) p te)
 (T8:wc7 (.ListComp p [⟨tg,iter,j,0⟩] scope pos) (some (.Name y py)) U.line X.env=pure true:=by rfl)
 (hs:∀v,wbR iter X.env v=pure v:=by intro _;rfl):PS X (.Assign [.Name y py] (.ListComp p [⟨tg,iter,j,0⟩] scope pos) U) (λD σ H=>wi σ H λJ H1=>∀l,H1 l=none->C J l (pick σ ix) H1 (λH2=>D.nx (σ.set i (some (.ref l))) H2)):=by
 refine{?_};intro c s σ H D I h;obtain⟨cl,d,u,E⟩:=nD (scope:=scope) (env:=X.env) (λy hy G=>I.ok.has y.1 (B.free y hy G));rw[exec_Assign_Name_used _ _ _ _ T8];refine wa7 (wdF (wa7 ?_));show wpAny _ X.A (do let _ <-comprehension (.ListComp p [⟨tg,iter,j,0⟩] scope pos) scope X.env _ (newList []) false (eval iter X.env) (some (assign (.Name y py) X.env))) _ _ s
 refine wa7 (wbb (wfB (use:=some (assign (.Name y py) X.env)) (Q:=λ_ k=>SP X c D .next k) rfl hs d B.kind B.names
  (bO (hi c s σ H _ I h) λxv s1 n=>bO n λSH s2 M=>?_)) (λ_ k hq=>wax (wax hq)) λ_ _ e=>e)
 obtain⟨it,fp,tn,J,H2,e,I2,T,O,f2,hw⟩:=M;subst e;refine xC (RR:=λR C=>compPost (model X.prog X.w) X.A X.xe (some (assign (.Name y py) X.env)) (λ_ k=>SP X c D .next k) R C) (Qd:=λl S=>D.nx (σ.set i (some (.ref l))) S) hc B I2 T O f2 u E (ht cl) (he cl) (hg cl) (λl h=>hC _ _ _ _ _ (hw l h)) ?_;intro D' L S k m I' hn f n M h3 h4 q;show wpAny _ X.A (assign (.Name y py) X.env (.ref D')) _ _ _;refine wpAny_assign_Name (xg I' hN hy (.inl r) (v:=.ref D') rfl (λV Y sb=>?_) (.inr r));obtain⟨a,Z,ha⟩:=sb
 have hL:L≠a:=by
  rcases ha with z |z
  .rw[z];exact n
  .exact(h3 y a z).symm
 refine{m,hn.sameBut Z hL,λh' Lh=>{_,S,Y.turned (it:=L) (t':=V.toks) (λb o hb e=>(Lh.2 b hb).trans e) f n (.inr M) h3 h4,q}}
theorem du(hc:X.calm=true)(B:bV X scope x ys ix)(hN:X.N.Nodup)(hy:X.N[i]?=some y)(r:X.env.scope.names.lookup y=some .local)(hi:PI X (.Name x I) iter wi)
 (ht:∀cl L s H ex pn,FP (bI X scope (x::ys) cl L s H ex pn) g T) (he:∀cl L s H ex pn,PE (bI X scope (x::ys) cl L s H ex pn) j U)
 (t:wc7 (.ListComp j [{.Name x I,iter,g,0}] scope pos) (some (.Name y py)) p.line X.env=pure true:=by rfl)
 (hs:∀v,wbR iter X.env v=pure v:=by intro _;rfl):PS X (.Assign [.Name y py] (.ListComp j [{.Name x I,iter,g,0}] scope pos) p) (ME wi ix T U i):=
 rP (C:=λJ l a H Q=>nE J l a T U H Q) (xs:=[x]) hc B hN hy r (Df B) (λ_ _ _ _ _=>De) hi ht he t hs
end
theorem dN{Ok:Hp->Prop}{Q:Hp->Prop}(p:V->Bool)(g:V->V)(T:lS J Ok xs)(hl:H l=none)(hz:xs.length<=sizeLine)(t:∀j,a7 H j->Ok j)
 (U:∀x r C,x∈xs->a7 H r->(∀j,a7 r j->C (p x) j)->tt (some x::I) r C)
 (he:∀x r C,x∈xs->p x=true->a7 H r->(∀j,a7 r j->C (g x) j)->te (some x::I) r C)
 (hd:∀j,a7 H j->j l=some (.lst ((xs.filter p).map g))->Q j):nE J l I tt te H Q:=by
 refine{λi m n d=>m=xs.length-i/\i<=xs.length/\a7 H d/\d l=some (.lst n)/\n=((xs.take i).filter p).map g,{xs.length,by simp,waz _,a7.upd hl,a6,by simp},?_};rintro i m n d ⟨rfl,hi,c,h,k⟩;refine{h,?_}
 by_cases a:i<xs.length
 .refine .inr {T.go i d (t _ c) a,?_,λx r y=>?_}
  .rw[k,wa0];refine wbi (wb2 _ _) ?_;rw[wag];omega
  .obtain⟨e,s⟩:=T.ui i d x r (t _ c) a y;subst e;have mem:x∈xs:=wa8 s;have u:xs.take (i+1)=xs.take i++[x]:=by rw[waO,s];rfl
   refine U x _ _ mem c λw f=>?_
   cases q:p x with
   |false=>
    rw[if_neg wan];refine{xs.length-(i+1),(),rfl,a,c.trans f,f _ _ h,?_};rw[u,wbj,k];simp[q]
   |true=>
    rw[if_pos rfl];refine he x _ _ mem q (c.trans f) λz v=>?_;refine{v _ _ (f _ _ h),xs.length-(i+1),(),rfl,a,?_,a6,?_}
    .intro b o e;rw[ae (af e hl)];exact v _ _ (f _ _ (c _ _ e))
    .rw[u,wbj,k];simp[q]
 .have e:i=xs.length:=();subst e;refine .inl {T.stop d (t _ c),hd d c ?_};rw[h,k,waG]
theorem rQ:∀{us:List Value},Vals (bs.map V.bl) us->LSm.BoolsAre us bs:=by
 induction bs with
 |nil=>intro us r;rw[wdV]at r;cases r;exact .nil
 |cons n ns a=>
  intro us r;rw[wau]at r
  cases r with
  |cons b c=>
   cases b;exact .cons n (a c)
theorem By:∀{us:List Value},Vals (ns.map V.str) us->StrsAre us ns:=by
 induction ns with
 |nil=>intro us r;rw[wdV]at r;cases r;exact .nil
 |cons n ns a=>
  intro us r;rw[wau]at r
  cases r with
  |cons b c=>
   obtain⟨t,e⟩:=b;subst e;exact .cons n t (a c)
theorem xD:∀{vs:List Value} {ns:List Str},StrsAre vs ns->Vals (ns.map V.str) vs
 |_,_,.nil=>.nil
 |_,_,.cons n t h=>.cons ⟨t,rfl⟩ (xD h)
section
variable{X:Cx}
theorem uC(hc:X.calm=true):dj X (.builtin "any") (λxs H Q=>∃p bs,xs=[.ref p]/\aL X.K H p (wcZ V.bl bs)/\Q (.bl (bs.any id)) H):=by
 intro d s σ H xs o Q I r h;obtain⟨p,bs,rfl,j,q⟩:=h;obtain⟨u,rfl,k⟩:=vals1 r;cases k;obtain⟨a,l,pl,t⟩:=I.list j;have f:=rQ l;have hl:=pl.isList;have m:=I.ok.hd hc;have c:p<s.heap.objs.size:=by obtain⟨_,e,_⟩:=hl;exact wah e
 refine call_any_walk (wcP hl ?_)
 refine{s.heap.objs.size,[s.heap.objs.size,p],[s.heap.objs.size],a.toArray.size,_,_,λi=>(bs[i]?).getD false,rfl,wfn (A:=X.A.in1) m _ p (waw c) a.toArray,
  {{_,wat _ rfl,rfl,rfl},hl.push _},λi v w x y n g=>?_,λz B hk=>?_}
 .obtain⟨b,e,rfl⟩:=f.get i v (by simpa using n);simp only[e,whM]at g;exact wbt g
 .have e:((wao a.toArray.size).any λi=>(bs[i]?).getD false)=bs.any id:=by
   rw[waB,f.length];exact LSm.range_any bs
  rw[e];exact{.bl _,H,I.kept (LSm.kept_iter hk),rfl,q}
theorem zW(hc:X.calm=true):dj X (.builtin "all") (λxs H Q=>∃p bs,xs=[.ref p]/\aL X.K H p (wcZ V.bl bs)/\Q (.bl (bs.all id)) H):=by
 intro d s σ H xs o Q I r h;obtain⟨p,bs,rfl,j,q⟩:=h;obtain⟨u,rfl,k⟩:=vals1 r;cases k;obtain⟨a,l,pl,t⟩:=I.list j;have f:=rQ l;have hl:=pl.isList;have m:=I.ok.hd hc;have c:p<s.heap.objs.size:=by obtain⟨_,e,_⟩:=hl;exact wah e
 refine call_all_walk (wcP hl ?_)
 refine{s.heap.objs.size,[s.heap.objs.size,p],[s.heap.objs.size],a.toArray.size,_,_,λi=>(bs[i]?).getD true,rfl,wfn (A:=X.A.in1) m _ p (waw c) a.toArray,
  {{_,wat _ rfl,rfl,rfl},hl.push _},λi v w x y n g=>?_,λz B hk=>?_}
 .obtain⟨b,e,rfl⟩:=f.get i v (by simpa using n);simp only[e,whM]at g;exact wbt g
 .have e:((wao a.toArray.size).all λi=>(bs[i]?).getD true)=bs.all id:=by
   rw[waB,f.length];exact LSm.range_all bs
  rw[e];exact{.bl _,H,I.kept (LSm.kept_iter hk),rfl,q}
theorem Gy(hk:kvs.map (·.1)=g.map (wal:Str->Key))(rel:KV kvs vs)(hl:us.length=vs.length)
 (l:∀(j:Nat) (u:Value),us[j]?=some u->∃k x,vs[j]?=some (k,x)/\(bB P w).is k u=true):StrsAre us g:=by
 have e:vs.map (·.1)=g.map (wal:Str->Key):=rel.keys ▸ hk;clear hk rel
 induction g generalizing us vs with
 |nil=>
  have:vs=[]:=by cases vs with |nil=>rfl |cons a b=>simp at e
  subst this;have:us=[]:=wfS.mp hl;subst this;exact .nil
 |cons k g i=>
  cases vs with
  |nil=>simp at e
  |cons v vs=>
   cases us with
   |nil=>simp at hl
   |cons u us=>
    rw[wau,wau]at e;injection e with m n
    obtain⟨f,x,o,p⟩:=l 0 u rfl;have c:v=(f,x):=by simpa using o
    subst c;have d:f=(wal k:Key):=m;subst d;obtain⟨t,rfl⟩:=wgW (x:=k) (v:=u) p;exact .cons k t (i (by simpa using hl) (λj q h=>l (j+1) q (by simpa using h)) n)
theorem yJ(hc:X.calm=true):dj X (.builtin "sorted") (λxs H Q=>∃d kvs g,xs=[.ref d]/\H d=some (.dK kvs)/\kvs.map (·.1)=wcZ (wal:Str->Key) g/\g.length<64 /\
 ∀l ss,H l=none->ss.Perm g->wfQ ss=true->Q (.ref l) (upd H l (.lst (ss.map V.str)))):=by
 intro k s σ H xs U Q I r h;obtain⟨d,kvs,g,rfl,hd,hk,v,q⟩:=h;obtain⟨u,rfl,N⟩:=vals1 r;cases N;obtain⟨D,lo,x,rel,O⟩:=rN I.b7 hd;obtain⟨ep,y⟩:=O.dictAt;have R:=I.ok.hd hc;have n:kvs.length=g.length:=by have:=congrArg wdI hk;simpa using this
 have hn:x.length<=sizeLine:=by rw[<-rel.length];exact D
 refine Calls.call_function_entry kind_sorted plain_sorted entry_sorted (args_sorted1 _) ?_;unfold weS.«sorted»;refine wa7 (m:=checkCount "sorted" 1 1 _) (wax ?_);refine wa7 (PySem.W.kdu_collect (A:=X.A.in1) (whN (knd:=bB X.prog X.w) (kvs:=x) (ep:=ep) lo) R y hn λi E a z c=>?_);have hl:a.toList.length=x.length:=by rw[wca];exact c.1
 refine wa7 (wpAny_newList ?_ (by rw[hl];exact hn));have B:StrsAre a.toList g:=Gy (P:=X.prog) (w:=X.w) hk rel hl λj u e=>c.2 j u (by rw[<-wbW];exact e);have f:(i.push (seqObj "list" a.toList.toArray 0)).get? i.objs.size=some (seqObj "list" a.toList.toArray 0):=wat _ rfl;have p:a.toList.length<64:=by rw[hl,<-rel.length,n];exact v
 refine wa7 (wbp (wpAny_call_entry slot_list_sort {_,f,rfl} entry_list_sort (list_sort_treeK strKind_oneLt f B.keysOf (λG J rest e=>keyKind_strs (by rw[<-e];exact B)) p λC a1 a2=>{_,rfl,?_}) (args_list_sort _)));obtain⟨t,b1,L,S⟩:=sorted_out_str B a1 a2;have M:Inv X k σ H {s with heap:=i,toks:=E}:=I.kept z;obtain⟨e,T⟩:=sortedHeap_at (out:=(arrOf C).map (·.2)) f;refine wax {_,rfl,{.ref i.objs.size,upd H i.objs.size (.lst (t.map V.str)),M.laid (t':=E) (λb o q=>?_) (waa _) {?_,_,e,xD b1,?_},rfl,q _ t (M.b7.fresh (waa _)) L S}}
 .have lt:b<i.objs.size:=wah q;rw[sortedHeap_old (waw lt) (by rw[size_push'];exact web lt)];exact wa9 _ q
 .rw[wa0,L.length_eq,<-n];exact D
 .rw[wcT];exact T
theorem xE:∀{kvs:List (Key×V)} {vs:List (Key×Value)} {us:List Value},KV kvs vs->us.length=vs.length ->
 (∀(j:Nat) (u:Value),us[j]?=some u->∃k x,vs[j]?=some (k,x)/\(bB P w).is k u=true)->Vals (kvs.map λg=>kV g.1) us
 |_,_,us,.nil,hl,_=>by
  have:us=[]:=wfS.mp hl;subst this;exact .nil
 |_,_,us,.cons (a:=p) (b:=q) r t,hl,d=>by
  cases us with
  |nil=>simp at hl
  |cons u us=>
   obtain⟨f,x,l,m⟩:=d 0 u rfl;have c:q=(f,x):=by simpa using l
   subst c;refine .cons ?_ (xE t (by simpa using hl) λj n h=>d (j+1) n (by simpa using h));have e:p.1=f:=r.1;show RelV (kV p.1) u;rw[e];rcases ck m with⟨i,t,rfl,rfl⟩ |⟨y,t,rfl,rfl⟩
   .exact⟨t,rfl⟩
   .exact⟨t,rfl⟩
theorem k9(hc:X.calm=true):dj X (.type "list") (λxs H Q=>∃d kvs,xs=[.ref d]/\H d=some (.dK kvs)/\∀l,H l=none->Q (.ref l) (upd H l (.lst (kvs.map λg=>kV g.1)))):=by
 intro k s σ H xs y Q I r h;obtain⟨d,kvs,rfl,hd,q⟩:=h;obtain⟨u,rfl,n⟩:=vals1 r;cases n;obtain⟨m,lo,f,rel,o⟩:=rN I.b7 hd;obtain⟨ep,i⟩:=o.dictAt;have p:=I.ok.hd hc;have hn:f.length<=sizeLine:=by rw[<-rel.length];exact m
 refine whO (whN (knd:=bB X.prog X.w) (kvs:=f) (ep:=ep) lo) p i hn λt v b c kp x a=>?_;have hl:b.toList.length=f.length:=by rw[wca];exact a.1
 refine{.ref s.heap.objs.size,_,I.laid (t':=v) kp (waa _) (show bW X.prog X.w _ t _ (.lst (kvs.map λg=>kV g.1)) from {?_,b.toList,c,xE (P:=X.prog) (w:=X.w) rel hl λj u e=>a.2 j u (by rw[<-wbW];exact e),?_}),rfl,q _ (I.b7.fresh (waa _))}
 .rw[wa0];exact m
 .rw[wcT];exact x
noncomputable def lZ(v d:Addr):HO:=.ext λh=>h.IsValuesView v d
theorem xF:Jv X "dict.values" (λx xs H Q=>∃d kvs,x=.ref d/\xs=[]/\H d=some (.dK kvs)/\∀v,H v=none->Q (.ref v) (upd H v (lZ v d))):=by
 intro a s σ H x xs v j Q I f g h;obtain⟨d,kvs,rfl,rfl,hd,q⟩:=h;cases f;have:=g.zero;subst this;obtain⟨l,lo,i,rel,c⟩:=rN I.b7 hd;refine wfy wdX c.typeIs PySem.F.entry_dict_values (PySem.F.args_dict_values_1 _) (meets_dict_values (bB X.prog X.w) d lo) {⟨i,c⟩,?_};refine{.ref s.heap.objs.size,_,I.laid (t':=s.toks) (o:=lZ s.heap.objs.size d) (λb o e=>wa9 _ e) (waa _) {{_,wat _ rfl,rfl,rfl},{_,wat _ rfl},λm n ⟨o,e,r⟩ k=>{o,k o e,r}},rfl,q _ (I.b7.fresh (waa _))}
theorem Bz(hc:X.calm=true):dj X (.type "list") (λxs H Q=>∃v d kvs,xs=[.ref v]/\H v=some (lZ v d)/\H d=some (.dK kvs)/\∀l,H l=none->Q (.ref l) (upd H l (.lst (kvs.map (·.2))))):=by
 intro k s σ H xs D Q I r h;obtain⟨v,d,kvs,rfl,n,hd,q⟩:=h;obtain⟨u,rfl,o⟩:=vals1 r;cases o;obtain⟨m,lo,b,rel,p⟩:=rN I.b7 hd;obtain⟨ep,i⟩:=p.dictAt;obtain⟨g,_⟩:=(show bW X.prog X.w H s.heap v (lZ v d) from I.b7 v _ n);have x:=I.ok.hd hc;have hn:b.length<=sizeLine:=by rw[<-rel.length];exact m
 refine whO (whe (knd:=bB X.prog X.w) (kvs:=b) (ep:=ep)) x ⟨g,i⟩ hn λy z a c kp A f=>?_;have hl:a.toList.length=b.length:=by rw[wca];exact f.1
 have e:a.toList=b.map (·.2):=PySem.W.kdl_vals_eq a.toList hl λj u e=>f.2 j u (by rw[<-wbW];exact e)
 have B:∀{kvs:List (Key×V)} {b:List (Key×Value)},KV kvs b->Vals (kvs.map (·.2)) (b.map (·.2)):=λ{kvs b} r=>by
  induction r with
  |nil=>exact .nil
  |cons r t C=>exact .cons r.2 C
 refine{.ref s.heap.objs.size,_,I.laid (t':=z) kp (waa _) (show bW X.prog X.w _ y _ (.lst (kvs.map (·.2))) from {?_,a.toList,c,by rw[e];exact B rel,?_}),rfl,q _ (I.b7.fresh (waa _))}
 .rw[wa0];exact m
 .rw[wcT];exact A
noncomputable def tF:List V->List V->Bool
 |[],[]=>true
 |x::xs,y::ys=>qJ x y&&tF xs ys
 |_,_=>false
theorem zX(h:xs.length≠ys.length):tF xs ys=false:=by
 induction xs generalizing ys with
 |nil=>cases ys with
  |nil=>exact absurd rfl h
  |cons _ _=>rfl
 |cons x xs a=>cases ys with
  |nil=>rfl
  |cons y ys=>
   show (qJ x y&&tF xs ys)=false;rw[a (by simpa using h),we7]
theorem oo:∀{xs ys:List V},xs.length=ys.length->tF xs ys=(wao xs.length).all λj=>qJ (xs.getD j .non) (ys.getD j .non)
 |[],[],_=>rfl
 |[],_::_,h=>by simp at h
 |_::_,[],h=>by simp at h
 |x::xs,y::ys,h=>by
  show (qJ x y&&tF xs ys)=_;rw[waH,List.range_succ_eq_map,wf6,wfC,oo (by simpa using h)];rfl
inductive T9(K:wa2)(x y:V)(H:Hp)(Q:VK):Prop
 |mk (a b xs ys) (_:x=.ref a) (_:y=.ref b) (_:aL K H a xs) (_:aL K H b ys) (_:xs.all dk=true) (_:ys.all dk=true) (_:Q (.bl (tF xs ys)) H)
theorem yK(l:X.A.units<wcp):kQ X (wbc .Eq) (T9 X.K):=by
 intro m s σ H x y v u Q I C D h;obtain⟨a,b,f,g,rfl,rfl,ha,E,G,J,q⟩:=h;cases C;cases D;obtain⟨d,n,o,_⟩:=I.list ha;obtain⟨c,p,r,_⟩:=I.list E;have L:=n.length;have U:=p.length
 by_cases hl:f.length=g.length
 .refine SeqAt.eq_listAt (e:=λj=>qJ (f.getD j .non) (g.getD j .non)) o.isList r.isList (by simp only[waB];lia) l (λj M N=>?_) ?_
  .have i:j<d.length:=by simpa using M
   have k:j<c.length:=by simpa using N
   have t:f[j]?=some (f.getD j .non):=by rw[wa3];simp[show j<f.length by lia]
   have w:g[j]?=some (g.getD j .non):=by rw[wa3];simp[show j<g.length by lia]
   obtain⟨O,z,R⟩:=n.get t;obtain⟨S,B,T⟩:=p.get w
   have g1:d.toArray[j]=O:=by
    have:d[j]?=some d[j]:=by simp[i]
    rw[this]at z;simpa using wad z
   have g2:c.toArray[j]=S:=by
    have:c[j]?=some c[j]:=by simp[k]
    rw[this]at B;simpa using wad B
   rw[g1,g2];exact yD R T (waR.mp G _ (wa8 t)) (waR.mp J _ (wa8 w))
  .rw[oo hl]at q;refine{.bl _,H,I,rfl,?_};rw[waB,<-L];exact q
 .refine SeqAt.eq_list_lengthsAt o.isList r.isList (by simp only[waB,bne_iff_ne];lia) l {.bl false,H,I,rfl,?_};rw[zX hl]at q;exact q
theorem bR:dj X (.builtin "isinstance") (λxs H Q=>∃x T t b,xs=[x,.ty T]/\gE X.K H x t/\wgp X.K t (.type T)=some b/\Q (.bl b) H):=by
 intro a s σ H xs g Q I r h;obtain⟨x,T,t,b,rfl,ty,e,q⟩:=h;obtain⟨u,i,rfl,c,d⟩:=vals2 r;cases d;exact E6 I c ty e λf=>{.bl b,H,I.tok f,rfl,q}
theorem gP:SR X (λx lo hi H Q=>∃z,x=.str z/\z.length<=sizeLine/\Q (.str (waI z lo hi)) H):=by
 intro a s σ H x v p r lo hi sl Q I m n pl f h;obtain⟨z,rfl,b,q⟩:=h;obtain⟨t,rfl⟩:=m;refine{"str",_,slot_str_getitem.lookup,wgH s z t,?_};have fin:∀d k,EP X a σ Q (.str (waI z lo hi) d) {s with toks:=k}:=λd k=>{.str _,H,I.tok k,⟨d,rfl⟩,q};obtain⟨o,c,hc,hd⟩:=n
 cases pl with
 |none=>cases f with
  |none=>exact wd6 (l:=none) (u:=none) (st:=none) ⟨o,c,hc,hd⟩ rfl (weH {wak (wds z _ _) b,fin})
  |int j e=>exact wd6 (l:=none) (u:=some (j,e)) (st:=none) ⟨o,c,hc,hd⟩ rfl (weH {wak (wds z _ _) b,fin})
 |int i g=>cases f with
  |none=>exact wd6 (l:=some (i,g)) (u:=none) (st:=none) ⟨o,c,hc,hd⟩ rfl (weH {wak (wds z _ _) b,fin})
  |int j e=>exact wd6 (l:=some (i,g)) (u:=some (j,e)) (st:=none) ⟨o,c,hc,hd⟩ rfl (weH {wak (wds z _ _) b,fin})
theorem Dg:Jv X "str.join" (λx xs H Q=>∃z p ts,x=.str z/\xs=[.ref p]/\aL X.K H p (wcZ V.str ts)/\(ts.map (·.length)).sum+ts.length*z.length<=16777216/\Q (.str (wdB z ts)) H):=by
 intro a s σ H x xs v l Q I b c h;obtain⟨z,p,ts,rfl,rfl,d,e,q⟩:=h;obtain⟨t,rfl⟩:=b;obtain⟨u,rfl,f⟩:=c.one;cases f;obtain⟨g,i,pl,_⟩:=I.list d;exact join_list pl.isList (by simpa using By i) e λj k=>{.str _,H,I.tok k,⟨j,rfl⟩,q}
end
theorem uD{X:Cx}{g:List (Addr×Obj)}{σ:St}{H:Hp}{s:Shared}{l:List Addr}{x y:V}{u v:Value}{j:Heap}(tk:Nat)(I:Inv X g σ H s)(p:∀b∈l,uj X g H b)(kp:∀b o,b∉l->s.heap.get? b=some o->j.get? b=some o)
 (t:j.get? s.heap.objs.size=some {cls:=.type "tuple",data:=.seq #[u,v]}) (C:RelV y u) (J:RelV x v) (hl:∀b∈l,b<s.heap.objs.size) :
 H s.heap.objs.size=none/\Inv X g σ (upd H s.heap.objs.size (.tup [y,x])) {s with heap:=j,gens:=s.gens,drawn:=s.drawn,toks:=tk}/\∀b∈l,upd H s.heap.objs.size (.tup [y,x]) b=none:=by
 have d:=I.b7.fresh (waa s.heap.objs.size);have e:∀b o,H b=some o->b∉l:=λb o q z=>by rw[(p b z).1]at q;cases q
 have f:jV X.prog X.w (upd H s.heap.objs.size (.tup [y,x])) j:=by
  intro b o q
  by_cases a:b=s.heap.objs.size
  .subst a;rw[a6]at q;cases q;exact{by show 2<=sizeLine;decide,[u,v],.cons C (.cons J .nil),{_,t,rfl,_,rfl}}
  .rw[ae a]at q;refine(I.b7 b o q).wt (λc v hc r=>?_) (λc r=>by rw[ae (af r d)];exact r) λc i r=>by rw[ae (af r d)];exact r
   rcases hc with z |z
   .rw[z]at r ⊢;exact kp b v (e b o q) r
   .exact kp c v (e c _ z) r
 refine{d,?_,λb a=>by rw[ae (waw (hl b a))];exact(p b a).1}
 refine I.step (ch:=l) (λb a=>?_) (λb o _ _ hc q _=>kp b o hc q) (λb o _ _ hc q _=>{o.slots,kp b o hc q}) (λb o _ q n=>by rw[ae (waw (wah q))];exact n) (λb o hc q=>{o,kp b o hc q})
  (λb i r=>by rw[ae (af r d)];exact r) (λb o u r=>by rw[ae (af r d)];exact r) (λb ps r=>{#[],by rw[ae (af r d),r];simp})
  (λm ⟨o,k,A,h,r⟩=>{o,k,A,kp _ o (λz=>(p _ z).2.1 rfl) h,r}) f I.bare
 obtain⟨_,f1,_,B,D,E⟩:=p b a;exact⟨B,f1,D,E⟩
theorem yL{b e i:Addr}(h:b∉[e,i]):b≠e/\b≠i:=by simpa using h
theorem MF{e i n:Nat}(h:e<n)(h':i<n):∀b∈[e,i],b<n:=by simp[h,h']
noncomputable def Oe(K:wa2)(a:Addr):It:=
 {λi H=>∃xs x,aL K H a xs/\xs[i]?=some x,λi H x H'=>∃T xv,H T=none/\x=.ref T/\H'=upd H T (.tup [.int (i:Nat),xv])/\∀xs,aL K H a xs->xs[i]?=some xv,λi H=>∃xs,aL K H a xs/\xs.length<=i}
theorem Ee{P:waq}{w:World}{K:wa2}{g:List Expr}{k:Nat}{pos:Pos}(a e it:Addr)(j:e≠it):Turn P w K (.Tuple g k pos) (Oe K a) [e,it] e (λi h=>(∃old,IsEnum h e it (i:Nat) old)/\h.IsListIter it a i) where
 mem:=by simp
 obj:=λi h st b f=>by
  obtain⟨⟨old,c⟩,o,t,hc,hd⟩:=st;rcases waK.mp f with rfl |f
  .exact{_,c,λv z=>by
    have Q:wee _=wfZ v:=z
    cases Q}
  .have R:b=it:=by simpa using f
   subst R;exact{o,t,λv z=>by rw[hd]at z;cases z}
 keep:=λi h O st k=>{st.1.imp λold c=>k e (by simp) _ c,st.2.at λo q=>k it (by simp) o q}
 item:=by
  intro X A hw B hc i l s σ H E I C st D;subst A hw B;obtain⟨S,x,r,G⟩:=D;obtain⟨J,L,p,T⟩:=I.list r;obtain⟨u,U,V⟩:=L.get G;obtain⟨⟨old,c⟩,hit⟩:=st;refine wpAny_pyNext_enum_item c hit p.isList (x:=u) (by simpa using U) j λO t m Y Z hk=>?_;refine{_,rfl,wdG t λVF M d=>?_};obtain⟨_,N,_⟩:=id hit;have n:e<s.heap.objs.size:=wah c;obtain⟨fr,I1,hn⟩:=uD (y:=.int (i:Nat)) (s.toks+1) I C (λb o h q=>(d.2 b (yL h).1).trans (hk b o (yL h).1 (yL h).2 q)) ((d.2 _ (wcg n)).trans Y) {_,rfl} V (MF n (wah N));exact{.ref s.heap.objs.size,_,I1,rfl,{s.heap.objs.size,x,fr,rfl,rfl,λys hy=>by rw[I.oW hy r];exact G},{{u,by simpa using M},m.at λo q=>(d.2 it (wbu j)).trans q},hn}
 done:=by
   intro X A hw B hc i l s σ H E I C st D;subst A hw B;obtain⟨S,r,G⟩:=D;obtain⟨J,L,p,T⟩:=I.list r;have hl:=L.length;obtain⟨⟨old,c⟩,hit⟩:=st;obtain⟨g0,g1,g2,g3,g4,g5⟩:=C it (by simp);exact wpAny_pyNext_enum_end (I.ok.hd hc) c hit p.isList (wgg (by simp;lia)) λO eb=>{rfl,I.turned (t':=s.toks) (λb o f e=>eb b o f e) g0 g1 g3 g4 g5}
 self:=λ_ _ _ _ _ st h=>let ⟨⟨_,c⟩,_⟩:=st;wcQ c h
theorem gQ:waX "enumerate"=some (.type "enumerate"):=∅
section
variable{X:Cx}
def PB(K:wa2)(ta:TA):TI:=λσ H R=>ta σ H λvs H1=>∃a xs,vs=[.ref a]/\aL K H1 a xs/\R (Oe K a) H1
theorem kc{g:List Expr}{k:Nat}{j:Pos}{l:Expr}{r:TA}{p pos:Pos}(t:Gl X "enumerate")(C:X.mg "enumerate"=none)(ha:PA X [l] r)(hs:starEach [l] X.env=[(false,eval l X.env)]:=by rfl) :
 PI X (.Tuple g k j) (.Call (.Name "enumerate" p) [l] [] pos) (PB X.K r):=by
 refine{?_};intro c s σ H R I h;refine Call_ (gi I t C gQ (wbs (bO (ha pos c s σ H _ I h) λD d ⟨E,m,i,o,v⟩=>?_) hs rfl));obtain⟨a,G,e,w,q⟩:=v;subst e;obtain⟨u,rfl,x⟩:=vals1 o;cases x;obtain⟨y,J,pl,L⟩:=i.list w;refine call_enumerate_list pl.isList λz n hit A kp=>wcQ n ?_;have B:Inv X c σ m {d with heap:=z}:=i.kept (t':=d.toks) kp;refine{d.heap.objs.size+1,[d.heap.objs.size+1,d.heap.objs.size],_,_,m,rfl,B,Ee a _ _ (wcg (wbL _)),{{_,n},hit},λb M=>?_,q}
 have f:d.heap.objs.size<=b:=by
  grind
 exact i.yw f (i.b7.fresh f)
end
theorem m3{K:wa2}{a:Addr}{xs:List V}{g:TG}{C:TS}{D:Ends}{σ:St}{H:Hp}(Pv:Nat->St->Hp->Prop)(h0:Pv 0 σ H)(hl:∀i σ H,i<=xs.length->Pv i σ H->aL K H a xs)
 (hs:∀i x σ H T,xs[i]?=some x->Pv i σ H->H T=none->g (.ref T) σ (upd H T (.tup [.int (i:Nat),x])) λj t=>C (D.lp (Pv (i+1))) j t) (hd:∀σ H,Pv xs.length σ H->D.nx σ H) :
 ∃W:Nat->Nat->St->Hp->Prop,(∃m,W 0 m σ H)/\∀i m σ H,W i m σ H ->
  ((Oe K a).stop i H/\D.nx σ H)\/((Oe K a).go i H/\∃N:St->Hp->Prop,(∀l r,N l r->∃I,I<m/\W (i+1) I l r)/\∀x r,(Oe K a).ui i H x r->g x σ r λj t=>C (D.lp N) j t):=by
 refine{λi m σ H=>m=xs.length-i/\i<=xs.length/\Pv i σ H,{xs.length,by simp,waz _,h0},?_};rintro i m σ H ⟨rfl,hi,p⟩;have q:=hl i σ H hi p
 by_cases b:i<xs.length
 .refine .inr {{xs,xs[i],q,by simp[b]},Pv (i+1),λl r c=>{xs.length-(i+1),(),rfl,b,c},λx r y=>?_};obtain⟨T,d,f,h,k,y⟩:=y;subst h k;exact hs i d σ _ T (y xs q) p f
 .have e:i=xs.length:=();subst e;exact .inl {{xs,q,waa _},hd σ H p}
noncomputable def rR(σ:List Str)(v:Str):List Str:=if σ.any (· == v)=true then σ else σ++[v]
noncomputable def d2(val:Nat->Str)(i:Nat):List Str:=((wao i).map val).foldl rR []
theorem iP(val:Nat->Str)(i:Nat):d2 val (i+1)=rR (d2 val i) (val i):=by
 unfold d2;rw[wc9,wai,wfg];rfl
theorem xG(val:Nat->Str):∀i,(d2 val i).length<=i
 |0=>waa _
 |i+1=>by
  rw[iP];unfold rR;have a:=xG val i;split
  .lia
  .grind
theorem Ef(σ:List Str)(v k:Str):(rR σ v).any (· == k)=(σ.any (· == k) ||decide (k=v)):=by
 unfold rR
 by_cases h:σ.any (· == v)=true
 .rw[if_pos h]
  by_cases e:k=v
  .subst e;rw[h];simp
  .simp[e]
 .rw[if_neg h,List.any_append]
  by_cases e:k=v
  .subst e;simp
  .have a:(v==k)=false:=by simpa [beq_iff_eq] using(λb:v=k=>e b.symm)
   simp[a,e]
theorem yM(σ:List Str)(v:Str):(rR σ v).length=if σ.any (· == v) then σ.length else σ.length+1:=by
 unfold rR;split<;>simp
theorem sub_str_set:isSubtype (.type "str") (.type "set")=pure false:=by rw[isSubtype_type];kernel_rfl
theorem sub_str_frozenset:isSubtype (.type "str") (.type "frozenset")=pure false:=by rw[isSubtype_type];kernel_rfl
theorem Li(P:waq)(w:World)(x:Str)(t:Tok):(wbM P w).is x (.str x t)=true:=by simp[wbM,wgR]
section
variable{prog:waq}{w:World}{A:Around}{R:wdd->Shared->Prop}{I:Addr}{fp wr:List Addr}{G:Array wdx->Array wdx->Prop}{n:Nat}{P:Nat->Value->Prop}{St:Nat->Shared->Prop}
theorem zY(l:WalksS prog w A.in1 I fp wr G n P St)(S:Addr)(p:S∉fp)
 (val:Nat->Str) (r:∀i v,P i v->∃t,v=.str (val i) t) (j:n+1<wdY) :
 ∀(k i:Nat) (s:Shared),n-i=k->i<=n->St i s ->
  s.heap.SetOf (wbM prog w) S (λg=>(d2 val i).any (· == g)) (d2 val i).length ->
  (∀s',Moved (S::wr) G s s'->s'.heap.SetOf (wbM prog w) S (λg=>(d2 val n).any (· == g)) (d2 val n).length->R (.ok (.ret .none)) s') ->
  codeAny (model prog w) A (.builtin "set.update.loop" {[.ref S,.ref I],[]}) R s:=by
 have f:S∉wr:=λh=>p (l.sub _ h);have a:∀b∈wr,b∈S::wr:=λb j=>wac _ j;intro k
 induction k with
 |zero=>
  intro i s hk hi c B C;have D:i=n:=by lia
  subst D;refine wbI wdZ ?_;rw[wby wcK _];show wpAny _ A.in1 (pyNext (.ref I) >>= _) _ _ s;refine wa7 (l.done s _ _ c λs' m=>?_);show wpAny _ A.in1 (ret wbC) _ _ s'
  exact wax (C s' (m.mono a) (by
   obtain⟨o,E,H,t,J,rest⟩:=B
   exact{o,E,H,t,m.heap S _ f J,rest}))
 |succ k Q=>
  intro i s hk hi c B C;have q:i<n:=by lia
  refine wbI wdZ ?_;rw[wby wcK _];show wpAny _ A.in1 (pyNext (.ref I) >>= _) _ _ s;refine wa7 (l.item i s _ _ q c λv s' T u m=>?_);obtain⟨t,rfl⟩:=r i v T
  have L:s'.heap.SetOf (wbM prog w) S (λg=>(d2 val i).any (· == g)) (d2 val i).length:=by
   obtain⟨o,E,H,U,J,rest⟩:=B;exact{o,E,H,U,m.heap S _ f J,rest}
  show wpAny _ A.in1 (holding [wfY (val i) t] (setAdd S (.str (val i) t)) >>= _) _ _ s';refine wa7 (wbp ?_);unfold setAdd;refine wbp ?_;refine wa7 ((wbM prog w).pyHash (k:=val i) (Li _ _ _ _) ?_);have d:(d2 val i).length+1<wdY:=by have:=xG val i;lia
  refine wpAny_setAddHashed_of (knd:=wbM prog w) (s:={s' with toks:=s'.toks+1}) (Li _ _ _ _) rfl L d λV x M=>?_
  have N:V.SetOf (wbM prog w) S (λg=>(d2 val (i+1)).any (· == g)) (d2 val (i+1)).length:=
   SetOf_congr M (λg=>by rw[iP,Ef]) (by rw[iP,yM])
  refine wax {wcj wcK _,Q (i+1) _ (by lia) q (l.frame _ s' _ _ u (wc5 _) λb j o e=>?_) N λO y z=>?_}
  .rw[x.2 b (λh:b=S=>p (by rw[<-h];exact j))];exact e
  .refine C O (Moved.trans l.gtrans ((m.mono a).then_heap (wc5 _) λb o j e=>?_) y) z;rw[x.2 b (λh:b=S=>j (by rw[h];exact wae))];exact e
end
section
variable{prog:waq}{w:World}{A:Around}{E:Value->Shared->Prop}{s:Shared}
noncomputable def f9(x:Str)(i:Nat):Str:={#[x.cps.getD i 0]}
set_option maxRecDepth 100000 in
set_option maxHeartbeats 3200000 in
theorem yN{Q:Value->Shared->Prop}
 (hh:A.handled=none) (p:x.cps.size+1<wdY)
 (h:∀(h':Heap) (tk:Nat),h'.SetOf (wbM prog w) s.heap.objs.size (λC=>(d2 (f9 x) x.cps.size).any (· == C)) (d2 (f9 x) x.cps.size).length ->
   (∀b o,b<s.heap.objs.size->s.heap.get? b=some o->h'.get? b=some o)->Q (.ref s.heap.objs.size) {s with heap:=h',toks:=tk}) :
 wpAny (model prog w) A (call (.type "set") [.str x I]) Q E s:=by
 obtain⟨c,tl,T⟩:=wbZ.mro;have y:=wbZ.made;have U:=wbZ.sub;refine wdf (wg5 ?_);show wpAny _ _ (callAny (.type "set") _) _ _ _;refine wax {we0 _ ∅,wbI wgJ ?_};rw[whf (wgs "set" [.str x I] []) rfl];have h1:=wbZ.notType;have h2:=wbZ.canCreate;have Z:=PySem.F.typeCall_set_1 (.str x I)
 repeat (any_goals (first |assumption |wp_step))
 refine wch (code_set_new_1 (.str x I) (E:=E) (Q₁:=λobj f=>∃a:Bool,obj=.ref s.heap.objs.size/\f={s with heap:=s.heap.push {cls:=.type "set",dict:=none,data:=.set #[] 0 (.fresh 0 0 a)}}) λa=>⟨a,rfl,rfl⟩) λr f z=>?_
 cases r with
 |error e=>exact z
 |ok fl=>
  cases fl with
  |ret obj=>
   obtain⟨a,rfl,rfl⟩:=z;have V:(s.heap.push {cls:=.type "set",dict:=none,data:=.set #[] 0 (.fresh 0 0 a)}).get? s.heap.objs.size=some {cls:=.type "set",dict:=none,data:=.set #[] 0 (.fresh 0 0 a)}:=wat _ rfl;have hT:wi8 {s with heap:=s.heap.push {cls:=.type "set",dict:=none,data:=.set #[] 0 (.fresh 0 0 a)}} (.ref s.heap.objs.size) "set":={_,V,rfl};have hli:=wbZ.init.lookup;have hbi:=wbZ.init.bind (.ref s.heap.objs.size)
   repeat (any_goals (first |assumption |wp_step))
   refine wch (wcU (R:=wants (λr g=>r=.none/\∃h' tk,g={s with heap:=h',toks:=tk} /\
    h'.SetOf (wbM prog w) s.heap.objs.size (λC=>(d2 (f9 x) x.cps.size).any (· == C)) (d2 (f9 x) x.cps.size).length /\
    (∀b o,b<s.heap.objs.size->s.heap.get? b=some o->h'.get? b=some o)) E) wbZ.init.plain PySem.F.entry_set_init (check_set_init_1 hT ?_)) λl g d=>?_
   .have X:=sub_str_set;have Y:=sub_str_frozenset;have BA:(weA "str" == weA "dict")=false:=⋯;unfold weS.«set.__init__» noKeywords wi7;generalize B:pyIter=PI
    wp_walk
    subst B;refine wpAny_pyIter_str λo St hW D=>?_;refine wa7 (wpAny_runValue ?_);have G:A.in1.in1.in1.handled=none:=by simp[hh]
    have H:s.heap.objs.size∉[(s.heap.push {cls:=.type "set",dict:=none,data:=.set #[] 0 (.fresh 0 0 a)}).objs.size]:=by
     rw[wbO];simp only[waK,wap,wc0,or_false,not_or];exact waw (wbL _)
    have m:∀(i:Nat) (v:Value),SignAt x i v->∃t,v=.str (f9 x i) t:=λi v hv=>by
     obtain⟨c,u,hc,e⟩:=hv;refine{u,?_};rw[e];unfold f9;rw[wcJ,hc];rfl
    refine zY ((hW _ G).toS) s.heap.objs.size H (f9 x) m p (x.cps.size-0) 0 _ (by lia) (waz _) D ?J ?hR
    case J=>
     have n:((s.heap.push {cls:=.type "set",dict:=none,data:=.set #[] 0 (.fresh 0 0 a)}).push o).get? s.heap.objs.size
      =some {cls:=.type "set",dict:=none,data:=.set #[] 0 (.fresh 0 0 a)}:=wa9 _ V
     exact SetOf_congr ((setObjOf_fresh (knd:=wbM prog w) a).setOf n (by unfold wdY;lia)) (λ_=>rfl) rfl
    case hR=>
     intro s' q j;obtain⟨h',g',d',L,M⟩:=s';have eg:g'=s.gens:=q.gens;have ed:d'=s.drawn:=q.drawn;have eo:M=s.os:=q.os;subst eg;subst ed;subst eo;show wpAny _ _ _ _ _ _;refine wax ?_;show wpAny _ _ (ret wbC) _ _ _;refine wax {rfl,h',L,rfl,j,λb o' p e=>?_};have N:b≠s.heap.objs.size:=waw p
     have O:b≠(s.heap.push {cls:=.type "set",dict:=none,data:=.set #[] 0 (.fresh 0 0 a)}).objs.size:=by
      rw[wbO];exact waw (web p)
     exact q.heap b o' (by simp only[waK,wap,wc0,or_false,not_or];exact⟨N,O⟩) (wa9 _ (wa9 _ e))
   .cases l with
    |error e=>exact d
    |ok k=>
     cases k with
     |ret r=>
      obtain⟨rfl,h',tk,rfl,j,S⟩:=d
      repeat (any_goals (first |assumption |wp_step))
      exact h _ _ j S
     |_=>exact d.elim
  |_=>exact z.elim
end
section
variable{X:Cx}
noncomputable def JE(P:waq)(w:World)(a:Addr)(n:Nat):HO:=.ext λh=>∃S,h.SetOf (wbM P w) a S n
theorem zZ(hc:X.calm=true):dj X (.type "set") (λxs H Q=>∃z,xs=[.str z]/\z.cps.size+1<wdY/\∀p,H p=none->Q (.ref p) (upd H p (JE X.prog X.w p (d2 (f9 z) z.cps.size).length))):=by
 intro c s σ H xs n Q I r h;obtain⟨z,rfl,f,q⟩:=h;obtain⟨u,rfl,t,rfl⟩:=vals1 r;refine yN (I.ok.hd hc) f λg i d kp=>?_;have a:∀b o,s.heap.get? b=some o->g.get? b=some o:=λb o e=>kp b o (wah e) e;refine{.ref s.heap.objs.size,_,I.laid (t':=i) (o:=JE X.prog X.w s.heap.objs.size (d2 (f9 z) z.cps.size).length) a (waa _) {{_,d},?_,?_},rfl,q _ (I.b7.fresh (waa _))}
 .obtain⟨o,_,_,_,e,_⟩:=d;exact⟨o,e⟩
 .rintro v x ⟨S,o,j,l,m,e,rest⟩ k;exact{S,o,j,l,m,k o e,rest}
theorem A0:dj X (.builtin "len") (λxs H Q=>∃p n,xs=[.ref p]/\H p=some (JE X.prog X.w p n)/\Q (.int n) H):=by
 intro b s σ H xs g Q I r h;obtain⟨p,n,rfl,c,q⟩:=h;obtain⟨u,rfl,d⟩:=vals1 r;cases d;obtain⟨⟨S,o,i,j,k,e,hex,hd,_,_,f,a,hn⟩,_⟩:=(show bW X.prog X.w H s.heap p (JE X.prog X.w p n) from I.b7 p _ c);refine call_len_set e hex hd a (by grind [wdY]) {.int n,H,I.tok _,{s.toks+1,?_},q};rw[hn]
end
section
variable{X:Cx}{pins:List (Addr×Obj)}{σ:St}{H:Hp}{s:Shared}
end
abbrev PD(X:Cx)(st:Stmt)(t:TS):Prop:=
 ∀(pins:List (Addr×Obj)) (s:Shared) (σ:St) (H:Hp) (D:Ends),Inv X pins σ H s->1<=s.toks->t D σ H->wpAny (model X.prog X.w) X.A (exec st X.env) (SP X pins D) X.xe s
structure VG(X:Cx)(st:Stmt)(t:TS):Prop where
 go:PD X st t
instance {X:Cx} {st:Stmt} {t:TS}:CoeFun (VG X st t) λ_=>PD X st t:=⟨VG.go⟩
abbrev Lj(X:Cx)(st:List Stmt)(t:TS):Prop:=
 ∀(pins:List (Addr×Obj)) (s:Shared) (σ:St) (H:Hp) (D:Ends),Inv X pins σ H s->1<=s.toks->t D σ H->wpAny (model X.prog X.w) X.A (execs st X.env) (SP X pins D) X.xe s
structure PF(X:Cx)(st:List Stmt)(t:TS):Prop where
 go:Lj X st t
instance {X:Cx} {st:List Stmt} {t:TS}:CoeFun (PF X st t) λ_=>Lj X st t:=⟨PF.go⟩
section
variable{X:Cx}{st:Stmt}{rest:List Stmt}{t u:TS}{pos:Pos}
end
end L2
namespace Bs
open PySem PySem.Spec PyProof.Rows
noncomputable abbrev ch(x:Str):List Nat:=x.cps.toList
theorem aN(x:Str):(ch x).length=x.length:=by simp[ch,wdz]
theorem cb(h:ch x=ch y):x=y:=by
 obtain⟨a⟩:=x;obtain⟨b⟩:=y;have:a=b:=wfD.mp h;rw[this]
theorem aT(a b:Str):ch (a++b)=ch a++ch b:=by grind [Str.cps_append,Array.toList_append]
theorem Gz(c:Nat):ch {#[c]}=[c]:=rfl
theorem oq(h:z.length=0):ch z=[]:=by grind [aN]
theorem m4(x:Str)(l u:Option Int):waI x l u=StrLaws.sliceText x l u:=rfl
theorem m6(x:Str)(j:Nat):ch (waI x none (some (j:Int)))=(ch x).take j:=by
 by_cases h:j<=x.length
 .grind [m4,wgK,wdz]
 .have hn:wbK none (some (j:Int)) 1 x.length=wbK none (some ((x.length:Nat):Int)) 1 x.length:=by
   grind [wbK]
  have e:waI x none (some (j:Int))=waI x none (some ((x.length:Nat):Int)):=by
   grind [waI]
  rw[e,m4,wgK {by lia,by simp[wdz]}];have a:(ch x).length<=j:=by rw[aN];lia
  rw[wbg a];have b:x.cps.toList.take x.cps.size=x.cps.toList:=wbg (by simp);simp[wdz,b]
theorem gm(x:Str)(i:Nat):ch (waI x (some (i:Int)) none)=(ch x).drop i:=by
 by_cases h:i<=x.length
 .rw[m4,wgh {by lia,by simp[wdz]at h ⊢;lia}];show ((x.cps.toList.drop (i:Int).toNat).take ((x.cps.toList.length:Int)-(i:Int)).toNat).toArray.toList=(ch x).drop i;rw[List.toList_toArray,waA,wbg];rw[wb3]
  lia
 .have hn:wbK (some (i:Int)) none 1 x.length=wbK (some ((x.length:Nat):Int)) none 1 x.length:=by
   have a:¬((i:Int)<0):=by lia
   have b:¬(((x.length:Nat):Int)<0):=by lia
   have c:max (0:Int) (min (i:Int) (x.length:Int))=max 0 (min ((x.length:Nat):Int) (x.length:Int)):=by lia
   simp[wbK,a,b,c]
  have e:waI x (some (i:Int)) none=waI x (some ((x.length:Nat):Int)) none:=by
   unfold waI;rw[hn]
  rw[e,m4,wgh {by lia,by simp[wdz]}];have d:(ch x).length<=i:=by rw[aN];lia
  rw[wef d];simp[wdz]
theorem qM(g:z.length=0):∀ts:List Str,ch (wdB z ts)=(ts.map ch).flatten:=by
 intro ts;unfold wdB Builtin.Str.glued
 have b:z.cps=#[]:=by
  have:=oq g;exact wfD.mp this
 have key:∀(l:List Str) (a:Array Nat),(l.foldl (λa p=>a++z.cps++p.cps) a).toList=a.toList++(l.map ch).flatten:=by
  intro l
  induction l with
  |nil=>grind
  |cons p l c=>
   grind
 cases ts with
 |nil=>rfl
 |cons p l=>
  show ((List.drop 1 (p::l)).foldl (λa q=>a++z.cps++q.cps) p.cps).toList=_;rw[List.drop_one,List.tail_cons,key];rfl
noncomputable def fI:Str:="abcdefghijklmnopqrstuvwxyz0123456789"
structure A2(x:Str):Prop where
 lo:2<=x.length
 hi:x.length<=4
 nd:(ch x).Nodup
 sub:∀c∈ch x,c∈ch fI
structure Drawn(i:Nat)(JF found:Str):Prop where
 pl:JF.length+i=36
 fl:found.length=i
 pn:(ch JF).Nodup
 fn:(ch found).Nodup
 ps:∀c∈ch JF,c∈ch fI
 fs:∀c∈ch found,c∈ch fI
 ap:∀c∈ch found,c∉ch JF
theorem A3:fI.length=36:=∅
structure yO(sg w:Str):Prop where
 lo:1<=w.length
 hi:w.length<=5
 sub:∀c∈ch w,c∈ch sg
theorem Eg(j:z.length=0)(p:1<=ts.length)(r:ts.length<=5)(h:∀t∈ts,∃c,t={#[c]}/\c∈ch g):yO g (wdB z ts):=by
 have e:=qM j ts
 have hl:∀(l:List Str),(∀t∈l,∃c,t={#[c]}/\c∈ch g)->((l.map ch).flatten).length=l.length/\∀c∈(l.map ch).flatten,c∈ch g:=by
  intro l
  induction l with
  |nil=>intro _;exact{rfl,λc h=>by cases h}
  |cons t l b=>
   intro a;obtain⟨c,rfl,hc⟩:=a t (wae ..);obtain⟨d,f⟩:=b λt h=>a t (wac _ h);refine{by rw[wau,wc6,wa5,d,waH];exact whc 1 _,λk hk=>?_};rw[wau,wc6]at hk;rcases waD.mp hk with h |h
   .have:k=c:=by simpa [ch] using h
    subst this;exact hc
   .exact f k h
 obtain⟨l1,i⟩:=hl ts h;have m:(wdB z ts).length=ts.length:=by rw[<-aN,e,l1]
 exact{by lia,by lia,λc hc=>i c (e ▸ hc)}
noncomputable def MG(y x:Str):Bool:=!(wd4 x y 0 x.length 1).isEmpty
theorem Dh(x:Str)(c:Nat):MG {#[c]} x=decide (c∈ch x):=StrLaws.found_one x c
noncomputable def bears(ws:List Str)(r:Str):Bool:=ws.any λw=>MG w r
noncomputable def df(w:Str)(n:Nat):Str:=waI w none (some (n:Int))
theorem Eh(w:Str)(n:Nat):(df w n).length<=w.length:=wds _ _ _
noncomputable def yP(ks:List Str)(b:Str):List Str:=if b∈ks then ks else ks++[b]
noncomputable def qN(ws:List Str)(ks:List Str)(b:Str):List Str:=if bears ws b=true then ks else yP ks b
theorem GA(ws g:List Str)(b:Str):(qN ws g b).length<=g.length+1:=by
 unfold qN yP;split
 .lia
 .split
  .lia
  .simp
noncomputable def upTo(ws:List Str)(w:Str)(ks:List Str)(n:Nat):List Str:=((wao n).map λi=>df w (1+i)).foldl (qN ws) ks
theorem gn(ws:List Str)(w:Str)(g:List Str)(n:Nat):upTo ws w g (n+1)=qN ws (upTo ws w g n) (df w (1+n)):=by
 unfold upTo;rw[wc9,wai,wfg];rfl
theorem uE(ws:List Str)(w:Str)(g:List Str):∀n,(upTo ws w g n).length<=g.length+n
 |0=>waa _
 |n+1=>by
  rw[gn];have:=uE ws w g n;have:=GA ws (upTo ws w g n) (df w (1+n))
  lia
noncomputable def addW(ws:List Str)(ks:List Str)(w:Str):List Str:=upTo ws w ks (w.length-1)
noncomputable def bP(ws:List Str)(e:Str)(us:List Str):List Str:=us.foldl (addW ws) [e]
theorem BC(ws:List Str)(e:Str)(us:List Str)(w:Str):bP ws e (us++[w])=addW ws (bP ws e us) w:=by
 unfold bP;rw[wfg];rfl
theorem ni(h:∀w∈us,w.length<=5):(bP ws e us).length<=1+4*us.length:=by
 have key:∀(us a:List Str),(∀w∈us,w.length<=5)->(us.foldl (addW ws) a).length<=a.length+4*us.length:=by
  intro us
  induction us with
  |nil=>grind
  |cons w us b=>
   grind [addW,wac,uE]
 exact key us [e] h
theorem BD(h:g.Nodup):(yP g b).Nodup:=by
 unfold yP;split
 .exact h
 .rename_i d;refine wfh.mpr {h,by simp,λa ha c hc=>?_};have:c=b:=by simpa using hc
  subst this;rintro rfl;exact d ha
theorem BE(h:g.Nodup):(qN ws g b).Nodup:=by
 unfold qN;split
 .exact h
 .exact BD h
theorem uF(h:g.Nodup):∀n,(upTo ws w g n).Nodup
 |0=>h
 |n+1=>by rw[gn];exact BE (uF h n)
theorem rS(us:List Str):(bP ws e us).Nodup:=by
 have key:∀(us a:List Str),a.Nodup->(us.foldl (addW ws) a).Nodup:=by
  intro us
  induction us with
  |nil=>intro a h;exact h
  |cons w us b=>intro a h;exact b _ (uF h _)
 exact key us [e] (by simp)
theorem GB(h:k∈g):k∈qN ws g b:=by grind [qN,yP,waV]
theorem mem_upTo(h:k∈g):∀n,k∈upTo ws w g n
 |0=>h
 |n+1=>by rw[gn];exact GB (mem_upTo h n)
theorem cp(us:List Str):e∈bP ws e us:=by
 have key:∀(us a:List Str),e∈a->e∈us.foldl (addW ws) a:=by
  intro us
  induction us with
  |nil=>intro a h;exact h
  |cons w us b=>intro a h;exact b _ (mem_upTo h _)
 exact key us [e] (by simp)
end Bs
namespace L2
open PySem PySem.Spec PyProof.Rows
noncomputable def ot(sc scope:wdc)(N:List Str)(x:Str)(ys:List Str)(ix:List Nat):Bool:=
 (match scope.kind with |.function=>true |_=>false) &&
 (scope.names.all λy=>!decide (y.2=.cell))&&(scope.names.all λy=>!decide (y.2=.local) ||decide (scope.names.lookup y.1=some .local)) &&
 (scope.names.all λy=>!decide (y.2=.free) ||decide (sc.names.lookup y.1=some .cell) ||decide (sc.names.lookup y.1=some .free)) &&
 decide (scope.names.lookup x=some .local)&&decide ((x::ys).Nodup)&&decide (ix.length=ys.length) &&
 ((wao ys.length).all λj=>match ys[j]?,ix[j]? with
   |some y,some i=>decide (N[i]?=some y)&&(decide (sc.names.lookup y=some .cell) ||decide (sc.names.lookup y=some .free))&&decide (scope.names.lookup y=some .free)
   |_,_=>false)
theorem BF{X:Cx}(g:X.env.scope=l)(r:X.N=N)(h:ot l scope N x ys p=true):bV X scope x ys p:=by
 unfold ot at h;simp only[wbX]at h;obtain⟨⟨⟨⟨⟨⟨⟨b,d⟩,f⟩,k⟩,m⟩,n⟩,o⟩,s⟩:=h;refine{?_,λy a=>?_,λy a e=>?_,of_decide_eq_true m,λy a e=>?_,of_decide_eq_true n,of_decide_eq_true o,λj y c=>?_}
 .cases e:scope.kind<;>rw[e]at b<;>first |rfl |cases b
 .have:=waR.mp d y a;simpa using this
 .have:=waR.mp f y a;simpa [e] using this
 .have:=waR.mp k y a;have q:l.names.lookup y.1=some .cell\/l.names.lookup y.1=some .free:=by simpa [e] using this
  show X.env.scope.names.lookup y.1=some .cell\/X.env.scope.names.lookup y.1=some .free;rw[g];exact q
 .have hl:j<ys.length:=(wa6.mp c).1;have:=waR.mp s j (wb0.mpr hl);rw[c]at this
  cases e:p[j]? with
  |none=>rw[e]at this;cases this
  |some i=>
   rw[e]at this;simp only[wbX,whY,decide_eq_true_eq]at this;exact{i,rfl,by rw[r];exact this.1.1,by rw[g];exact this.1.2,this.2}
theorem comp_map{Ok:Hp->Prop}{Q:Hp->Prop}(g:V->V)(I:lS J Ok xs)(hl:H l=none)(T:xs.length<=sizeLine)(t:∀j,a7 H j->Ok j)
 (he:∀x p r,x∈xs->a7 H p->(∀j,a7 p j->r (g x) j)->U (some x::C) p r)
 (hd:∀j,a7 H j->j l=some (.lst (xs.map g))->Q j):nE J l C wA U H Q:=
 dN (λ_=>true) g I hl T t (λx p r _ _ q=>q p (a7.refl _)) (λx p r a _ s q=>he x p r a s q) (λj s h=>hd j s (by rw[h,wba.mpr (λ_ _=>rfl)]))
structure FnAt(K:wa2)(mg:Str->Option Value)(nm:Str)(st:Stmt)(ps:List Str)(f:Addr)(fd:wb6):Prop where
 F:zV K nm nm st f fd
 b:Binds K fd ps []
 g:mg nm=some (.ref f)
theorem ic{X:Cx}{K:wa2}(g:X.K=K):kQ X (wbc .In) (Ry K false):=by
 subst g;exact qK
theorem wC{X:Cx}{K:wa2}(g:X.K=K):kQ X (wbc .NotIn) (Ry K true):=by
 subst g;exact hZ
theorem gH{X:Cx}{K:wa2}(g:X.K=K):Oc X (Pb K):=by
 subst g;exact bD
theorem wD{X:Cx}{K:wa2}(g:X.K=K):dj X (.builtin "len") (λxs H Q=>∃p ys,xs=[.ref p]/\(aL K H p ys\/gA K H p ys)/\Q (.int ys.length) H):=by
 subst g;exact p0
theorem Di{X:Cx}{K:wa2}{o:Expr}{t:TE}{name:Str}{apos g:Pos}{T id:String}{r:V->List V->Hp->VK->Prop}(C:X.K=K)(I:wgI T)(slot:Slot T name id)(p:typeOf (.builtin id)=pure (.type "method_descriptor"))(J:Jv X id r)(U:PE X o t)
 (j:wcA o name X.env (eval o X.env)=eval o X.env:=by rfl) (l:(apos.endLine==g.line)=true:=by rfl):PE X (.Call (.Attribute o name apos) [] [] g) (Pj K T r t):=by
 subst C;exact Gi I slot p J U j l
theorem nj{X:Cx}{K:wa2}{e:Expr}{f:Str}{pos:Pos}{g:TE}(j:X.K=K)(he:PE X e g)(l:wcA e f X.env (eval e X.env)=eval e X.env):PE X (.Attribute e f pos) (P6 K g f):=by
 subst j;exact az he l
theorem GC{c A B:Prop}[Decidable c](h:¬c)(b:B):if c then A else B:=by
 grind
theorem Ta{c A B:Prop}[Decidable c](h:c)(a:A):if c then A else B:=by
 grind
theorem ao(h:n<=1000000):n<=sizeLine:=wak h (by rw[wc4];decide)
theorem jr(y:Str)(ps:List Str):oR (.str y) (ps.map V.str)=decide (y∈ps):=by
 unfold oR;rw[wfE]
 induction ps with
 |nil=>rfl
 |cons p ps a=>
  rw[wd9,a];show ((p==y) ||decide (y∈ps))=decide (y∈p::ps)
  by_cases e:p=y
  .subst e;simp
  .grind
theorem fm(ps:List Str):(ps.map V.str).all dk=true:=by
 rw[wfC];exact waR.mpr λ_ _=>rfl
noncomputable def RB(r:Str):V->V:=λv=>match v with
 |.str y=>.bl (Bs.MG y r)
 |_=>.non
theorem GD(r:Str)(ws:List Str):(ws.map V.str).map (RB r)=(ws.map λw=>Bs.MG w r).map V.bl:=by
 rw[waf,waf];rfl
theorem Ei(a b:Str):(eT a).map (RB b)=((Bs.ch a).map λc=>decide (c∈Bs.ch b)).map V.bl:=by
 unfold eT;rw[waf,waf];refine waZ λc _=>?_;show V.bl (Bs.MG {#[c]} b)=V.bl (decide (c∈Bs.ch b));rw[Bs.Dh]
noncomputable def kT(ks:List Str):List (Key×V):=ks.map λk=>((wal k:Key),V.bl true)
theorem BG(g:List Str):(kT g).map (·.1)=g.map (wal:Str->Key):=by
 unfold kT;rw[waf];rfl
theorem Ej(g:List Str)(b:Str):putK (kT g) (wal b:Key) (.bl true)=kT (Bs.yP g b):=by
 unfold putK Bs.yP
 by_cases h:b∈g
 .have a:((kT g).any λc=>decide (c.1=(wal b:Key)))=true:=by
   refine wcm.mpr {(wal b,.bl true),?_,decide_eq_true rfl};exact wab.mpr ⟨b,h,rfl⟩
  rw[if_pos a,if_pos h];unfold kT;rw[waf];refine waZ λk _=>?_;show (if (wal k:Key)=wal b then((wal k:Key),V.bl true) else((wal k:Key),V.bl true))=_;split<;>rfl
 .have a:¬((kT g).any λc=>decide (c.1=(wal b:Key)))=true:=by
   intro z;obtain⟨p,d,e⟩:=wcm.mp z;obtain⟨k,hk,rfl⟩:=wab.mp d;have:(wal k:Key)=wal b:=of_decide_eq_true e;have:k=b:=wcf this;subst this;exact h hk
  rw[if_neg a,if_neg h];unfold kT;rw[wai];rfl
theorem Ek(g:List Str):(kT g).length=g.length:=by unfold kT;rw[wa0]
theorem p7(h:(Bs.ch x).Nodup):∀i,i<=x.cps.size->d2 (f9 x) i=(wao i).map (f9 x)
 |0,_=>rfl
 |i+1,hi=>by
  have c:=p7 h i ();rw[iP,c,wc9,wai];unfold rR;rw[if_neg]
  .rfl
  .intro z;obtain⟨y,d,e⟩:=wcm.mp z;obtain⟨j,f,rfl⟩:=wab.mp d;have l:j<i:=wb0.mp f;have a:f9 x j=f9 x i:=eq_of_beq e;unfold f9 at a
   have b:x.cps.getD j 0=x.cps.getD i 0:=by
    injection a with m
    have:=congrArg Array.toList m;simpa using this
   have g:∀k,(hk:k<x.cps.size)->x.cps.getD k 0=(Bs.ch x)[k]'(by simpa using hk):=λk hk=>by
    simp[Array.getD,hk]
   rw[g j (),g i ()]at b;have:=(wcl h).mp b;omega
theorem A4(h:(Bs.ch x).Nodup):(d2 (f9 x) x.cps.size).length=x.length:=by
 rw[p7 h _ (waa _),wa0,waC];rfl
section
variable{X:Cx}
end
theorem GF{κ:Type}(f:κ->V)(g:κ->Str)(j:∀a b,g a=g b->f a=f b):∀{l:List κ} {c:κ},c∈l->bF (l.map λc=>((wal (g c):Key),f c)) (wal (g c):Key)=some (f c):=by intro a;induction a<;>grind [cm,cn,wcf]
end L2
namespace L2
open PySem
structure cD(K:wa2)(C:Addr)(nm qual:Str)(st:Stmt)(ps:List Str)(f:Addr)(fd:wb6):Prop where
 F:zV K nm qual st f fd
 b:Binds K fd ps []
 m:Jo K C nm f
end L2
namespace Sx
open PySem L2 Bs
theorem PH:waX "all"=some (.builtin "all"):=∅
theorem MH:waX "any"=some (.builtin "any"):=∅
theorem JG:waX "sorted"=some (.builtin "sorted"):=∅
theorem tG:waX "isinstance"=some (.builtin "isinstance"):=∅
theorem JH:waX "str"=some (.type "str"):=∅
theorem fJ:waX "list"=some (.type "list"):=∅
theorem Tb:waX "set"=some (.type "set"):=∅
section
variable{P:waq}{w:World}{K:wa2}{mg:Str->Option Value}{base:Heap}{f:Addr}{fd:wb6}
inductive JI(vs:List V)(H:Hp)(Q:VK)(dA:XK):Prop
 |mk (a b) (_:vs=[.str a,.str b]) (_:a.length<=1000) (_:∀H',a7 H H'->Q (.bl ((ch a).all λc=>decide (c∈ch b))) H')
inductive JK(K:wa2)(vs:List V)(H:Hp)(Q:VK)(dA:XK):Prop
 |mk (r a ws) (_:vs=[.str r,.ref a]) (_:aL K H a (ws.map V.str)) (_:ws.length<=1000) (_:∀H',a7 H H'->Q (.bl (bears ws r)) H')
end
section
variable{P:waq}{w:World}{K:wa2}{mg:Str->Option Value}{base:Heap}{f:Addr}{fd:wb6}
inductive PL(vs:List V)(H:Hp)(Q:VK)(dA:XK):Prop
 |mk (x) (_:vs=[.str x]) (_:A2 x) (_:∀H',a7 H H'->Q (.bl true) H')
inductive PN(vs:List V)(H:Hp)(Q:VK)(dA:XK):Prop
 |mk (t g) (_:vs=[.str t,.str g]) (_:yO g t) (_:∀H',a7 H H'->Q (.bl true) H')
inductive JL(K:wa2)(vs:List V)(H:Hp)(Q:VK)(dA:XK):Prop
 |mk (a:Addr) (g:Str) (ws:List Str) (_:vs=[.ref a,.str g]) (_:aL K H a (ws.map V.str)) (_:ws.length<=6) (_:(∀w∈ws,yO g w)) (_:∀H',a7 H H'->Q .non H')
end
end Sx
namespace Bs
open PySem
noncomputable def d5(r:Str)(n:Nat):Str:=waI r (some (n:Int)) none
theorem qO(r:Str):d5 r r.length="":=by
 refine cb ?_;show ch (waI r (some (r.length:Int)) none)=[];rw[gm];exact wef (wdS (aN r))
noncomputable def GH(ps:List Str)(r:Str):Nat:=((wao (r.length+1)).find? λn=>decide (d5 r n∈ps)).getD 0
noncomputable def lend(ps:List Str)(r:Str):Str:=d5 r (GH ps r)
theorem uG(g:d5 r n∈ps)(j:∀m,m<n->d5 r m∉ps)(l:n<=r.length):GH ps r=n:=by
 unfold GH
 have e:(wao (r.length+1)).find? (λn=>decide (d5 r n∈ps))=some n:=by
  grind [List.find?_range_eq_some]
 rw[e];rfl
end Bs
namespace L2
open PySem Bs
noncomputable def tW(ws ps:List Str)(p:Str)(c:Nat):V:=if bears ws (p++{#[c]})=true then .non else .str (lend ps (p++{#[c]}))
noncomputable def rowOf(g:Str)(ws ps:List Str)(p:Str):List (Key×V):=(ch g).map λc=>((wal ({#[c]}:Str):Key),tW ws ps p c)
theorem El(g:Str)(ws ps:List Str)(p:Str):(rowOf g ws ps p).length=g.length:=by unfold rowOf;rw[wa0,aN]
theorem BH(g:Str)(ws ps:List Str)(p:Str):((rowOf g ws ps p).map (·.2)).all dk=true:=by
 unfold rowOf;rw[waf];refine waR.mpr λv a=>?_;obtain⟨c,_,rfl⟩:=wab.mp a;show dk (tW ws ps p c)=true;unfold tW;split<;>rfl
end L2
namespace Sx
open PySem L2 Bs
section
variable{P:waq}{w:World}{K:wa2}{mg:Str->Option Value}{base:Heap}{f:Addr}{fd:wb6}
inductive GI(K:wa2)(vs:List V)(H:Hp)(Q:VK)(dA:XK):Prop
 |mk (a ws) (_:vs=[.ref a]) (_:aL K H a (ws.map V.str)) (_:ws.length<=6) (_:(∀w∈ws,w.length<=5)) (_:∀(l:Addr) (ss:List Str) (H':Hp),a7 H H'->H l=none->H' l=some (.lst (ss.map V.str))->ss.Perm (bP ws "" ws)->wfQ ss=true->Q (.ref l) H')
inductive MI(K:wa2)(vs:List V)(H:Hp)(Q:VK)(dA:XK):Prop
 |mk (r a ps) (_:vs=[.str r,.ref a]) (_:aL K H a (ps.map V.str)) (_:("":Str)∈ps) (_:r.length<=1000) (_:∀H',a7 H H'->Q (.str (lend ps r)) H')
inductive JM(K:wa2)(vs:List V)(H:Hp)(Q:VK)(dA:XK):Prop
 |mk (p g a b ws ps) (_:vs=[.str p,.str g,.ref a,.ref b]) (_:aL K H a (ws.map V.str)) (_:aL K H b (ps.map V.str)) (_:("":Str)∈ps) (_:p.length<=100) (_:g.length<=10) (_:(ch g).Nodup) (_:ws.length<=1000) (_:∀(d:Addr) (H':Hp),a7 H H'->H d=none->H' d=some (.dK (rowOf g ws ps p))->Q (.ref d) H')
end
end Sx
namespace L2
open PySem Bs
noncomputable def m7(es:List (Key×V))(MJ:List Str):Bool:=(es.map (·.2)).any λe=>oR e (MJ.map V.str)
theorem GJ{e:V}{a b:List Str}(h:∀k∈a,k∈b)(q:oR e (a.map V.str)=true):oR e (b.map V.str)=true:=by grind [oR]
theorem BI{g:List (Key×V)}{a b:List Str}(h:∀k∈a,k∈b)(q:m7 g a=true):m7 g b=true:=by
 unfold m7 at q ⊢;obtain⟨y,c,d⟩:=wcm.mp q;exact wcm.mpr {y,c,GJ h d}
structure PQ(ks:List Str)(es:Str->List (Key×V))(ls:List Str):Prop where
 sub:ls.Sublist ks
 Em:∀k∈ls,m7 (es k) ls=true
 most:∀MJ:List Str,(∀k∈MJ,k∈ks/\m7 (es k) MJ=true)->∀k∈MJ,k∈ls
theorem xH:∀(a b:List Str),tF (a.map V.str) (b.map V.str)=decide (a=b)
 |[],[]=>rfl
 |[],_::_=>rfl
 |_::_,[]=>rfl
 |x::c,y::d=>by
  show ((x==y)&&tF (c.map V.str) (d.map V.str))=_;rw[xH c d]
  by_cases e:x=y
  .grind
  .grind
noncomputable def cx(mv:List (Str×Addr)):List (Key×V):=mv.map λm=>((wal m.1:Key),V.ref m.2)
theorem ie(mv:List (Str×Addr)):((cx mv).map λg=>kV g.1)=(mv.map (·.1)).map V.str:=by
 unfold cx;rw[waf,waf];rfl
theorem i7(h:k∈mv.map (·.1)):∃a,(k,a)∈mv/\bF (cx mv) (wal k:Key)=some (.ref a):=by
 induction mv with
 |nil=>simp at h
 |cons m mv b=>
  grind [cm,cx,cn]
theorem ou(h:k∉mv.map (·.1)):bF (cx mv) (wal k:Key)=none:=by
 cases q:bF (cx mv) (wal k:Key) with
 |none=>rfl
 |some v=>
  have:=yG q;unfold cx at this;rw[waf]at this;obtain⟨m,a,e⟩:=wab.mp this;have b:m.1=k:=wcf e;exact absurd (wab.mpr ⟨m,a,b⟩) h
end L2
namespace Sx
open PySem L2 Bs
section
variable{P:waq}{w:World}{K:wa2}{mg:Str->Option Value}{base:Heap}{f:Addr}{fd:wb6}
noncomputable def PR(ls:List V):V->V:=λv=>.bl (oR v ls)
inductive JN(K:wa2)(vs:List V)(H:Hp)(Q:VK)(dA:XK):Prop
 |mk (a b es ls) (_:vs=[.ref a,.ref b]) (_:aL K H a es) (_:aL K H b ls) (_:es.all dk=true) (_:ls.all dk=true) (_:es.length<=1000) (_:∀H',a7 H H'->Q (.bl (es.any λe=>oR e ls)) H')
inductive MK(K:wa2)(vs:List V)(H:Hp)(Q:VK)(dA:XK):Prop
 |mk (d mv es) (_:vs=[.ref d]) (_:H d=some (.dK (cx mv))) (_:mv.length<=1000) (_:(∀m∈mv,H m.2=some (.dK (es m.1)))) (_:(∀k,((es k).map (·.2)).all dk=true)) (_:(∀k,(es k).length<=1000)) (_:∀(l:Addr) (ls:List Str) (H':Hp),a7 H H'->H l=none->H' l=some (.lst (ls.map V.str))->PQ (mv.map (·.1)) es ls->Q (.ref l) H')
end
noncomputable def BJ(g:Str)(b d q:Addr):List (Str×V):=[("signs",.str g),("barred",.ref b),("moves",.ref d),("lasting",.ref q)]
noncomputable def RC(g:Str):List (Str×V):=[("signs",.str g)]
noncomputable def Of(g:Str)(b:Addr):List (Str×V):=[("signs",.str g),("barred",.ref b)]
noncomputable def ML(g:Str)(b d:Addr):List (Str×V):=[("signs",.str g),("barred",.ref b),("moves",.ref d)]
theorem MM(g:Str):cO "signs" (.str g) []=RC g:=rfl
theorem put2(g:Str)(b:Addr):cO "barred" (.ref b) (RC g)=Of g b:=by
 show (if ("signs":Str)="barred" then(("signs":Str),V.ref b)::[] else(("signs":Str),V.str g)::cO "barred" (.ref b) [])=_;rw[if_neg ∅];rfl
theorem put3(g:Str)(b d:Addr):cO "moves" (.ref d) (Of g b)=ML g b d:=by
 show (if ("signs":Str)="moves" then(("signs":Str),V.ref d)::[(("barred":Str),V.ref b)] else(("signs":Str),V.str g)::(if ("barred":Str)="moves" then(("barred":Str),V.ref d)::[] else(("barred":Str),V.ref b)::cO "moves" (.ref d) []))=_;rw[if_neg ∅,if_neg ∅];rfl
theorem En(g:Str)(b d q:Addr):cO "lasting" (.ref q) (ML g b d)=BJ g b d q:=by
 show (if ("signs":Str)="lasting" then(("signs":Str),V.ref q)::[(("barred":Str),V.ref b),(("moves":Str),V.ref d)] else(("signs":Str),V.str g)::(if ("barred":Str)="lasting" then(("barred":Str),V.ref q)::[(("moves":Str),V.ref d)] else(("barred":Str),V.ref b)::(if ("moves":Str)="lasting" then(("moves":Str),V.ref q)::[] else(("moves":Str),V.ref d)::cO "lasting" (.ref q) [])))=_;rw[if_neg ∅,if_neg ∅,if_neg ∅];rfl
theorem m9(g:Str)(b d:Addr):(ML g b d).lookup ("moves":Str)=some (.ref d):=by
 rw[<-put3,aF,if_pos rfl]
theorem kd(g:Str)(b d q:Addr):(BJ g b d q).lookup ("moves":Str)=some (.ref d):=by
 rw[<-En,aF,if_neg ∅];exact m9 g b d
structure aZ(C:Addr)(H:Hp)(x:Addr)(g:Str)(ws ss ls:List Str):Prop where
 ex:∃(dx b d q:Addr) (mv:List (Str×Addr)),H x=some (.ins C dx (BJ g b d q))/\H b=some (.lst (ws.map V.str))/\H d=some (.dK (cx mv))/\mv.map (·.1)=ss/\(∀m∈mv,H m.2=some (.dK (rowOf g ws ss m.1)))/\H q=some (.lst (ls.map V.str))
 pm:ss.Perm (bP ws "" ws)
 so:wfQ ss=true
 lv:PQ ss (rowOf g ws ss) ls
theorem aZ.same(B:aZ C H x g ws ss ls)(s:a7 H j):aZ C j x g ws ss ls:=by
 obtain⟨⟨a,b,d,q,c,e,f,h,i,k,n⟩,p,o,l⟩:=B;exact{{a,b,d,q,c,s _ _ e,s _ _ f,s _ _ h,i,λm r=>s _ _ (k m r),s _ _ n},p,o,l}
section
variable{P:waq}{w:World}{K:wa2}{mg:Str->Option Value}{base:Heap}{f:Addr}{fd:wb6}
inductive MN(K:wa2)(C:Addr)(vs:List V)(H:Hp)(Q:VK)(dA:XK):Prop
 |mk (x dx g a ws) (_:vs=[.ref x,.str g,.ref a]) (_:H x=some (.ins C dx [])) (_:aL K H a (ws.map V.str)) (_:A2 g) (_:ws.length<=6) (_:(∀w∈ws,yO g w)) (_:∀(ss ls:List Str) (H':Hp),aZ C H' x g ws ss ls->(∀b o,H b=some o->b≠x->H' b=some o)->Q .non H')
theorem Eo(hw:∀w∈ws,w.length<=5):∀k∈bP ws "" ws,k.length<=5:=by
 have h1:∀(w:Str),w.length<=5->∀(n:Nat) (ks:List Str),(∀k∈ks,k.length<=5)->∀k∈upTo ws w ks n,k.length<=5:=by
  intro w A5 n
  induction n with
  |zero=>intro ks h;exact h
  |succ n ih=>
   intro ks h k hk;rw[gn]at hk;unfold qN yP at hk;split at hk
   .exact ih ks h k hk
   .split at hk
    .exact ih ks h k hk
    .rcases waD.mp hk with z |z
     .exact ih ks h k z
     .have:k=df w (1+n):=by simpa using z
      rw[this];exact wak (Eh _ _) A5
 have h2:∀(us ks:List Str),(∀w∈us,w.length<=5)->(∀k∈ks,k.length<=5)->∀k∈us.foldl (addW ws) ks,k.length<=5:=by
  intro us
  induction us with
  |nil=>intro ks _ h;exact h
  |cons w us ih=>intro ks hu h;exact ih _ (λv hv=>hu v (wac _ hv)) (h1 w (hu w (wae ..)) _ ks h)
 exact h2 ws [""] hw (λk hk=>by have:k="":=by simpa using hk
                                subst this
                                decide+kernel)
inductive GK(C:Addr)(vs:List V)(H:Hp)(Q:VK)(dA:XK):Prop
 |mk (x g ws ss ls) (_:vs=[.ref x]) (_:aZ C H x g ws ss ls) (_:∀(l:Addr) (H':Hp),a7 H H'->H l=none->H' l=some (.lst (ss.map V.str))->Q (.ref l) H')
end
section
variable{P:waq}{w:World}{K:wa2}{mg:Str->Option Value}{base:Heap}{f:Addr}{fd:wb6}
end
end Sx
namespace L2
open PySem PySem.Spec PyProof.Rows
theorem GL{Ok:Hp->Prop}{Q:Hp->Prop}(R:V->Prop)(r:lS J Ok xs)(hl:H l=none)(C:xs.length<=sizeLine)(j:∀g,a7 H g->Ok g)
 (he:∀x p I,x∈xs->a7 H p->(∀y g,R y->a7 p g->I y g)->T (some x::t) p I)
 (hd:∀ys g,a7 H g->ys.length=xs.length->(∀y∈ys,R y)->g l=some (.lst ys)->Q g):nE J l t wA T H Q:=by
 refine{λi m ys a=>m=xs.length-i/\i<=xs.length/\a7 H a/\a l=some (.lst ys)/\ys.length=i/\∀y∈ys,R y,{xs.length,by simp,waz _,a7.upd hl,a6,rfl,λy f=>(nomatch f)},?_};rintro i m ys a ⟨rfl,hi,d,h,k,n⟩;refine{h,?_}
 by_cases c:i<xs.length
 .refine .inr {r.go i a (j _ d) c,by lia,λx p y=>?_};obtain⟨e,u⟩:=r.ui i a x p (j _ d) c y;subst e;unfold wA;dsimp only;rw[if_pos rfl];refine he x _ _ (wa8 u) d λz v C s=>?_;refine{s _ _ h,xs.length-(i+1),by lia,rfl,c,?_,a6,by simp[k],λy f=>?_}
  .intro b o e;rw[ae (af e hl)];exact s _ _ (d _ _ e)
  .rcases waD.mp f with q |q
   .exact n y q
   .have:y=z:=by simpa using q
    subst this;exact C
 .have e:i=xs.length:=by lia
  subst e;exact .inl {r.stop a (j _ d),hd ys a d k n h}
theorem Dj{R:Str->Prop}:∀{ys:List V},(∀y∈ys,∃t,y=.str t/\R t)->∃ts:List Str,ys=ts.map V.str/\∀t∈ts,R t
 |[],_=>{[],rfl,λ_ h=>nomatch h}
 |y::ys,h=>by
  obtain⟨t,rfl,c⟩:=h y (wae ..);obtain⟨ts,rfl,a⟩:=Dj (R:=R) (ys:=ys) λy d=>h y (wac _ d);refine{t::ts,rfl,λu b=>?_};rcases waK.mp b with rfl |b
  .exact c
  .exact a u b
end L2
namespace Sx
open PySem L2 Bs
section
variable{P:waq}{w:World}{K:wa2}{mg:Str->Option Value}{base:Heap}{f:Addr}{fd:wb6}
end
end Sx
namespace L2
open PySem Bs
noncomputable def roundF(ss:List Str)(es:Str->List (Key×V))(MJ:List Str):List Str:=ss.filter λp=>m7 (es p) MJ
noncomputable def rounds(ss:List Str)(es:Str->List (Key×V)):Nat->List Str
 |0=>ss
 |n+1=>roundF ss es (rounds ss es n)
theorem Dk(h:c∈ch g):bF (rowOf g ws ps p) (wal ({#[c]}:Str):Key)=some (tW ws ps p c):=
 GF (tW ws ps p) (λc=>({#[c]}:Str)) (λa b e=>by
  grind) h
end L2
namespace Sx
open PySem L2 Bs
theorem xI(g:Str)(b d q:Addr):(BJ g b d q).lookup ("lasting":Str)=some (.ref q):=by
 rw[<-En,aF,if_pos rfl]
theorem Bf(g:Str)(b d q:Addr){m:Str}(j:¬m="signs")(l:¬m="barred")(p:¬m="moves")(r:¬m="lasting"):(BJ g b d q).lookup m=none:=by
 rw[<-En,aF,if_neg r,<-put3,aF,if_neg p,<-put2,aF,if_neg l,<-MM,aF,if_neg j];rfl
theorem aZ.nd(B:aZ C H x g ws ss ls):ss.Nodup:=B.pm.nodup_iff.mpr (rS ws)
section
variable{P:waq}{w:World}{K:wa2}{mg:Str->Option Value}{base:Heap}{f:Addr}{fd:wb6}
inductive JO(C:Addr)(vs:List V)(H:Hp)(Q:VK)(dA:XK):Prop
 |mk (x g ws ss ls) (_:vs=[.ref x]) (_:aZ C H x g ws ss ls) (_:∀(l:Addr) (H':Hp),a7 H H'->H l=none->H' l=some (.lst (ls.map V.str))->Q (.ref l) H')
inductive Tc(C:Addr)(vs:List V)(H:Hp)(Q:VK)(dA:XK):Prop
 |mk (x p g ws ss ls) (_:vs=[.ref x,.str p]) (_:aZ C H x g ws ss ls) (_:p∈ss) (_:Q .non H)
inductive PU(C:Addr)(vs:List V)(H:Hp)(Q:VK)(dA:XK):Prop
 |mk (x p c g ws ss ls) (_:vs=[.ref x,.str p,.str ⟨#[c]⟩]) (_:aZ C H x g ws ss ls) (_:p∈ss) (_:c∈ch g) (_:Q (tW ws ss p c) H)
end
structure Raw(K:wa2)(nm qual:Str)(st:Stmt)(f:Addr):Prop where
 ex:∃(oc:Value) (od:Option Addr) (kV doc pm:Value) (an:Option Addr) (gG ct:Value) (Gs:Array (Option Value)),
  K.lookup f=some {oc,od,.func (wcx nm qual (dq st) (cg st) (aH st) .none kV doc pm an gG ct),Gs}/\we6 K gG qual=true
 kp:wcW K (.ref f)=true
theorem BK{K:wa2}{nm g:Str}{st:Stmt}{f:Addr}{t:Value}{C I:Option Addr}{p:Array (Option Value)}{kV r pm j ct:Value}(l:K.lookup f=some {t,C,.func (wcx nm g (dq st) (cg st) (aH st) .none kV r pm I j ct),p})
 (c:we6 K j g=true) (k:wcW K (.ref f)=true):Raw K nm g st f:={⟨t,C,kV,r,pm,I,j,ct,p,l,c⟩,k}
theorem Raw.fn(R:Raw K nm g st f)
 (h:∀(kV j pm:Value) (r:Option Addr) (p ct:Value) (us:List Value),us.length=ps.length->bindArgs (wcx nm g (dq st) (cg st) (aH st) .none kV j pm r p ct) {us,[]}=pure (ps.zip us)) :
 ∃fd,zV K nm g st f fd/\Binds K fd ps []:=by
 obtain⟨⟨b,d,kV,j,pm,r,p,ct,a,l,c⟩,k⟩:=R;have F:=Gu (st:=st) l c k;exact{_,F,F.binds h}
theorem Raw.at_{mg:Str->Option Value}(X:K.In l)(G:l.Ns wb5 mg)(a:PySem.W.nsIn K wb5 nm=some (some (.ref f)))(R:Raw K nm nm st f)
 (h:∀(kV g pm:Value) (p:Option Addr) (j ct:Value) (us:List Value),us.length=ps.length->bindArgs (wcx nm nm (dq st) (cg st) (aH st) .none kV g pm p j ct) {us,[]}=pure (ps.zip us)) :
 ∃fd,FnAt K mg nm st ps f fd:=by
 obtain⟨fd,F,b⟩:=R.fn h;exact{fd,F,b,PySem.W.mg_of X G a}
theorem gJ{ss:List Str}{i:Nat}{y:V}(h:(ss.map V.str)[i]?=some y):∃p,ss[i]?=some p/\y=.str p/\i<ss.length/\p∈ss/\ss.take (i+1)=ss.take i++[p]:=by
 rw[wa4]at h
 cases e:ss[i]? with
 |none=>rw[e]at h;cases h
 |some z=>
  rw[e]at h;exact{z,rfl,(wad h).symm,(wa6.mp e).1,wa8 e,by rw[waO,e];rfl}
theorem Ep(h:(eT g)[i]?=some y):∃c,(ch g)[i]?=some c/\y=.str {#[c]}/\i<(ch g).length/\c∈ch g/\(ch g).take (i+1)=(ch g).take i++[c]:=by
 unfold eT at h;rw[wa4]at h
 cases e:(ch g)[i]? with
 |none=>rw[show g.cps.toList[i]?=none from e]at h;cases h
 |some z=>
  rw[show g.cps.toList[i]?=some z from e]at h;exact{z,rfl,(wad h).symm,(wa6.mp e).1,wa8 e,by rw[waO,e];rfl}
theorem BL(g:Str):(eT g).length=g.length:=by grind [eT,aN]
inductive Dl(K:wa2)(vs:List V)(H:Hp)(Q:VK)(dA:XK):Prop
 |mk (a:Addr) (ns:List Int) (_:vs=[.ref a]) (_:aL K H a (ns.map V.int)) (_:ns.length<=63) (_:∀H',Q (.bl true) H')
end Sx
namespace L2
open PySem PySem.Spec PyProof.Rows
section
variable{X:Cx}{st:Stmt}{rest:List Stmt}{t u:TS}
inductive Td(t u:TS)(D:Ends)(σ:St)(H:Hp):Prop
 |mk (Z) (_:t (D.L6 Z) σ H) (_:∀σ' H',Z σ' H'->u D σ' H')
theorem Dm(g:PS X st t)(j:tR X rest u):tR X (st::rest) (Td t u):=by
 refine{?_};intro a s σ H D I h;obtain⟨Z,d,e⟩:=h;refine wcY (bO (g a s σ H (D.L6 Z) I d) λf i q=>?_)
 cases f with
 |next=>
  obtain⟨b,c,k,q⟩:=q;exact j a i b c D k (e b c q)
 |ret v=>exact q
 |brk=>exact q
 |cont=>exact q
end
theorem Dn(xs:List V)(n:Nat):lW xs none (some (n:Int))=xs.take n:=by simp_all [lW,HT.zP,weV,Nat.sub_zero,if_neg,wdM,Nat.min_eq_right,waG,wbg]
end L2
namespace Sx
open PySem L2 Bs
noncomputable def one(c:Nat):Str:={#[c]}
theorem fo(nx:g x=none)(j:g l=none):a7 g (upd (upd g l p) x o2):=λb o e=>by rw[ae (af e nx),ae (af e j)];exact e
theorem aZ.few(B:aZ C H x g ws ss ls)(hl:ws.length<=6)(hw:∀w∈ws,yO g w):ss.length<=25:=by
 have:=ni (ws:=ws) (e:="") (us:=ws) λw a=>(hw w a).hi;rw[B.pm.length_eq];lia
end Sx
namespace L2
open PySem PySem.Spec PyProof.Rows PySem.W
section
variable{prog:waq}{w:World}{A:Around}{R:wdd->Shared->Prop}{h:Heap}{g:Array wdx}{d:Drawn}{t:Nat}{os:wbV}
variable{nm q:Str}{C N:Addr}{bs bm bmB:List Value}{hdct:Bool}{sn:List Str}{sub:List Value}{ab:Bool}{col:Option Bool}{dd:Option Addr}{k0 k1 k2 k3 k5:Option Value}{B newId Te:String}
noncomputable abbrev fb(C t:Addr):Obj:={cls:=.ref C,data:=.fields #[.ref t,.none,.none,.none,.bool false,.none]}
noncomputable abbrev qP(vs:List Value):Obj:={cls:=.type "tuple",data:=.seq vs.toArray}
end
end L2
namespace L2
open PySem PySem.Spec PyProof.Rows PySem.W
open Builtin Builtin.ObjectAttr
noncomputable abbrev Tf:List Value:=[.type "ValueError",.type "Exception",.type "BaseException",.type "object"]
noncomputable abbrev oS(CB:Addr):List Value:=.ref CB::Tf
section
variable{prog:waq}{w:World}{A:Around}{E:Value->Shared->Prop}{s:Shared}{K:wa2}{x dx C CB f:Addr}{mA:Str->Option Value}{name:Str}{v:Value}{R:wdd->Shared->Prop}
theorem xJ(X:K.In s.heap)(I:InstAt s.heap x ox C od)(hc:clsIn K C=some cd)(hm:cd.mro=.ref C::oS CB)(ha:findIn K (.ref C) name=some none)
 (h:wpAny (model prog w) A.in1 (storeInOwnDict (.ref x) (.ref C) (.str name tk) name v false)
   (λfin s'=>match fin with |.done f=>R (.ok f) s' |.again c'=>c'.quiet=true/\codeAny (model prog w) A c' R s') (λe s'=>R (.error e) s') s) :
 codeAny (model prog w) A (.call (.builtin "object.__setattr__") {[.ref x,.str name tk,v],[]}) R s:=by
 have SF:=PySem.F.store_object;have sub:Looks (model prog w) s.heap (isInstance (.ref x) (.type "object")) true:=I.type.andThen (looks_mroIn X (by unfold mroIn;rw[hc,Option.bind_some,hm];rfl));refine wcU SF.slot.plain SF.entry (@check_slot (model prog w) _ _ s "object.__setattr__" "object" "__setattr__" (.ref x) [.str name tk,v] [] _ SF.kind SF.split sub (SF.args (.ref x) (.str name tk) v) ?_);have Tg:Looks (model prog w) s.heap (mroOf (.ref C)) cd.mro:=(wea X hc).andThen .now;have L3:Looks (model prog w) s.heap (storeTaker? none) none:=.now;rw[osa_eq,refuse_eq];refine wa7 (wa7 (I.type.here (wa7 (Tg.here ?_))));rw[hm,refuseLoop_ref,refuseLoop_ref,PySem.F.store_ValueError.passes];refine wax (wa7 (I.type.here (wa7 ((weU X ha).here (wa7 (L3.here ?_))))));exact h
theorem GN{Q:Unit->Shared->Prop}(X:K.In s.heap)(hx:s.heap.get? x=some (fb C t))(hc:clsIn K C=some cd)(hm:cd.mro=.ref C::oS CB)(hh:cd.hasDict=true)(ha:findIn K (.ref C) name=some none)
 (hs:findIn K (.ref C) "__setattr__"=some (some (.builtin "object.__setattr__")))
 (h:∀h' d tk,s.heap.objs.size<=d->(∀b o,b≠x->s.heap.get? b=some o->h'.get? b=some o)->h'.get? x=some {cls:=.ref C,dict:=some d,data:=.fields #[.ref t,.none,.none,.none,.bool false,.none]}->h'.Ns1 d (λy=>if y=name then some v else none)->Q .unit {s with heap:=h',toks:=tk}) :
 wpAny (model prog w) A (setAttr (.ref x) name v) Q E s:=by
 have J:InstAt s.heap x (fb C t) C none:=⟨hx,rfl,rfl,trivial⟩;refine wfc X J hs (xJ (s:={s with toks:=s.toks+1}) X J hc hm ha ?_);unfold storeInOwnDict;refine wa7 (wax ?_);rw[if_neg (by simp)];unfold ownDictForStores instanceDict;refine wa7 (wa7 (wgo hx ?_));dsimp only;refine wa7 (wf1 (s:={s with toks:=s.toks+1}) (wea X hc) ?_);rw[hh];have VH:(s.heap.push {cls:=.type "dict",data:=.dict #[]}).get? x=some (fb C t):=wa9 _ hx;have VI:x≠s.heap.objs.size:=waw (wah hx);simp only[wgV,wbY,if_false,Bool.not_false,Bool.false_or];rw[if_neg (by simp[typeHasDict])];refine wa7 (wpAny_alloc ?_);refine wa7 (wpAny_update VH ?_);refine wax ?_
 have RD:((s.heap.push {cls:=.type "dict",data:=.dict #[]}).update x λo=>{cls:=o.cls,dict:=some s.heap.objs.size,data:=o.data,slots:=o.slots}).get? s.heap.objs.size
  =some {cls:=.type "dict",data:=.dict #[]}:=(wgY _ _ _ _ VI.symm).trans (Heap.get?_push_at rfl rfl)
 have Th:((s.heap.push {cls:=.type "dict",data:=.dict #[]}).update x λo=>{cls:=o.cls,dict:=some s.heap.objs.size,data:=o.data,slots:=o.slots}).Ns s.heap.objs.size (λ_=>none):=
  {_,#[],_,RD,rfl,λe he=>absurd he (by simp),λ_=>rfl}
 show wpAny _ _ (storeInDict s.heap.objs.size (.str name s.toks) name v) _ _ _;unfold storeInDict newKeyGuard;refine wa7 (wax (wa7 (wh8 (whr Th) λh' Bg Lh=>?_)));obtain⟨oD,Yb,Yc,Ti,VJ,VL⟩:=Bg.count (wg1 name v Within.nil);refine wa7 (wfu Ti (by rw[VJ];exact wfv (wak VL (by grind))) ?_)
 wp_walk
 refine h h' s.heap.objs.size _ (waa _) (λb ob Yd hb=>?_) ?_ Bg
 .exact(Lh.2 b (waw (wah hb))).trans ((wgY _ _ _ _ Yd).trans (wa9 _ hb))
 .exact(Lh.2 x VI).trans (wbD _ VH rfl)
end
section
variable{prog:waq}{w:World}{A:Around}{E:Value->Shared->Prop}{s:Shared}{K:wa2}{x dx C CB f:Addr}{mA:Str->Option Value}{name:Str}{v:Value}{R:wdd->Shared->Prop}
end
section
variable{prog:waq}{w:World}{A:Around}{E:Value->Shared->Prop}{s:Shared}{K:wa2}{x dx C CB f:Addr}{mA:Str->Option Value}{name:Str}{v:Value}{R:wdd->Shared->Prop}{nm q:Str}{N:Addr}{bs:List Value}{sn:List Str}{sub:List Value}{ab:Bool}{col:Option Bool}{dd:Option Addr}{k0 k1 k2 k3 k5:Option Value}
theorem uH(X:K.In s.heap)(j:s.heap.get? x=some (fb C t))(hk:K.lookup C=some (wbJ nm q C N bs (oS CB) true sn sub ab col dd k0 k1 k2 k3 k5 "ValueError.__new__"))
 (h:∀h' t',(∀b o,b≠x->s.heap.get? b=some o->h'.get? b=some o)->h'.get? x=some (fb C t')->R (.ok (.ret .none)) {s with heap:=h'}) :
 codeAny (model prog w) A (.call (.builtin "ValueError.__init__") {[.ref x,u],[]}) R s:=by
 have F:=wck;have f:=X _ _ hk;have J:InstAt s.heap x (fb C t) C none:=⟨j,rfl,rfl,trivial⟩;have sub:Looks (model prog w) s.heap (isInstance (.ref x) (.type "ValueError")) true:=J.type.andThen (looks_mroIn X (by unfold mroIn clsIn;rw[hk];rfl));refine wcU F.init.plain F.initEntry ?_;simp only[weq,F.initKind,F.initSplit,F.initRow];refine wa7 (sub.here ?_);simp only[wgV,wbY,if_false];have a:=F.noStar;obtain⟨c,g,d,l,os⟩:=s
 repeat (first |with_reducible refine wbe f ?_ |wp_step)
 have i:x≠c.objs.size:=waw (wah j);refine h _ c.objs.size (λb o k e=>?_) ?_
 .rw[waQ _ _ (wbu k)];exact wa9 _ e
 .exact wbD _ (wa9 _ j) rfl
theorem BM{Q:Value->Shared->Prop}(X:K.In s.heap)(g:s.heap.get? x=some (fb C t))(hk:K.lookup C=some (wbJ nm q C N bs (oS CB) true sn sub ab col dd k0 k1 k2 k3 k5 "ValueError.__new__"))
 (h:∀h' t',(∀b o,b≠x->s.heap.get? b=some o->h'.get? b=some o)->h'.get? x=some (fb C t')->Q .none {s with heap:=h'}) :
 wpAny (model prog w) A (call (.builtin "ValueError.__init__") [.ref x,u]) Q E s:=wdf (uH X g hk h)
end
end L2
namespace L2
open PySem PySem.Spec PyProof.Rows
structure J8(lo:Nat)(H:Hp)(h:Heap)(e C:Addr)(od:Option Addr):Prop where
 ge:lo<=e
 nt:H e=none
 ob:∃vs sl,h.get? e=some {.ref C,od,.fields vs,sl}/\1<vs.size /\
  (vs[1]?=some .none\/∃T oT ts,vs[1]?=some (.ref T)/\lo<=T/\H T=none/\T≠e/\h.get? T=some oT/\oT.data=.fields ts/\ts[3]?=some .none)
theorem J8.low{lo j:Nat}{H:Hp}{h:Heap}{e C:Addr}{l:Option Addr}(F:J8 lo H h e C l)(hl:j<=lo):J8 j H h e C l:=by
 obtain⟨g,n,i,sl,k,m,f⟩:=F;refine{wak hl g,n,i,sl,k,m,?_};rcases f with f |⟨T,o,p,a,b,c,d⟩
 .exact .inl f
 .exact .inr {T,o,p,a,wak hl b,c,d}
section
variable{M:Model}{A:Around}{E:Value->Shared->Prop}{s:Shared}{base:Heap}{env:Env}{outer:List Env}{L e C:Addr}{od:Option Addr}{lo:Nat}{H:Hp}
structure Er(lo:Nat)(H:Hp)(fs:List Addr)(h h':Heap):Prop where
 keep:∀b o,h.get? b=some o->(b<lo\/H b≠none)->b∉fs->h'.get? b=some o
 slot:∀b o,h.get? b=some o->b∈fs->∃sl,h'.get? b=some {o with slots:=sl}
theorem xK{Q:Unit->Shared->Prop}
 (PV:A.frames=some (env::outer)) (hl:s.heap.FunFrames base (env::outer)) (hf:env.frame=some L) (MO:lo<=s.heap.objs.size) (PX:∀b,s.heap.objs.size<=b->H b=none) (PY:lo<=e) (VM:H e=none)
 (he:s.heap.get? e=some oe) (wB:oe.cls=.ref C) (VN:oe.dict=od) (hd:oe.data=.fields vs) (hsz:1<vs.size)
 (h:∀h',J8 lo H h' e C od->Er lo H ((env::outer).filterMap (·.frame)) s.heap h'->Q .unit {s with heap:=h'}) :
 wpAny M A (do let a <-frameOf env;let pl <-entryPlaceOf L RE;let b <-wgZ head a .none (rawInt L) .none pl;setField (.ref e) 1 b) (λ_ s'=>wpAny M A (wg6 (.ref e) none) Q E s') E s:=by
 have PZ:e∉(env::outer).filterMap (·.frame):=λhm=>by
  obtain⟨_,o,ho,Tj⟩:=hl.mem hm;rw[he]at ho;injection ho with ho;subst ho;exact Tj vs hd
 refine wa7 (wpAny_frameOf_fun PV hl hf λh₁ Q0=>?_);refine wa7 (wpAny_entryPlaceOf λpl hpl=>?_);unfold wgZ newFields;refine wa7 (wff ?_ (hpl.sizeOk5 _ _ _ _ _));have VO:h₁.get? e=some oe:=(Q0.2.1 e PZ).trans he;have VP:=wa9 (h:=h₁) {cls:=.type "traceback",dict:=none,data:=.fields ([head,.ref L,.none,rawInt L,.none]++(if pl.isEmpty then waj 6 wbC else pl)).toArray} VO;refine weW VP hd hsz ?_;have Tl:h₁.objs.size≠e:=wcg (wah VO);have VQ:=wdj hd (·.setIfInBounds 1 (wam h₁.objs.size));have VR:=wbD (wda (·.setIfInBounds 1 (wam h₁.objs.size))) VP (wev VQ)
 have VS:=(waQ (h₁.push {cls:=.type "traceback",dict:=none,data:=.fields ([head,.ref L,.none,rawInt L,.none]++(if pl.isEmpty then waj 6 wbC else pl)).toArray})
  (wda (·.setIfInBounds 1 (wam h₁.objs.size))) (wbu Tl)).trans (wat h₁ rfl)
 unfold wg6;refine wa7 (weg VR VQ (x:=.ref h₁.objs.size) (by simp[hsz]) ?_);rw[if_pos (show (wam h₁.objs.size != wbC)=true from by simp)];refine weW VS rfl (by simp only[waB,wa5,waH,wg4]<;>lia) (h _ ?_ ?_)
 .refine{PY,VM,vs.setIfInBounds 1 (.ref h₁.objs.size),oe.slots,?_,by simpa using hsz,.inr {h₁.objs.size,_,_,by simp[hsz],by rw[Q0.1];exact MO,PX _ (by rw[Q0.1];exact waa _),Tl,
   wbD _ VS (wev (wdj rfl _)),wdj rfl _,by first |(simp;done) |(rcases hpl with rfl |⟨_,_,_,_,_,_,_,rfl⟩<;>simp)}}
  rw[waQ _ _ Tl,VR];obtain⟨c,d,dt,sl⟩:=oe;dsimp only at wB VN hd;subst wB VN hd;rfl
 .have keep:∀b o,b≠e->h₁.get? b=some o ->
   (((h₁.push {cls:=.type "traceback",dict:=none,data:=.fields ([head,.ref L,.none,rawInt L,.none]++(if pl.isEmpty then waj 6 wbC else pl)).toArray}).update e (wda (·.setIfInBounds 1 (wam h₁.objs.size)))).update h₁.objs.size
     (wda (·.setIfInBounds 3 ((none:Option Addr).elim wbC λf=>rawInt f)))).get? b=some o:=λb o Ye hb=>by
   have Yg:h₁.objs.size≠b:=wcg (wah hb);rw[waQ _ _ Yg,waQ _ _ (wbu Ye)];exact wa9 _ hb
  refine{λb o hb hx Tj=>keep b o ?_ ((Q0.2.1 b Tj).trans hb),λb o hb hm=>?_}
  .rintro rfl;rcases hx with hx |hx
   .exact absurd (wav hx PY) (wbm _)
   .exact hx VM
  .obtain⟨sl,hs⟩:=Q0.2.2 b o hb;exact{sl,keep b _ (λz=>PZ (z ▸ hm)) hs}
theorem A6{Q:Unit->Shared->Prop}(p:A.frames=some (env::outer))(hl:s.heap.FunFrames base (env::outer))(I:env.frame=some L)(r:lo<=s.heap.objs.size)(g:∀b,s.heap.objs.size<=b->H b=none)
 (F:J8 lo H s.heap e C od) (h:∀h',J8 lo H h' e C od->Er lo H ((env::outer).filterMap (·.frame)) s.heap h'->Q .unit {s with heap:=h'}) :
 wpAny M A (noteFrame (.ref e) env) (λ_ s'=>wpAny M A (wg6 (.ref e) none) Q E s') E s:=by
 obtain⟨m,n,z,sl,v,t,k⟩:=F;unfold noteFrame;simp only[I];rcases k with k |⟨T,N,B,G,u,x,y,w,i,k⟩
 .refine wa7 (weg v rfl k ?_);rw[if_neg ⋯];exact xK p hl I r g m n v rfl rfl rfl t h
 .refine wa7 (weg v rfl G ?_);rw[if_pos (show (wam T != wbC)=true from by simp)];refine wa7 (weg w i k ?_);rw[if_neg (show ¬((wbC==rawInt L)=true) from by simp[rawInt])];refine wa7 (weW w i (wf8.mp k).1 ?_);have other:∀b,b≠T->(s.heap.update T (wda (·.setIfInBounds 3 wbC))).get? b=s.heap.get? b:=λb a=>waQ _ _ (wbu a)
  have c:∀b o,s.heap.get? b=some o->(∀z,o.data≠.fields z)->b≠T:=λb o a d q=>by
   rw[q,w]at a;injection a with a;subst a;exact d B i
  have f:(s.heap.update T (wda (·.setIfInBounds 3 wbC))).objs.size=s.heap.objs.size:=Heap.size_after_update ..;refine xK (s:={s with heap:=s.heap.update T (wda (·.setIfInBounds 3 wbC))}) p (hl.of_keeps λb o a d=>{o,(other b (c b o a d)).trans a,rfl}) I (by show lo<=_;rw[f];exact r) (λb a=>g b (by rw[<-f];exact a)) m n ((other e (wbu y)).trans v) rfl rfl rfl t λh' J P=>h h' J {λb o a l hn=>P.keep b o ((other b ?_).trans a) l hn,λb o a D=>P.slot b o ((other b ?_).trans a) D}
  .rintro rfl;rcases l with l |l
   .exact absurd (wav l u) (wbm _)
   .exact l x
  .rintro rfl;obtain⟨_,O,j,d⟩:=hl.mem D;rw[w]at j;injection j with j;subst j
   exact d B i
end
noncomputable def Bh(P:waq)(w:World):FO:=λouter H s E ev s'=>∃e C od H',ev=.ref e/\s'.os=s.os/\AllBare s'.gens/\Un (rH outer) [] H H' s.heap s'.heap/\jV P w H' s'.heap/\J8 s.heap.objs.size H' s'.heap e C od/\E (.ref C) od H'
def Dp(X:Cx)(E:XK):Prop:=∀(pins:List (Addr×Obj)) (σ:St) (H:Hp) (s:Shared) (e C:Addr) (od:Option Addr),Inv X pins σ H s->J8 X.s₀.heap.objs.size H s.heap e C od->E (.ref C) od H->X.xe (.ref e) s
theorem xM{X:Cx}(g:Dp X E):Passes (Bh X.prog X.w) X E:=λa σ H s k d I h=>by
 obtain⟨e,C,f,i,rfl,c,bare,un,b7,F,j⟩:=h;exact g a σ i d e C f (I.xh c un b7 bare λb z=>absurd z (by simp)) (F.low I.sz) j
section
variable{P:waq}{w:World}{K:wa2}{mg:Str->Option Value}{base:Heap}{N:List Str}{qual:Str}{scope:wdc}{f:Addr}{cd:Value}{A:Around}{outer:List Env}{s:Shared}{H:Hp}{E:XK}
theorem jV.past{lo:Nat}{H:Hp}{fs:List Addr}{h h':Heap}(x:jV P w H h)(p:Er lo H fs h h')(g:∀b∈fs,H b=none):jV P w H h':=λa o e=>
 (x a o e).wt (λb u c q=>p.keep b u q (.inr (by grind)) λd=>by
   grind) (λ_ q=>q) λ_ _ q=>q
theorem cX:Dp (uo (Bh P w) P w K mg base N qual scope f cd A outer s H E) E:=by
 intro v σ l x e C y I F B;show wpAny (model P w) _ («leaving» _ (.ref e)) (λ_ d=>Bh P w outer H s E (.ref e) d) (λD d=>Bh P w outer H s E D d) x;unfold «leaving»;have g:∀b,x.heap.objs.size<=b->l b=none:=λb a=>I.b7.fresh a;refine wa7 (A6 (lo:=s.heap.objs.size) (H:=l) (base:=base) (outer:=outer) I.ok.frames I.stack rfl I.sz g F λJ G p=>?_);have m:=I.tQ
 have h:∀b o,s.heap.get? b=some o->b∉rH outer->b∉(envOfC qual scope s.heap.objs.size f cd::outer).filterMap (·.frame):=λb o a hn j=>by
  rcases waK.mp (show b∈s.heap.objs.size::rH outer from j) with z |z
  .exact absurd (wah a) (by rw[z];exact wbm _)
  .exact hn z
 refine{e,C,y,l,rfl,I.os,I.bare,?_,I.b7.past p m,G,B};have u:=I.base;refine{λb o a n c i=>?_,λb o a n c i=>?_,λb o a n i=>u.free b o a n i,λb o a i=>?_,u.uc,u.tD,u.ud}
 .exact p.keep b o (u.keep b o a n c i) (.inl (wah a)) (h b o a c)
 .obtain⟨sl,k⟩:=u.slot b o a n c i;obtain⟨q,r⟩:=p.slot b _ k (show b∈s.heap.objs.size::rH outer from wac _ c);exact⟨q,r⟩
 .obtain⟨t,k⟩:=u.there b o a i
  by_cases j:b∈(envOfC qual scope s.heap.objs.size f cd::outer).filterMap (·.frame)
  .obtain⟨sl,r⟩:=p.slot b t k j;exact{_,r}
  .exact{t,p.keep b t k (.inl (wah a)) j}
theorem zV.Yh{x qual:Str}{st:Stmt}{f:Addr}{fd:wb6}{N ps:List Str}{k:Nat}{sp:Sp}(F:zV K x qual st f fd)(S:tU N ps (aH st))(len:∀vs H Q E,sp vs H Q E->vs.length=ps.length)
 (j:∀(g:Value) (A:Around) (outer:List Env) (s:Shared) (H:Hp) (vs:List V) (Q:VK) (E:XK),dJ k (A.deeper (envOfC qual (aH st) s.heap.objs.size f g))->sp vs H Q E ->
   ∃t,tR (uo (Bh P w) P w K mg base N qual (aH st) f g A outer s H E) (cg st) t/\t (Ends.fn Q) (start N vs) H):aS P w K mg base (Bh P w) (k+1) f fd ps sp:=by
 obtain⟨h,i,kV,c,pm,l,g,ct,d,rfl,lk,a⟩:=F.ex;exact Lc lk a S len λA outer s H vs Q E e b=>j g A outer s H vs Q E e b
end
open PySem.W (Looks looks_findIn looks_typeIn InitBack bind_fn findIn clsIn specialIn readsIn findCls keepIn isFn typeIn InstAt)
section
variable{prog:waq}{w:World}{A:Around}{R:wdd->Shared->Prop}{h:Heap}{g:Array wdx}{d:Drawn}{t:Nat}{os:wbV}
variable{nm q:Str}{C CB N:Addr}{bs:List Value}{hdct:Bool}{sn:List Str}{sub:List Value}{ab:Bool}{col:Option Bool}{dd:Option Addr}{k0 k1 k2 k3 k5:Option Value}
theorem JP{M:Model}{E:Value->Shared->Prop}{rest:List Value}{Q:Unit->Shared->Prop}(j:h.get? C=some (wbJ nm q C N bs (oS CB) hdct sn sub ab col dd k0 k1 k2 k3 k5 "ValueError.__new__"))
 (l:Q .unit ⟨h,g,d,t,os⟩):wpAny M A (weq "ValueError.__new__" {.ref C::rest,[]}) Q E ⟨h,g,d,t,os⟩:=by
 have F:=wck;have a:(wam C::oS CB).contains (.type "ValueError")=true:=rfl;have b:=F.noStar;simp only[weq,F.newKind,F.newSplit,F.newRow]
 repeat (first |refine wbe j ?_ |(refine wbT j ?_;rw[a]) |refine wpAny_staticBase_exc j ?_ |refine wpAny_madeBy_exc j ?_ |simp only[bne_self_eq_false,wbY,if_false] |wp_step)
 exact l
theorem JQ{rest:List Value}(j:h.get? C=some (wbJ nm q C N bs (oS CB) hdct sn sub ab col dd k0 k1 k2 k3 k5 "ValueError.__new__"))
 (r:R (.ok (.ret (.ref (h.objs.size+1)))) {(h.push {cls:=.type "tuple",data:=.seq rest.toArray}).push
   {cls:=.ref C,data:=.fields #[.ref h.objs.size,.none,.none,.none,.bool false,.none]},g,d,t,os}) (l:rest.length<=sizeLine:=by size_fits) :
 codeAny (model prog w) A (.builtin "ValueError.__new__" {.ref C::rest,[]}) R ⟨h,g,d,t,os⟩:=by
 have F:=wck;have a:=F.ends;have b:(wam C::oS CB).contains (.type "ValueError")=true:=rfl;have c:(wam C::oS CB).contains (.type "AttributeError")=false:=rfl;have e:(wam C::oS CB).contains (.type "NameError")=false:=rfl;refine codeAny_builtinAt F.entry ?_;unfold weS.«BaseException.__new__»;refine whZ ?_;show PySem.wpAt _ _ _ (PySem.stack >>= _) _ _ _;refine whZ (PySem.wpAt_stack λp f=>wh0 ?_)
 wp_walk
 refine wh0 ?_;rw[F.owner]
 repeat (first |with_reducible refine wpAny_madeHere_exc F.canon j ?_ |with_reducible refine wbe j ?_ |(with_reducible refine wbT j ?_;first |rw[b] |rw[c] |rw[e]) |wp_step)
 show R _ _;rw[wbO];exact r
theorem GO{rest:List Value}{init:Value}{p:Around}(l:h.get? C=some (wbJ nm q C N bs (oS CB) hdct sn sub ab col dd k0 k1 k2 k3 k5 "ValueError.__new__"))
 (hi:Looks (model prog w) h (wfm (.ref C) "__init__") (some init)) (J:∀self,Looks (model prog w) h (bindSpecial init self) (init,[self])) (j:rest.length<=sizeLine)
 (T:codeAny (model prog w) p (.call init {.ref (h.objs.size+1)::rest,[]}) (InitBack (h.objs.size+1) R) {(h.push (qP rest)).push (fb C h.objs.size),g,d,t,os}) :
 wpAny (model prog w) p (weS.«type.__call__» {.ref C::rest,[]}) (λfin s'=>match fin with |.done f=>R (.ok f) s' |.again I=>I.quiet=true/\codeAny (model prog w) A I R s') (λe s'=>R (.error e) s') ⟨h,g,d,t,os⟩:=by
 have F:=wck
 repeat (first |with_reducible refine wbe l ?_ |with_reducible refine wpAny_madeBy_exc l ?_ |wp_step)
 refine codeAny_call_builtin_code (we0 _ F.quiet) (JP l ?_);refine JQ l ?_ j;show wpAny _ _ _ _ _ _;have k:∀b o,h.get? b=some o->((h.push (qP rest)).push (fb C h.objs.size)).get? b=some o:=λb o e=>wa9 _ (wa9 _ e)
 have a:=wa9 {cls:=.ref C,data:=.fields #[.ref h.objs.size,.none,.none,.none,.bool false,.none]}
  (wa9 {cls:=.type "tuple",data:=.seq rest.toArray} l)
 have c:((h.push {cls:=.type "tuple",data:=.seq rest.toArray}).push {cls:=.ref C,data:=.fields #[.ref h.objs.size,.none,.none,.none,.bool false,.none]}).get? (h.objs.size+1)=some {cls:=.ref C,data:=.fields #[.ref h.objs.size,.none,.none,.none,.bool false,.none]}:=by heap_get
 have i:(wam C::oS CB).contains (.ref C)=true:=by simp
 have m:=hi.keeps k;have b1:=(J (.ref (h.objs.size+1))).keeps k;unfold isInstance
 repeat (first |with_reducible refine wbe c ?_ |(with_reducible refine wbT a ?_;rw[i]) |wp_step)
 show wpAny _ _ (wfm (.ref C) _) _ _ _;refine m.at ?_;refine wbp (wa7 (b1.at ?_));refine wa7 (wdf (wch T λr s' z=>?_));rcases r with e |(v |_ |_ |_)<;>first |exact z |exact z.elim |skip
 obtain⟨rfl,z⟩:=z
 wp_walk
 exact z
theorem A7{rest:List Value}{init:Value}(l:h.get? C=some (wbJ nm q C N bs (oS CB) hdct sn sub ab col dd k0 k1 k2 k3 k5 "ValueError.__new__"))
 (hi:Looks (model prog w) h (wfm (.ref C) "__init__") (some init)) (p:∀self,Looks (model prog w) h (bindSpecial init self) (init,[self])) (j:rest.length<=sizeLine)
 (r:codeAny (model prog w) (A.under (.builtin "type.__call__" {.ref C::rest,[]})) (.call init {.ref (h.objs.size+1)::rest,[]}) (InitBack (h.objs.size+1) R) {(h.push (qP rest)).push (fb C h.objs.size),g,d,t,os}) :
 codeAny (model prog w) A (.call (.ref C) {rest,[]}) R ⟨h,g,d,t,os⟩:=by
 have f1:=tc_lookup;have f2:=PySem.tc_bind (.ref C);have a:(⟨h,g,d,t,os⟩:Shared).TypeIs (.ref C) "type":={_,l,rfl};refine wg5 ?_;show wpAny _ _ (callAny (.ref C) _) _ _ _
 repeat (any_goals (first |assumption |with_reducible refine wbe l ?_ |wp_step))
 refine{rfl,?_};exact codeAny_call_builtin_at (we0 _ ∅) entry_typeCall (wpAny_check_type_call_sub l (GO l hi p j r))
theorem rT{E:Value->Shared->Prop}{Q:Flow->Shared->Prop}(p:A.handled=none)
 (h:wpAny M A (eval x env) (λv j=>∃e l t,v=.ref e/\j.heap.get? C=some (wbJ nm q C N bs (oS CB) hdct sn sub ab col dd k0 k1 k2 k3 k5 "ValueError.__new__") /\
   j.heap.get? e=some {cls:=.ref C,dict:=l,data:=.fields #[.ref t,.none,.none,.none,.bool false,.none]}/\E (.ref e) j) E s) :
 wpAny M A (exec (.Raise (some x) none pos) env) Q E s:=by
 have key:wpAny M A (raiseStmt env (some (do let v <-eval x env;standAt pos;pure v)) none) Q E s:=by
  have b:(wam C::oS CB).contains (.type "BaseException")=true:=rfl;unfold raiseStmt;refine wa7 (wa7 (wbb h (λv j a=>wa7 (wdF (wax ?_))) λ_ _ x=>x));obtain⟨e,l,t,rfl,c,f,i⟩:=a;obtain⟨k,g,d,m,os⟩:=j
  repeat (first |with_reducible refine wbe f ?_ |with_reducible refine wbe c ?_ |(with_reducible refine wbT c ?_;rw[b]) |wp_step)
  exact wpAny_raiseNew_none p i
 rw[arm_exec_Raise];exact wa7 (wdF key)
end
end L2
namespace L2
open PySem PySem.Spec PyProof.Rows
open PySem.W (Looks looks_findIn looks_typeIn InitBack bind_fn findIn clsIn specialIn readsIn findCls keepIn isFn typeIn InstAt)
structure fg(K:wa2)(C CB:Addr)(nm:Str):Prop where
 lk:∃(q:Str) (N:Addr) (bs:List Value) (sn:List Str) (sub:List Value) (ab:Bool) (col:Option Bool) (dd:Option Addr) (k0 k1 k2 k3 k5:Option Value),
  K.lookup C=some (wbJ nm q C N bs (oS CB) true sn sub ab col dd k0 k1 k2 k3 k5 "ValueError.__new__")
 sa:findIn K (.ref C) "__setattr__"=some (some (.builtin "object.__setattr__"))
 ga:findIn K (.ref C) "__getattribute__"=some (some (.builtin "BaseException.__getattribute__"))
 gh:findIn K (.ref C) "__getattr__"=some none
 kp:keepIn K (.ref C)=true
structure Ln(K:wa2)(CB:Addr):Prop where
 sp:whm K (.ref CB) "__getattribute__"=some (some (.builtin "type.__getattribute__"))
 rd:readsIn K CB (.type "type")=true
 fc:findCls K (.ref CB) (.type "type") "__init__"=some (.val (.builtin "ValueError.__init__"))
noncomputable def XN(x C:Addr):HO:=.ext λh=>∃t,h.get? x=some (fb C t)
noncomputable abbrev tX(C d t:Addr):Obj:={cls:=.ref C,dict:=some d,data:=.fields #[.ref t,.none,.none,.none,.bool false,.none]}
noncomputable def XD(x C d:Addr):HO:=.ext λh=>∃t,h.get? x=some (tX C d t)
section
variable{P:waq}{w:World}{H:Hp}{h:Heap}{x C d t:Addr}
theorem MP(e:h.get? x=some (fb C t)):bW P w H h x (XN x C):={⟨t,e⟩,{_,e},λc d ⟨a,b⟩ k=>{a,k _ b}}
theorem Tn(e:h.get? x=some (tX C d t)):bW P w H h x (XD x C d):={⟨t,e⟩,{_,e},λc f ⟨a,b⟩ k=>{a,k _ b}}
end
theorem MQ(h:H x=some o):upd H x o=H:=by grind [upd]
noncomputable def del(H:Hp)(x:Addr):Hp:=λb=>if b=x then none else H b
theorem gK:del H x x=none:=if_pos rfl
theorem ig(h:b≠x):del H x b=H b:=if_neg h
theorem Dq(h:H x=none):del (upd H x o) x=H:=by grind [gK,ig,ae]
theorem BO(h:d≠x):del (upd H d o) x=upd (del H x) d o:=by
 funext b
 by_cases e:b=x
 .subst e;rw[gK,ae (wbu h),gK]
 .rw[ig e]
  by_cases a:b=d
  .subst a;rw[a6,a6]
  .rw[ae a,ae a,ig e]
theorem yQ:del (upd H x o) x=del H x:=by grind [gK,ig,ae]
section
variable{X:Cx}{pins:List (Addr×Obj)}{σ:St}{H:Hp}{s:Shared}{x:Addr}{φ:Heap->Prop}
theorem Inv.del(I:Inv X pins σ H s)(g:H x=some (.ext φ)):Inv X pins σ (L2.del H x) s:=by
 have ne:∀{b:Addr} {o:HO},H b=some o->(∀ψ,o≠.ext ψ)->b≠x:=λe n z=>by rw[z,g]at e;exact n φ (wad e).symm
 have nn:∀{b:Addr},H b=none->L2.del H x b=none:=λ{b} e=>by
  by_cases z:b=x
  .rw[z];exact gK
  .rw[ig z];exact e
 have u:=I.base;refine{I.ok,I.os,I.bare,{u.keep,u.slot,λb o q n d=>nn (u.free b o q n d),u.there,λb f q=>?_,λb o v q=>?_,λb ps q=>?_},I.loc,I.cell,nn I.free,λy c e=>nn (I.jm y c e),λp h=>?_,λa o e=>?_,I.len}
 .have e:=u.uc b f q;rw[ig (ne e λψ z=>by cases z)];exact e
 .have e:=u.tD b o v q;rw[ig (ne e λψ z=>by cases z)];exact e
 .obtain⟨m,e⟩:=u.ud b ps q;exact{m,by rw[ig (ne e λψ z=>by cases z)];exact e}
 .obtain⟨a1,a2,a3⟩:=I.pin p h;exact{a1,nn a2,a3}
 .have i:H a=some o:=by
   by_cases z:a=x
   .rw[z,gK]at e;cases e
   .rw[ig z]at e;exact e
  refine(I.b7 a o i).wt (λb u _ q=>q) (λb q=>?_) λb f q=>?_
  .rw[ig (ne q λψ z=>by cases z)];exact q
  .rw[ig (ne q λψ z=>by cases z)];exact q
end
def MR(K:wa2)(CB:Addr)(t:TA):TE:=λσ H Q=>t σ H λvs H1=>∃x C nm m,vs=[.ref x,m]/\H1 x=some (XN x C)/\fg K C CB nm/\Q .non H1
section
variable{X:Cx}{CB C f:Addr}{p pos apos eS:Pos}{e e2:Expr}{es:List Expr}{t:TA}{Lp name:Str}{ta tv:TE}{o value:Expr}{pos':Pos}
theorem GP(r:Gl X Lp)(J:X.mg Lp=some (.ref CB))(B:Ln X.K CB)(ha:PA X [e,e2] t)(g:(Lp==("__debug__":Str))=false:=by decide)
 (he:starEach [e,e2] X.env=(false,eval e X.env)::starEach [e2] X.env:=by rfl) (hpl:(backTo pos (starEach [e2] X.env)).any (·.1)=false:=by rfl)
 (j:eval (.Call (.Attribute (.Name Lp p) "__init__" apos) [e,e2] [] pos) X.env=(do
   let l <-eval (.Name Lp p) X.env
   standAt apos.atName
   let (f,first) <-holding [l] (wes l "__init__" pl)
   callWith pos f first (backTo pos (starEach [e,e2] X.env)) (backToKw pos (wcH [] X.env))):=by rfl) :
 PE X (.Call (.Attribute (.Name Lp p) "__init__" apos) [e,e2] [] pos) (MR X.K CB t):=by
 refine{?_};intro a s σ H Q I h;refine wet (pl:=pl) (gz I r J ?_ g) j;refine PySem.W.method_cls I.hU B.sp (PySem.W.cls_value I.hU B.rd B.fc rfl ?_);refine weD (bO (ha pos a _ σ H _ (I.tok _) h) λG i n=>?_) he hpl;obtain⟨L,v,c,w,x,C,M,m,y,d,U,q⟩:=n;subst y;obtain⟨O,R,rfl,A,S⟩:=vals2 w;cases A;obtain⟨⟨t,j⟩,_⟩:=c.b7 x _ d;obtain⟨T,N,bs,V,sub,ab,D,Y,Z,k1,k2,k3,k5,lk⟩:=U.lk;refine BM c.hU j lk λh' t' k ex=>{.non,v,?_,rfl,q};have:=c.write (x:=x) (e:=x) (o:=XN x C) (h':=h') (t':=i.toks) (by rw[d];exact wbw) (.inl rfl) (λb u E z=>k b u E z) {_,ex} (MP ex);rw[MQ d]at this;exact this
def Q1(K:wa2)(CB:Addr)(ta tv:TE)(name:Str):TS:=λD σ H=>tv σ H λy H1=>ta σ H1 λz H2=>∃x C nm,z=.ref x/\H2 x=some (XN x C)/\fg K C CB nm/\findIn K (.ref C) name=some none /\
 ∀d,H2 d=none->D.nx σ (upd (upd H2 d (.xd [(name,y)])) x (XD x C d))
theorem JR(ha:PE X o ta)(T:PE X value tv)(hs:wc7 value (some (.Attribute o name pos')) pos.line X.env=pure false):PS X (.Assign [.Attribute o name pos'] value pos) (Q1 X.K CB ta tv name):=by
 refine{?_};intro g s σ H D I h;refine wd2 (bO (T g s σ H _ I h) λu L ⟨y,M,O,Q,q⟩=>bO (ha g L σ M _ O q) λR G S=>?_) hs;obtain⟨z,m,i,V,x,C,Y,Z,l,U,hn,q2⟩:=S;subst Z;obtain rfl:R=wam x:=V;obtain⟨⟨t,ht⟩,_⟩:=i.b7 x _ l;obtain⟨qn,N,bs,sn,sub,ab,r,dd,k0,k1,k2,k3,k5,lk⟩:=U.lk;refine GN (CB:=CB) i.hU ht (cd:={name:=Y,bases:=bs,mro:=.ref C::oS CB,ns:=N,qualname:=qn,hasDict:=true,slotNames:=sn,subclasses:=sub,abstract:=ab,collection:=r,hasDel:=false}) (by unfold clsIn;rw[lk]) rfl rfl hn U.sa λA d tk hd k ex ns=>{σ,_,?_,q2 d (i.b7.fresh hd)};have VU:d≠x:=λz=>by rw[z]at hd;exact absurd (wav (i.b7.lt l) hd) (wbm _)
 have c:=i.b7.fresh hd
 have un:Un (rH X.stack) [] m (upd (upd m d (.xd [(name,y)])) x (XD x C d)) G.heap A:=by
  have nx:∀{b:Addr} {o:HO},m b=some o->(∀ψ,o≠.ext ψ)->b≠x:=λe n z=>by rw[z,l]at e;exact n _ (wad e).symm
  have B:∀{b:Addr},m b=none->b≠x:=λe z=>by rw[z,l]at e;cases e
  refine{λb o q n _ _=>k b o (B n) q,λb o q n _ _=>{o.slots,k b o (B n) q},λb o q n _=>?_,λb o q _=>?_,λb vs q=>?_,λb o v q=>?_,λb ps q=>?_}
  .rw[ae (B n),ae (λz=>by rw[z]at q;exact absurd (wav (wah q) hd) (wbm _))];exact n
  .by_cases z:b=x
   .rw[z];exact{_,ex}
   .exact{o,k b o z q}
  .rw[ae (nx q λψ z=>by cases z),ae (af q c)];exact q
  .rw[ae (nx q λψ z=>by cases z),ae (af q c)];exact q
  .exact{#[],by rw[ae (nx q λψ z=>by cases z),ae (af q c),q];simp}
 have b7:jV X.prog X.w (upd (upd m d (.xd [(name,y)])) x (XD x C d)) A:=λa o e=>by
  by_cases z:a=x
  .subst z;rw[a6]at e;cases e;exact Tn ex
  .rw[ae z]at e
   by_cases J:a=d
   .subst J;rw[a6]at e;cases e;refine{_,ns,λf=>?_}
    by_cases p:f=name
    .have j:(f==name)=true:=beq_iff_eq.mpr p;simp only[wgb,j,if_pos p];exact Q
    .have j:(f==name)=false:=beq_eq_false_iff_ne.mpr p;simp only[wgb,j,if_neg p]
     trivial
   .rw[ae J]at e;refine(i.b7 a o e).wt (λb u j q=>k b u ?_ q) (λb q=>?_) λb vs q=>?_
    .rintro rfl;rcases j with rfl |j
     .exact z rfl
     .rw[l]at j;cases j
    .have:b≠x:=λE=>by rw[E,l]at q;cases q
     rw[ae this,ae (af q c)];exact q
    .have:b≠x:=λE=>by rw[E,l]at q;cases q
     rw[ae this,ae (af q c)];exact q
 exact i.xh (s':={G with heap:=A,toks:=tk}) rfl un b7 i.bare λb z=>absurd z (by simp)
end
end L2
namespace L2
open PySem PySem.Spec PyProof.Rows
open PySem.W (Looks looks_findIn looks_typeIn InitBack bind_fn findIn clsIn specialIn readsIn findCls keepIn isFn typeIn InstAt)
def MS(K:wa2)(C:Addr)(sp:Sp)(E:XK)(t:TA):TS:=λ_ σ H=>t σ H λvs H1=>vs.length<=sizeLine/\∀x,H1 x=none ->
 sp (.ref x::vs) (upd H1 x (XN x C)) (λv H2=>v=.non/\((H2 x=some (XN x C)/\E (.ref C) none (del H2 x))\/∃d,H2 x=some (XD x C d)/\E (.ref C) (some d) (del H2 x))) E0
def JS(C:Addr)(E:XK)(t:TA):TS:=λ_ σ H=>t σ H λvs H1=>vs.length=1/\E (.ref C) none H1
section
variable{X:Cx}{CB C f:Addr}{fd:wb6}{ps:List Str}{sp:Sp}{E:XK}{k:Nat}{p pos eS:Pos}{e:Expr}{es:List Expr}{t:TA}{x nm:Str}
theorem Inv.newExc(I:Inv X g σ H s)(us:List Value)(C:Addr) :
 Inv X g σ (upd H (s.heap.objs.size+1) (XN (s.heap.objs.size+1) C)) {s with heap:=(s.heap.push (qP us)).push (fb C s.heap.objs.size)}:=by
 have c:=I.kept (h':=s.heap.push (qP us)) (t':=s.toks) λb u q=>wa9 _ q;refine c.laid (a:=s.heap.objs.size+1) (t':=s.toks) (λb u q=>wa9 _ q) (wdS (wbO _ _)) (MP (t:=s.heap.objs.size) ?_);have:=wat (s.heap.push (qP us)) (o:=fb C s.heap.objs.size) rfl;rwa[wbO]at this
theorem GQ(hT:Dp X E)(hc:X.calm=true)(U:fg X.K C CB nm)(hi:findIn X.K (.ref C) "__init__"=some (some (.ref f)))(J:isFn X.K (.ref f)=true)
 (F:aS X.prog X.w X.K X.mg X.base cP k f fd ps sp) (hr:dJ (k+1) X.A) (hb:Binds X.K fd ps []) (hg:Gl X x) (hm:X.mg x=some (.ref C)) (ha:PA X (e::es) t)
 (T:(x==("__debug__":Str))=false:=by decide) (he:starEach (e::es) X.env=(false,eval e X.env)::starEach es X.env:=by rfl) (hpl:(backTo eS (starEach es X.env)).any (·.1)=false:=by rfl) :
 PS X (.Raise (some (.Call (.Name x p) (e::es) [] eS)) none pos) (MS X.K C sp E t):=by
 refine{?_};intro a s σ H D I h;obtain⟨Z,N,bs,sn,sub,ab,col,dd,k0,k1,k2,k3,k5,lk⟩:=U.lk;refine rT (C:=C) (CB:=CB) (nm:=nm) (q:=Z) (N:=N) (bs:=bs) (hdct:=true) (sn:=sn) (sub:=sub) (ab:=ab) (col:=col) (dd:=dd) (k0:=k0) (k1:=k1) (k2:=k2) (k3:=k3) (k5:=k5) (I.ok.hd hc) ?_;refine wbx (gz I hg hm ?_ T);refine wcI (h₀:=X.base) I.ok.mod.L5 U.kp (bO (ha eS a s σ H _ I h) λc i ⟨vs,H1,j,r,m,q⟩=>{j.hU,?_}) he hpl;have B:=j.b7.fresh (wc5 i.heap.objs.size);have Q:=q (i.heap.objs.size+1) B;have G:=Inv.newExc j c C;have R:Vals (V.ref (i.heap.objs.size+1)::vs) (wam (i.heap.objs.size+1)::c):=.cons rfl r
 have hl:(wam (i.heap.objs.size+1)::c++[]).length=ps.length:=by
  have S:=R.length;rw[F.len _ _ _ _ Q]at S;rw[waS];exact S.symm
 have n:=hb _ (wam (i.heap.objs.size+1)::c) G.hU hl;rw[waS]at n;obtain⟨L,g,dr,tk,os⟩:=i;refine wdf (A7 (j.hU _ _ lk) (weU j.hU hi) (λself=>bind_fn j.hU self (beq_iff_eq.mp J)) (by show c.length<=sizeLine;rw[<-r.length];exact m) ?_);refine wch (F.run _ X.stack _ _ {wam (L.objs.size+1)::c,[]} (wam (L.objs.size+1)::c) _ _ E0 (hr.make C c []) (G.Jq.make C c []) n R Q) λrr Y b=>?_
 cases rr with
 |error e=>exact wb7 b
 |ok fl=>
  cases fl with
  |next=>exact wb7 b
  |brk=>exact wb7 b
  |cont=>exact wb7 b
  |ret u=>
   obtain⟨v,H',l,rv,ev,q3⟩:=G.after b;subst ev;refine{rv,?_};have o:X.s₀.heap.objs.size<=L.objs.size+1:=wak j.sz (wc5 _);rcases q3 with⟨y,M⟩ |⟨d,y,M⟩
   .obtain⟨⟨O,z⟩,_⟩:=l.b7 _ _ y;exact{_,none,O,rfl,l.hU _ _ lk,z,hT a σ _ Y _ C none (l.del y) {o,gK,_,_,z,by show 1<6;decide,.inl rfl} M}
   .obtain⟨⟨O,z⟩,_⟩:=l.b7 _ _ y;exact{_,some d,O,rfl,l.hU _ _ lk,z,hT a σ _ Y _ C (some d) (l.del y) {o,gK,_,_,z,by show 1<6;decide,.inl rfl} M}
theorem gp(J:Dp X E)(hc:X.calm=true)(U:fg X.K C CB nm)(hi:findIn X.K (.ref C) "__init__"=some (some (.builtin "ValueError.__init__")))(T:Gl X x)(hm:X.mg x=some (.ref C))(ha:PA X (e::es) t)
 (l:(x==("__debug__":Str))=false:=by decide) (he:starEach (e::es) X.env=(false,eval e X.env)::starEach es X.env:=by rfl) (hpl:(backTo eS (starEach es X.env)).any (·.1)=false:=by rfl) :
 PS X (.Raise (some (.Call (.Name x p) (e::es) [] eS)) none pos) (JS C E t):=by
 refine{?_};intro a s σ H D I h;obtain⟨y,N,bs,sn,sub,ab,col,dd,k0,k1,k2,k3,k5,lk⟩:=U.lk;refine rT (C:=C) (CB:=CB) (nm:=nm) (q:=y) (N:=N) (bs:=bs) (hdct:=true) (sn:=sn) (sub:=sub) (ab:=ab) (col:=col) (dd:=dd) (k0:=k0) (k1:=k1) (k2:=k2) (k3:=k3) (k5:=k5) (I.ok.hd hc) ?_;refine wbx (gz I T hm ?_ l);refine wcI (h₀:=X.base) I.ok.mod.L5 U.kp (bO (ha eS a s σ H _ I h) λA c ⟨Q,B,d,r,f,q⟩=>{d.hU,?_}) he hpl
 obtain⟨u,rfl⟩:∃u,A=[u]:=by
  have:=r.length;rw[f]at this;exact List.length_eq_one_iff.mp this.symm
 have m:=Inv.newExc d [u] C;have i:(upd B (c.heap.objs.size+1) (XN (c.heap.objs.size+1) C)) (c.heap.objs.size+1)=some (XN (c.heap.objs.size+1) C):=a6;have j:=d.b7.fresh (wc5 c.heap.objs.size);obtain⟨k,g,R,G,os⟩:=c;refine wdf (A7 (d.hU _ _ lk) (weU d.hU hi) (λself=>Looks.of_pure (wck.init.bind self)) (by show 1<=sizeLine;decide) ?_);obtain⟨⟨S,L⟩,_⟩:=m.b7 _ _ i;refine uH m.hU L lk λh' t' M ex=>{rfl,?_};have w:=m.write (x:=k.objs.size+1) (e:=k.objs.size+1) (o:=XN (k.objs.size+1) C) (h':=h') (t':=G) (by rw[i];exact wbw) (.inl rfl) (λb u O z=>M b u O z) {_,ex} (MP ex);rw[D0]at w;have n:=w.del (x:=k.objs.size+1) a6;rw[Dq j]at n;have v:X.s₀.heap.objs.size<=k.objs.size+1:=wak d.sz (wc5 _);exact{_,none,t',rfl,n.hU _ _ lk,ex,J a σ _ _ _ C none n {v,j,_,_,ex,by show 1<6;decide,.inl rfl} q}
end
end L2
namespace L2
open PySem PySem.Spec PyProof.Rows
noncomputable abbrev TJ:=Str->St->Hp->(Str->Hp->Prop)->Prop
abbrev VW(X:Cx)(es:List Expr)(t:TJ):Prop:=∀(pins:List (Addr×Obj)) (s:Shared) (σ:St) (H:Hp) (acc:Str) (Q:Str->Hp->Prop),Inv X pins σ H s->t acc σ H Q ->
 wpAny (model X.prog X.w) X.A (joinParts acc (evalEach es X.env)) (λu s'=>∃z H',Inv X pins σ H' s'/\(∃tk,u=.str z tk)/\Q z H') X.xe s
structure PJ(X:Cx)(es:List Expr)(t:TJ):Prop where
 go:VW X es t
instance {X:Cx} {es:List Expr} {t:TJ}:CoeFun (PJ X es t) λ_=>VW X es t:=⟨PJ.go⟩
section
variable{X:Cx}{e:Expr}{es:List Expr}{te:TE}{t:TJ}{pos:Pos}
noncomputable def To:TJ:=λacc _ H Q=>acc.length<=sizeLine/\Q acc H
theorem MT:PJ X [] To:={λb s σ H a Q I h=>joinParts_nil {a,H,I.tok _,{_,rfl},h.2} h.1}
noncomputable def Tp(z:Str)(t:TJ):TJ:=λacc σ H Q=>(acc++z).length<=sizeLine/\t (acc++z) σ H Q
theorem BP(h:PJ X es t):PJ X (.Constant (.str z) j pos::es) (Tp z t):={λa s σ H b Q I q=>
 joinParts_cons (wh7 {q.1,h a _ σ H _ Q (I.tok _) q.2})}
noncomputable def Tq(te:TE)(t:TJ):TJ:=λacc σ H Q=>te σ H λv H1=>(∃i,v=.int i/\i.natAbs.log2<1920/\(acc++(toString i:String)).length<=sizeLine/\t (acc++(toString i:String)) σ H1 Q)\/(∃z,v=.str z/\z.length<=sizeLine/\(acc++z).length<=sizeLine/\t (acc++z) σ H1 Q)
theorem GR(he:PE X e te)(h:PJ X es t):PJ X (.FormattedValue e (-1) none pos::es) (Tq te t):={λa s σ H j Q I q=>by
 refine joinParts_cons (FormattedValue_plain (bO (he a s σ H _ I q) λv n ⟨y,d,f,g,k⟩=>?_));rcases k with⟨i,rfl,hl,b,c⟩ |⟨z,rfl,hl,b,c⟩
 .obtain⟨l,rfl⟩:=g;exact formatField_int_small hl {b,h a _ σ d _ Q (f.tok _) c}
 .obtain⟨l,rfl⟩:=g
  exact formatField_str (λo m=>{b,h a _ σ d _ Q (f.tok _) c}) hl}
theorem JT(h:PJ X (e::g::es) t):PE X (.JoinedStr (e::g::es) pos) (λσ H Q=>t Str.empty σ H λz j=>Q (.str z) j):={λa s σ H Q I q=>
 JoinedStr_many (bO (h a s σ H _ _ I q) λu f ⟨z,b,c,r,d⟩=>{.str z,b,c,r,d})}
end
noncomputable abbrev Og:=XK->TE
noncomputable abbrev FQ:=(St->XK)->TS
def VX(X:Cx)(pins:List (Addr×Obj))(σ:St)(E:XK)(ev:Value)(s':Shared):Prop:=∃H0 s0,Inv X pins σ H0 s0/\Bh X.prog X.w X.stack H0 s0 E ev s'
def VY(X:Cx)(pins:List (Addr×Obj))(E:St->XK)(ev:Value)(s':Shared):Prop:=∃σ,VX X pins σ (E σ) ev s'
abbrev Q2(X:Cx)(e:Expr)(t:Og):Prop:=∀(pins:List (Addr×Obj)) (s:Shared) (σ:St) (H:Hp) (Q:VK) (E:XK),Inv X pins σ H s->t E σ H Q->wpAny (model X.prog X.w) X.A (eval e X.env) (EP X pins σ Q) (VX X pins σ E) s
structure RF(X:Cx)(e:Expr)(t:Og):Prop where
 go:Q2 X e t
instance {X:Cx} {e:Expr} {t:Og}:CoeFun (RF X e t) λ_=>Q2 X e t:=⟨RF.go⟩
abbrev Q3(X:Cx)(st:Stmt)(t:FQ):Prop:=∀(pins:List (Addr×Obj)) (s:Shared) (σ:St) (H:Hp) (D:Ends) (E:St->XK),Inv X pins σ H s->t E D σ H->wpAny (model X.prog X.w) X.A (exec st X.env) (SP X pins D) (VY X pins E) s
structure RG(X:Cx)(st:Stmt)(t:FQ):Prop where
 go:Q3 X st t
instance {X:Cx} {st:Stmt} {t:FQ}:CoeFun (RG X st t) λ_=>Q3 X st t:=⟨RG.go⟩
abbrev Lq(X:Cx)(st:List Stmt)(t:FQ):Prop:=∀(pins:List (Addr×Obj)) (s:Shared) (σ:St) (H:Hp) (D:Ends) (E:St->XK),Inv X pins σ H s->t E D σ H->wpAny (model X.prog X.w) X.A (execs st X.env) (SP X pins D) (VY X pins E) s
structure JU(X:Cx)(st:List Stmt)(t:FQ):Prop where
 go:Lq X st t
instance {X:Cx} {st:List Stmt} {t:FQ}:CoeFun (JU X st t) λ_=>Lq X st t:=⟨JU.go⟩
section
variable{X:Cx}{k:Nat}{f C:Addr}{fd:wb6}{ps:List Str}{sp:Sp}{x m:Str}{p pos apos:Pos}{e o:Expr}{es:List Expr}{ta:TE}{t:TA}{st:Stmt}{rest:List Stmt}
theorem MU{α:Type}{M:Model}{A:Around}{m:Sem α}{Q:α->Shared->Prop}{E:Value->Shared->Prop}{s:Shared}(h:wpAny M A m Q (λ_ _=>False) s):wpAny M A m Q E s:=wbb h (λ_ _ x=>x) λ_ _ z=>z.elim
theorem AP.gj{E:Value->Shared->Prop}{Q:List V->Hp->Prop}(h:AP (X.og E) g σ Q us s'):AP X g σ Q us s':=by
 obtain⟨a,b,I,r,q⟩:=h;exact⟨a,b,I.gj,r,q⟩
noncomputable def MV(C:Addr)(sp:Sp)(t:TA):Og:=λE σ H Q=>t σ H λvs H1=>∀x dx,H1 x=none->H1 dx=none->dx≠x ->
 sp (.ref x::vs) (upd (upd H1 dx (.own x)) x (.ins C dx [])) (λv H2=>v=.non/\Q (.ref x) H2) E
theorem GU(M:Mk X.K C f)(F:aS X.prog X.w X.K X.mg X.base (Bh X.prog X.w) k f fd ps sp)(J:dJ (k+1) X.A)(T:Gl X x)(U:X.mg x=some (.ref C))(hb:Binds X.K fd ps [])
 (ha:PA X.L7 (e::es) t) (l:(x==("__debug__":Str))=false:=by decide) (he:starEach (e::es) X.env=(false,eval e X.env)::starEach es X.env:=by rfl) (hpl:(backTo pos (starEach es X.env)).any (·.1)=false:=by rfl) :
 RF X (.Call (.Name x p) (e::es) [] pos) (MV C sp t):=by
 refine{?_};intro d s σ H Q E I h;refine wbx (gz I T U ?_ l);refine wcI (h₀:=X.base) I.ok.mod.L5 M.kp (MU (bO (ha pos d s σ H _ (I.og _) h) λc b o=>?_)) he hpl;obtain⟨y,N,g,r,q⟩:=o.gj;refine{g.hU,?_};have m:=q (b.heap.objs.size+1) b.heap.objs.size (g.b7.fresh (wc5 _)) (g.b7.fresh (waa _)) (waw (wbL _));have j:=Inv.made (C:=C) g;have n:Vals (V.ref (b.heap.objs.size+1)::y) (wam (b.heap.objs.size+1)::c):=.cons rfl r
 have hl:(wam (b.heap.objs.size+1)::c++[]).length=ps.length:=by
  have e:=n.length;rw[F.len _ _ _ _ m]at e;rw[waS];exact e.symm
 have i:=hb _ (wam (b.heap.objs.size+1)::c) j.hU hl;rw[waS]at i
 refine wdf (zM (f:=f) g.hU M.makes M.init (beq_iff_eq.mp M.fn) (wch (F.run _ X.stack _ _ {wam (b.heap.objs.size+1)::c,[]} (wam (b.heap.objs.size+1)::c) _ _ E (J.make C c [])
  (j.Jq.make C c []) i n m) λr O a=>?_))
 cases r with
 |error e=>exact{_,_,j,a}
 |ok fl=>
  cases fl with
  |ret u=>
   obtain⟨v,z,B,D,G,L⟩:=j.after a;subst G;exact{D,{V.ref (b.heap.objs.size+1),z,B,rfl,L}}
  |next=>exact wb7 a
  |brk=>exact wb7 a
  |cont=>exact wb7 a
variable{te:Og}{i:Nat}{pos':Pos}{tx ty:FQ}{tc:TT}{c:Expr}{a b:List Stmt}{ts:TS}
noncomputable def Tr(te:Og)(i:Nat):FQ:=λE D σ H=>te (E σ) σ H λv H1=>D.nx (σ.set i (some v)) H1
theorem JV(g:X.N.Nodup)(hi:X.N[i]?=some x)(j:Loc X.env.scope x)(he:RF X e te)(hs:wc7 e (some (.Name x pos')) pos.line X.env=pure false:=by rfl)(l:X.fn x=true\/X.env.scope.names.lookup x=some .local:=by first |exact .inl rfl |exact .inr rfl |assumption) :
 RG X (.Assign [.Name x pos'] e pos) (Tr te i):=by
 refine{?_};intro a s σ H D E I h;refine we9 (wbb (he a s σ H _ (E σ) I h) (λv b ⟨y,c,d,f,k⟩=>?_) λn b z=>⟨σ,z⟩) hs;exact jn d g hi j f (λo m=>{_,c,m,k}) l
theorem GV(g:RG X st tx):JU X [st] tx:=by
 refine{?_};intro a s σ H D E I h;refine wcY (wbb (g a s σ H D E I h) (λf b q=>?_) λ_ _ z=>z)
 cases f with
 |next=>exact wcw q
 |ret v=>exact q
 |brk=>exact q
 |cont=>exact q
end
section
variable{M:Model}{A:Around}{E:Value->Shared->Prop}{s:Shared}{e C CB:Addr}{od:Option Addr}{lo:Nat}{H:Hp}
theorem uI{Q:Unit->Shared->Prop}(F:J8 lo H s.heap e C od)(h:∀h',J8 lo H h' e C od->(∀b o,s.heap.get? b=some o->(b<lo\/H b≠none)->h'.get? b=some o)->Q .unit {s with heap:=h'}) :
 wpAny M A (wg6 (.ref e) none) Q E s:=by
 obtain⟨g,i,p,sl,n,j,f⟩:=F;unfold wg6;rcases f with f |⟨T,v,u,r,a,k,l,t,d,f⟩
 .refine wa7 (weg n rfl f ?_);rw[if_neg ⋯];exact wax (h _ {g,i,p,sl,n,j,.inl f} λb o q _=>q)
 .have c:3<u.size:=(wf8.mp f).1;refine wa7 (weg n rfl r ?_);rw[if_pos (show (wam T != wbC)=true from by simp)];refine weW t d c (h _ {g,i,p,sl,?_,j,.inr {T,_,_,r,a,k,l,wbD _ t (wev (wdj d _)),wdj d _,by simp[c]}} λb o q m=>?_)
  .exact(waQ _ _ l).trans n
  .refine(waQ _ _ ?_).trans q;rintro rfl;rcases m with m |m
   .exact absurd (wav m a) (wbm _)
   .exact m k
variable{nm q Lp qB:Str}{N NB:Addr}{bs bsB:List Value}{hdct hdB:Bool}{sn snB:List Str}{sub subB:List Value}{ab abB:Bool}{col Yi:Option Bool}{dd ddB:Option Addr}{k0 k1 k2 k3 k5 l0 l1 l2 l3 l5:Option Value}
end
noncomputable abbrev Cx.marked(X:Cx)(e:Addr):Cx:={X with A:=X.A.mark (some (.ref e)),calm:=false}
section
variable{X:Cx}{pins:List (Addr×Obj)}{σ:St}{H:Hp}{s:Shared}{e:Addr}
theorem Cx.Ok.marked(ok:X.Ok):(X.marked e).Ok:=
 {ok.mod,ok.kind,ok.glob,ok.blt,ok.above,ok.inj,ok.has,ok.Mh,λz=>Bool.noConfusion z,ok.frames,ok.O7,ok.Rt,ok.bs,ok.FZ,ok.Bi,ok.E1,ok.oU,ok.Ji}
theorem Inv.marked(I:Inv X pins σ H s):Inv (X.marked e) pins σ H s:=⟨I.ok.marked,I.os,I.bare,I.base,I.loc,I.cell,I.free,I.jm,I.pin,I.b7,I.len⟩
theorem Inv.unmarked(ok:X.Ok)(I:Inv (X.marked e) pins σ H s):Inv X pins σ H s:=⟨ok,I.os,I.bare,I.base,I.loc,I.cell,I.free,I.jm,I.pin,I.b7,I.len⟩
theorem Inv.BQ{l g:Hp}{j s1:Shared}{h':Heap}(C:Inv X pins σ l j)(r:s1.os=j.os)(bare:AllBare s1.gens)(un:Un (rH X.stack) [] l g j.heap s1.heap)(b7:jV X.prog X.w g s1.heap)
 (p:Er j.heap.objs.size g (rH X.stack) s1.heap h') (t:∀b∈rH X.stack,g b=none):Un (rH X.stack) [] l g j.heap h'/\jV X.prog X.w g h'/\∀tk,Inv X pins σ g {s1 with heap:=h',toks:=tk}:=by
 have e:Un (rH X.stack) [] l g j.heap h':=by
  refine{λb o d n a f=>p.keep b o (un.keep b o d n a f) (.inl (wah d)) a,λb o d n a f=>?_,un.free,λb o d f=>?_,un.uc,un.tD,un.ud}
  .obtain⟨sl,h⟩:=un.slot b o d n a f;obtain⟨i,k⟩:=p.slot b _ h a;exact⟨i,k⟩
  .obtain⟨m,h⟩:=un.there b o d f
   by_cases q:b∈rH X.stack
   .obtain⟨sl,k⟩:=p.slot b m h q;exact{_,k}
   .exact{m,p.keep b m h (.inl (wah d)) q}
 have c:=b7.past p t;exact{e,c,λtk=>C.xh (s':={s1 with heap:=h',toks:=tk}) r e c bare λb z=>absurd z (by simp)}
end
structure MX(K:wa2)(CB:Addr)(nm:Str):Prop where
 lk:∃(q:Str) (N:Addr) (bs:List Value) (hd:Bool) (sn:List Str) (sub:List Value) (ab:Bool) (col:Option Bool) (dd:Option Addr) (k0 k1 k2 k3 k5:Option Value),
  K.lookup CB=some (wbJ nm q CB N bs Tf hd sn sub ab col dd k0 k1 k2 k3 k5 "ValueError.__new__")
section
variable{X:Cx}{CB:Addr}{Lp n x VZ:Str}{body:List Stmt}{tb:FQ}{i j:Nat}{p1 p2 p3 p4 MY pos:Pos}
end
open PySem.W (Looks looks_findIn looks_typeIn looks_find looks_hook looks_mroIn findIn clsIn specialIn takesIn mroIn typeIn subIn InstAt KitX kitOne kitCls kia_one findObj findObj_data class_get handed_on handedOut_of)
open Builtin Builtin.ObjectAttr
theorem fg.ne{K:wa2}{C D CB j:Addr}{nm g:Str}(U:fg K C CB nm)(l:fg K D j g)(h:¬nm=g):C≠D:=λe=>by
 subst e;obtain⟨q,N,bs,r,sub,ab,d,s,t,u,v,w,x,l1⟩:=U.lk;obtain⟨y,z,f,i,b,k,c,m,A,n,B,E,G,a⟩:=l.lk;rw[l1]at a;have:=congrArg (λo=>match o with |some (⟨_,_,.cls p,_⟩:Obj)=>p.name |_=>nm) a;exact h this
theorem fg.neT{K:wa2}{C CB g:Addr}{nm j:Str}(U:fg K C CB nm)(T:MX K g j)(h:¬nm=j):C≠g:=λe=>by
 subst e;obtain⟨q,N,bs,r,sub,ab,d,s,t,u,v,w,x,l1⟩:=U.lk;obtain⟨y,z,f,i,k,b,l,c,m,A,n,B,D,E,a⟩:=T.lk;rw[l1]at a;have:=congrArg (λo=>match o with |some (⟨_,_,.cls p,_⟩:Obj)=>p.name |_=>nm) a;exact h this
section
variable{prog:waq}{w:World}{A:Around}{E:Value->Shared->Prop}{s:Shared}{K:wa2}{x C CB D:Addr}{nm Q4 VZ:Str}{od:Option Addr}
structure MZ(K:wa2)(C:Addr):Prop where
 ha:findIn K (.ref C) "__class__"=some (some (.builtin "object.__class__"))
 hn:whm K (.builtin "object.__class__") "__get__"=some (some (.builtin "getset_descriptor.__get__"))
 qE:takesIn K (.builtin "object.__class__")=some true
end
section
variable{X:Cx}
end
end L2
namespace L2
open PySem
end L2
namespace Sx
open PySem L2 Bs
theorem Q6:waX "int"=some (.type "int"):=∅
theorem Q7:waX "dict"=some (.type "dict"):=∅
theorem GW:waX "bool"=some (.type "bool"):=∅
theorem Es:waX "sum"=some (.builtin "sum"):=∅
theorem JW:waX "min"=some (.builtin "min"):=∅
structure Ts(K:wa2)(C CB:Addr)(nm:Str):Prop where
 lk:∃(q:Str) (N:Addr) (bs:List Value) (sn:List Str) (sub:List Value) (ab:Bool) (col:Option Bool) (dd:Option Addr) (k0 k1 k2 k3 k5:Option Value),
  K.lookup C=some (wbJ nm q C N bs (oS CB) true sn sub ab col dd k0 k1 k2 k3 k5 "ValueError.__new__")
theorem Dr
 (l:K.lookup C=some (wbJ nm q C N bs (oS CB) true sn sub ab col dd k0 k1 k2 k3 k5 "ValueError.__new__")):Ts K C CB nm:=⟨q,N,bs,sn,sub,ab,col,dd,k0,k1,k2,k3,k5,l⟩
theorem JX
 (l:K.lookup CB=some (wbJ nm q CB N bs Tf hd sn sub ab col dd k0 k1 k2 k3 k5 "ValueError.__new__")):MX K CB nm:=⟨q,N,bs,hd,sn,sub,ab,col,dd,k0,k1,k2,k3,k5,l⟩
end Sx
namespace Sx
open PySem PySem.Spec PyProof.Rows L2
open PySem.W (clsIn mroIn typeIn subIn kitOne kitCls)
section
variable{K:wa2}{C CB D:Addr}{nm Q4 VZ:Str}
end
end Sx
namespace AC
section
variable{W:List (List Nat)}{P:List Nat->Bool}{l m p q u:List Nat}{c:Nat}
def Good(W:List (List Nat))(l:List Nat):Prop:=∀w∈W,¬w <:+: l
def Pl(W:List (List Nat))(p:List Nat):Prop:=p=[]\/((∃w∈W,p <+: w/\p.length<w.length)/\Good W p)
theorem Good.sub(h:Good W l)(hs:m <:+: l):Good W m:=λw hw hi=>h w hw (hi.trans hs)
theorem Pl.init(h:Pl W (u++[c])):Pl W u:=by
 rcases h with h |⟨⟨w,hw,a,hl⟩,b⟩
 .simp at h
 .by_cases e:u=[]
  .exact .inl e
  .refine .inr {{w,hw,(we1 u [c]).trans a,?_},b.sub (we1 u [c]).isInfix};rw[wa5]at hl;simp at hl
   lia
noncomputable def ke(P:List Nat->Bool):List Nat->List Nat
 |[]=>[]
 |a::l=>if P (a::l)=true then a::l else ke P l
theorem js:∀l,ke P l <:+ l
 |[]=>wfF _
 |a::l=>by
  unfold ke;split
  .exact wfF _
  .exact(js l).trans (List.suffix_cons a l)
theorem uJ(h0:P []=true):∀l,P (ke P l)=true
 |[]=>h0
 |a::l=>by
  unfold ke;split
  .assumption
  .exact uJ h0 l
theorem jt(g:P q=true):∀{l},q <:+ l->q <:+ ke P l
 |[],h=>h
 |a::l,h=>by
  unfold ke;split
  .exact h
  .rename_i hn;rcases List.suffix_cons_iff.mp h with e |h
   .grind
   .exact jt g h
theorem GX(g:p <:+ q)(j:q <:+ p):p=q:=g.eq_of_length (wi0 g.length_le j.length_le)
theorem A8:∀{q l:List Nat},q <:+ l++[c]->q=[]\/∃u,q=u++[c]/\u <:+ l:=λ{q l} h=>by
 rcases wgt q with e |⟨u,d,e⟩
 .exact .inl e
 .right
  rw[List.concat_eq_append]at e;obtain⟨t,a⟩:=h;subst e;rw[<-waM]at a;have b:=whP a rfl;have hd:d=c:=by grind
  exact{u,by rw[hd],t,b.1}
theorem BR(h:w <:+: l++[c]):w <:+: l\/w <:+ l++[c]:=by
 obtain⟨a,b,e⟩:=h;rcases wgt b with f |⟨g,d,f⟩
 .grind
 .grind [whP]
theorem Et(r:∀x,P x=true↔Pl W x)(j:Good W l)(g:∀w∈W,w≠[]):Good W (ke P l++[c])↔Good W (l++[c]):=by
 have f:=js (P:=P) l;constructor
 .intro h w hw hi;rcases BR hi with z |z
  .exact j w hw z
  .rcases A8 z with e |⟨u,rfl,d⟩
   .exact g w hw e
   .have a:Pl W u:=by
     by_cases e:u=[]
     .exact .inl e
     .exact .inr {{_,hw,we1 u [c],by simp},j.sub d.isInfix}
    have:=jt ((r u).mpr a) d;obtain⟨t,b⟩:=this;exact h _ hw (show u++[c] <:+ ke P l++[c] from {t,by rw[<-waM,b]}).isInfix
 .intro h;obtain⟨t,b⟩:=f;exact h.sub (show ke P l++[c] <:+ l++[c] from {t,by rw[<-waM,b]}).isInfix
theorem BU(g:∀x,P x=true↔Pl W x)(j:Good W l):ke P (ke P l++[c])=ke P (l++[c]):=by
 have d:=js (P:=P) l;have h0:P []=true:=(g []).mpr (.inl rfl)
 have b:ke P l++[c] <:+ l++[c]:=by
  obtain⟨t,f⟩:=d;exact{t,by grind}
 refine GX (jt (uJ h0 _) ((js _).trans b)) (jt (uJ h0 _) ?_);rcases A8 (js (P:=P) (l++[c])) with e |⟨u,e,h⟩
 .rw[e];exact List.nil_suffix
 .have a:=(g _).mp (uJ h0 (l++[c]));rw[e]at a ⊢;obtain⟨t,f⟩:=jt ((g u).mpr a.init) h;exact{t,by grind}
end
end AC
namespace Bs
open PySem AC
theorem qQ(x y:Str)(i:Nat):whu x y i=true↔((ch x).drop i).take y.length=ch y:=by
 unfold whu;rw[beq_iff_eq];constructor
 .intro h;have:=congrArg Array.toList h;rw[wgL,wfo,wcC]at this;exact this
 .intro h;refine wfD.mp ?_;rw[wgL,wfo,wcC];exact h
theorem JY(y x:Str):MG y x=true↔ch y <:+: ch x:=by
 unfold MG;rw[StrLaws.found_iff];constructor
 .grind [qQ,wfG,List.drop_suffix]
 .rintro⟨a,b,e⟩;refine{a.length,?_,(qQ x y _).mpr ?_}
  .rw[<-aN x,<-e,wa5,wa5,aN];lia
  .rw[<-e,waM,wgu,<-aN y,wgv]
noncomputable def wl(ws:List Str):List (List Nat):=ws.map ch
theorem dO(ws:List Str)(r:Str):bears ws r=false↔Good (wl ws) (ch r):=by simp_all [bears,Good,wl,whp,JY,ch]
theorem iQ(w:Str)(n:Nat):ch (df w n)=(ch w).take n:=m6 w n
theorem kg(w:Str)(n:Nat):ch (d5 w n)=(ch w).drop n:=gm w n
theorem yR:k∈qN ws g b↔k∈g\/(k=b/\bears ws b=false):=by
 unfold qN yP
 by_cases a:bears ws b=true
 .grind
 .grind
theorem p8:∀n,k∈upTo ws w g n↔k∈g\/∃i,i<n/\k=df w (1+i)/\bears ws k=false
 |0=>by
  show k∈g↔_;simp
 |n+1=>by
  rw[gn,yR,p8 n];constructor
  .grind
  .grind
theorem jc(us:List Str):k∈bP ws e us↔k=e\/∃w∈us,∃i,i<w.length-1/\k=df w (1+i)/\bears ws k=false:=by
 have key:∀(us b:List Str),k∈us.foldl (addW ws) b↔k∈b\/∃w∈us,∃i,i<w.length-1/\k=df w (1+i)/\bears ws k=false:=by
  intro us
  induction us with
  |nil=>intro b;simp
  |cons w us d=>
   intro b;rw[wdL,d];unfold addW;rw[p8];constructor
   .rintro((h |⟨i,h⟩) |⟨c,a,h⟩)
    .exact .inl h
    .exact .inr {w,wae ..,i,h}
    .exact .inr {c,wac _ a,h}
   .rintro(h |⟨c,a,h⟩)
    .exact .inl (.inl h)
    .rcases waK.mp a with rfl |a
     .exact .inl (.inr h)
     .exact .inr ⟨c,a,h⟩
 unfold bP;rw[key];simp
theorem mem_keys:k∈bP ws "" ws↔Pl (wl ws) (ch k):=by
 rw[jc];constructor
 .rintro(rfl |⟨w,hw,i,hi,e,a⟩)
  .exact .inl rfl
  .right
   refine{{ch w,wab.mpr ⟨w,hw,rfl⟩,?_,?_},(dO ws k).mp a}
   .rw[e,iQ];exact wfG _ _
   .rw[e,iQ,wag,aN];omega
 .rintro(h |⟨⟨v,b,c,hl⟩,d⟩)
  .exact .inl (cb h)
  .by_cases h0:ch k=[]
   .exact .inl (cb h0)
   obtain⟨w,hw,rfl⟩:=wab.mp b
   right
   rw[aN,aN]at hl;have f:k.length≠0:=λz=>h0 (oq z);refine{w,hw,k.length-1,(),cb ?_,(dO ws k).mpr d};rw[iQ,show 1+(k.length-1)=k.length by omega,<-aN k];exact(List.prefix_iff_eq_take.mp c)
noncomputable def Q8(ss:List Str)(l:List Nat):Bool:=decide (l∈ss.map ch)
theorem kh:Q8 ss (ch k)=true↔k∈ss:=by
 unfold Q8;rw[decide_eq_true_iff];constructor
 .grind [cb]
 .grind
theorem GY(g:ss.Perm (bP ws "" ws))(l:List Nat):Q8 ss l=true↔Pl (wl ws) l:=by
 have e:ch ⟨l.toArray⟩=l:=rfl;rw[<-e,kh,g.mem_iff,mem_keys]
theorem xN{P:List Nat->Bool}(h0:P []=true):∀{l:List Nat} {n:Nat},P (l.drop n)=true->(∀m,m<n->P (l.drop m)=false)->ke P l=l.drop n
 |[],n,_,_=>by simp[ke]
 |a::l,0,b,_=>by
  unfold ke;rw[weV]at b;rw[if_pos b];rfl
 |a::l,n+1,b,c=>by
  have:=c 0 (by lia);rw[weV]at this;unfold ke;rw[this,if_neg (by simp),List.drop_succ_cons];exact xN h0 (by grind) λm d=>by grind
theorem ki(he:("":Str)∈ss)(r:Str):ch (lend ss r)=ke (Q8 ss) (ch r):=by
 have c:∃n,n<=r.length/\d5 r n∈ss/\∀m,m<n->d5 r m∉ss:=by
  have f:∃n,d5 r n∈ss:={r.length,by rw[qO];exact he}
  have key:∀k,(∃n,n<k/\d5 r n∈ss/\∀m,m<n->d5 r m∉ss)\/∀m,m<k->d5 r m∉ss:=by
   intro k
   induction k with
   |zero=>right;intro m a;lia
   |succ k d=>
    rcases d with⟨n,hn,h⟩ |h
    .exact .inl {n,by lia,h}
    .by_cases hk:d5 r k∈ss
     .exact .inl {k,by lia,hk,h}
     .right
      intro m a
      by_cases e:m=k
      .rw[e];exact hk
      .exact h m (by lia)
  rcases key (r.length+1) with⟨n,hn,h⟩ |h
  .exact{n,by lia,h}
  .exact absurd (by rw[qO];exact he) (h r.length (by lia))
 obtain⟨n,hn,a,hl⟩:=c;unfold lend;rw[uG a hl hn,kg];refine(xN (kh (k:="").mpr he) ?_ λm b=>?_).symm
 .rw[<-kg];exact kh.mpr a
 .rw[<-kg];have:=hl m b;rw[<-kh]at this;simpa using this
section
variable{ws ss:List Str}{r:Str}{c:Nat}
theorem GZ(he:("":Str)∈ss):lend ss ""="":=by
 refine cb ?_;rw[ki he];rfl
theorem nk(g:ss.Perm (bP ws "" ws))(j:bears ws r=false):lend ss (lend ss r++{#[c]})=lend ss (r++{#[c]}):=by
 have a:("":Str)∈ss:=g.mem_iff.mpr (cp ws);refine cb ?_;rw[ki a,aT,ki a,ki a,aT];exact BU (GY g) ((dO ws r).mp j)
theorem kj(g:ss.Perm (bP ws "" ws))(j:bears ws r=false)(hw:∀w∈ws,1<=w.length):bears ws (lend ss r++{#[c]})=bears ws (r++{#[c]}):=by
 have b:("":Str)∈ss:=g.mem_iff.mpr (cp ws)
 have a:∀w∈wl ws,w≠[]:=by
  intro w d z;obtain⟨v,e,rfl⟩:=wab.mp d;have:=hw v e;rw[<-aN,z]at this;simp at this
 have:=Et (c:=c) (GY g) ((dO ws r).mp j) a;rw[show [c]=ch ({#[c]}:Str) from rfl,<-ki b,<-aT,<-aT,<-dO,<-dO]at this;cases f:bears ws (lend ss r++⟨#[c]⟩)<;>cases h:bears ws (r++⟨#[c]⟩)<;>simp[f,h]at this ⊢
theorem ju(h:ch a <:+: ch b)(g:bears ws b=false):bears ws a=false:=(dO ws a).mpr (((dO ws b).mp g).sub h)
end
end Bs
namespace L2
open PySem PySem.Spec PyProof.Rows
section
variable{X:Cx}
theorem rV:dj X (.type "range") (λxs H Q=>∃j:Int,xs=[.int j]/\∀p,H p=none->Q (.ref p) (upd H p (.rng 0 j))):=by
 intro a s σ H xs c Q I r h;obtain⟨j,rfl,q⟩:=h;obtain⟨u,rfl,t,rfl⟩:=vals1 r;refine call_range_1 {.ref s.heap.objs.size,_,I.laid (λb ob q=>wa9 _ q) (waa _) (show bW X.prog X.w _ _ _ (.rng 0 j) from {_,_,_,wat _ rfl}),rfl,q _ (I.b7.fresh (waa _))}
theorem uK(hc:X.calm=true):dj X (.type "list") (λxs H Q=>∃(p:Addr) (n:Nat),xs=[.ref p]/\H p=some (.rng 0 (n:Int))/\n<=sizeLine/\∀l,H l=none->Q (.ref l) (upd H l (.lst ((wao n).map λi=>V.int (i:Nat))))):=by
 intro m s σ H xs b Q I r h;obtain⟨p,n,rfl,x,hn,q⟩:=h;obtain⟨u,rfl,y⟩:=vals1 r;cases y;obtain⟨t,u,v,e⟩:=I.b7 p _ x;have f:n<=2^24:=by rw[wc4]at hn;lia
 refine call_list_range (I.ok.hd hc) (n:=n) (show IsRange s.heap p 0 (n:Int) 1 t u v from e) (small_one (by lia) (by lia) (by lia) (by lia)) (by rw[wgT];split<;>lia) f λg z d c kp A a=>?_
 have B:∀(b:List Value) (k:Nat),(∀(j:Nat) (u:Value),b[j]?=some u->∃t,u=.int ((k+j:Nat):Int) t)->Vals ((weY k b.length).map λi=>V.int (i:Nat)) b:=by
  intro b
  induction b with
  |nil=>intro k _;exact .nil
  |cons u b C=>
   intro k h;obtain⟨t,e⟩:=h 0 u rfl;rw[waH,wfH,wau];refine .cons ⟨t,e⟩ (C (k+1) λj u g=>?_);obtain⟨t,e⟩:=h (j+1) u (by simpa using g);exact{t,by rw[e];congr 1;lia}
 have hl:d.toList.length=n:=by rw[wca];exact a.1
 have o:=B d.toList 0 λj u e=>by
  obtain⟨t,D⟩:=a.2 j u (by rw[<-wbW];exact e);exact{t,by rw[D];congr 1;lia}
 rw[hl,<-wgM]at o;refine{.ref s.heap.objs.size,_,I.laid (t':=z) kp (waa _) (show bW X.prog X.w _ g _ (.lst ((wao n).map λi=>V.int (i:Nat))) from {?_,d.toList,c,o,?_}),rfl,q _ (I.b7.fresh (waa _))}
 .rw[wa0,waC];exact hn
 .rw[wcT];exact A
end
noncomputable def Hc(z:Str):It:={λi _=>i<z.cps.size,λi H x H'=>∃T,H T=none/\x=.ref T/\H'=upd H T (.tup [.int (i:Nat),xA z i]),λi _=>z.cps.size<=i}
theorem BV{P:waq}{w:World}{K:wa2}{j:List Expr}{k:Nat}{pos:Pos}(z:Str)(t:Tok)(nm:String)(e it:Addr)(g:e≠it)
 (D:∀A:Around,A.handled=none->Draws P w A it [it] z.cps.size (λi v=>∃c u,z.cps[i]?=some c/\v=.str {#[c]} u) (λi h=>h.IsStrIter it nm z t i)) :
 Turn P w K (.Tuple j k pos) (Hc z) [e,it] e (λi h=>((∃old,IsEnum h e it (i:Nat) old)/\h.IsStrIter it nm z t i)/\i<=z.cps.size) where
 mem:=by simp
 obj:=λi h st b f=>by
  obtain⟨⟨⟨old,a⟩,o,l,hc,hd⟩,_⟩:=st;rcases waK.mp f with rfl |f
  .exact{_,a,λv z=>by
    have T:wee _=wfZ v:=z
    cases T}
  .have B:b=it:=by simpa using f
   subst B;exact{o,l,λv z=>by rw[hd]at z;cases z}
 keep:=λi h R st k=>{{st.1.1.imp λold a=>k e (by simp) _ a,let ⟨o,l,r⟩:=st.1.2;{o,k it (by simp) o l,r}},st.2}
 item:=by
  intro X C hw G hc i m s σ H E I J st L;subst C hw G;obtain⟨⟨⟨old,a⟩,hit⟩,_⟩:=st;have n:i<z.cps.size:=L;refine wfT (D X.A.in1 (I.ok.hd hc)) a hit n g (by simpa using g) λu R U V l p Y Z hk=>?_;obtain⟨c,S,M,rfl⟩:=V
  have ru:RelV (xA z i) (.str {#[c]} S):={S,by
   rw[wcJ,M]
   rfl}
  refine{_,rfl,wdG l λVF N d=>?_};obtain⟨_,O,_⟩:=id hit;have x:e<s.heap.objs.size:=wah a;obtain⟨fr,I1,hn⟩:=uD (y:=.int (i:Nat)) (U+1) I J (λb o h q=>(d.2 b (yL h).1).trans (hk b o (yL h).1 (yL h).2 q)) ((d.2 _ (wcg x)).trans Y) {_,rfl} ru (MF x (wah O));obtain⟨o,Q,r⟩:=p;exact{.ref s.heap.objs.size,_,I1,rfl,⟨s.heap.objs.size,fr,rfl,rfl⟩,{{{_,by simpa using N},{o,(d.2 it (wbu g)).trans Q,r}},n},hn}
 done:=by
   intro X C hw G hc i m s σ H E I J st L;subst C hw G;obtain⟨⟨⟨old,a⟩,hit⟩,hle⟩:=st;have PY:z.cps.size<=i:=L;have B:i=z.cps.size:=by lia
   subst B;obtain⟨g0,g1,g2,g3,g4,g5⟩:=J it (by simp);exact wgi (D X.A.in1 (I.ok.hd hc)) a hit λR eb=>{rfl,I.turned (t':=s.toks) (λb o f e=>eb b o f e) g0 g1 g3 g4 g5}
 self:=λ_ _ _ _ _ st h=>let ⟨⟨⟨_,a⟩,_⟩,_⟩:=st;wcQ a h
section
variable{X:Cx}
def N0(ta:TA):TI:=λσ H R=>ta σ H λvs H1=>∃z,vs=[.str z]/\R (Hc z) H1
theorem A9{g:List Expr}{k:Nat}{j:Pos}{l:Expr}{C:TA}{p pos:Pos}(J:Gl X "enumerate")(T:X.mg "enumerate"=none)(ha:PA X [l] C)(hs:starEach [l] X.env=[(false,eval l X.env)]:=by rfl) :
 PI X (.Tuple g k j) (.Call (.Name "enumerate" p) [l] [] pos) (N0 C):=by
 refine{?_};intro d s σ H R I h;refine Call_ (gi I J T gQ (wbs (bO (ha pos d s σ H _ I h) λQ a ⟨S,B,o,G,L⟩=>?_) hs rfl));obtain⟨z,e,q⟩:=L;subst e;obtain⟨u,rfl,t,rfl⟩:=vals1 G;refine call_enumerate_str λr E hit M kp=>wcQ E ?_;have N:Inv X d σ B {a with heap:=r}:=o.kept (t':=a.toks) kp
 have fin:∀n,(∀A:Around,A.handled=none->Draws X.prog X.w A a.heap.objs.size [a.heap.objs.size] z.cps.size (λi v=>∃c u,z.cps[i]?=some c/\v=.str {#[c]} u) (λi h=>h.IsStrIter a.heap.objs.size n z t i)) ->
  r.IsStrIter a.heap.objs.size n z t 0->Oa X d σ (.Tuple g k j) R (.ref (a.heap.objs.size+1)) {a with heap:=r}:=by
  intro n D f;refine{a.heap.objs.size+1,[a.heap.objs.size+1,a.heap.objs.size],_,_,B,rfl,N,BV z t n _ _ (wcg (wbL _)) D,{{{_,E},f},waz _},λb x=>?_,q}
  have m:a.heap.objs.size<=b:=by
   rcases waK.mp x with rfl |x
   .exact wc5 _
   .have O:b=a.heap.objs.size:=by simpa using x
    subst O;exact waa _
  exact o.yw m (o.b7.fresh m)
 cases ha:z.cps.all (· < 128)
 .exact fin "str_iterator" (λA y=>Draws.strWide y _ z t) (by simpa [strIterType,ha] using hit)
 .exact fin "str_ascii_iterator" (λA y=>Draws.strAscii y _ z t) (by simpa [strIterType,ha] using hit)
end
theorem xO{z:Str}{g:TG}{C:TS}{D:Ends}{σ:St}{H:Hp}(Pv:Nat->St->Hp->Prop)(h0:Pv 0 σ H)
 (hs:∀i c σ H T,(Bs.ch z)[i]?=some c->Pv i σ H->H T=none->g (.ref T) σ (upd H T (.tup [.int (i:Nat),.str {#[c]}])) λj t=>C (D.lp (Pv (i+1))) j t) (hd:∀σ H,Pv z.length σ H->D.nx σ H) :
 ∃W:Nat->Nat->St->Hp->Prop,(∃m,W 0 m σ H)/\∀i m σ H,W i m σ H ->
  ((Hc z).stop i H/\D.nx σ H)\/((Hc z).go i H/\∃N:St->Hp->Prop,(∀l r,N l r->∃I,I<m/\W (i+1) I l r)/\∀x r,(Hc z).ui i H x r->g x σ r λj t=>C (D.lp N) j t):=by
 refine{λi m σ H=>m=z.length-i/\i<=z.length/\Pv i σ H,{z.length,by simp,waz _,h0},?_};rintro i m σ H ⟨rfl,hi,p⟩
 by_cases a:i<z.length
 .refine .inr {a,Pv (i+1),λl r b=>{z.length-(i+1),by lia,rfl,a,b},λx r y=>?_};obtain⟨T,d,f,h⟩:=y;subst f h
  have hc:(Bs.ch z)[i]?=some (z.cps.getD i 0):=by
   have:i<z.cps.size:=a;rw[wbW];simp[this]
  exact hs i _ σ _ T hc p d
 .have e:i=z.length:=by lia
  subst e;exact .inl {waa _,hd σ H p}
end L2
namespace Sx
open PySem L2
theorem Ds:waX "max"=some (.builtin "max"):=∅
theorem yS:waX "range"=some (.type "range"):=∅
end Sx
namespace Sx
open PySem L2 Bs
set_option genInjectivity true in
inductive Thing(H:Hp):V->Prop where
 |flat {v:V} (h:dk v=true):Thing H v
 |lst {a:Addr} {xs:List V} (h:H a=some (.lst xs)) (f:xs.all dk=true):Thing H (.ref a)
 |tup {a:Addr} {xs:List V} (h:H a=some (.tup xs)) (f:xs.all dk=true):Thing H (.ref a)
 |dic {a:Addr} (h:H a=some (.dK [])):Thing H (.ref a)
theorem BW(he:H e=none)(hd:(upd H e g) d=none):d≠e/\H d=none/\del (upd (upd (upd H e g) d o2) e o3) e=upd H d o2:=by grind [a6,ae,yQ,BO,Dq]
section
variable{P:waq}{w:World}{K:wa2}{mg:Str->Option Value}{base:Heap}{f:Addr}{fd:wb6}
end
end Sx
namespace PySem.SeqAt
open AutoSeq1 (wpAny_loadPart')
open MeetsSeq
section
variable{A:Around}{s:Shared}
end
end PySem.SeqAt
namespace L2
open PySem PySem.Spec PyProof.Rows Sx
section
variable{X:Cx}
end
end L2
namespace L2
open PySem PySem.Spec PyProof.Rows
section
variable{X:Cx}
end
theorem Hd(v:V):V.bl (decide (v=v))=V.bl true:=by simp
theorem BX(v:V):V.bl (!decide (v=v))=V.bl false:=by simp
end L2
namespace Bs
open PySem AC
theorem p9(he:("":Str)∈ss)(r:Str):lend ss r∈ss:=by
 rw[<-kh,ki he];exact uJ (kh (k:="").mpr he) _
theorem take_snoc(h:(ch r)[i]?=some c):df r (i+1)=df r i++{#[c]}:=by grind [cb,aT,iQ,waO]
theorem take_zero(r:Str):df r 0="":=cb (by rw[iQ];rfl)
theorem take_all(r:Str):df r r.length=r:=cb (by rw[iQ,<-aN,waG])
theorem Aa(r:Str)(n:Nat):ch (df r n) <:+: ch r:=by rw[iQ];exact(wfG _ _).isInfix
theorem Eu(hw:∀w∈ws,1<=w.length):bears ws ""=false:=by
 refine(dO ws "").mpr λw a hi=>?_;obtain⟨v,b,rfl⟩:=wab.mp a;have d:=hw v b;have c:=hi.length_le;rw[aN]at c;have:(ch ("":Str)).length=0:=rfl
 lia
end Bs
namespace L2
open PySem Bs
theorem JZ(g:ss.Perm (bP ws "" ws))(hw:∀w∈ws,1<=w.length)(j:bears ws r=false) :
 tW ws ss (lend ss r) c=if bears ws (r++{#[c]})=true then .non else .str (lend ss (r++{#[c]})):=by grind [tW,kj,nk]
end L2
namespace Sx
open PySem L2 Bs
theorem kl(g:Str)(b d q:Addr):(BJ g b d q).lookup ("signs":Str)=some (.str g):=by
 rw[<-En,aF,if_neg ∅,<-put3,aF,if_neg ∅,<-put2,aF,if_neg ∅,<-MM,aF,if_pos rfl]
section
variable{P:waq}{w:World}{K:wa2}{mg:Str->Option Value}{base:Heap}{f:Addr}{fd:wb6}
inductive BZ(C:Addr)(vs:List V)(H:Hp)(Q:VK)(dA:XK):Prop
 |mk (x r g ws ss ls) (_:vs=[.ref x,.str r]) (_:aZ C H x g ws ss ls) (_:(∀c∈ch r,c∈ch g)) (_:∀H',a7 H H'->Q .non H')
inductive Ew(C:Addr)(vs:List V)(H:Hp)(Q:VK)(dA:XK):Prop
 |mk (x r g ws ss ls) (_:vs=[.ref x,.str r]) (_:aZ C H x g ws ss ls) (_:(∀c∈ch r,c∈ch g)) (_:bears ws r=false) (_:(∀w∈ws,1<=w.length)) (_:∀H',a7 H H'->Q (.str (lend ss r)) H')
end
end Sx
namespace L2
open PySem PySem.Spec PyProof.Rows
section
variable{X:Cx}
end
end L2
namespace Bs
open PySem
theorem len_app(a b:Str):(a++b).length=a.length+b.length:=by grind [aN,aT]
end Bs
namespace Sx
open PySem L2 Bs
theorem none_of(s:a7 H g)(h:g d=none):H d=none:=by
 cases q:H d with
 |none=>rfl
 |some o=>rw[s _ _ q]at h;cases h
end Sx
namespace Bs
open PySem
end Bs
namespace Sx
open PySem L2 Bs
theorem rW(g:Str)(b d q:Addr):(BJ g b d q).lookup ("barred":Str)=some (.ref b):=by
 rw[<-En,aF,if_neg ∅,<-put3,aF,if_neg ∅,<-put2,aF,if_pos rfl]
end Sx
namespace L2
open PySem
end L2
namespace L2
open PySem PySem.Spec PyProof.Rows
section
variable{P:waq}{w:World}{K:wa2}{mg:Str->Option Value}{base:Heap}{x qual:Str}{st:Stmt}{f:Addr}{fd:wb6}{N ps:List Str}{k:Nat}{sp:Sp}
theorem zV.d7(F:zV K x qual st f fd)
 (l:∀(j:Value) (A:Around) (outer:List Env) (s:Shared) (H:Hp) (vs:List V) (Q:VK) (E:XK),N.Nodup->dJ k (A.deeper (envOfC qual (aH st) s.heap.objs.size f j))->sp vs H Q E ->
   ∃t,tR (uo cP P w K mg base N qual (aH st) f j A outer s H E).L7 (cg st) t/\t (Ends.fn Q) (start N vs) H)
 (a:(aH st).kind=.function:=by rfl) (b:(aH st).isCoroutine=false:=by rfl) (c:(aH st).isGenerator=false:=by rfl) (nd:N.Nodup:=by decide+kernel) (e:N.take ps.length=ps:=by rfl)
 (g:∀x∈ps,(aH st).names.lookup x=some .local\/(aH st).names.lookup x=some .cell:=by decide+kernel) (h:∀y∈(aH st).names,y.2≠.free:=by decide+kernel)
 (len:∀vs H Q E,sp vs H Q E->vs.length=ps.length:=by intro _ _ _ _ h;cases h;subst_vars;rfl):aS P w K mg base cP (k+1) f fd ps sp:=
 F.ok ⟨a,b,c,nd,e,g,h⟩ len λj A outer s H vs Q E=>l j A outer s H vs Q E nd
theorem zV.Ex(F:zV K x qual st f fd)
 (l:∀(j:Value) (A:Around) (outer:List Env) (s:Shared) (H:Hp) (vs:List V) (Q:VK) (E:XK),N.Nodup->dJ k (A.deeper (envOfC qual (aH st) s.heap.objs.size f j))->sp vs H Q E ->
   ∃t,tR (uo (Bh P w) P w K mg base N qual (aH st) f j A outer s H E) (cg st) t/\t (Ends.fn Q) (start N vs) H)
 (a:(aH st).kind=.function:=by rfl) (b:(aH st).isCoroutine=false:=by rfl) (c:(aH st).isGenerator=false:=by rfl) (nd:N.Nodup:=by decide+kernel) (e:N.take ps.length=ps:=by rfl)
 (g:∀x∈ps,(aH st).names.lookup x=some .local\/(aH st).names.lookup x=some .cell:=by decide+kernel) (h:∀y∈(aH st).names,y.2≠.free:=by decide+kernel)
 (len:∀vs H Q E,sp vs H Q E->vs.length=ps.length:=by intro _ _ _ _ h;cases h;subst_vars;rfl):aS P w K mg base (Bh P w) (k+1) f fd ps sp:=
 F.Yh ⟨a,b,c,nd,e,g,h⟩ len λj A outer s H vs Q E=>l j A outer s H vs Q E nd
end
section
variable{X:Cx}
theorem au(F:aS X.prog X.w X.K X.mg X.base cP k f fd ps sp)(a:FnAt X.K X.mg x sm ps f fd)(ha:PA X (e::j) t)(r:dJ k X.A:=by exact dJ.mono (by assumption) ⋯)(C:Gl X x:=by rfl)(l:(x==("__debug__":Str))=false:=by decide)
 (he:starEach (e::j) X.env=(false,eval e X.env)::starEach j X.env:=by rfl) (hpl:(backTo pos (starEach j X.env)).any (·.1)=false:=by rfl):PE X (.Call (.Name x p) (e::j) [] pos) (Lb sp [] E0 t):=
 jY F r C a.g a.F.kp a.b .nil p5 ha l he hpl
theorem ai{i:Nat}{x:Str}{e:Expr}{j:TE}{g:Pos}(he:PE X e j)(l:X.N.Nodup:=by assumption)(hi:X.N[i]?=some x:=by rfl)(p:Loc X.env.scope x:=by first |exact wdW rfl |exact Or.inr rfl)(hs:wc7 e (some (.Name x g)) pos.line X.env=pure false:=by rfl)
 (r:X.fn x=true\/X.env.scope.names.lookup x=some .local:=by first |exact .inl rfl |exact .inr rfl |assumption):PS X (.Assign [.Name x g] e pos) (Jk j (bN i)):=
 G5 l hi p he hs r
theorem ax{i:Nat}{x:Str}(g:X.N.Nodup:=by assumption)(hi:X.N[i]?=some x:=by rfl)(j:Loc X.env.scope x:=by first |exact wdW rfl |exact Or.inr rfl)(l:X.fn x=true\/X.env.scope.names.lookup x=some .local:=by first |exact .inl rfl |exact .inr rfl |assumption):PG X (.Name x pos) (bN i):=
 jW g hi j l
end
section
variable{X:Cx}
theorem km:∀{ns:List Int} {g:List Value},Vals (ns.map V.int) g->∃xs:List (Int×Tok),g=xs.map (λp=>wfX p.1 p.2)/\xs.map (·.1)=ns
 |[],g,r=>by cases r;exact{[],rfl,rfl}
 |n::ns,g,r=>by
  cases r with
  |cons h t=>
   obtain⟨a,rfl⟩:=h;obtain⟨xs,rfl,e⟩:=km t;exact{(n,a)::xs,rfl,by grind}
theorem mc(hc:X.calm=true):dj X (.builtin "sum") (λxs H Q=>∃p ns,xs=[.ref p]/\aL X.K H p (wcZ V.int ns)/\Q (.int ns.sum) H):=by
 intro b s σ H xs j Q I r h;obtain⟨p,ns,rfl,d,q⟩:=h;obtain⟨u,rfl,f⟩:=vals1 r;cases f;obtain⟨a,g,pl,k⟩:=I.list d;obtain⟨c,e,rfl⟩:=km g
 have hl:s.heap.IsList p (intItems c.toArray):=by
  have:intItems c.toArray=a.toArray:=by rw[e];unfold intItems;simp
  rw[this];exact pl.isList
 refine sum_intListG (I.ok.hd hc) hl λl m i hk=>?_;refine{.int _,H,I.kept hk,{i,?_},q};rw[preSum_eq,wbg (by simp)]
end
theorem Inv.freeze{X:Cx}(I:Inv X g σ H s)(e:H d=some (.dK kvs)):∃o,s.heap.get? d=some o/\Inv X g σ (upd H d (.frz o (.dK kvs))) s:=by
 have ok:=I.b7 d _ e;obtain⟨z,y,f,rel,o,h,i,a,j⟩:=id ok;refine{o,a,?_};exact I.write (x:=d) (e:=d) (h':=s.heap) (t':=s.toks) (by rw[e];exact trivial) (.inl rfl) (λb u _ c=>c) {_,a} ⟨a,ok⟩
noncomputable def K0(d:Addr)(o:Obj)(kvs:List (Key×V)):It:={λi H=>H d=some (.frz o (.dK kvs))/\i<kvs.length,λi H x H'=>H'=H/\∃kv,kvs[i]?=some kv/\x=kV kv.1,λi H=>H d=some (.frz o (.dK kvs))/\kvs.length<=i}
theorem jv(d:Addr)(o:Obj)(kvs:List (Key×V)):lS (K0 d o kvs) (λH=>H d=some (.frz o (.dK kvs))) (kvs.map λg=>kV g.1) where
 go:=λi H ok h=>{ok,by rwa[wa0]at h}
 ui:=λi H x a ok h q=>by
  obtain⟨rfl,g,e,rfl⟩:=q;refine{rfl,?_};rw[wa4,e];rfl
 stop:=λH ok=>{ok,by rw[wa0];exact waa _}
theorem He{κ:Type}:∀{kvs:List (κ×V)} {vs:List (κ×Value)},KV kvs vs->∀{i:Nat} {p:κ×V},kvs[i]?=some p->∃q,vs[i]?=some q/\p.1=q.1/\RelV p.2 q.2
 |_,_,.nil,i,p,h=>by simp at h
 |_,_,.cons r t,i,p,h=>by
  cases i with
  |zero=>exact{_,rfl,by have:=wad h;subst this;exact r}
  |succ i=>exact He t h
theorem C0{X:Cx}(I:Inv X g σ H s)(e:H d=some (.frz o (.dK kvs)))(j:o.data=.dict p ep) :
 ∃vs,KV kvs vs/\s.heap.DictAt (bB X.prog X.w) d vs ep:=by
 obtain⟨f,_⟩:=I.b7 d _ e;obtain⟨_,_,vs,rel,h,a,i,b,k,c,l⟩:=kR I.b7 (.inr ⟨o,e⟩);refine{vs,rel,h,a,b,k,?_,l};rw[f]at b;cases b;rw[c]at j;cases j;exact c
theorem Ey{P:waq}{w:World}{K:wa2}{T:Expr}(d it:Addr)(o:Obj)(kvs:List (Key×V))(U:Array DictEntry)(ep:Nat)(J:o.data=.dict U ep):Turn P w K T (K0 d o kvs) [it] it (λi h=>h.IsKeyIter it d i kvs.length ep) where
 mem:=by simp
 obj:=λi h st b j=>by
  have e:b=it:=by grind
  subst e;obtain⟨o,e,c,D⟩:=st;exact{o,e,λv z=>by grind}
 keep:=λi h m st k=>st.at λo e=>k it (by simp) o e
 item:=by
  intro X p hw q hc i a s σ H E I n st r;subst p hw q;obtain⟨u,hi⟩:=r;obtain⟨L,rel,f⟩:=C0 I u J;have G:kvs[i]?=some kvs[i]:=by simp[hi]
  obtain⟨⟨k,v⟩,M,N,_⟩:=He rel G;obtain⟨x,f1,f2,A,B,C⟩:=n it (by simp);rw[rel.length]at st;refine wpAny_pyNext_dict_item st f M λkey m l g sb=>?_;have O:Inv X a σ H {s with heap:=m}:=I.turned (t':=s.toks) (λb o j e=>(sb.2 b j).trans e) x f1 A B C;obtain⟨S,e,c,D⟩:=id g;rw[<-rel.length]at g;refine{key,rfl,xi (s:={s with heap:=m}) e c D ⋯ {kV kvs[i].1,H,O,?_,{rfl,_,G,rfl},g,λb j=>(n b j).1}};have Q:kvs[i].1=k:=N;rw[Q];rcases ck l with⟨i,t,rfl,rfl⟩ |⟨y,t,rfl,rfl⟩
  .exact⟨t,rfl⟩
  .exact⟨t,rfl⟩
 done:=by
   intro X p hw q hc i a s σ H E I n st r;subst p hw q;obtain⟨u,hi⟩:=r;obtain⟨L,rel,f⟩:=C0 I u J;obtain⟨x,f1,f2,A,B,C⟩:=n it (by simp);rw[rel.length]at st hi;exact wpAny_pyNext_dict_end (I.ok.hd hc) st f (by simp;omega) λm R=>{rfl,I.turned (t':=s.toks) (λb o j e=>R b o j e) x f1 A B C}
 self:=λ_ _ _ _ _ st h=>wpAny_pyIter_keyiter st h
section
variable{X:Cx}{tg:Expr}
def Q9(tl:TE):TI:=λσ H R=>tl σ H λx H1=>∃d kvs,x=.ref d/\((H1 d=some (.dK kvs)/\∀o,R (K0 d o kvs) (upd H1 d (.frz o (.dK kvs))))\/∃o,H1 d=some (.frz o (.dK kvs))/\R (K0 d o kvs) H1)
theorem tY{l:Expr}{p:TE}(hl:PE X l p):PI X tg l (Q9 p):=by
 refine{?_};intro a s σ H R I h;refine bO (hl a s σ H _ I h) λv g ⟨x,D,m,t,j⟩=>?_;obtain⟨d,f,e,q⟩:=j;subst e;cases t
 have key:∀{i:Hp} {o:Obj},Inv X a σ i g->i d=some (.frz o (.dK f))->R (K0 d o f) i->wpAny (model X.prog X.w) X.A (pyIter (.ref d)) (Oa X a σ tg R) X.xe g:=λ{i o} c hd u=>by
  obtain⟨E,lo,y,n,G,z,B,j,J,r,L⟩:=kR c.b7 (.inr ⟨o,hd⟩);obtain⟨C,_⟩:=c.b7 d _ hd;rw[C]at j;cases j;obtain⟨M,rel,k⟩:=C0 c hd r;refine wpAny_pyIter_dict lo k ?_;refine{g.heap.objs.size,[g.heap.objs.size],_,_,i,rfl,c.kept (t':=g.toks) λb o e=>wa9 _ e,Ey d _ o f z B r,{_,wat _ rfl,rfl,by rw[rel.length];rfl},λb N=>?_,u};have e:b=g.heap.objs.size:=by grind
  subst e;exact c.yw (waa _) (c.b7.fresh (waa _))
 rcases q with⟨hd,q⟩ |⟨o,hd,q⟩
 .obtain⟨o,O,c⟩:=m.freeze hd;exact key c a6 (q o)
 .exact key m hd q
end
end L2
namespace L2
open PySem Bs
theorem eA.f{H:Hp}{a:Addr}{o:Obj}{kvs:List (Key×V)}{k:Key}(e:H a=some (.frz o (.dK kvs))):eA H a (kV k) (bF kvs k):=.inl {kvs,k,.inr ⟨o,e⟩,rfl,rfl}
noncomputable def gR(g:Str)(ws ss:List Str)(p:Str):List Str:=(ch g).filterMap λc=>if bears ws (p++{#[c]})=true then none else some (lend ss (p++{#[c]}))
noncomputable def C3(v:V):Bool:=!decide (v=.non)
theorem Ab(ws ss:List Str)(p:Str)(g:List Nat):((g.map (tW ws ss p)).filter C3)=(g.filterMap λc=>if bears ws (p++{#[c]})=true then none else some (lend ss (p++{#[c]}))).map V.str:=by
 induction g with
 |nil=>rfl
 |cons c g a=>
  grind [tW,lend,C3]
theorem C4(g:Str)(ws ss:List Str)(p:Str):(gR g ws ss p).length<=g.length:=by
 unfold gR;have:=we2 (λc=>if bears ws (p++{#[c]})=true then none else some (lend ss (p++({#[c]}:Str)))) (ch g);rw[aN]at this;exact this
theorem C5(he:("":Str)∈ss)(h:t∈gR g ws ss p):t∈ss:=by grind [gR,p9]
noncomputable def i3(g:Str)(ws ss:List Str):Nat->Str->Int
 |0,_=>1
 |n+1,p=>((gR g ws ss p).map (i3 g ws ss n)).sum
noncomputable def qR(f:Str->V)(ks:List Str):List (Key×V):=ks.map λp=>((wal p:Key),f p)
theorem uL(f:Str->V)(h:k∈g):bF (qR f g) (wal k:Key)=some (f k):=by
 induction g with
 |nil=>simp at h
 |cons j g a=>
  by_cases e:j=k
  .subst e;exact cm rfl
  .unfold qR;rw[wau,cn (λz=>e (wcf z))];exact a (by grind)
theorem xP(f:Str->V)(h:k∉g):bF (qR f g) (wal k:Key)=none:=by
 cases q:bF (qR f g) (wal k:Key) with
 |none=>rfl
 |some v=>
  have:=yG q;unfold qR at this;rw[waf]at this;obtain⟨m,a,e⟩:=wab.mp this;have b:m=k:=wcf e;subst b;exact absurd a h
theorem Ac(f:Str->V)(g:List Str):(qR f g).length=g.length:=by unfold qR;rw[wa0]
theorem xQ(f:Str->V)(g:List Str)(k:Str):qR f (g++[k])=qR f g++[((wal k:Key),f k)]:=by unfold qR;rw[wai];rfl
theorem ik{ss:List Str}(nd:ss.Nodup){i:Nat}{p:Str}(h:ss[i]?=some p):p∉ss.take i:=by
 intro b;obtain⟨j,c,a⟩:=wdC.mp b;rw[wfi]at a;rw[wag]at c;have d:=(wa6.mp h).2;have:=(wcl nd).mp (a.trans d.symm)
 lia
noncomputable abbrev N1(g:Str)(ws ss:List Str)(n:Nat):List (Key×V):=qR (λp=>.int (i3 g ws ss n p)) ss
noncomputable def W2(ws ss:List Str)(p:Str):V->V:=λv=>match v with
 |.str z=>tW ws ss p (z.cps.getD 0 0)
 |_=>.non
theorem Ez(g:Str)(ws ss:List Str)(p:Str):(eT g).map (W2 ws ss p)=(ch g).map (tW ws ss p):=by
 unfold eT;rw[waf];rfl
noncomputable def K1(f:Str->Int):V->V:=λv=>match v with
 |.str z=>.int (f z)
 |_=>.non
theorem qS(f:Str->Int)(g:List Str):(g.map V.str).map (K1 f)=(g.map f).map V.int:=by
 rw[waf,waf];rfl
end L2
namespace Sx
open PySem L2 Bs
inductive C6(C:Addr)(vs:List V)(H:Hp)(Q:VK)(dA:XK):Prop
 |mk (x p g ws ss ls) (_:vs=[.ref x,.str p]) (_:aZ C H x g ws ss ls) (_:p∈ss) (_:g.length<=10) (_:∀(l:Addr) (H':Hp),a7 H H'->H l=none->H' l=some (.lst ((gR g ws ss p).map V.str))->Q (.ref l) H')
inductive EA(C:Addr)(vs:List V)(H:Hp)(Q:VK)(dA:XK):Prop
 |mk (x g ws ss ls) (_:vs=[.ref x]) (_:aZ C H x g ws ss ls) (_:g.length<=10) (_:ss.length<=900) (_:∀(d:Addr) (ev:List (Str×Addr)) (H':Hp),a7 H H'->H d=none->H' d=some (.dK (cx ev))->ev.map (·.1)=ss->(∀m∈ev,H' m.2=some (.lst ((gR g ws ss m.1).map V.str)))->(∀m∈ev,H m.2=none)->Q (.ref d) H')
inductive K2(C:Addr)(vs:List V)(H:Hp)(Q:VK)(dA:XK):Prop
 |mk (x n g ws ss ls) (_:vs=[.ref x,.int n]) (_:aZ C H x g ws ss ls) (_:g.length<=10) (_:ss.length<=900) (_:0<=n) (_:n<=100000) (_:∀(l:Addr) (ts:List Addr) (H':Hp),a7 H H'->H l=none->H' l=some (.lst (ts.map V.ref))->ts.length=n.toNat+1->(∀i t,ts[i]?=some t->H' t=some (.dK (N1 g ws ss i)))->Q (.ref l) H')
inductive K3(C:Addr)(vs:List V)(H:Hp)(Q:VK)(dA:XK):Prop
 |mk (x n g ws ss ls) (_:vs=[.ref x,.int n]) (_:aZ C H x g ws ss ls) (_:g.length<=10) (_:ss.length<=900) (_:0<=n) (_:n<=100000) (_:∀H',a7 H H'->Q (.int (i3 g ws ss n.toNat "")) H')
end Sx
namespace L2
open PySem PySem.Spec PyProof.Rows
section
variable{X:Cx}
noncomputable def Yj:OT:=λx y H Q=>∃i j,x=.int i/\y=.int j/\Jm i j/\Q (.int (i*j)) H
theorem Hf:Rv X .Mult Yj:=by
 intro a s σ H x y v u Q I b c h;obtain⟨i,j,d,e,hc,q⟩:=h;subst d;subst e;obtain⟨t,rfl⟩:=b;obtain⟨f,rfl⟩:=c;exact imul_int {.int _,H,I.tok _,{_,rfl},q} hc.ok
end
end L2
namespace Sx
open PySem L2 Bs
inductive Hg(vs:List V)(H:Hp)(Q:VK)(dA:XK):Prop
 |mk (i) (_:vs=[.int i]) (_:Q (.bl true) H)
inductive EB(C:Addr)(vs:List V)(H:Hp)(Q:VK)(dA:XK):Prop
 |mk (x n g ws ss ls) (_:vs=[.ref x,.int n]) (_:aZ C H x g ws ss ls) (_:g.length<=10) (_:0<=n) (_:n<=10) (_:Q (.int ((g.length:Int)^n.toNat)) H)
structure gq(m:Nat)(many wide:Int):Prop where
 a:2<=many
 b:many<=8
 c:1<=wide
 d:wide<=6
 e:(m:Int)^wide.toNat<=64
inductive Ad(C:Addr)(vs:List V)(H:Hp)(Q:VK)(dA:XK):Prop
 |mk (x many wide g ws ss ls) (_:vs=[.ref x,.int many,.int wide]) (_:aZ C H x g ws ss ls) (_:g.length<=10) (_:gq g.length many wide) (_:Q (.bl true) H)
end Sx
namespace L2
open PySem PySem.Spec PyProof.Rows
theorem uM(ns:List Int)(lo hi:Option Int):∃g:List Int,lW (ns.map V.int) lo hi=g.map V.int/\g.length<=ns.length:=by
 refine{_,by unfold lW;rw[<-wek,<-wdH],?_};rw[wag,wb3]
 lia
section
variable{X:Cx}
inductive Tu(K:wa2)(x y:V)(H:Hp)(Q:VK):Prop
 |mk (a b xs ys) (_:x=.ref a) (_:y=.ref b) (_:aL K H a xs) (_:aL K H b ys) (_:xs.all dk=true) (_:ys.all dk=true) (_:Q (.bl (!tF xs ys)) H)
theorem N2(l:X.A.units<wcp):kQ X (wbc .NotEq) (Tu X.K):=by
 intro m s σ H x y v u Q I D E h;obtain⟨a,b,f,g,rfl,rfl,ha,G,J,L,q⟩:=h;cases D;cases E;obtain⟨d,n,o,_⟩:=I.list ha;obtain⟨c,p,r,_⟩:=I.list G;have M:=n.length;have V:=p.length
 by_cases hl:f.length=g.length
 .refine whg (e:=λj=>qJ (f.getD j .non) (g.getD j .non)) o.isList r.isList (by simp only[waB];lia) l (λj N O=>?_) X.prog X.w _ _ ?_
  .have i:j<d.length:=by simpa using N
   have k:j<c.length:=by simpa using O
   have t:f[j]?=some (f.getD j .non):=by rw[wa3];simp[show j<f.length by lia]
   have z:g[j]?=some (g.getD j .non):=by rw[wa3];simp[show j<g.length by lia]
   obtain⟨R,B,S⟩:=n.get t;obtain⟨T,C,U⟩:=p.get z
   have g1:d.toArray[j]=R:=by
    have:d[j]?=some d[j]:=by simp[i]
    rw[this]at B;simpa using wad B
   have g2:c.toArray[j]=T:=by
    have:c[j]?=some c[j]:=by simp[k]
    rw[this]at C;simpa using wad C
   rw[g1,g2];exact yD S U (waR.mp J _ (wa8 t)) (waR.mp L _ (wa8 z))
  .rw[oo hl]at q;refine{.bl _,H,I,rfl,?_};rw[waB,<-M];exact q
 .refine SeqAt.RcNeAt.lists_lengths o.isList r.isList (by simp only[waB,bne_iff_ne];lia) l X.prog X.w _ _ {.bl true,H,I,rfl,?_};rw[zX hl]at q;exact q
theorem EC(hc:X.calm=true):dj X (.builtin "max") (λxs H Q=>∃p ns,xs=[.ref p]/\aL X.K H p (wcZ V.int ns)/\ns≠[]/\∀M,M∈ns->(∀a∈ns,a<=M)->Q (.int M) H):=by
 intro g s σ H xs w Q I r h;obtain⟨p,ns,rfl,i,c,q⟩:=h;obtain⟨u,rfl,k⟩:=vals1 r;cases k;obtain⟨d,l,pl,x⟩:=I.list i;obtain⟨b,e,rfl⟩:=km l
 have hl:s.heap.IsList p (intItems b.toArray):=by
  have:intItems b.toArray=d.toArray:=by grind [intItems]
  rw[this];exact pl.isList
 have f:0<b.toArray.size:=by
  rw[waB];exact whh λz=>c (by grind)
 refine max_intList (I.ok.hd hc) hl f λv y A m hk=>?_;obtain⟨t,rfl⟩:=whE m;obtain⟨B,n⟩:=argBest_gt (numAt b.toArray) (b.toArray.size-1);refine{.int _,H,I.kept hk,⟨t,rfl⟩,q _ ?_ λa ha=>?_}
 .rw[numAt_eq];exact getD_mem (by grind)
 .obtain⟨j,o,rfl⟩:=mem_getD ha;rw[wa0]at o;have:=n j (by grind);rw[numAt_eq]at this;exact this
end
end L2
namespace Bs
open PySem L2
noncomputable def md(st sp n:Nat):List Nat:=(wao n).map λk=>(ch fI).getD ((st+k*sp)%36) 0
theorem Ae{P:Nat->Prop}:∀{ts:List Str},(∀t∈ts,∃c,t={#[c]}/\P c)->(ts.map (·.length)).sum=ts.length
 |[],_=>rfl
 |t::ts,h=>by
  obtain⟨c,rfl,_⟩:=h t (wae ..);rw[wau,wbv,Ae λt a=>h t (wac _ a),waH];show 1+ts.length=_
  lia
noncomputable def K4(st sp:Nat):V->V:=λv=>match v with
 |.int k=>.str {#[(ch fI).getD ((st+k.toNat*sp)%36) 0]}
 |_=>.non
end Bs
namespace Sx
open PySem L2 Bs
inductive Qa(K:wa2)(vs:List V)(H:Hp)(Q:VK)(dA:XK):Prop
 |mk (a:Addr) (ns:List Int) (p:Int) (_:vs=[.ref a,.int p]) (_:aL K H a (ns.map V.int)) (_:∀(c:Int) (H':Hp),a7 H H'->Q (.int c) H')
end Sx
namespace Bs
theorem uN{α:Type}[DecidableEq α]:∀{g l:List α},g.Nodup->(∀k∈g,k∈l)->g.length<=l.length
 |[],l,_,_=>waz _
 |k::g,l,nd,h=>by
  rw[wbH]at nd;have hk:=h k (wae ..);have:=uN (l:=l.erase k) nd.2 λj a=>(List.mem_erase_of_ne (λz=>nd.1 (by rw[<-z];exact a))).mpr (h j (wac _ a));rw[List.length_erase_of_mem hk]at this;have:0<l.length:=List.length_pos_of_mem hk;rw[waH]
  lia
theorem uO{α β:Type}(f:α->List β)(b:Nat):∀(g:List α),(∀c∈g,(f c).length<=b)->(g.flatMap f).length<=g.length*b
 |[],_=>waz _
 |c::g,h=>by
  rw[wec,wa5,waH,Nat.succ_mul];have:=uO f b g λd hd=>h d (wac _ hd);have:=h c (wae ..)
  lia
section
variable{κ:Type}[DecidableEq κ]
end
end Bs
namespace Bs
open PySem L2 AC
variable{ws ss:List Str}
noncomputable def bJ(m:List (Str×Int)):List (Key×V):=m.map λp=>((wal p.1:Key),V.int p.2)
theorem jw(m:List (Str×Int)):(bJ m).length=m.length:=wa0 ..
noncomputable def rX:List (Str×Int)->Str->Option Int
 |[],_=>none
 |(j,u)::m,k=>if j=k then some u else rX m k
theorem eK(k:Str):∀m:List (Str×Int),bF (bJ m) (wal k:Key)=(rX m k).map V.int
 |[]=>rfl
 |(j,u)::m=>by
  unfold rX
  by_cases h:j=k
  .rw[if_pos h,h];exact cm rfl
  .rw[if_neg h,<-eK k m];exact cn (λz=>h (wcf z))
theorem uP:∀{m:List (Str×Int)},k∉m.map (·.1)->rX m k=none
 |[],_=>rfl
 |(j,u)::m,h=>by
  unfold rX;rw[if_neg (λz=>h (by rw[z];exact wae ..))];exact uP λz=>h (wac _ z)
end Bs
namespace L2
open PySem
theorem Af{R:It->Hp->Prop}(h:g d=some (.dK kvs)\/∃o,g d=some (.frz o (.dK kvs)))
 (k:∀o j,j d=some (.frz o (.dK kvs))->(∀c,c≠d->j c=g c)->R (K0 d o kvs) j) :
 (g d=some (.dK kvs)/\∀o,R (K0 d o kvs) (upd g d (.frz o (.dK kvs))))\/∃o,g d=some (.frz o (.dK kvs))/\R (K0 d o kvs) g:=by
 rcases h with h |⟨o,h⟩
 .exact .inl {h,λo=>k o _ a6 λc hc=>ae hc}
 .exact .inr {o,h,k o _ h λc _=>rfl}
end L2
namespace Sx
open PySem L2 Bs
end Sx
namespace L2
open PySem PySem.Spec PyProof.Rows
def kn(K:wa2)(J:It)(l:Addr)(σf:St)(tt:TT)(te:TE)(H:Hp)(Q:Hp->Prop):Prop:=
 ∃W:Nat->Nat->List V->Hp->Prop,(∃m,W 0 m [] (upd H l (.lst [])))/\∀i m ys H2,W i m ys H2->H2 l=some (.lst ys) /\
  ((J.stop i H2/\Q H2)\/(J.go i H2/\ys.length<sizeLine/\∀x H3,J.ui i H2 x H3->∃p a b,x=.ref p/\gA K H3 p [a,b]/\tt (some a::some b::σf) H3 λok H4=>
    if ok=true then te (some a::some b::σf) H4 λy H5=>H5 l=some (.lst ys)/\∃m',m'<m/\W (i+1) m' (ys++[y]) (upd H5 l (.lst (ys++[y])))
    else ∃m',m'<m/\W (i+1) m' ys H4))
def N3(K:wa2)(wi:TI)(ix:List Nat)(tt:TT)(te:TE):TE:=λσ H Q=>wi σ H λJ H1=>∀l,H1 l=none->kn K J l (pick σ ix) tt te H1 (λH2=>Q (.ref l) H2)
section
variable{X:Cx}{pins:List (Addr×Obj)}{σ:St}{H:Hp}{s₂:Shared}{scope:wdc}{x x2:Str}{ys:List Str}{ix:List Nat}{cl:List (Str×Addr)}{fp:List Addr}{L:Addr}
theorem Ag(hc:X.calm=true)(B:bV X scope x ys ix)(g:bV X scope x2 ys ix)(j:x≠x2)(cl L s H ex pn):PG (bI X scope ([x,x2]++ys) cl L s H ex pn) (.Tuple [.Name x p,.Name x2 l] r pt) (G3 X.K 2 (lU (bN 0) (lU (bN 1) G2))):=by
 have c:(relabel scope X.env).names.lookup x=some .local:=wcy B.var;have a:(relabel scope X.env).names.lookup x2=some .local:=wcy g.var
 have b:(x::x2::ys).Nodup:=by
  have:=B.nd;have:=g.nd
  grind
 exact dU hc (aP (jW b rfl (.inl c) (.inr c)) (aP (jW b rfl (.inl a) (.inr a)) cQ))
theorem Ah{K:wa2}{J:It}(h:kn K J l g j r H Q):xB (G3 K 2 (lU (bN 0) (lU (bN 1) G2))) 2 J l g j r H Q:=
 let ⟨W,a,t⟩:=h
 {W,a,λi m ys f w=>let ⟨p,q⟩:=t i m ys f w;{p,q.imp id λ⟨a,b,c⟩=>{a,b,λx k n u y=>by revert n;refine iM 2 _ ?_;exact λ_ _=>let ⟨p,v,d,e,o,s⟩:=c x k y;{p,[v,d],e,o,rfl,v,[d],rfl,d,[],rfl,rfl,{[some v,some d],rfl,rfl},s}}}}
theorem fK(hc:X.calm=true)(B:bV X scope x ys ix)(T:bV X scope x2 ys ix)(g:x≠x2)(hi:PI X (.Tuple [.Name x U,.Name x2 j] kt pt) iter wi)
 (ht:∀cl L s H ex pn,FP (bI X scope (x::x2::ys) cl L s H ex pn) p t) (he:∀cl L s H ex pn,PE (bI X scope (x::x2::ys) cl L s H ex pn) r I)
 (hs:∀v,wbR iter X.env v=pure v:=by intro _;rfl):PE X (.ListComp r [{.Tuple [.Name x U,.Name x2 j] kt pt,iter,p,0}] scope pos) (N3 X.K wi ix t I):=
 uB (C:=λJ l a H Q=>kn X.K J l a t I H Q) (xs:=[x,x2]) hc B (Ag hc B T g) (λ_ _ _ _ _=>Ah) hi ht he hs
end
def b9(H:Hp)(rs:List Addr)(W3:List (List V)):Prop:=rs.length=W3.length/\∀(i:Nat) (r:Addr) (xs:List V),rs[i]?=some r->W3[i]?=some xs->H r=some (.tup xs)
theorem b9.nil(H:Hp):b9 H [] []:={rfl,λi r a h=>by simp at h}
theorem b9.keep(t:b9 H rs g)(k:∀r xs,H r=some (.tup xs)->j r=some (.tup xs)):b9 j rs g:={t.1,λi r xs a b=>k _ _ (t.2 i r xs a b)}
theorem b9.same(t:b9 H rs g)(s:a7 H j):b9 j rs g:=t.keep λr a h=>s _ _ h
theorem b9.snoc(t:b9 H rs g)(h:H r=some (.tup xs)):b9 H (rs++[r]) (g++[xs]):=by
 refine{by rw[wa5,wa5,t.1];rfl,λi a b c d=>?_}
 by_cases hi:i<rs.length
 .rw[waF hi]at c;rw[waF (by rw[<-t.1];exact hi)]at d;exact t.2 i a b c d
 .have e:i=rs.length:=by
   have:=(wa6.mp c).1;rw[wa5,wcn]at this
   lia
  subst e;rw[waE (waa _),wbE]at c;rw[waE (by rw[t.1];exact waa _),t.1,wbE]at d;cases c;cases d;exact h
noncomputable def jx(q:V×V):List V:=[q.1,q.2]
theorem ow{K:wa2}{J:It}{Ok:Hp->Prop}{rs:List Addr}{prs:List (V×V)}{l:Addr}{t:St}{U:TT}{te:TE}{H:Hp}{Q:Hp->Prop}(p:V×V->Bool)(g:V×V->V)(T:lS J Ok (rs.map V.ref))(hT:b9 H rs (prs.map jx))(hl:H l=none)(hz:rs.length<=sizeLine)(C:∀j,a7 H j->Ok j)
 (ht:∀q r I,q∈prs->a7 H r->(∀j,a7 r j->I (p q) j)->U (some q.1::some q.2::t) r I)
 (he:∀q r I,q∈prs->p q=true->a7 H r->(∀j,a7 r j->I (g q) j)->te (some q.1::some q.2::t) r I)
 (hd:∀j,a7 H j->j l=some (.lst ((prs.filter p).map g))->Q j):kn K J l t U te H Q:=by
 have f:rs.length=prs.length:=by rw[hT.1,wa0]
 refine{λi m s d=>m=rs.length-i/\i<=rs.length/\a7 H d/\d l=some (.lst s)/\s=((prs.take i).filter p).map g,{rs.length,by simp,waz _,a7.upd hl,a6,by simp},?_};rintro i m s d ⟨rfl,hi,c,k,n⟩;refine{k,?_}
 by_cases a:i<rs.length
 .refine .inr {T.go i d (C _ c) (by rw[wa0];exact a),?_,λx r y=>?_}
  .rw[n,wa0];refine wbi (wb2 _ _) ?_;rw[wag];omega
  .obtain⟨e,v⟩:=T.ui i d x r (C _ c) (by rw[wa0];exact a) y;subst e;have w:prs[i]?=some prs[i]:=wa1 ();have z:rs[i]?=some rs[i]:=wa1 a;rw[wa4,z]at v;obtain rfl:V.ref rs[i]=x:=wad v;have mem:prs[i]∈prs:=waL _;have A:prs.take (i+1)=prs.take i++[prs[i]]:=by rw[waO,w];rfl
   refine{rs[i],prs[i].1,prs[i].2,rfl,gA.of (c _ _ (hT.2 i rs[i] _ z (by rw[wa4,w];rfl))),ht prs[i] _ _ mem c λD h=>?_}
   cases u:p prs[i] with
   |false=>
    rw[if_neg wan];refine{rs.length-(i+1),(),rfl,a,c.trans h,h _ _ k,?_};rw[A,wbj,n];simp[u]
   |true=>
    rw[if_pos rfl];refine he prs[i] _ _ mem u (c.trans h) λE B=>{B _ _ (h _ _ k),rs.length-(i+1),(),rfl,a,λb o e=>?_,a6,?_}
    .rw[ae (af e hl)];exact B _ _ (h _ _ (c _ _ e))
    .rw[A,wbj,n];simp[u]
 .have e:i=rs.length:=();subst e;refine .inl {?_,hd d c ?_}
  .have:=T.stop d (C _ c);rwa[wa0]at this
  .rw[k,n,f,waG]
theorem ED{K:wa2}{J:It}{Ok:Hp->Prop}{rs:List Addr}{prs:List (V×V)}{l:Addr}{C:St}{tt:TT}{te:TE}{H:Hp}{Q:Hp->Prop}(p:V×V->Bool)(g:V×V->List V)(U:lS J Ok (rs.map V.ref))(hT:b9 H rs (prs.map jx))(hl:H l=none)(hz:rs.length<=sizeLine)(I:∀j,a7 H j->Ok j)
 (ht:∀q t T,q∈prs->a7 H t->(∀j,a7 t j->T (p q) j)->tt (some q.1::some q.2::C) t T)
 (he:∀q t T,q∈prs->p q=true->a7 H t->(∀r j,a7 t j->j r=some (.tup (g q))->T (.ref r) j)->te (some q.1::some q.2::C) t T)
 (hd:∀ys j,a7 H j->j l=some (.lst (ys.map V.ref))->b9 j ys ((prs.filter p).map g)->Q j):kn K J l C tt te H Q:=by
 have h:rs.length=prs.length:=by rw[hT.1,wa0]
 refine{λi m B d=>m=rs.length-i/\i<=rs.length/\a7 H d/\∃ys:List Addr,B=ys.map V.ref/\d l=some (.lst (ys.map V.ref))/\b9 d ys (((prs.take i).filter p).map g),{rs.length,by simp,waz _,a7.upd hl,[],rfl,a6,by simpa using b9.nil _},?_};rintro i m B d ⟨rfl,hi,c,ys,rfl,k,n⟩;refine{k,?_}
 by_cases a:i<rs.length
 .refine .inr {U.go i d (I _ c) (by rw[wa0];exact a),?_,λx t y=>?_}
  .rw[wa0,n.1,wa0];refine wbi (wb2 _ _) ?_;rw[wag];omega
  .obtain⟨e,D⟩:=U.ui i d x t (I _ c) (by rw[wa0];exact a) y;subst e;have E:prs[i]?=some prs[i]:=wa1 ();have G:rs[i]?=some rs[i]:=wa1 a;rw[wa4,G]at D;obtain rfl:V.ref rs[i]=x:=wad D;have mem:prs[i]∈prs:=waL _;have L:prs.take (i+1)=prs.take i++[prs[i]]:=by rw[waO,E];rfl
   refine{rs[i],prs[i].1,prs[i].2,rfl,gA.of (c _ _ (hT.2 i rs[i] _ G (by rw[wa4,E];rfl))),ht prs[i] _ _ mem c λN f=>?_}
   cases u:p prs[i] with
   |false=>
    rw[if_neg wan];refine{rs.length-(i+1),(),rfl,a,c.trans f,ys,rfl,f _ _ k,?_}
    have e:((prs.take (i+1)).filter p).map g=((prs.take i).filter p).map g:=by
     rw[L,wbj];simp[u]
    rw[e];exact n.same f
   |true=>
    rw[if_pos rfl];refine he prs[i] _ _ mem u (c.trans f) λr O s v=>{s _ _ (f _ _ k),rs.length-(i+1),(),rfl,a,λb o e=>?_,ys++[r],by rw[wai];rfl,by rw[a6,wai];rfl,?_}
    .rw[ae (af e hl)];exact s _ _ (f _ _ (c _ _ e))
    .have e:((prs.take (i+1)).filter p).map g=((prs.take i).filter p).map g++[g prs[i]]:=by
      rw[L,wbj];simp[u]
     rw[e];have w:=s _ _ (f _ _ k);refine b9.keep ((n.same (f.trans s)).snoc v) λR M A=>?_;rw[ae (λz=>by rw[z,w]at A;cases A)];exact A
 .have e:i=rs.length:=();subst e;refine .inl {?_,hd ys d c k ?_}
  .have:=U.stop d (I _ c);rwa[wa0]at this
  .rw[h,waG]at n;exact n
theorem Rd.same(h:Rd H a u)(s:a7 H g):Rd g a u:=by
 rcases h with h |⟨o,h⟩
 .exact .inl (s _ _ h)
 .exact .inr {o,s _ _ h}
theorem eA.rd{H:Hp}{a:Addr}{kvs:List (Key×V)}{k:Key}(e:Rd H a (.dK kvs)):eA H a (kV k) (bF kvs k):=.inl ⟨kvs,k,e,rfl,rfl⟩
def N4(tl:TE):TI:=λσ H R=>tl σ H λx H1=>∃d kvs,x=.ref d/\(H1 d=some (.dK kvs)\/∃o,H1 d=some (.frz o (.dK kvs)))/\∀o H',H' d=some (.frz o (.dK kvs))->(∀c,c≠d->H' c=H1 c)->R (K0 d o kvs) H'
theorem Ai{X:Cx}(hl:PE X l g)(r:∀{σ H} {Q p:VK},(∀x j,Q x j->p x j)->g σ H Q->g σ H p:=by intro _ _ _ _ h q;obtain⟨v,e,q⟩:=q;exact{v,e,h _ _ q}):PI X t l (N4 g):=by
 refine{?_};intro c s σ H R I h;refine tY hl c s σ H R I (r (λx j q=>?_) h);obtain⟨d,f,e,a,b⟩:=q;exact{d,f,e,Af a b}
noncomputable def hitsD(kb ka:List (Key×V)):Bool:=ka.all λkv=>match bF kb kv.1 with
 |some y=>qJ kv.2 y
 |none=>false
noncomputable def Tv(ka kb:List (Key×V)):Bool:=ka.length==kb.length&&hitsD kb ka
noncomputable def uQ(kvs:List (Key×V)):Bool:=kvs.all λkv=>dk kv.2
theorem EE(h:uQ kvs=true)(e:bF kvs k=some v):dk v=true:=by
 unfold bF at e
 cases q:kvs.find? λa=>decide (a.1=k) with
 |none=>rw[q]at e;cases e
 |some a=>
  rw[q]at e;have:=waR.mp h a (List.mem_of_find?_eq_some q);cases e;exact this
section
variable{X:Cx}{A:Around}{s:Shared}
theorem uR(r:KV g j)(C:uQ g=true):∀{l:List (Key×V)} {I:List (Key×Value)},KV l I->uQ l=true->wi1 A s j I (hitsD g l)
 |_,_,.nil,_=>.nil
 |_,_,@Paired.cons _ _ _ p q ps c h t,fa=>by
  obtain⟨k,v⟩:=p;obtain⟨d,u⟩:=q;obtain⟨f,i⟩:=h;obtain rfl:k=d:=f;have f1:dk v=true:=waR.mp fa (k,v) (wae ..);have f2:uQ ps=true:=waR.mpr λz m=>waR.mp fa z (wac _ m);have n:=uR r C t f2;have a:=r.val k;unfold hitsD;rw[wf6];show wi1 A s j ((k,u)::c) ((match bF g k with |some y=>qJ v y |none=>false)&&_)
  cases e:bF g k with
  |none=>
   rw[e]at a
   cases b:valueAt j k with
   |none=>exact .miss b
   |some y=>rw[b]at a;exact wb7 a
  |some y=>
   rw[e]at a
   cases b:valueAt j k with
   |none=>rw[b]at a;exact wb7 a
   |some o=>
    rw[b]at a;exact .hit b (yD i a f1 (EE C e)) n
inductive Tw(x y:V)(H:Hp)(Q:VK):Prop
 |mk (a b ka kb) (_:x=.ref a) (_:y=.ref b) (_:Rd H a (.dK ka)) (_:Rd H b (.dK kb)) (_:uQ ka=true) (_:uQ kb=true) (_:Q (.bl (Tv ka kb)) H)
theorem N5(g:X.A.units<wcp):kQ X (wbc .Eq) Tw:=by
 intro c s σ H x y v u Q I f i h;obtain⟨a,b,p,r,rfl,rfl,ha,j,fa,k,q⟩:=h;cases f;cases i;obtain⟨_,l,t,d,m⟩:=kR I.b7 ha;obtain⟨_,n,w,e,o⟩:=kR I.b7 j;refine PySem.W.keq_eq l n m o g (λ_=>uR e k d fa) {.bl _,H,I,rfl,?_};rw[<-d.length,<-e.length];exact q
end
end L2
namespace Bs
open PySem L2
noncomputable def qT(g:Str)(ws ss:List Str)(q:Str×Str):List (Str×Str):=(ch g).filterMap λc=>if bears ws (q.2++{#[c]})=true then none else some (q.1++{#[c]},lend ss (q.2++{#[c]}))
noncomputable def fL(g:Str)(ws ss:List Str)(qs:List (Str×Str)):List (Str×Str):=qs.flatMap (qT g ws ss)
noncomputable def uS(g:Str)(ws ss:List Str)(p:Str):Nat->List (Str×Str)
 |0=>[("",p)]
 |n+1=>fL g ws ss (uS g ws ss p n)
noncomputable def aV(g:Str)(ws ss ls:List Str)(n:Nat)(p:Str):List (Str×Str):=(uS g ws ss p n).filter λq=>decide (q.2∈ls)
theorem C7(g:Str)(ws ss:List Str)(q:Str×Str):(qT g ws ss q).length<=g.length:=by
 unfold qT;have:=we2 (λc=>if bears ws (q.2++{#[c]})=true then none else some (q.1++({#[c]}:Str),lend ss (q.2++({#[c]}:Str)))) (ch g);rw[aN]at this;exact this
theorem rY(g:Str)(ws ss:List Str)(j:List (Str×Str)):(fL g ws ss j).length<=j.length*g.length:=uO _ _ _ λq _=>C7 g ws ss q
theorem pd(g:Str)(ws ss:List Str)(p:Str):∀n,(uS g ws ss p n).length<=g.length^n
 |0=>waa 1
 |n+1=>wak (rY g ws ss _) (by rw[Nat.pow_succ];exact weI _ (pd g ws ss p n))
theorem C8(he:("":Str)∈ss)(h:r∈qT g ws ss q):r.2∈ss/\r.1.length=q.1.length+1:=by
 unfold qT at h;obtain⟨c,_,e⟩:=wdR.mp h;split at e
 .cases e
 .cases e;exact{p9 he _,len_app _ _}
theorem uT(he:("":Str)∈ss)(j:p∈ss):∀n,∀r∈uS g ws ss p n,r.2∈ss/\r.1.length=n
 |0,r,h=>by
  rw[wap.mp h];exact⟨j,rfl⟩
 |n+1,r,h=>by
  obtain⟨q,a,b⟩:=wcG.mp h;have:=C8 he b;have:=(uT he j n q a).2;exact{‹r.2∈ss/\_›.1,by lia}
theorem dC(h:r∈aV g ws ss ls n p):r.2∈ls:=of_decide_eq_true (war.mp h).2
theorem gu(g:Str)(ws ss ls:List Str)(n:Nat)(p:Str):(aV g ws ss ls n p).length<=g.length^n:=wak (wb2 _ _) (pd g ws ss p n)
noncomputable def me(q:Str×Str):List V:=[.str q.1,.str q.2]
noncomputable def pe(q:Str×Str):V×V:=(.str q.1,.str q.2)
theorem Dt(g:List (Str×Str)):(g.map pe).map jx=g.map me:=by
 rw[waf];rfl
structure eE(H:Hp)(l:Addr)(rs:List Addr)(qs:List (Str×Str)):Prop where
 l:H l=some (.lst (rs.map V.ref))
 t:b9 H rs (qs.map me)
theorem eE.same{H g:Hp}{l:Addr}{rs:List Addr}{j:List (Str×Str)}(r:eE H l rs j)(s:a7 H g):eE g l rs j:={s _ _ r.l,r.t.same s}
theorem eE.len{H:Hp}{l:Addr}{rs:List Addr}{g:List (Str×Str)}(r:eE H l rs g):rs.length=g.length:=by rw[r.t.1,wa0]
theorem eE.push{H:Hp}{l:Addr}{rs:List Addr}{g:List (Str×Str)}(R:eE H l rs g){r:Addr}(j:H r=none)(q:Str×Str):eE (upd (upd H r (.tup (me q))) l (.lst (rs.map V.ref++[.ref r]))) l (rs++[r]) (g++[q]):=by
 have hl:(upd H r (.tup (me q))) l=some (.lst (rs.map V.ref)):=a7.upd j _ _ R.l;refine{by rw[a6,wai];rfl,?_};rw[wai];refine b9.keep ((R.t.same (a7.upd j)).snoc a6) λa b h=>?_;rw[ae (λz=>by rw[z,hl]at h;cases h)];exact h
theorem Aj(ls:List Str)(g:List (Str×Str)):((g.map pe).filter λq=>oR q.2 (ls.map V.str)).map jx=(g.filter λq=>decide (q.2∈ls)).map me:=by
 induction g with
 |nil=>rfl
 |cons q g a=>
  have e:oR (pe q).2 (ls.map V.str)=decide (q.2∈ls):=jr q.2 ls;rw[wau]
  by_cases h:q.2∈ls
  .rw[waW (by rw[e];exact decide_eq_true h),waW (by exact decide_eq_true h),wau,wau,a];rfl
  .rw[wb1 (by rw[e];simpa using h),wb1 (by simpa using h),a]
noncomputable def hH(g:Str)(ws ss ls:List Str)(n:Nat)(f:Str->Int)(p:Str):Int:=((aV g ws ss ls n p).map λq=>f q.2).sum
def N6(m:List (Str×Int))(ls:List Str)(f:Str->Int):Prop:=∀p∈ls,rX m p=some (f p)
theorem uU(m:List (Str×Int)):uQ (bJ m)=true:=waR.mpr λa h=>by
 obtain⟨p,_,rfl⟩:=wab.mp h;rfl
theorem qU(h:k∉m.map (·.1))(v:Int):putK (bJ m) (wal k:Key) (.int v)=bJ (m++[(k,v)]):=by
 rw[fH _ (by rw[eK,uP h];rfl)];unfold bJ;rw[wai];rfl
theorem xR{f:Str->Int}:∀{os:List Str},k∈os->rX (os.map λp=>(p,f p)) k=some (f k)
 |[],h=>nomatch h
 |j::os,h=>by
  show (if j=k then some (f j) else rX (os.map λp=>(p,f p)) k)=_
  by_cases e:j=k
  .rw[if_pos e,e]
  .rw[if_neg e];rcases waK.mp h with z |z
   .grind
   .exact xR z
end Bs
namespace Sx
open PySem L2 Bs
inductive Tx(C:Addr)(vs:List V)(H:Hp)(Q:VK)(dA:XK):Prop
 |mk (x p g ws ss ls) (_:vs=[.ref x,.str p]) (_:aZ C H x g ws ss ls) (_:p∈ls) (_:Q .non H)
inductive Hh(C:Addr)(vs:List V)(H:Hp)(Q:VK)(dA:XK):Prop
 |mk (x l rs qs g ws ss ls) (_:vs=[.ref x,.ref l]) (_:aZ C H x g ws ss ls) (_:eE H l rs qs) (_:(∀q∈qs,q.2∈ss/\q.1.length<=100)) (_:qs.length<=100) (_:g.length<=10) (_:∀(l':Addr) (RH:List Addr) (H':Hp),a7 H H'->H l'=none->eE H' l' RH (fL g ws ss qs)->Q (.ref l') H')
inductive Hi(C:Addr)(vs:List V)(H:Hp)(Q:VK)(dA:XK):Prop
 |mk (x:Addr) (p:Str) (n:Nat) (g:Str) (ws ss ls:List Str) (_:vs=[.ref x,.str p,.int (n:Int)]) (_:aZ C H x g ws ss ls) (_:p∈ls) (_:g.length^n<=100) (_:n<=10) (_:2<=g.length) (_:g.length<=10) (_:∀(l':Addr) (RH:List Addr) (H':Hp),a7 H H'->H l'=none->eE H' l' RH (aV g ws ss ls n p)->Q (.ref l') H')
inductive Ak(C:Addr)(vs:List V)(H:Hp)(Q:VK)(dA:XK):Prop
 |mk (x:Addr) (n:Nat) (g:Str) (ws ss ls:List Str) (_:vs=[.ref x,.int (n:Int)]) (_:aZ C H x g ws ss ls) (_:g.length^n<=100) (_:n<=10) (_:2<=g.length) (_:g.length<=10) (_:ss.length<=900) (_:∀(d:Addr) (ev:List (Str×Addr)) (H':Hp),a7 H H'->H d=none->H' d=some (.dK (cx ev))->ev.map (·.1)=ls->(∀m∈ev,H' m.2=some (.lst (((aV g ws ss ls n m.1).map (·.2)).map V.str)))->(∀m∈ev,H m.2=none)->Q (.ref d) H')
inductive Hj(K:wa2)(vs:List V)(H:Hp)(Q:VK)(dA:XK):Prop
 |mk (l d es m f) (_:vs=[.ref l,.ref d]) (_:aL K H l (es.map V.str)) (_:es.length<=1000) (_:Rd H d (.dK (bJ m))) (_:N6 m es f) (_:∀H',a7 H H'->Q (.int ((es.map f).sum)) H')
end Sx
namespace Bs
open PySem L2 AC
section
variable{g:Str}{ws ss ls:List Str}
theorem C9{α:Type}{a b:α->Int}:∀{l:List α},(∀x∈l,a x<=b x)->(l.map a).sum<=(l.map b).sum
 |[],_=>weZ _
 |x::l,h=>by
  rw[wau,wau,wbv,wbv];exact Int.add_le_add (h x (wae ..)) (C9 λy c=>h y (wac _ c))
theorem uV{α:Type}{a:α->Int}{l:List α}(h:∀x∈l,0<=a x):0<=(l.map a).sum:=by
 have:=C9 (a:=λ_=>(0:Int)) (b:=a) h
 have e:∀l:List α,(l.map λ_=>(0:Int)).sum=0:=by
  intro l
  induction l with
  |nil=>rfl
  |cons x l c=>grind
 rw[e]at this;exact this
theorem N7(n:Nat):∀p,0<=i3 g ws ss n p:=by
 induction n with
 |zero=>intro p;show (0:Int)<=1;decide
 |succ n a=>intro p;exact uV λe _=>a e
theorem oy(j:ss.Perm (bP ws "" ws))(hw:∀w∈ws,1<=w.length)(h:p∈ss):bears ws p=false/\lend ss p=p:=by
 have a:("":Str)∈ss:=j.mem_iff.mpr (cp ws);constructor
 .rcases mem_keys.mp (j.mem_iff.mp h) with z |z
  .have:p="":=cb (by rw[z];exact(oq rfl).symm);rw[this];exact Eu hw
  .exact(dO ws p).mpr z.2
 .refine cb ?_;rw[ki a];have b:Q8 ss (ch p)=true:=kh.mpr h;exact GX (js _) (jt b (wfF _))
def FR(g:Str)(ws ss ls:List Str)(many:Int)(n:Nat)(f:Str->Int):Prop:=∀p∈ls,many*f p<=hH g ws ss ls n f p
noncomputable def cE(f:Str->Int)(ls:List Str):List (Str×Int):=ls.map λp=>(p,f p)
theorem qV(f:Str->Int)(ls:List Str):(cE f ls).map (·.1)=ls:=by
 unfold cE;rw[waf];exact List.map_id _
theorem kq(f:Str->Int)(ls:List Str):N6 (cE f ls) ls f:=λp a=>xR a
theorem Lr{f h:Str->Int}:Tv (bJ (cE f ls)) (bJ (cE h ls))=true↔∀p∈ls,f p=h p:=by
 unfold Tv;rw[jw,jw];have e:(cE f ls).length=(cE h ls).length:=by unfold cE;rw[wa0,wa0]
 rw[e,beq_self_eq_true,wel];unfold hitsD;rw[waR];constructor
 .intro q p a;have:=q ((wal p:Key),.int (f p)) (wab.mpr {(p,f p),wab.mpr ⟨p,a,rfl⟩,rfl});have this:(match bF (bJ (cE h ls)) (wal p:Key) with |some y=>qJ (.int (f p)) y |none=>false)=true:=this;rw[eK,kq h ls p a]at this;have this:qJ (.int (f p)) (.int (h p))=true:=this;unfold qJ at this;simpa using this
 .intro q d b;obtain⟨z,c,rfl⟩:=wab.mp b;obtain⟨p,a,rfl⟩:=wab.mp c;show (match bF (bJ (cE h ls)) (wal p:Key) with |some y=>qJ (.int (f p)) y |none=>false)=true;rw[eK,kq h ls p a];show qJ (.int (f p)) (.int (h p))=true;rw[q p a];unfold qJ;simp
noncomputable def mh(g:Str)(ws ss ls:List Str)(many:Int)(n:Nat)(f:Str->Int)(p:Str):Int:=if hH g ws ss ls n f p/many<f p then hH g ws ss ls n f p/many else f p
theorem Hk{n:Nat}{f:Str->Int}(h:∀p∈ls,0<=f p)(p:Str):0<=hH g ws ss ls n f p:=uV λq a=>h _ (dC a)
theorem Ca{f h:Str->Int}(e:∀p∈ls,f p<=h p)(p:Str):hH g ws ss ls n f p<=hH g ws ss ls n h p:=C9 λq a=>e _ (dC a)
theorem Hl(many:Int)(n:Nat)(f:Str->Int)(p:Str):mh g ws ss ls many n f p<=f p:=by
 unfold mh;split<;>lia
theorem Hm{f:Str->Int}(j:2<=many)(h:∀p∈ls,0<=f p):∀p∈ls,0<=mh g ws ss ls many n f p:=λp a=>by
 have b:=wi2 (Hk (g:=g) (ws:=ws) (ss:=ss) (n:=n) h p) (show 0<=many by lia);have c:=h p a;unfold mh;split<;>lia
theorem EF{f h:Str->Int}(l:2<=many)(j:FR g ws ss ls many n f)(e:∀p∈ls,f p<=h p):∀p∈ls,f p<=mh g ws ss ls many n h p:=λp a=>by
 have b:=j p a;have c:=Ca (g:=g) (ws:=ws) (ss:=ss) (n:=n) e p;have d:f p<=hH g ws ss ls n h p/many:=(wgj ()).mpr (by grind);have i:=e p a;unfold mh;split<;>omega
theorem K5{f:Str->Int}(j:2<=many)(e:∀p∈ls,mh g ws ss ls many n f p=f p):FR g ws ss ls many n f:=λp a=>by
 have h:=e p a;unfold mh at h
 have b:f p<=hH g ws ss ls n f p/many:=by
  grind
 have:=(wgj (show 0<many by lia)).mp b;rw[wd0]at this;exact this
theorem N8{f:Str->Int}(j:2<=many)(h0:∀p∈ls,0<=f p)(e:¬∀p∈ls,mh g ws ss ls many n f p=f p):(ls.map λp=>(mh g ws ss ls many n f p).toNat).sum<(ls.map λp=>(f p).toNat).sum:=by
 have b:∀p∈ls,mh g ws ss ls many n f p<=f p:=λp _=>Hl many n f p;have c:=Hm (g:=g) (ws:=ws) (ss:=ss) (n:=n) j h0;generalize mh g ws ss ls many n f=h at e b c
 have key:∀l:List Str,(∀p∈l,h p<=f p/\0<=h p)->(l.map λp=>(h p).toNat).sum<=(l.map λp=>(f p).toNat).sum/\((∃p∈l,h p≠f p)->(l.map λp=>(h p).toNat).sum<(l.map λp=>(f p).toNat).sum):=by
  intro l
  induction l with
  |nil=>intro _;exact{waa _,λ⟨p,a,_⟩=>nomatch a}
  |cons x l i=>
   intro hl;obtain⟨m,k⟩:=i λp a=>hl p (wac _ a);obtain⟨o,r⟩:=hl x (wae ..);rw[wau,wau,wbv,wbv];refine{by lia,λ⟨p,a,d⟩=>?_};rcases waK.mp a with z |z
   .rw[z]at d
    lia
   .have:=k ⟨p,z,d⟩
    lia
 refine(key ls λp a=>{b p a,c p a}).2 ?_;apply wcq;intro q;exact e λp a=>wcq λz=>q ⟨p,a,z⟩
end
end Bs
namespace Sx
open PySem L2 Bs
inductive Hn(C:Addr)(vs:List V)(H:Hp)(Q:VK)(dA:XK):Prop
 |mk (x p n g ws ss ls) (_:vs=[.ref x,.str p,.int n]) (_:aZ C H x g ws ss ls) (_:p∈ss) (_:g.length<=10) (_:ss.length<=900) (_:0<=n) (_:n<=100000) (_:∀H',a7 H H'->Q (.int (i3 g ws ss n.toNat p)) H')
inductive EG(vs:List V)(H:Hp)(Q:VK)(dA:XK):Prop
 |mk (de dw many n o ev f g ws ss ls) (_:vs=[.ref de,.int many,.ref dw]) (_:H de=some (.frz o (.dK (cx ev)))) (_:ev.map (·.1)=ls) (_:(∀m∈ev,H m.2=some (.lst (((aV g ws ss ls n m.1).map (·.2)).map V.str)))) (_:g.length^n<=100) (_:ls.Nodup) (_:ls.length<=900) (_:2<=many) (_:many<=8) (_:Rd H dw (.dK (bJ (cE f ls)))) (_:∀(d:Addr) (H':Hp),a7 H H'->H d=none->H' d=some (.dK (bJ (cE (mh g ws ss ls many n f) ls)))->Q (.ref d) H')
structure nF(g:Str)(ws ss ls:List Str)(many:Int)(n:Nat)(most:Int)(f:Str->Int):Prop where
 nn:∀p∈ls,0<=f p
 le:∀p∈ls,f p<=most
 fit:FR g ws ss ls many n f
 top:∀h:Str->Int,(∀p∈ls,h p<=most)->FR g ws ss ls many n h->∀p∈ls,h p<=f p
inductive K6(C:Addr)(vs:List V)(H:Hp)(Q:VK)(dA:XK):Prop
 |mk (x:Addr) (many:Int) (n:Nat) (most:Int) (g:Str) (ws ss ls:List Str) (_:vs=[.ref x,.int many,.int (n:Int),.int most]) (_:aZ C H x g ws ss ls) (_:2<=g.length) (_:g.length<=10) (_:ss.length<=900) (_:gq g.length many n) (_:0<=most) (_:∀(d:Addr) (f:Str->Int) (H':Hp),a7 H H'->H d=none->H' d=some (.dK (bJ (cE f ls)))->nF g ws ss ls many n most f->Q (.ref d) H')
set_option genInjectivity true in
inductive RJ(g:Str)(ws ss:List Str)(many:Int)(n:Nat)(most:Int):V->Prop where
 |some (k:Nat) (a:1<=k) (b:(k:Int)<=most) (c:i3 g ws ss (k*n) "" < many^k) (d:∀j:Nat,1<=j->j<k->¬i3 g ws ss (j*n) "" < many^j):RJ g ws ss many n most (.int (k:Nat))
 |none (a:∀j:Nat,1<=j->(j:Int)<=most->¬i3 g ws ss (j*n) "" < many^j):RJ g ws ss many n most .non
inductive EH(C:Addr)(vs:List V)(H:Hp)(Q:VK)(dA:XK):Prop
 |mk (x many wide most g ws ss ls) (_:vs=[.ref x,.int many,.int wide,.int most]) (_:aZ C H x g ws ss ls) (_:g.length<=10) (_:ss.length<=900) (_:gq g.length many wide) (_:0<=most) (_:most<=100) (_:∀v H',a7 H H'->RJ g ws ss many wide.toNat most v->Q v H')
end Sx
namespace Bs
open PySem L2
end Bs
namespace L2
open PySem PySem.Spec PyProof.Rows
section
variable{X:Cx}
theorem Cb:dj X (.type "dict") (λxs H Q=>∃d kvs,xs=[.ref d]/\Rd H d (.dK kvs)/\∀l,H l=none->Q (.ref l) (upd H l (.dK kvs))):=by
 intro a s σ H xs n Q I r h;obtain⟨d,kvs,rfl,hd,q⟩:=h;obtain⟨u,rfl,f⟩:=vals1 r;cases f;obtain⟨c,lo,g,rel,i⟩:=kR I.b7 hd;refine kt_call_dict (knd:=bB X.prog X.w) lo i (by rw[<-rel.length];exact c) λp j k=>?_;have m:=(uw (P:=X.prog) (w:=X.w) (H:=H) s.heap I.big);refine{.ref s.heap.objs.size,upd H s.heap.objs.size (.dK kvs),I.laid (t':=s.toks) (λb o e=>?_) (waa _) ⟨c,m.2.1,g,rel,j⟩,rfl,q _ (I.b7.fresh (waa _))};exact k.extBut b o (waw (wah e)) (wa9 _ e)
end
end L2
namespace Bs
open PySem L2
end Bs
namespace Sx
open PySem L2 Bs
end Sx
namespace Bs
open PySem L2
section
variable{g:Str}{ws ss ls:List Str}
end
end Bs
namespace Sx
open PySem L2 Bs
section
variable{g:Str}{ws ss ls:List Str}{many W4 most W6:Int}{n:Nat}{f f':Str->Int}
end
end Sx
namespace Bs
open PySem L2 AC
section
variable{g:Str}{ws ss:List Str}
theorem kr(r:Str):r++("":Str)=r:=cb (by rw[aT,oq (z:="") rfl,waS])
theorem tZ(r:Str):("":Str)++r=r:=cb (by rw[aT,oq (z:="") rfl,wdN])
theorem eL(a b c:Str):a++b++c=a++(b++c):=by grind [cb,aT,waM]
noncomputable def N9(g:Str):Nat->List Str
 |0=>[""]
 |n+1=>(ch g).flatMap λc=>(N9 g n).map λr=>({#[c]}:Str)++r
noncomputable def J9(g:Str):Nat->List Str
 |0=>[""]
 |n+1=>(J9 g n).flatMap λr=>(ch g).map λc=>r++({#[c]}:Str)
theorem u0:∀n,J9 g n=N9 g n
 |0=>rfl
 |1=>by
  show ([""]:List Str).flatMap (λr=>(ch g).map λc=>r++({#[c]}:Str))=(ch g).flatMap λc=>([""]:List Str).map λr=>({#[c]}:Str)++r;rw[List.flatMap_singleton]
  have:∀a:List Nat,(a.map λc=>("":Str)++({#[c]}:Str))=a.flatMap λc=>([""]:List Str).map λr=>({#[c]}:Str)++r:=by
   intro a
   induction a with
   |nil=>rfl
   |cons c a b=>
    grind [tZ,kr]
  exact this _
 |n+2=>by
  show (J9 g (n+1)).flatMap (λr=>(ch g).map λc=>r++({#[c]}:Str))=(ch g).flatMap λc=>(N9 g (n+1)).map λr=>({#[c]}:Str)++r;rw[u0 (n+1)];show ((ch g).flatMap λc=>(N9 g n).map λr=>({#[c]}:Str)++r).flatMap (λr=>(ch g).map λc=>r++({#[c]}:Str))=_;rw[List.flatMap_assoc];congr 1;funext c;rw[<-u0 (n+1)];show _=((J9 g n).flatMap λr=>(ch g).map λc=>r++({#[c]}:Str)).map λr=>({#[c]}:Str)++r;rw[u0 n,List.map_flatMap,List.flatMap_map];congr 1;funext r;rw[waf];refine waZ λd _=>?_;exact eL _ _ _
theorem xS(nd:(ch g).Nodup):∀n,(N9 g n).Nodup
 |0=>wbH.mpr {λz=>(nomatch z),wdt}
 |n+1=>by
  show ((ch g).flatMap λc=>(N9 g n).map λr=>({#[c]}:Str)++r).Nodup;have l:=xS nd n
  have key:∀f:List Nat,f.Nodup->(f.flatMap λc=>(N9 g n).map λr=>({#[c]}:Str)++r).Nodup:=by
   intro f
   induction f with
   |nil=>intro _;exact wdt
   |cons c f i=>
    intro hn;rw[wbH]at hn;rw[wec];refine wfh.mpr {?_,i hn.2,λa ha b m z=>?_}
    .refine List.Pairwise.map _ ?_ l;intro a b j z;have:=congrArg ch z;rw[aT,aT]at this;exact j (cb (List.append_cancel_left this))
    .obtain⟨r,_,rfl⟩:=wab.mp ha;obtain⟨d,hd,k⟩:=wcG.mp m;obtain⟨q,_,rfl⟩:=wab.mp k;have:=congrArg ch z;rw[aT,aT,Gz,Gz]at this
     have e:c=d:=by
      have h:=this;rw[wgw,wgw]at h;exact(wem h).1
     exact hn.1 (by rw[e];exact hd)
  exact key _ nd
end
end Bs
namespace L2
open PySem PySem.Spec PyProof.Rows
section
variable{X:Cx}
theorem K7:Rv X .Add (λx y H Q=>∃i j,x=.str i/\y=.str j/\i.length+j.length<=sizeLine/\Q (.str (i++j)) H):=λa s σ H x y v u Q I b c h=>zL a s σ H x y v u Q I b c h
theorem Ho:Jv X "str.index" (λx xs H Q=>∃z c i,x=.str z/\xs=[.str {#[c]}]/\z.cps.toList[i]?=some c/\(∀j,j<i->z.cps.toList[j]?≠some c)/\Q (.int (i:Nat)) H):=by
 intro l s σ H x xs v B Q I m n h;obtain⟨z,c,i,rfl,rfl,hi,f,q⟩:=h;obtain⟨t,rfl⟩:=m;obtain⟨u,rfl,o,rfl⟩:=n.one
 have uq:∀k,StrLaws.At z {#[c]} z.length k↔z.cps.toList[k]?=some c:=λk=>by
  unfold StrLaws.At;rw[Bs.qQ];constructor
  .rintro⟨g,d⟩
   have a:k<z.cps.toList.length:=by
    have:k+1<=z.length:=g;rw[<-Bs.aN]at this;exact this
   have b:(z.cps.toList.drop k).take 1=[c]:=d;rw[wcr a]at b;rw[wa1 a];exact congrArg some (wem b).1
  .intro g;obtain⟨d,p⟩:=wa6.mp g;refine{?_,?_}
   .have:k<z.length:=by rw[<-Bs.aN];exact d
    show k+1<=z.length
    lia
   .show (z.cps.toList.drop k).take 1=[c];rw[wcr d,p];rfl
 rcases StrLaws.occ_head z ⟨#[c]⟩ 1 (waa _) with⟨_,hn⟩ |⟨j,r,e,y,hk⟩
 .exact absurd ((uq i).mpr hi) (hn i)
 .have A:j=i:=by
   rcases wed j i with w |w |w
   .exact absurd ((uq j).mp y) (f j w)
   .exact w
   .exact absurd ((uq i).mpr hi) (hk i w)
  subst A;exact call_gives wh1 (wgH _ _ _) F.entry_str_index (F.args_str_index_2 _ _) (gives_str_index z {#[c]} t o j r e) {.int _,H,I.tok _,{_,rfl},q}
end
end L2
namespace Bs
open PySem L2
end Bs
namespace Sx
open PySem L2 Bs
end Sx
namespace L2
open PySem PySem.Spec PyProof.Rows
section
variable{X:Cx}
def Qb(i j:Int):Prop:=0<j/\j.natAbs.log2<9000
theorem uW:kQ X (binaryOp .FloorDiv) (rI Qb λi j=>.int (i/j)):=Rw λi j _ _ _ _ _ hc q=>by
 have a:(0:Int)<j:=hc.1;exact floordiv_int (by lia) (by grind) (.inl (PyProof.noPylong_of_log2 hc.2))
end
theorem Al(xs:List V)(k:Nat):lW xs (some (k:Int)) none=xs.drop k:=by
 unfold lW HT.zP;simp only;split
 .lia
 .by_cases h:k<=xs.length
  .rw[show min ((k:Int)).toNat xs.length=k by lia];exact wbg (by rw[wb3];exact waa _)
  .rw[show min ((k:Int)).toNat xs.length=xs.length by lia,wbE,wdu,wbA (by lia)]
theorem K8(xs:List V){i j:Nat}(h:i<=j):lW xs (some (i:Int)) (some (j:Int))=(xs.drop i).take (j-i):=by
 unfold lW HT.zP;simp only;rw[if_neg (by lia),if_neg (by lia)]
 by_cases a:i<=xs.length
 .by_cases b:j<=xs.length
  .rw[show min ((i:Int)).toNat xs.length=i by lia,show min ((j:Int)).toNat xs.length=j by lia]
  .rw[show min ((i:Int)).toNat xs.length=i by lia,show min ((j:Int)).toNat xs.length=xs.length by lia];rw[wbg (by rw[wb3];exact waa _),wbg (by rw[wb3];lia)]
 .rw[show min ((i:Int)).toNat xs.length=xs.length by lia,wbA (waa _),wbA (by lia),List.take_nil,List.take_nil]
end L2
namespace Sx
open PySem L2 Bs
inductive Hq(vs:List V)(H:Hp)(Q:VK)(dA:XK):Prop
 |mk (c:Int) (m:Nat) (_:vs=[.int c,.int (m:Int)]) (_:m<=1000) (_:∀(l:Addr) (xs:List Int) (H':Hp),a7 H H'->H l=none->H' l=some (.lst (xs.map V.int))->xs.length=m->Q (.ref l) H')
inductive K9(K:wa2)(vs:List V)(H:Hp)(Q:VK)(dA:XK):Prop
 |mk (a:Addr) (ns:List Int) (_:vs=[.ref a]) (_:aL K H a (ns.map V.int)) (_:∀(p lw:Addr) (g:Str) (ws:List Str) (H':Hp),a7 H H'->H p=none->H lw=none->H' p=some (.tup [.str g,.ref lw])->H' lw=some (.lst (ws.map V.str))->A2 g->ws.length<=6->(∀w∈ws,yO g w)->Q (.ref p) H')
inductive Ka(K:wa2)(vs:List V)(H:Hp)(Q:VK)(dA:XK):Prop
 |mk (a:Addr) (ns:List Int) (g:Str) (_:vs=[.ref a,.str g]) (_:aL K H a (ns.map V.int)) (_:2<=g.length) (_:g.length<=4) (_:∀(p:Addr) (many wide:Int) (H':Hp),a7 H H'->H p=none->H' p=some (.tup [.int many,.int wide])->gq g.length many wide->Q (.ref p) H')
end Sx
namespace L2
open PySem PySem.Spec PyProof.Rows
noncomputable def Kb(lo c:Int)(n:Nat):It:={λi _=>i<n,λi H x H'=>H'=H/\x=.int (lo+(i:Nat)*c),λi _=>n<=i}
theorem Am(lo c:Int)(n:Nat):lS (Kb lo c n) (λ_=>True) ((wao n).map λi=>V.int (lo+(i:Nat)*c)):=by
 refine{λi H _ hi=>(show i<n by simpa using hi),λi H x b _ hi y=>{y.1,?_},λH _=>?_}
 .have a:i<n:=by simpa using hi
  rw[y.2];simp[a]
 .show n<=_;simp
theorem An{P:waq}{w:World}{K:wa2}{C:Expr}(it:Addr)(lo c:Int)(n:Nat):Turn P w K C (Kb lo c n) [it] it (λi h=>wg7 h it (lo+(i:Nat)*c) ((n:Int)-(i:Nat)) c) where
 mem:=by simp
 obj:=λi h st b d=>by
  have e:b=it:=by simpa using d
  subst e
  exact{_,st,λv z=>by
   have A:wee _=wfZ v:=z
   cases A}
 keep:=λi h g st k=>k it (by simp) _ st
 item:=by
  intro X l hw m hc i a s σ H E I j st p;subst l hw m;obtain⟨q,f1,f2,r,u,x⟩:=j it (by simp);have B:=Walks.range (prog:=X.prog) (w:=X.w) (I.ok.hd hc) it lo c n;refine B.item i s _ _ p st λv g y D f G=>?_;obtain⟨t,rfl⟩:=D;have J:Inv X a σ H {s with heap:=g,toks:=y}:=I.turned (λb o d e=>G b o (by simpa using d) e) q f1 r u x;exact{_,rfl,xi (s:={s with heap:=g,toks:=y}) (n:="range_iterator") f rfl rfl ⋯ {.int (lo+(i:Nat)*c),H,J,⟨t,rfl⟩,⟨rfl,rfl⟩,f,λb d=>(j b d).1}}
 done:=by
   intro X l hw m hc i a s σ H E I j st p;subst l hw m;obtain⟨q,f1,f2,r,u,x⟩:=j it (by simp);exact wg8 (I.ok.hd hc) st (by have:n<=i:=p;lia) λg L=>{rfl,I.turned (t':=s.toks) (λb o d e=>L b o d e) q f1 r u x}
 self:=λ_ _ _ _ _ st h=>wg9 st h
section
variable{X:Cx}{tg:Expr}
end
end L2
namespace Bs
open PySem L2
section
variable{ws ss:List Str}
end
end Bs
namespace Sx
open PySem L2 Bs
end Sx
namespace L2
open PySem PySem.Spec PyProof.Rows
section
variable{M:Model}{A:Around}{E:Value->Shared->Prop}{e C CB:Addr}{nm q:Str}{N:Addr}{bs:List Value}{hdct:Bool}{sn:List Str}{sub:List Value}{ab:Bool}{col:Option Bool}{dd:Option Addr}{k0 k1 k2 k3 k5:Option Value}
theorem rZ{h:Heap}{g:Array wdx}{d:Drawn}{t:Nat}{os:wbV}{p:Obj}{Q:Bool->Shared->Prop}(l:h.get? C=some (wbJ nm q C N bs (oS CB) hdct sn sub ab col dd k0 k1 k2 k3 k5 "ValueError.__new__"))
 (he:h.get? e=some p) (j:p.cls=.ref C) (r:Q true ⟨h,g,d,t,os⟩) :
 wpAny M A (wgN (.ref e) (.ref C)) Q E ⟨h,g,d,t,os⟩:=by
 have a:(wam C::oS CB).contains (.type "BaseException")=true:=by grind
 have b:(wam C::oS CB).contains (.ref C)=true:=by grind
 have f:=tc_notTuple;unfold wgN
 repeat (first |(with_reducible refine wbe he ?_;rw[j]) |with_reducible refine wbe l ?_ |(with_reducible refine wbT l ?_;rw[b]) |(with_reducible refine wbT l ?_;rw[a]) |wp_step)
 exact r
end
section
variable{X:Cx}{CB C:Addr}{Qc x nm:Str}{b:Bool}{body:List Stmt}{tb:FQ}{i jj:Nat}{p1 p2 p3 p4 MY pos:Pos}
theorem Hr{X:Cx}{K:wa2}{o e:Expr}{l:List Expr}{to:TE}{t:TA}{name:Str}{apos g:Pos}{T id:String}{r:V->List V->Hp->VK->Prop}(hK:X.K=K)(pa:wgI T)(slot:Slot T name id)(U:typeOf (.builtin id)=pure (.type "method_descriptor"))(hm:Jv X id r)(ho:PE X o to)(ha:PA X (e::l) t)
 (p:wcA o name X.env (eval o X.env)=eval o X.env:=by rfl)
 (J:((backTo g (starEach (e::l) X.env)).all (λx=>!x.1)&&(backToKw g (wcH [] X.env)).all (λx=>x.1.isSome)
   && decide ((e::l).length+([]:List wdr).length+(if ([]:List wdr).isEmpty then 0 else 1)<30))=true:=by rfl)
 (I:(apos.endLine==g.line)=true:=by rfl) (hs:starEach (e::l) X.env=(false,eval e X.env)::starEach l X.env:=by rfl) (j:(backTo g (starEach l X.env)).any (·.1)=false:=by rfl) :
 PE X (.Call (.Attribute o name apos) (e::l) [] g) (Vw K T r to t):=by
 subst hK;exact hF pa slot U hm ho ha p J I hs j
end
end L2
namespace Bs
open PySem L2
section
variable{g:Str}{ws ss:List Str}
end
end Bs
namespace Sx
open PySem L2 Bs
end Sx
namespace L2
open PySem PySem.Spec PyProof.Rows
section
variable{prog:waq}{w:World}{A:Around}{R:wdd->Shared->Prop}{s:Shared}{d it l t:Addr}{i:Nat}{items:Array Value}
end
section
variable{prog:waq}{w:World}{K:Type}[DecidableEq K]{knd:KeyKind prog w K}{A:Around}{E:Value->Shared->Prop}{s:Shared}{l:Addr}{o:Obj}{items:Array Value}{n:Nat}
end
section
variable{X:Cx}{A:Around}{pins:List (Addr×Obj)}{σ:St}{H:Hp}{d it l:Addr}{ts:List Addr}{ps:List (Key×V)}{R:wdd->Shared->Prop}
end
end L2
namespace Bs
open PySem L2
end Bs
namespace Sx
open PySem L2 Bs
end Sx
namespace L2
open PySem PySem.Spec PyProof.Rows
section
variable{X:Cx}
end
end L2
namespace Bs
open PySem L2
section
variable{g:Str}{ws ss ss':List Str}
end
noncomputable def isInt:V->Bool
 |.int _=>true
 |_=>false
end Bs
namespace Sx
open PySem L2 Bs
end Sx
namespace L2
open PySem PySem.Spec PyProof.Rows
noncomputable def u3:List Expr->Option (List Int)
 |[]=>some []
 |.Constant (.int i) _ _::es=>(u3 es).map (i :: ·)
 |_::_=>none
def Ls:List Int->TA
 |[]=>yz
 |i::is=>rL (tC (.int i)) (Ls is)
theorem pf{X:Cx}:∀{g:List Expr} {is:List Int},u3 g=some is->PA X g (Ls is)
 |[],is,h=>by
  obtain rfl:[]=is:=wad h;exact eC
 |e::g,is,h=>by
  unfold u3 at h;split at h
  .rename_i heq;exact nomatch heq
  .rename_i i j p a heq;cases heq
   cases q:u3 g with
   |none=>rw[q]at h;cases h
   |some b=>
    rw[q]at h;obtain rfl:=wad h;exact a8 aq (pf q)
  .cases h
def uX:List (Int×Int)->TA
 |[]=>yz
 |p::ps=>rL (P7 (rL (tC (.int p.1)) (rL (tC (.int p.2)) yz))) (uX ps)
theorem Kc{X:Cx}{ps:List (Int×Int)}(h:PA X g (uX ps)):PA X (.Tuple [.Constant (.int i) l p,.Constant (.int j) r t] C pt::g) (uX ((i,j)::ps)):=a8 (dX (a8 aq (a8 aq eC))) h
theorem Du{σ:St}:∀{ps:List (Int×Int)} {H Q},(∀g j,a7 H g->j.length=ps.length->(∀(i:Nat) p,ps[i]?=some p->∃q,j[i]?=some (.ref q)/\g q=some (.tup [.int p.1,.int p.2]))->Q j g)->uX ps σ H Q
 |[],H,_,k=>k H [] (a7.refl _) rfl λ_ _ h=>nomatch h
 |_::_,_,_,k=>{(by show 2<=sizeLine;decide),λq f=>Du λg j s e a=>k g (.ref q::j) ((a7.upd f).trans s) (congrArg (· + 1) e) λ
  |0,_,h=>{q,rfl,by cases h;exact s _ _ a6}
  |i+1,p,h=>a i p h}
set_option genInjectivity true in
inductive ku where
 |at (v:V)
 |tup (ds:List ku)
 |lst (ds:List ku)
noncomputable def Nb:V->Bool
 |.non=>true
 |.bl _=>true
 |.int _=>true
 |.str _=>true
 |_=>false
mutual
def bM(K:wa2)(H:Hp):ku->V->Prop
 |.at x,v=>v=x/\Nb x=true
 |.tup ds,v=>∃a xs,v=.ref a/\H a=some (.tup xs)/\bA K H ds xs
 |.lst ds,v=>∃a xs,v=.ref a/\Rd H a (.lst xs)/\bA K H ds xs
def bA(K:wa2)(H:Hp):List ku->List V->Prop
 |[],xs=>xs=[]
 |d::ds,xs=>∃v vs,xs=v::vs/\bM K H d v/\bA K H ds vs
end
section
variable{K:wa2}{H:Hp}
end
section
variable{X:Cx}{pins:List (Addr×Obj)}{σ:St}{H:Hp}{s:Shared}
theorem Ao(n:Nat):(wao n).all (λ_=>true)=true:=by simp
end
end L2
namespace L2
open PySem PySem.Spec PyProof.Rows Sx
section
variable{X:Cx}
theorem Hs(l:X.A.units<wcp):kQ X (wbc .NotEq) (λx y H Q=>x=y/\Thing H x/\(∀a,x=.ref a->H a≠some (.dK []))/\Q (.bl false) H):=by
 intro g s σ H x y v u Q I c d h;obtain⟨rfl,m,nd,q⟩:=h;have fin:EP X g σ Q (.bool false) s:={.bl false,H,I,rfl,q}
 cases m with
 |flat f=>
  cases x with
  |non=>cases c;cases d;exact SeqAt.RcNeAt.none_none _ _ _ _ fin
  |bl b=>cases c;cases d;exact SeqAt.RcNeAt.bool_bool b b _ _ _ _ (by simpa using fin)
  |int b=>obtain⟨t,rfl⟩:=c;obtain⟨i,rfl⟩:=d;exact SeqAt.RcNeAt.int_int b t b i _ _ _ _ (by simpa using fin)
  |str b=>obtain⟨t,rfl⟩:=c;obtain⟨i,rfl⟩:=d;exact SeqAt.RcNeAt.str_str b t b i _ _ _ _ (by simpa using fin)
  |_=>exact absurd (show false=true from f) wan
 |@lst a n ha f=>
  cases c;cases d;obtain⟨k,r,pl,o⟩:=I.list (aL.of (K:=X.K) ha);refine whg (e:=λ_=>true) pl.isList pl.isList rfl l (λj _ _=>wg3 _) X.prog X.w _ _ ?_;rw[Ao];exact fin
 |@tup a n ha f=>
  cases c;cases d;obtain⟨k,r,pl,o⟩:=I.tuple (gA.of (K:=X.K) ha);refine SeqAt.RcNeAt.tuples (e:=λ_=>true) pl pl l (λj _ _=>wg3 _) X.prog X.w _ _ ?_;rw[Ao,beq_self_eq_true];exact fin
 |@dic a ha=>exact absurd ha (nd a rfl)
end
end L2
namespace Bs
open PySem L2 AC
section
variable{g:Str}{ws ss ls:List Str}{p:Str}
noncomputable def ky(ws ss:List Str)(p:Str)(r:Str):Option (Str×Str):=if bears ws (p++r)=true then none else some (r,lend ss (p++r))
theorem Ht(h:bears ws (p++a)=true):ky ws ss p (a++c)=none:=by
 unfold ky;rw[if_pos]
 cases e:bears ws (p++(a++c)) with
 |true=>rfl
 |false=>
  have:=ju (a:=p++a) (b:=p++(a++c)) (by rw[<-eL,aT (p++a) c];exact{[],ch c,by simp}) e;rw[h]at this;cases this
theorem uY{α β:Type}{f:α->Option β}:∀{l:List α},(∀a∈l,f a=none)->l.filterMap f=[]:=by intro l;induction l<;>grind [wae,wac]
theorem xT(l:ss.Perm (bP ws "" ws))(hw:∀w∈ws,1<=w.length)(h:bears ws (p++r)=false):∀j:List Nat,(j.filterMap λc=>if bears ws (lend ss (p++r)++{#[c]})=true then none else some (r++({#[c]}:Str),lend ss (lend ss (p++r)++({#[c]}:Str))))=(j.map λc=>r++({#[c]}:Str)).filterMap (ky ws ss p)
 |[]=>rfl
 |c::j=>by
  rw[wau,wbl,wbl,xT l hw h j]
  have e:(if bears ws (lend ss (p++r)++{#[c]})=true then none else some (r++({#[c]}:Str),lend ss (lend ss (p++r)++({#[c]}:Str))))=ky ws ss p (r++{#[c]}):=by
   unfold ky;rw[kj l h hw,nk l h,eL]
  rw[e]
theorem Ap(j:ss.Perm (bP ws "" ws))(hw:∀w∈ws,1<=w.length):∀L:List Str,fL g ws ss (L.filterMap (ky ws ss p))=(L.flatMap λr=>(ch g).map λc=>r++({#[c]}:Str)).filterMap (ky ws ss p)
 |[]=>rfl
 |r::L=>by
  rw[wec,wgx,<-Ap j hw L,wbl]
  cases h:bears ws (p++r) with
  |true=>
   have e:ky ws ss p r=none:=by unfold ky;rw[if_pos h]
   rw[e,uY (l:=(ch g).map λc=>r++({#[c]}:Str)) λa ha=>by grind [Ht]];rfl
  |false=>
   have e:ky ws ss p r=some (r,lend ss (p++r)):=by unfold ky;rw[if_neg (by rw[h];exact wan)]
   rw[e,<-xT j hw h];exact wec ..
theorem uZ(l:ss.Perm (bP ws "" ws))(hw:∀w∈ws,1<=w.length)(j:p∈ss):∀n,uS g ws ss p n=(J9 g n).filterMap (ky ws ss p)
 |0=>by
  obtain⟨b,a⟩:=oy l hw j;show [(("":Str),p)]=[("":Str)].filterMap (ky ws ss p);have e:ky ws ss p ""=some (("":Str),p):=by unfold ky;rw[kr,a,if_neg (by grind)]
  rw[wbl,e];rfl
 |n+1=>by
  show fL g ws ss (uS g ws ss p n)=((J9 g n).flatMap λr=>(ch g).map λc=>r++({#[c]}:Str)).filterMap (ky ws ss p);rw[uZ l hw j n,Ap l hw]
noncomputable def Kd(ws ss ls:List Str)(p:Str)(r:Str):Option (Str×Str):=if bears ws (p++r)=true then none else if lend ss (p++r)∈ls then some (r,lend ss (p++r)) else none
theorem Cd(l:ss.Perm (bP ws "" ws))(hw:∀w∈ws,1<=w.length)(j:p∈ss)(n:Nat):(J9 g n).filterMap (Kd ws ss ls p)=aV g ws ss ls n p:=by
 unfold aV;rw[uZ l hw j]
 have:∀L:List Str,L.filterMap (Kd ws ss ls p)=(L.filterMap (ky ws ss p)).filter λq=>decide (q.2∈ls):=by
  intro L
  induction L with
  |nil=>rfl
  |cons r L a=>
   rw[wbl,wbl,a];unfold Kd ky
   cases h:bears ws (p++r) with
   |true=>rfl
   |false=>
    rw[if_neg wan,if_neg wan]
    by_cases hl:lend ss (p++r)∈ls
    .rw[if_pos hl,waW (by exact decide_eq_true hl)]
    .rw[if_neg hl,wb1 (by simpa using hl)]
 exact this _
end
end Bs
namespace L2
open PySem Bs
noncomputable def Lv(q:Str×Str):ku:=.tup [.at (.str q.1),.at (.str q.2)]
theorem xU:∀(rs:List Addr) (g:List (Str×Str)),b9 H rs (g.map me)->bA K H (g.map Lv) (rs.map V.ref)
 |[],[],_=>rfl
 |[],_::_,h=>by have:=h.1;simp at this
 |_::_,[],h=>by have:=h.1;simp at this
 |r::rs,q::g,h=>by
  refine{.ref r,rs.map V.ref,rfl,{r,me q,rfl,h.2 0 r (me q) rfl rfl,?_},xU rs g {by have:=h.1;simpa using this,λi a b c d=>h.2 (i+1) a b c d}};exact{.str q.1,[.str q.2],rfl,⟨rfl,rfl⟩,{.str q.2,[],rfl,⟨rfl,rfl⟩,rfl}}
theorem Tz.Bs.eE.rds(R:eE H l rs g):bM K H (.lst (g.map Lv)) (.ref l):={l,_,rfl,.inl R.l,xU rs g R.t}
end L2
namespace Sx
open PySem L2 Bs
end Sx
namespace L2
open PySem PySem.Spec PyProof.Rows Sx
section
variable{X:Cx}
end
theorem bA.qW{K:wa2}{H:Hp}:∀(g:List ku) (ys:List V),g.length=ys.length->(∀(i:Nat) (d:ku) (y:V),g[i]?=some d->ys[i]?=some y->bM K H d y)->bA K H g ys
 |[],[],_,_=>rfl
 |[],_::_,h,_=>by simp at h
 |_::_,[],h,_=>by simp at h
 |d::g,y::ys,h,r=>{y,ys,rfl,r 0 d y rfl rfl,bA.qW g ys (by simpa using h) λi a b c e=>r (i+1) a b c e}
theorem va{Ok:Hp->Prop}{Q:Hp->Prop}(R:Nat->V->Hp->Prop)(C:∀i y I g ys,R i y I->I l=some (.lst ys)->(∀b o,I b=some o->b≠l->g b=some o)->R i y g)(T:lS J Ok xs)(hl:H l=none)(hz:xs.length<=sizeLine)(r:∀p,a7 H p->Ok p)
 (he:∀i x t ys Q',xs[i]?=some x->a7 H t->t l=some (.lst ys)->(∀y p,a7 t p->R i y p->Q' y p)->te (some x::U) t Q')
 (hd:∀ys p,a7 H p->p l=some (.lst ys)->ys.length=xs.length->(∀i y,ys[i]?=some y->R i y p)->Q p):nE J l U wA te H Q:=by
 refine{λi m a g=>m=xs.length-i/\i<=xs.length/\a7 H g/\g l=some (.lst a)/\a.length=i/\∀j y,a[j]?=some y->R j y g,{xs.length,by simp,waz _,a7.upd hl,a6,rfl,λj y h=>by simp at h},?_};rintro i m a g ⟨rfl,hi,f,k,c,B⟩;refine{k,?_}
 by_cases d:i<xs.length
 .refine .inr {T.go i g (r _ f) d,by rw[c];lia,λx t y=>?_};obtain⟨e,D⟩:=T.ui i g x t (r _ f) d y;subst e;unfold wA;dsimp only;rw[if_pos rfl];refine he i x _ a _ D f k λy s u v=>{u _ _ k,xs.length-(i+1),by lia,rfl,d,λb o e=>?_,a6,by rw[wa5,c];rfl,λj z n=>?_}
  .rw[ae (af e hl)];exact u _ _ (f _ _ e)
  .have q:=u _ _ k;have kp:∀b o,s b=some o->b≠l->(upd s l (.lst (a++[y]))) b=some o:=λb o e E=>by rw[ae E];exact e
   by_cases w:j<a.length
   .rw[waF w]at n;exact C j z s _ _ (C j z _ _ _ (B j z n) k λb o e _=>u _ _ e) q kp
   .rw[waE (by lia)]at n
    have A:j-a.length=0:=by
     have:=(wa6.mp n).1;simp at this
     lia
    rw[A]at n;cases n;have:j=i:=by lia
    rw[this];exact C i y s _ _ v q kp
 .have e:i=xs.length:=by lia
  subst e;exact .inl {T.stop g (r _ f),hd a g f k c B}
section
variable{X:Cx}
theorem EI{K:wa2}(J:X.K=K):Jv X "list.index" (λx xs H Q=>∃l g k i,x=.ref l/\xs=[.str k]/\aL K H l (wcZ V.str g)/\g.length<=1000/\g[i]?=some k/\(∀j:Nat,j<i->g[j]?≠some k)/\Q (.int (i:Nat)) H):=by
 subst J;intro A s σ H x xs v Y Q I E G h;obtain⟨l,g,k,i,rfl,rfl,L,M,hi,f,q⟩:=h;cases E;obtain⟨u,rfl,N,rfl⟩:=G.one;obtain⟨a,B,pl,Z⟩:=I.list L;obtain⟨⟨cls,O,data,sl⟩,C,hc,n,hd⟩:=pl.isList;simp only at hc hd;subst hc hd;have c:=B.length;rw[wa0]at c;have R:i<g.length:=(wa6.mp hi).1
 have at_:∀m (b:m<a.length),∃t,a[m]=.str (g[m]'()) t:=λm b=>by
  obtain⟨w,D,S⟩:=B.get (i:=m) (x:=.str (g[m]'())) (by rw[wa4,wa1 ()];rfl);rw[wa1 b]at D;obtain⟨t,rfl⟩:=S;exact{t,wad D}
 refine weF wd7 {_,C,rfl} wfI (wfp _ _)
  (wfJ l a.toArray n O sl (.str k N) (λw=>match w with |.str z _=>z==k |_=>false) i (by simp;omega) () ?_ ?_) {C,λy T=>?_,?_}
 .obtain⟨t,e⟩:=at_ i ();have U:g[i]=k:=(wa6.mp hi).2;simp only[wdD];rw[e,U];simp
 .intro m b o;have p:m<a.length:=by simpa using b
  obtain⟨t,e⟩:=at_ m p;simp only[wdD];rw[e];have d:=f m o;rw[wa1 ()]at d;simp only[beq_eq_false_iff_ne,ne_eq];exact λz=>d (by rw[z])
 .have r:y∈a:=by simpa using T
  obtain⟨m,b,rfl⟩:=wbU r;obtain⟨t,e⟩:=at_ m b;rw[e];exact wgr _ _ _ _
 .exact{.int (i:Nat),H,I.tok _,{_,rfl},q}
end
end L2
namespace L2
open PySem PySem.Spec PyProof.Rows Sx Bs
theorem ph(s:a7 H g)(h:Rd H a o):Rd g a o:=by
 rcases h with e |⟨z,e⟩
 .exact .inl (s _ _ e)
 .exact .inr {z,s _ _ e}
theorem a7.Ke{K:wa2}{H g:Hp}{a:Addr}{xs:List V}(s:a7 H g)(h:gA K H a xs):gA K g a xs:=by
 rcases h with e |e
 .exact .inl (ph s e)
 .exact .inr e
mutual
theorem bM.same{K:wa2}{H g:Hp}(s:a7 H g):∀(d:ku) (v:V),bM K H d v->bM K g d v
 |.at _,_,h=>h
 |.tup c,_,h=>by
  obtain⟨a,b,e,f,hl⟩:=h;exact{a,b,e,s _ _ f,bA.same s c b hl}
 |.lst c,_,h=>by
  obtain⟨a,b,e,f,hl⟩:=h;exact{a,b,e,ph s f,bA.same s c b hl}
theorem bA.same{K:wa2}{H j:Hp}(s:a7 H j):∀(g:List ku) (xs:List V),bA K H g xs->bA K j g xs
 |[],_,h=>h
 |d::g,_,h=>by
  obtain⟨v,a,e,b,hl⟩:=h;exact{v,a,e,bM.same s d v b,bA.same s g a hl}
end
theorem bA.len{K:wa2}{H:Hp}:∀{g:List ku} {xs:List V},bA K H g xs->xs.length=g.length
 |[],xs,h=>by
  have e:xs=[]:=h;subst e;rfl
 |d::g,_,h=>by
  obtain⟨v,a,rfl,_,hl⟩:=h;rw[waH,waH,bA.len hl]
theorem bA.get{K:wa2}{H:Hp}:∀{g:List ku} {xs:List V},bA K H g xs->∀(i:Nat) (x:V),xs[i]?=some x->∃d,g[i]?=some d/\bM K H d x
 |[],_,h,i,x,e=>by
  rw[show _=[] from h]at e;simp at e
 |d::g,_,h,i,x,e=>by
  obtain⟨v,a,rfl,b,hl⟩:=h
  cases i with
  |zero=>grind
  |succ i=>exact bA.get hl i x e
theorem bA.at{K:wa2}{H:Hp}{g:List ku}{xs:List V}(h:bA K H g xs){i:Nat}{d:ku}(e:g[i]?=some d):∃x,xs[i]?=some x/\bM K H d x:=by
 have hi:i<g.length:=(wa6.mp e).1;have a:xs[i]?=some (xs[i]'(by rw[h.len];exact hi)):=wa1 _;obtain⟨c,b,r⟩:=h.get i _ a;rw[e]at b;cases b;exact{_,a,r}
noncomputable def aM(H H':Hp):Hp:=λa=>match H a with
 |none=>H' a
 |some _=>none
theorem cf(H g:Hp):a7 (aM H g) g:=λa o e=>by
 grind [aM]
theorem eM(s:a7 g H):a7 (aM H j) (aM g j):=λa o e=>by
 unfold aM at e ⊢
 cases h:H a with
 |none=>rw[h]at e;rw[none_of s h];exact e
 |some z=>rw[h]at e;cases e
theorem ip(s:a7 g j):a7 (aM H g) (aM H j):=by grind [a7,aM]
theorem bQ(hl:H l=some o)(kp:∀b o,g b=some o->b≠l->j b=some o):a7 (aM H g) (aM H j):=by grind [a7,aM]
theorem bX(h:H a=none)(e:g a=some o):aM H g a=some o:=by
 grind [aM]
theorem vc{K:wa2}{J:It}{Ok:Hp->Prop}{xs:List V}{l:Addr}{t:St}{U:TE}{H:Hp}{Q:Hp->Prop}(p:List ku)(hJ:lS J Ok xs)(hl:H l=none)(hz:xs.length<=sizeLine)(C:p.length=xs.length)(I:∀g,a7 H g->Ok g)
 (he:∀(i:Nat) (x:V) (d:ku) j T,xs[i]?=some x->p[i]?=some d->a7 H j->(∀y g,a7 j g->bM K (aM j g) d y->T y g)->U (some x::t) j T)
 (hd:∀g,a7 H g->bM K (aM H g) (.lst p) (.ref l)->Q g):nE J l t wA U H Q:=by
 refine va (λi y g=>∀d,p[i]?=some d->∃j o,a7 H j/\j l=some o/\bM K (aM j g) d y) ?_ hJ hl hz I (λi x j f T k b c m=>?_) (λf g h n e q=>?_)
 .intro i y v w f r s kp d a;obtain⟨j,o,b,c,r⟩:=r d a;exact{j,o,b,c,bM.same (bQ c kp) d y r}
 .have hi:i<p.length:=by rw[C];exact(wa6.mp k).1
  refine he i x p[i] j _ k (wa1 hi) b λy g h r=>m y g h λd a=>?_;rw[wa1 hi]at a;cases a;exact{j,_,b,c,r}
 .refine hd g h {l,f,rfl,.inl (bX hl n),bA.qW p f (by rw[C,e]) λi d y a u=>?_};obtain⟨j,o,b,c,r⟩:=q i y u d a;exact bM.same (eM b) d y r
theorem jy{K:wa2}{J:It}{Ok:Hp->Prop}{xs:List V}{prs:List (V×V)}{l:Addr}{I:St}{tt:TT}{te:TE}{H:Hp}{Q:Hp->Prop}(p:V×V->Bool)(D:V×V->ku)(hJ:lS J Ok xs)(C:xs.length=prs.length)
 (hT:∀(i:Nat) (q:V×V),prs[i]?=some q->∃r,xs[i]?=some (.ref r)/\gA K H r [q.1,q.2]) (hl:H l=none) (hz:xs.length<=sizeLine) (T:∀t,a7 H t->Ok t)
 (ht:∀q g U,q∈prs->a7 H g->(∀t,a7 g t->U (p q) t)->tt (some q.1::some q.2::I) g U)
 (he:∀q g U,q∈prs->p q=true->a7 H g->(∀y t,a7 g t->bM K (aM g t) (D q) y->U y t)->te (some q.1::some q.2::I) g U)
 (hd:∀t,a7 H t->bM K (aM H t) (.lst ((prs.filter p).map D)) (.ref l)->Q t):kn K J l I tt te H Q:=by
 refine{λi m c s=>m=xs.length-i/\i<=xs.length/\a7 H s/\s l=some (.lst c)/\c.length=((prs.take i).filter p).length/\∀(j:Nat) (d:ku) (y:V),(((prs.take i).filter p).map D)[j]?=some d->c[j]?=some y->∃g o,a7 H g/\g l=some o/\bM K (aM g s) d y,
  {xs.length,by simp,waz _,a7.upd hl,a6,by simp,λj d y h=>by simp at h},?_}
 rintro i m c s ⟨rfl,hi,k,N,f,Z⟩;refine{N,?_}
 by_cases n:i<xs.length
 .have hfl:((prs.take i).filter p).length<=i:=wak (wb2 _ _) (by rw[wag];omega);refine .inr {hJ.go i s (T _ k) n,(),λx g y=>?_};obtain⟨e,hx⟩:=hJ.ui i s x g (T _ k) n y;subst e;have hq:prs[i]?=some prs[i]:=wa1 ();obtain⟨r,A,hr⟩:=hT i _ hq;rw[hx]at A;cases A;have mem:prs[i]∈prs:=waL _;have tk:prs.take (i+1)=prs.take i++[prs[i]]:=by rw[waO,hq];rfl
  refine{r,prs[i].1,prs[i].2,rfl,k.Ke hr,ht prs[i] _ _ mem k λH4 v=>?_}
  have B:∀(j:Nat) (d:ku) (y:V),(((prs.take i).filter p).map D)[j]?=some d->c[j]?=some y->∃g o,a7 H g/\g l=some o/\bM K (aM g H4) d y:=λj d y h1 h3=>by
   obtain⟨O,o,E,h5,R⟩:=Z j d y h1 h3;exact{O,o,E,h5,bM.same (ip v) d y R}
  cases S:p prs[i] with
  |false=>
   rw[if_neg wan];have G:(prs.take (i+1)).filter p=(prs.take i).filter p:=by rw[tk,wbj];simp[S]
   exact{xs.length-(i+1),(),rfl,n,k.trans v,v _ _ N,by rw[G];exact f,by rw[G];exact B}
  |true=>
   rw[if_pos rfl];have G:(prs.take (i+1)).filter p=(prs.take i).filter p++[prs[i]]:=by rw[tk,wbj];simp[S]
   have w:=v _ _ N;refine he prs[i] _ _ mem S (k.trans v) λy O E R=>{E _ _ w,xs.length-(i+1),(),rfl,n,λb o e=>?_,a6,by rw[G,wa5,wa5,f];rfl,λj d z u a=>?_}
   .rw[ae (af e hl)];exact E _ _ (v _ _ (k _ _ e))
   .have kp:∀b o,O b=some o->b≠l->(upd O l (.lst (c++[y]))) b=some o:=λb o e hb=>by rw[ae hb];exact e
    rw[G,wai]at u;have X:(((prs.take i).filter p).map D).length=c.length:=by rw[wa0,f]
    by_cases Y:j<c.length
    .rw[waF ()]at u;rw[waF Y]at a;obtain⟨H6,o,s6,h6,r6⟩:=B j d z u a;exact{H6,o,s6,h6,bM.same ((ip E).trans (bQ h6 kp)) d z r6}
    .rw[waE ()]at u a
     have L:j-c.length=0:=by
      have:=(wa6.mp a).1;simp at this;omega
     rw[X,L]at u;rw[L]at a;cases u;cases a;exact{H4,_,k.trans v,w,bM.same (bQ w kp) _ _ R}
 .have e:i=xs.length:=();subst e;refine .inl {hJ.stop s (T _ k),hd s k {l,c,rfl,.inl (bX hl N),bA.qW _ c ?_ λj d y u hy=>?_}}
  .rw[C,waG]at f;rw[wa0,f]
  .have M:=Z j d y;rw[C,waG]at M;obtain⟨g,o,s3,h3,r3⟩:=M u hy;exact bM.same (eM s3) d y r3
noncomputable def fE(H:Hp)(x:Addr):Hp:=λd=>if d=x then none else H d
theorem gv(h:H d=some o)(hd:d≠x):fE H x d=some o:=by
 unfold fE;rw[if_neg hd];exact h
theorem f7(kp:∀b o,H b=some o->b≠x->g b=some o):a7 (fE H x) g:=λd o e=>by
 unfold fE at e
 by_cases hd:d=x
 .grind
 .grind
theorem Nc(j:H x=some (.ins C g fs))(h:Rd H d o)(l:∀z,o≠.ins C g z)(p:∀a b,HO.frz a b≠.ins C g fs):Rd (fE H x) d o:=by grind [Rd,fE,gv,wad]
theorem yT{K:wa2}{H:Hp}{x C g:Addr}{fs:List (Str×V)}(j:H x=some (.ins C g fs)){d:Addr}{ys:List V}(h:aL K H d ys):aL K (fE H x) d ys:=by
 rcases h with(e |⟨o,e⟩) |e
 .exact .inl (.inl (gv e λz=>by grind))
 .exact .inl (.inr {o,gv e λz=>by grind})
 .exact .inr e
mutual
theorem bM.off{K:wa2}{H:Hp}{x C j:Addr}{fs:List (Str×V)}(g:H x=some (.ins C j fs)):∀(d:ku) (v:V),bM K H d v->bM K (fE H x) d v
 |.at _,_,h=>h
 |.tup c,_,h=>by
  obtain⟨a,b,e,f,hl⟩:=h;exact{a,b,e,gv f (λz=>by grind),bA.off g c b hl}
 |.lst c,_,h=>by
  obtain⟨a,b,e,f,hl⟩:=h;exact{a,b,e,Nc g f (λ_ z=>by cases z) (λ_ _ z=>by cases z),bA.off g c b hl}
theorem bA.off{K:wa2}{H:Hp}{x C l:Addr}{fs:List (Str×V)}(j:H x=some (.ins C l fs)):∀(g:List ku) (xs:List V),bA K H g xs->bA K (fE H x) g xs
 |[],_,h=>h
 |d::g,_,h=>by
  obtain⟨v,a,e,b,hl⟩:=h;exact{v,a,e,bM.off j d v b,bA.off j g a hl}
end
theorem i9{K:wa2}{H:Hp}{d:ku}{v:V}:∀{g:List ku} {xs:List V},bA K H g xs->bM K H d v->bA K H (g++[d]) (xs++[v])
 |[],xs,h,r=>by
  have e:xs=[]:=h;subst e;exact{v,[],rfl,r,rfl}
 |c::g,_,h,r=>by
  obtain⟨v0,a,rfl,b,hl⟩:=h;exact{v0,a++[v],rfl,b,i9 hl r}
end L2
namespace Bs
open PySem L2 Sx
noncomputable def kU(q:Str×Nat):ku:=.tup [.at (.str q.1),.at (.int (q.2:Int))]
noncomputable def bY(qs:List (Str×Nat)):ku:=.lst (qs.map kU)
noncomputable def kz(lns:List (List (Str×Nat))):ku:=.lst (lns.map bY)
noncomputable def se(hs:List Str):ku:=.lst (hs.map λh=>.at (.str h))
noncomputable def nG(ws:List Int):ku:=.lst (ws.map λw=>.at (.int w))
theorem Hu(h:bM K H (se hs) v):∃a,v=.ref a/\aL K H a (hs.map V.str):=by
 obtain⟨a,b,rfl,f,hl⟩:=h;refine{a,rfl,?_}
 have:b=hs.map V.str:=by
  refine wfj λi=>?_
  cases e:b[i]? with
  |none=>
   have:=hl.len;rw[wa0]at this;rw[wco (by rw[wa0];have:=wfq.mp e;lia)]
  |some x=>
   obtain⟨d,hd,r⟩:=hl.get i x e;rw[wa4]at hd ⊢
   cases c:hs[i]? with
   |none=>rw[c]at hd;cases hd
   |some z=>
    rw[c]at hd;cases hd;rw[r.1];rfl
 rw[<-this];exact .inl f
theorem iq(h:bM K H (nG ws) v):∃a,v=.ref a/\aL K H a (ws.map V.int):=by
 obtain⟨a,b,rfl,f,hl⟩:=h;refine{a,rfl,?_}
 have:b=ws.map V.int:=by
  refine wfj λi=>?_
  cases e:b[i]? with
  |none=>
   have:=hl.len;rw[wa0]at this;rw[wco (by rw[wa0];have:=wfq.mp e;lia)]
  |some x=>
   obtain⟨d,hd,r⟩:=hl.get i x e;rw[wa4]at hd ⊢
   cases c:ws[i]? with
   |none=>rw[c]at hd;cases hd
   |some z=>
    rw[c]at hd;cases hd;rw[r.1];rfl
 rw[<-this];exact .inl f
theorem pj(h:H a=some (.lst (hs.map V.str))):bM K H (se hs) (.ref a):=
 {a,_,rfl,.inl h,bA.qW _ _ (by simp) λi d y hd b=>by
   rw[wa4]at hd b
   cases e:hs[i]? with
   |none=>rw[e]at hd;cases hd
   |some z=>rw[e]at hd b;cases hd;cases b;exact⟨rfl,rfl⟩}
theorem jz(h:H a=some (.lst (ws.map V.int))):bM K H (nG ws) (.ref a):=
 {a,_,rfl,.inl h,bA.qW _ _ (by simp) λi d y hd b=>by
   rw[wa4]at hd b
   cases e:ws[i]? with
   |none=>rw[e]at hd;cases hd
   |some z=>rw[e]at hd b;cases hd;cases b;exact⟨rfl,rfl⟩}
noncomputable def eF(q:Str×Nat):V×V:=(.str q.1,.int (q.2:Int))
theorem kA(h:bM K H (bY g) v):∃a xs,v=.ref a/\aL K H a xs/\xs.length=(g.map eF).length/\∀(i:Nat) (q:V×V),(g.map eF)[i]?=some q->∃r,xs[i]?=some (.ref r)/\H r=some (.tup [q.1,q.2]):=by
 obtain⟨a,xs,rfl,j,hl⟩:=h;refine{a,xs,rfl,.inl j,by rw[hl.len,wa0,wa0],λi q b=>?_};rw[wa4]at b
 cases e:g[i]? with
 |none=>rw[e]at b;cases b
 |some z=>
  rw[e]at b;cases b;obtain⟨x,k,r⟩:=hl.at (i:=i) (d:=kU z) (by grind);obtain⟨l,p,rfl,f,m⟩:=r;obtain⟨v1,s,rfl,⟨rfl,_⟩,n⟩:=m;obtain⟨t,c,rfl,⟨rfl,_⟩,o⟩:=n;rw[show c=[] from o]at f;exact⟨l,k,f⟩
theorem mi(g:H r=none)(q:Str×Nat):bM K (aM H (upd H r (.tup [.str q.1,.int (q.2:Int)]))) (kU q) (.ref r):=
 {r,_,rfl,bX g a6,.str q.1,[.int (q.2:Int)],rfl,⟨rfl,rfl⟩,.int (q.2:Int),[],rfl,⟨rfl,rfl⟩,rfl}
noncomputable def sf(a:Addr):List (Str×V):=[("homes",.ref a)]
noncomputable def pk(a b:Addr):List (Str×V):=[("homes",.ref a),("weights",.ref b)]
noncomputable def Ce(a b c:Addr):List (Str×V):=[("homes",.ref a),("weights",.ref b),("lines",.ref c)]
theorem Lw(a:Addr):cO "homes" (.ref a) []=sf a:=rfl
theorem Hv(a b:Addr):cO "weights" (.ref b) (sf a)=pk a b:=by
 show (if ("homes":Str)="weights" then(("homes":Str),V.ref b)::[] else(("homes":Str),V.ref a)::cO "weights" (.ref b) [])=_;rw[if_neg ∅];rfl
theorem Dv(a b c:Addr):cO "lines" (.ref c) (pk a b)=Ce a b c:=by
 show (if ("homes":Str)="lines" then(("homes":Str),V.ref c)::[(("weights":Str),V.ref b)] else(("homes":Str),V.ref a)::(if ("weights":Str)="lines" then(("weights":Str),V.ref c)::[] else(("weights":Str),V.ref b)::cO "lines" (.ref c) []))=_;rw[if_neg ∅,if_neg ∅];rfl
theorem fq(a b c:Addr):(Ce a b c).lookup ("homes":Str)=some (.ref a):=by
 rw[<-Dv,aF,if_neg ∅,<-Hv,aF,if_neg ∅,<-Lw,aF,if_pos rfl]
theorem cI(a b c:Addr):(Ce a b c).lookup ("weights":Str)=some (.ref b):=by
 rw[<-Dv,aF,if_neg ∅,<-Hv,aF,if_pos rfl]
theorem bS(a b c:Addr):(Ce a b c).lookup ("lines":Str)=some (.ref c):=by
 rw[<-Dv,aF,if_pos rfl]
structure cj(K:wa2)(C:Addr)(H:Hp)(x:Addr)(hs:List Str)(ws:List Int)(lns:List (List (Str×Nat))):Prop where
 ex:∃dx a b c,H x=some (.ins C dx (Ce a b c))/\bM K H (se hs) (.ref a)/\bM K H (nG ws) (.ref b)/\bM K H (kz lns) (.ref c)
theorem cj.same(h:cj K C H x hs ws lns)(s:a7 H g):cj K C g x hs ws lns:=by
 obtain⟨d,a,b,c,e,f,i,j⟩:=h;exact{d,a,b,c,s _ _ e,bM.same s _ _ f,bM.same s _ _ i,bM.same s _ _ j}
end Bs
namespace Sx
open PySem L2 Bs
inductive Hw(K:wa2)(vs:List V)(H:Hp)(Q:VK)(dA:XK):Prop
 |mk (v qs) (_:vs=[v]) (_:bM K H (bY qs) v) (_:qs.length<=10000) (_:∀y H',a7 H H'->bM K (aM H H') (bY qs) y->Q y H')
inductive Hx(K:wa2)(C:Addr)(vs:List V)(H:Hp)(Q:VK)(dA:XK):Prop
 |mk (x dx u v w hs ws lns) (_:vs=[.ref x,u,v,w]) (_:H x=some (.ins C dx [])) (_:bM K H (se hs) u) (_:bM K H (nG ws) v) (_:bM K H (kz lns) w) (_:hs.length<=10000) (_:ws.length<=10000) (_:lns.length<=10000) (_:(∀l∈lns,l.length<=10000)) (_:∀a b c H',H' x=some (.ins C dx (Ce a b c))->bM K (aM H H') (se hs) (.ref a)->bM K (aM H H') (nG ws) (.ref b)->bM K (aM H H') (kz lns) (.ref c)->(∀b o,H b=some o->b≠x->H' b=some o)->Q .non H')
end Sx
namespace Bs
open PySem L2 Sx
noncomputable def av(ls:List Str)(f:Str->Int):List Str:=ls.filter λp=>decide (0<f p)
noncomputable def gw(g:Str)(ws ss ls:List Str)(n:Nat)(hs:List Str)(p:Str):List (Str×Nat):=((aV g ws ss ls n p).filter λq=>decide (q.2∈hs)).map λq=>(q.1,hs.idxOf q.2)
noncomputable def bG(g:Str)(ws ss ls:List Str)(n:Nat)(hs:List Str):List (List (Str×Nat)):=hs.map (gw g ws ss ls n hs)
theorem Cg(g:Str)(ws ss ls:List Str)(n:Nat)(hs:List Str)(p:Str):(gw g ws ss ls n hs p).length<=g.length^n:=by
 unfold gw;rw[wa0];exact wak (wb2 _ _) (gu g ws ss ls n p)
theorem si:∀{hs:List Str} {j:Nat} (h:j<hs.length),hs.idxOf hs[j]<=j
 |[],j,h=>absurd h (wcN _)
 |a::hs,0,h=>by
  show (a::hs).idxOf a<=0;rw[wgO];exact waa 0
 |a::hs,j+1,h=>by
  have b:j<hs.length:=by simpa using h
  show (a::hs).idxOf hs[j]<=j+1;rw[wi3];have:=si b
  cases(a==hs[j]) with
  |true=>grind
  |false=>grind
theorem qX{hs:List Str}{k:Str}(h:k∈hs):hs[hs.idxOf k]?=some k/\∀j:Nat,j<hs.idxOf k->hs[j]?≠some k:=by grind [wa1,wad,si]
end Bs
namespace Sx
open PySem L2 Bs
inductive Kf(K:wa2)(C CS:Addr)(vs:List V)(H:Hp)(Q:VK)(dA:XK):Prop
 |mk (x d:Addr) (many:Int) (n:Nat) (m:List (Str×Int)) (f:Str->Int) (g:Str) (ws ss ls:List Str) (_:vs=[.ref x,.int many,.int (n:Int),.ref d]) (_:aZ C H x g ws ss ls) (_:2<=g.length) (_:g.length<=10) (_:ss.length<=900) (_:gq g.length many n) (_:Rd H d (.dK (bJ m))) (_:N6 m ls f) (_:∀(y:Addr) (H':Hp),a7 H H'->cj K CS (aM H H') y (av ls f) ((av ls f).map f) (bG g ws ss ls n (av ls f))->Q (.ref y) H')
end Sx
namespace L2
open PySem PySem.Spec PyProof.Rows Sx
section
variable{X:Cx}
end
end L2
namespace L2
open PySem
theorem yU{X:Cx}(g:X.K=K):dj X (.builtin "isinstance") (λxs H Q=>∃x T t b,xs=[x,.ty T]/\gE K H x t/\wgp K t (.type T)=some b/\Q (.bl b) H):=g ▸ bR
end L2
namespace PySem
section
variable{P:waq}{W0:World}{B:Around}{R:wdd->Shared->Prop}{I:Addr}{fp wr:List Addr}{n:Nat}{Pr:Nat->Value->Prop}{St:Nat->Heap->Prop}
theorem wF(W:Walks P W0 B.in1 I fp wr n Pr St)(bt:Nat->Nat->Bool)(cmp:CmpOf P W0 B.in1 .Gt Pr bt)(S:Addr)(nS:S∉fp)(kw:List (Str×Value)) :
 ∀(k j:Nat) (z:Shared) (best:Value) (c:Nat),n-(j+1)=k->j+1<=n->St (j+1) z.heap->Pr (argBest bt j) best->z.heap.get? S=some {cls:=.type "list",dict:=none,data:=.seq #[best,best] c,slots:=#[]} ->
 (∀v h' tk,Pr (argBest bt (n-1)) v->(∀b o,b∉wr->b≠S->z.heap.get? b=some o->h'.get? b=some o)->R (.ok (.ret v)) {z with heap:=h',toks:=tk}) ->
 codeAny (model P W0) B (.builtin "max.loop" {[.ref I,.none,.ref S],kw}) R z:=by
 have RK:S∉wr:=λh=>nS (W.sub _ h);have nm:(toString "max"++toString ".loop":String)="max.loop":=⋯;intro k
 induction k with
 |zero=>
  intro j z best c hk hj st pb gS fin;have last:j+1=n:=();refine wbI wer ?_;rw[wby wc1 _];show wpAny _ B.in1 (wew (.ref S) >>= _) _ _ z;refine wa7 (wcX gS rfl ?_);show wpAny _ B.in1 (tryCatch (pyNext (.ref I)) _ >>= _) _ _ z;refine wa7 (wbP (W.done z _ _ (last ▸ st) λh' tk kp=>?_));have Lx:=kp S _ RK gS;show wpAny _ B.in1 (whi S (λ_=>#[]) >>= _) _ _ _;refine wa7 (wdk Lx rfl (wa7 (wdq (wax ?_))));exact fin best _ tk (by rw[<-last];exact pb) λb o h1 h2 e=>(waQ _ _ (wbu h2)).trans (kp b o h1 e)
 |succ k ih=>
  intro j z best c hk hj st pb gS fin;have more:j+1<n:=();refine wbI wer ?_;rw[wby wc1 _];show wpAny _ B.in1 (wew (.ref S) >>= _) _ _ z;refine wa7 (wcX gS rfl ?_);show wpAny _ B.in1 (tryCatch (pyNext (.ref I)) _ >>= _) _ _ z;refine wa7 (wbP (W.item (j+1) z _ _ more st λv h' tk hP RL kp=>?_));have Lx:=kp S _ RK gS;show wpAny _ B.in1 (tryCatch (holding [v,v] (richCompare .Gt v best >>= _)) _ >>= _) _ _ _;refine wa7 (wbP (wbp (wa7 (cmp (j+1) (argBest bt j) v best _ _ _ hP pb ?_))));refine wa7 (wbp (wbt (wa7 (wdq (wax ?_)))))
  cases hb:bt (j+1) (argBest bt j) with
  |true=>
   simp only[if_true];refine wa7 (wdk Lx rfl (wa7 (wdq ?_)));rw[nm];refine wax {wcj wc1 _,ih (j+1) _ v _ () more (W.frame _ _ _ RL λb W8 o e=>?_) (by simp only[argBest,hb,if_true];exact hP) (wbD _ Lx rfl) λv' h2 Qe Qf Qg=>?_}
   .exact(waQ _ _ (λh:S=b=>nS (by rw[h];exact W8))).trans e
   .exact fin v' h2 Qe Qf λb o h1 h3 e=>Qg b o h1 h3 ((waQ _ _ (wbu h3)).trans (kp b o h1 e))
  |false=>
   simp only[wbY,if_false];refine wa7 (wdq ?_);rw[nm];refine wax {wcj wc1 _,ih (j+1) _ best c () more RL (by simp only[argBest,hb,wbY,if_false];exact pb) Lx λv' h2 Qe Qf Qg=>?_};exact fin v' h2 Qe Qf λb o h1 h3 e=>Qg b o h1 h3 (kp b o h1 e)
theorem vd(W:Walks P W0 B.in1 I fp wr n Pr St)(bt:Nat->Nat->Bool)(cmp:CmpOf P W0 B.in1 .Gt Pr bt)(S:Addr)(nS:S∉fp)(kw:List (Str×Value))(pos:0<n)(st:St 0 z.heap)(gS:z.heap.get? S=some {cls:=.type "list",dict:=none,data:=.seq #[] c,slots:=#[]})
 (fin:∀v h' tk,Pr (argBest bt (n-1)) v->(∀b o,b∉wr->b≠S->z.heap.get? b=some o->h'.get? b=some o)->R (.ok (.ret v)) {z with heap:=h',toks:=tk}):codeAny (model P W0) B (.builtin "max.loop" {[.ref I,.none,.ref S],kw}) R z:=by
 have RK:S∉wr:=λh=>nS (W.sub _ h);have nm:(toString "max"++toString ".loop":String)="max.loop":=⋯;refine wbI wer ?_;rw[wby wc1 _];show wpAny _ B.in1 (wew (.ref S) >>= _) _ _ z;refine wa7 (wcX gS rfl ?_);show wpAny _ B.in1 (tryCatch (pyNext (.ref I)) _ >>= _) _ _ z;refine wa7 (wbP (W.item 0 z _ _ pos st λv h' tk hP RL kp=>?_));have Lx:=kp S _ RK gS;show wpAny _ B.in1 (whi S (λ_=>#[v,v]) >>= _) _ _ _;refine wa7 (wdk Lx rfl ?_);rw[nm];refine wax {wcj wc1 _,wF W bt cmp S nS kw _ 0 _ v _ rfl pos (W.frame _ _ _ RL λb W8 o e=>?_) hP (wbD _ Lx rfl) λv' h2 Qe Qf Qg=>?_}
 .exact(waQ _ _ (λh:S=b=>nS (by grind))).trans e
 .exact fin v' h2 Qe Qf λb o h1 h3 e=>Qg b o h1 h3 ((waQ _ _ (wbu h3)).trans (kp b o h1 e))
theorem wG(W:Walks P W0 B.in1 I fp wr n Pr St)(S:Addr)(nS:S∉fp)(dv:Value)(Qh:n=0)(st:St 0 z.heap)(gS:z.heap.get? S=some {cls:=.type "list",dict:=none,data:=.seq #[] c,slots:=#[]})
 (fin:∀h' tk,(∀b o,b∉wr->b≠S->z.heap.get? b=some o->h'.get? b=some o)->R (.ok (.ret dv)) {z with heap:=h',toks:=tk}):codeAny (model P W0) B (.builtin "max.loop" {[.ref I,.none,.ref S],[(wcz "default",dv)]}) R z:=by
 refine wbI wer ?_;rw[wby wc1 _];show wpAny _ B.in1 (wew (.ref S) >>= _) _ _ z;refine wa7 (wcX gS rfl ?_);show wpAny _ B.in1 (tryCatch (pyNext (.ref I)) _ >>= _) _ _ z;refine wa7 (wbP (W.done z _ _ (Qh ▸ st) λh' tk kp=>?_));have done:=fin h' tk λb o h1 _ e=>kp b o h1 e
 wp_walk
 exact done
end
section
variable{P:waq}{W0:World}{B:Around}{E:Value->Shared->Prop}{z:Shared}
theorem wH(a v:Value):argsOk "max" {[a],[(wcz "default",v)]}:=by unfold argsOk;kernel_rfl
theorem wI{Q:Value->Shared->Prop}(hh:B.handled=none)(il:z.heap.IsList l (intItems xs))
 (he:xs.size=0->∀h' tk,(∀b o,z.heap.get? b=some o->h'.get? b=some o)->Q dv {z with heap:=h',toks:=tk})
 (hn:0<xs.size->∀v h' tk,(intItems xs)[argBest (λi j=>decide (numAt xs i>numAt xs j)) (xs.size-1)]?=some v->(∀b o,z.heap.get? b=some o->h'.get? b=some o)->Q v {z with heap:=h',toks:=tk}) :
 wpAny (model P W0) B (call (.builtin "max") [.ref l] [(wcz "default",dv)]) Q E z:=by
 have nm:(toString "max"++toString ".loop":String)="max.loop":=⋯;refine wi6 F.kind_max F.plain_max F.entry_max (wH _ _) ?_;show wpAny _ B.in1 (wcL "max" ["key","default"] 0 {[],[(wcz "default",dv)]} >>= _) _ _ z;refine wa7 (whF (show wcL "max" ["key","default"] 0 {[],[(wcz "default",dv)]}=pure [none,some dv] from rfl) ?_);refine wa7 (wax (wa7 (iter_intList il λs₂ e st Yk Qi=>?_)));subst e;refine wa7 (wff ?_);rw[nm];have W:=wfn (prog:=P) (w:=W0) (A:=B.in1) hh z.heap.objs.size l Qi (intItems xs);have nS:(z.heap.push {cls:=.type "list_iterator",data:=.fields #[.ref l,.int 0 0]}).objs.size∉[z.heap.objs.size,l]:=λhm=>wbm _ (Yk _ hm)
 have keep:∀{h':Heap},(∀b o,b∉[z.heap.objs.size]->b≠(z.heap.push {cls:=.type "list_iterator",data:=.fields #[.ref l,.int 0 0]}).objs.size->((z.heap.push {cls:=.type "list_iterator",data:=.fields #[.ref l,.int 0 0]}).push {cls:=.type "list",data:=.seq #[]}).get? b=some o->h'.get? b=some o)->∀b o,z.heap.get? b=some o->h'.get? b=some o:=λ{h'} hk b o e=>by
  have lt:=wah e;refine hk b o (λhm=>?_) (λh=>?_) (wa9 _ (wa9 _ e))
  .rw[wap.mp hm]at lt;exact wbm _ lt
  .rw[wbO]at h;rw[h]at lt;exact absurd (show z.heap.objs.size+1<z.heap.objs.size from lt) (by lia)
 by_cases h0:xs.size=0
 .refine wax {wcj wc1 _,wG W _ nS dv (by simp[intItems,h0]) (W.frame _ _ _ st λb _ o e=>wa9 _ e) (wat _ rfl) λh' tk hk=>?_};exact he h0 h' tk (keep hk)
 .refine wax {wcj wc1 _,vd W _ (CmpOf.ints_gt (numAt xs) (λ_ _=>whE)) _ nS _ (by simp[intItems];lia) (W.frame _ _ _ st λb _ o e=>wa9 _ e) (wat _ rfl) λv h' tk hP hk=>?_};exact hn (by lia) v h' tk (by simpa [intItems] using hP) (keep hk)
end
end PySem
namespace L2
open PySem PySem.Spec PyProof.Rows Sx
section
variable{X:Cx}{e e2:Expr}{te t2:TE}{p kp pos:Pos}
theorem EJ(hc:X.calm=true)(I:Inv X g σ H s)(l:RelV (.int d) v)(C:aL X.K H a (wcZ V.int ns))(h0:ns=[]->Q (.int d) H)(J:∀M,M∈ns->(∀a∈ns,a<=M)->Q (.int M) H) :
 wpAny (model X.prog X.w) X.A (call (.builtin "max") [.ref a] [(wcz "default",v)]) (EP X g σ Q) X.xe s:=by
 obtain⟨f,r,pl,q⟩:=I.list C;obtain⟨c,e,rfl⟩:=km r
 have hl:s.heap.IsList a (intItems c.toArray):=by
  have:intItems c.toArray=f.toArray:=by rw[e];unfold intItems;simp
  rw[this];exact pl.isList
 refine wI (I.ok.hd hc) hl (λh i k hk=>?_) (λh u i k m hk=>?_)
 .have:c=[]:=by
   rw[waB]at h;exact wbB h
  subst this;exact{.int d,H,I.kept hk,l,h0 rfl}
 .obtain⟨t,rfl⟩:=whE m;obtain⟨x,n⟩:=argBest_gt (numAt c.toArray) (c.toArray.size-1);refine{.int _,H,I.kept hk,⟨t,rfl⟩,J _ ?_ λb o=>?_}
  .rw[numAt_eq];exact getD_mem (by rw[wa0];simp only[waB]at *;omega)
  .obtain⟨j,p,rfl⟩:=mem_getD o;rw[wa0]at p;have:=n j (by simp only[waB]at *;omega);rw[numAt_eq]at this;exact this
end
section
variable{X:Cx}{e e2:Expr}{t:TA}{t2:TE}{p kp pos:Pos}
def Qj(K:wa2)(t:TA)(t2:TE):TE:=λσ H Q=>t σ H λvs H1=>t2 σ H1 λy H2=>∃a ns d,vs=[.ref a]/\y=.int d/\aL K H2 a (wcZ V.int ns)/\(ns=[]->Q (.int d) H2)/\(∀M,M∈ns->(∀a∈ns,a<=M)->Q (.int M) H2)
theorem Kg(hc:X.calm=true)(g:Gl X "max")(j:X.mg "max"=none)(ha:PA X [e] t)(hd:PE X e2 t2)(hs:starEach [e] X.env=[(false,eval e X.env)]:=by rfl):PE X (.Call (.Name "max" p) [e] [{some "default",e2,kp}] pos) (Qj X.K t t2):=by
 refine{?_};intro b s σ H Q I h;refine wbx (gi I g j (show waX "max"=some (.builtin "max") from Ds) ?_ ⋯ ⋯);refine wfK (bO (ha pos b s σ H _ I h) λx c ⟨z,f,i,k,l⟩=>?_) (by rw[hs];rfl) (by rw[hs];rfl);refine wex (bO (hd b c σ f _ i l) λv A ⟨y,B,m,n,o⟩=>weJ ?_);obtain⟨a,ns,d,rfl,rfl,q,h0,r⟩:=o;obtain⟨u,rfl,w⟩:=vals1 k;cases w;exact EJ hc m n q h0 r
end
end L2
namespace L2
open PySem PySem.Spec PyProof.Rows Sx Bs
def Kh(K:wa2)(wi:TI)(ix:List Nat)(tt:TT)(te:TE)(i:Nat):TS:=λD σ H=>wi σ H λJ H1=>∀l,H1 l=none->kn K J l (pick σ ix) tt te H1 (λH2=>D.nx (σ.set i (some (.ref l))) H2)
section
variable{X:Cx}{scope:wdc}{x x2:Str}{ys:List Str}{ix:List Nat}
theorem sj(hc:X.calm=true)(B:bV X scope x ys ix)(hN:X.N.Nodup)(hy:X.N[i]?=some y)(t:X.env.scope.names.lookup y=some .local)(B2:bV X scope x2 ys ix)(I:x≠x2)(hi:PI X (.Tuple [.Name x U,.Name x2 g] kt pt) iter wi)
 (ht:∀cl L s H ex pn,FP (bI X scope (x::x2::ys) cl L s H ex pn) j tt) (he:∀cl L s H ex pn,PE (bI X scope (x::x2::ys) cl L s H ex pn) p te)
 (T:wc7 (.ListComp p [{.Tuple [.Name x U,.Name x2 g] kt pt,iter,j,0}] scope pos) (some (.Name y py)) r.line X.env=pure true:=by rfl)
 (hs:∀v,wbR iter X.env v=pure v:=by intro _;rfl):PS X (.Assign [.Name y py] (.ListComp p [{.Tuple [.Name x U,.Name x2 g] kt pt,iter,j,0}] scope pos) r) (Kh X.K wi ix tt te i):=
 rP (C:=λJ l a H Q=>kn X.K J l a tt te H Q) (xs:=[x,x2]) hc B hN hy t (Ag hc B B2 I) (λ_ _ _ _ _=>Ah) hi ht he T hs
inductive Qk(x y:V)(H:Hp)(Q:VK):Prop
 |mk (l b xs zs) (_:x=.ref l) (_:y=.ref b) (_:Rd H l (.lst xs)) (_:Rd H b (.lst zs)) (_:xs.length+zs.length<=sizeLine) (_:∀p,H p=none->Q (.ref p) (upd H p (.lst (xs++zs))))
theorem yV:kQ X (binaryOp .Add) Qk:=by
 intro d s σ H x y v u Q I g i h;obtain⟨l,b,t,w,rfl,rfl,j,k,A,q⟩:=h;cases g;cases i;obtain⟨z,c,n,r,e⟩:=j.ok I.b7;obtain⟨B,a,C,f,m⟩:=k.ok I.b7;have hl:=r.length;have o:=f.length;refine whL e m ?_ (by grind);have p:c.toArray++a.toArray=(c++a).toArray:=by simp
 rw[p];exact{.ref _,_,I.Mw (t':=s.toks) (r.append f) (by grind),rfl,q _ I.fresh}
theorem wJ{K:wa2}(g:X.K=K):dj X (.type "list") (λxs H Q=>∃p ys,xs=[.ref p]/\(aL K H p ys\/gA K H p ys)/\∀l,H l=none->Q (.ref l) (upd H l (.lst ys))):=by
 subst g;exact cW
end
noncomputable def bz{α:Type}(p:Nat->Bool):Nat->List α->List α
 |_,[]=>[]
 |i,x::xs=>if p i then x::bz p (i+1) xs else bz p (i+1) xs
theorem oz{α:Type}(p:Nat->Bool)(x:α):∀(k:Nat) (xs:List α),bz p k (xs++[x])=bz p k xs++(if p (k+xs.length) then[x] else[])
 |k,[]=>by
  show (if p k then x::[] else[])=[]++_;rw[wdN];rfl
 |k,y::xs=>by
  have e:k+(y::xs).length=k+1+xs.length:=by grind
  rw[e];show (if p k then y::bz p (k+1) (xs++[x]) else bz p (k+1) (xs++[x]))=(if p k then y::bz p (k+1) xs else bz p (k+1) xs)++_;rw[oz p x (k+1) xs];cases p k<;>rfl
theorem nq{α:Type}(p:Nat->Bool):∀(k:Nat) (xs:List α),(bz p k xs).length<=xs.length
 |_,[]=>waa _
 |k,x::xs=>by
  have:=nq p (k+1) xs;show (if p k then x::bz p (k+1) xs else bz p (k+1) xs).length<=xs.length+1
  cases p k with
  |true=>grind
  |false=>grind
theorem xV{α β:Type}(f:α->β)(p:Nat->Bool):∀(k:Nat) (xs:List α),bz p k (xs.map f)=(bz p k xs).map f
 |_,[]=>rfl
 |k,x::xs=>by
  show (if p k then f x::bz p (k+1) (xs.map f) else bz p (k+1) (xs.map f))=(if p k then x::bz p (k+1) xs else bz p (k+1) xs).map f;rw[xV f p (k+1) xs];cases p k<;>rfl
theorem qY{α:Type}(p:Nat->Bool):∀(k:Nat) (xs:List α),(bz p k xs).Sublist xs
 |_,[]=>wfk _
 |k,x::xs=>by
  show (if p k then x::bz p (k+1) xs else bz p (k+1) xs).Sublist (x::xs)
  cases p k with
  |true=>exact(qY p (k+1) xs).cons₂ x
  |false=>exact(qY p (k+1) xs).cons x
theorem dP{α:Type}{p:Nat->Bool}{k:Nat}{xs:List α}{x:α}(h:x∈bz p k xs):x∈xs:=(qY p k xs).subset h
theorem bA.pick{K:wa2}{H:Hp}(p:Nat->Bool):∀(k:Nat) (g:List ku) (xs:List V),bA K H g xs->bA K H (bz p k g) (bz p k xs)
 |_,[],xs,h=>by
  have e:xs=[]:=h;subst e;rfl
 |k,d::g,_,h=>by
  obtain⟨v,a,rfl,c,hl⟩:=h;have b:=bA.pick p (k+1) g a hl;show bA K H (if p k then d::bz p (k+1) g else bz p (k+1) g) (if p k then v::bz p (k+1) a else bz p (k+1) a)
  cases p k with
  |true=>exact{v,_,rfl,c,b}
  |false=>exact b
theorem bA.set{K:wa2}{H:Hp}{d:ku}{v:V}:∀{g:List ku} {xs:List V},bA K H g xs->∀i:Nat,bM K H d v->bA K H (g.set i d) (xs.set i v)
 |[],xs,h,i,r=>by
  have e:xs=[]:=h;subst e;exact h
 |c::g,_,h,0,r=>by
  obtain⟨v0,a,rfl,b,hl⟩:=h;exact⟨v,a,rfl,r,hl⟩
 |c::g,_,h,i+1,r=>by
  obtain⟨v0,a,rfl,b,hl⟩:=h;exact{v0,a.set i v,rfl,b,bA.set hl i r}
theorem xW{K:wa2}{a l:Addr}{xs:List V}{r:St}{I:TT}{J:TE}{H:Hp}{Q:Hp->Prop}(p:Nat->Bool)(C:aL K H a xs)(hl:H l=none)(hz:xs.length<=sizeLine)
 (U:∀(i:Nat) (x:V) j t,xs[i]?=some x->a7 H j->(∀g,a7 j g->t (p i) g)->I (some (.int (i:Nat))::some x::r) j t)
 (he:∀(i:Nat) (x:V) j t,xs[i]?=some x->a7 H j->(∀g,a7 j g->t x g)->J (some (.int (i:Nat))::some x::r) j t)
 (hd:∀g,a7 H g->g l=some (.lst (bz p 0 xs))->Q g):kn K (Oe K a) l r I J H Q:=by
 refine{λi m u f=>m=xs.length-i/\i<=xs.length/\a7 H f/\f l=some (.lst u)/\u=bz p 0 (xs.take i),{xs.length,by simp,waz _,a7.upd hl,a6,rfl},?_};rintro i m u f ⟨rfl,hi,c,v,k⟩;refine{v,?_}
 by_cases d:i<xs.length
 .refine .inr {{xs,xs[i],c.seq C,wa1 d},?_,λx j y=>?_}
  .rw[k];refine wbi (nq p 0 _) ?_;rw[wag]
   lia
  .obtain⟨T,h,E,G,L,y⟩:=y;subst G L;have w:xs[i]?=some h:=y xs (c.seq C);have n:a7 f (upd f T (.tup [.int (i:Nat),h])):=a7.upd E;have z:xs.take (i+1)=xs.take i++[h]:=by rw[waO,w];rfl
   have q:(xs.take i).length=i:=by rw[wag];lia
   refine{T,.int (i:Nat),h,rfl,gA.of a6,U i h _ _ w (c.trans n) λM s=>?_};have A:=s _ _ (n _ _ v)
   cases B:p i with
   |false=>
    rw[if_neg wan];exact{xs.length-(i+1),by lia,rfl,d,(c.trans n).trans s,A,by rw[z,oz,q,wfL,B,if_neg wan,waS];exact k}
   |true=>
    rw[if_pos rfl];refine he i h _ _ w ((c.trans n).trans s) λN D=>{D _ _ A,xs.length-(i+1),by lia,rfl,d,λb o e=>?_,a6,?_}
    .rw[ae (af e hl)];exact D _ _ (s _ _ (n _ _ (c _ _ e)))
    .rw[z,oz,q,wfL,B,if_pos rfl,k]
 .have e:i=xs.length:=by lia
  subst e;rw[waG]at k;exact .inl {{xs,c.seq C,waa _},hd f c (by rw[v,k])}
theorem ve(y:Int)(ns:List Int):oR (.int y) (ns.map V.int)=decide (y∈ns):=by
 unfold oR;rw[wfE]
 induction ns with
 |nil=>rfl
 |cons a l b=>
  rw[wd9,b];show ((a==y) ||decide (y∈l))=decide (y∈a::l)
  by_cases e:a=y
  .subst e;simp
  .grind
theorem cy(ns:List Int):(ns.map V.int).all dk=true:=by grind [dk]
end L2
namespace Bs
open PySem L2 Sx
noncomputable def eX(i:Int)(n:Nat):Bool:=decide (0<=i)&&decide (i<(n:Int))
noncomputable def bo(ws:List Int)(qs:List (Str×Nat)):Int:=(qs.map λq=>ws.getD q.2 0).sum
noncomputable def eU(ws:List Int)(many:Int)(qs:List (Str×Nat))(w:Int):Bool:=!qs.isEmpty&&(decide (1<=w)&&decide (many*w<=bo ws qs))
noncomputable def b0{α:Type}(ns:List Int)(l:List α):List α:=bz (λi=>decide ((i:Int)∈ns)) 0 l
noncomputable def aW{α:Type}(ns:List Int)(l:List α):List α:=bz (λi=>!decide ((i:Int)∈ns)) 0 l
noncomputable def eP(d t:Nat)(l:List (Str×Nat)):List (Str×Nat):=l.flatMap λq=>if q.2=d then[q,(q.1,t)] else[q]
noncomputable def eh(ws:List Int)(lns:List (List (Str×Nat)))(many tH:Int)(ns:List Int)(w:Int):Bool:=
 eX tH lns.length&&(ns.all (λi=>eX i (lns.getD tH.toNat []).length)&&(eU ws many (b0 ns (lns.getD tH.toNat [])) w&&eU ws many (aW ns (lns.getD tH.toNat [])) (ws.getD tH.toNat 0-w)))
noncomputable def cT(hs:List Str)(d:Nat):List Str:=hs++[hs.getD d ""]
noncomputable def cB(ws:List Int)(d:Nat)(w:Int):List Int:=(ws++[ws.getD d 0-w]).set d w
noncomputable def dD(lns:List (List (Str×Nat)))(d:Nat)(ns:List Int):List (List (Str×Nat)):=((lns++[aW ns (lns.getD d [])]).set d (b0 ns (lns.getD d []))).map (eP d lns.length)
theorem qZ(d t:Nat):∀l:List (Str×Nat),(eP d t l).length<=2*l.length
 |[]=>waa _
 |q::l=>by
  have:=qZ d t l;show ((if q.2=d then[q,(q.1,t)] else[q])++eP d t l).length<=2*(l.length+1);rw[wa5];split
  .grind
  .grind
theorem vf(d t:Nat)(l:List (Str×Nat))(q:Str×Nat):eP d t (l++[q])=eP d t l++(if q.2=d then[q,(q.1,t)] else[q]):=by simp_all [eP,weP,congr,waS]
theorem Aq(p:Nat->Bool)(h:bA K H (g.map kU) xs):bA K H ((bz p 0 g).map kU) (bz p 0 xs):=by
 rw[<-xV];exact h.pick p 0 _ _
theorem yW{α:Type}{K:wa2}{H:Hp}(f:α->V):∀(g:List α) (xs:List V),bA K H (g.map λz=>ku.at (f z)) xs->xs=g.map f
 |[],xs,h=>h
 |z::g,_,h=>by
  obtain⟨v,a,rfl,⟨rfl,_⟩,hl⟩:=h;rw[yW f g a hl];rfl
theorem u5(h:bM K H (se hs) (.ref a)):Rd H a (.lst (hs.map V.str)):=by
 obtain⟨d,b,e,c,hl⟩:=h;cases e;rwa[yW V.str hs b hl]at c
theorem Ki(h:bM K H (nG ws) (.ref a)):Rd H a (.lst (ws.map V.int)):=by
 obtain⟨d,b,e,c,hl⟩:=h;cases e;rwa[yW V.int ws b hl]at c
theorem dQ(h:bM K H (bY j) v):∃a rs,v=.ref a/\aL K H a (rs.map V.ref)/\b9 H rs ((j.map eF).map jx):=by
 obtain⟨a,d,rfl,m,b,k⟩:=kA h
 have ex:d=(d.map λv=>match v with |.ref r=>r |_=>0).map V.ref:=by
  rw[waf];refine(we3 d).symm.trans (waZ λv n=>?_);obtain⟨i,hi,rfl⟩:=wbU n;obtain⟨r,l,_⟩:=k i _ (wa1 (by rw[<-b];exact hi));rw[wa1 hi]at l;rw[wad l];rfl
 refine{a,_,rfl,by rw[<-ex];exact m,by rw[wa0,wa0,b],λi r p f c=>?_};rw[wa4]at f c
 cases e:(j.map eF)[i]? with
 |none=>rw[e]at c;cases c
 |some q=>
  rw[e]at c;cases c;obtain⟨s,g,o⟩:=k i q e;rw[g]at f;cases f;exact o
structure Ly(hs:List Str)(ws:List Int)(lns:List (List (Str×Nat))):Prop where
 w:ws.length=hs.length
 l:lns.length=hs.length
 e:∀l∈lns,∀q∈l,q.2<hs.length
 n:hs.length<=1000
 m:∀l∈lns,l.length<=5000
end Bs
namespace Sx
open PySem L2 Bs
inductive Kj(K:wa2)(vs:List V)(H:Hp)(Q:VK)(dA:XK):Prop
 |mk (i a xs) (_:vs=[.int i,.ref a]) (_:aL K H a xs) (_:Q (.bl (eX i xs.length)) H)
inductive Nf(K:wa2)(CS CN:Addr)(vs:List V)(H:Hp)(Q:VK)(E:XK):Prop
 |mk (x many v w hs ws lns qs) (_:vs=[.ref x,.int many,v,.int w]) (_:cj K CS H x hs ws lns) (_:bM K H (bY qs) v) (_:qs.length<=10000) (_:(∀q∈qs,q.2<ws.length)) (_:0<=many) (_:many<=1000) (_:((eU ws many qs w=true/\∀H',a7 H H'->Q .non H')\/(eU ws many qs w=false/\∀H',a7 H H'->E (.ref CN) none H')))
inductive Kk(K:wa2)(vs:List V)(H:Hp)(Q:VK)(dA:XK):Prop
 |mk (v:V) (d t:Nat) (qs:List (Str×Nat)) (_:vs=[v,.int (d:Int),.int (t:Int)]) (_:bM K H (bY qs) v) (_:qs.length<=5000) (_:∀y H',a7 H H'->bM K (aM H H') (bY (eP d t qs)) y->Q y H')
inductive Kl(K:wa2)(CS CN:Addr)(vs:List V)(H:Hp)(Q:VK)(E:XK):Prop
 |mk (x a many tH w ns hs ws lns) (_:vs=[.ref x,.int many,.int tH,.ref a,.int w]) (_:cj K CS H x hs ws lns) (_:aL K H a (ns.map V.int)) (_:ns.length<=10000) (_:Ly hs ws lns) (_:0<=many) (_:many<=1000) (_:((eh ws lns many tH ns w=true/\∀y H',a7 H H'->cj K CS (aM H H') y (cT hs tH.toNat) (cB ws tH.toNat w) (dD lns tH.toNat ns)->Q (.ref y) H')\/(eh ws lns many tH ns w=false/\∀H',a7 H H'->E (.ref CN) none H')))
end Sx
namespace L2
open PySem PySem.Spec PyProof.Rows Sx Bs
section
variable{X:Cx}
end
end L2
namespace Bs
open PySem L2 Sx
end Bs
namespace Sx
open PySem L2 Bs
end Sx
namespace Bs
open PySem L2 Sx
end Bs
namespace Sx
open PySem L2 Bs
end Sx
namespace Bs
open PySem L2 Sx
theorem pq(hi:i<ws.length)(g:i≠d):(cB ws d w).getD i 0=ws.getD i 0:=by grind [cB,wcv,waF]
theorem sr(hd:d<ws.length):(cB ws d w).getD d 0=w:=by
 unfold cB;rw[wa3,wdo (by rw[wa5];lia)];rfl
theorem su(hd:d<ws.length):(cB ws d w).getD ws.length 0=ws.getD d 0-w:=by
 unfold cB;rw[wa3,wcv (by lia),waE (waa _),wbE];rfl
theorem Ch(ws:List Int)(d:Nat)(w:Int):(cB ws d w).length=ws.length+1:=by
 unfold cB;rw[wc8,wa5];rfl
theorem cH(ws:List Int)(q:Str×Nat)(g:List (Str×Nat)):bo ws (q::g)=ws.getD q.2 0+bo ws g:=rfl
theorem vg(ws:List Int)(ps g:List (Str×Nat)):bo ws (ps++g)=bo ws ps+bo ws g:=by
 unfold bo;rw[wai,wi4]
theorem nH(hd:d<ws.length):∀g:List (Str×Nat),(∀q∈g,q.2<ws.length)->bo (cB ws d w) (eP d ws.length g)=bo ws g
 |[],_=>rfl
 |q::g,h=>by
  have c:=nH (w:=w) hd g λq b=>h q (wac _ b);have b:=h q (wae ..);have e:eP d ws.length (q::g)=(if q.2=d then[q,(q.1,ws.length)] else[q])++eP d ws.length g:=rfl;rw[e,vg,c,cH]
  by_cases a:q.2=d
  .rw[if_pos a,cH,cH,a,sr hd];have f:(cB ws d w).getD ((q.1,ws.length):Str×Nat).2 0=ws.getD d 0-w:=su hd;rw[f];show w+(ws.getD d 0-w+0)+_=_
   lia
  .rw[if_neg a,cH,pq b a];show ws.getD q.2 0+0+_=_
   lia
theorem Dw:∀(ws:List Int) (d:Nat) (w:Int),d<ws.length->(ws.set d w).sum=ws.sum-ws.getD d 0+w
 |[],_,_,h=>absurd h (wcN _)
 |x::ws,0,w,_=>by
  show w+ws.sum=x+ws.sum-x+w
  lia
 |x::ws,d+1,w,h=>by
  have a:=Dw ws d w (by simpa using h);show x+(ws.set d w).sum=x+ws.sum-ws.getD d 0+w;rw[a]
  lia
theorem Ci(hd:d<ws.length):(cB ws d w).sum=ws.sum:=by grind [cB,Dw,wa5,waF]
structure iR(many:Int)(hs:List Str)(ws:List Int)(lns:List (List (Str×Nat))):Prop where
 w:ws.length=hs.length
 l:lns.length=hs.length
 p:∀w∈ws,1<=w
 e:∀l∈lns,∀q∈l,q.2<hs.length
 b:∀(i:Nat) (l:List (Str×Nat)),lns[i]?=some l->many*ws.getD i 0<=bo ws l
theorem Cj(h:q∈eP d t l):q.2=t\/q∈l:=by grind [eP]
theorem vh(h:eU ws many g w=true):g≠[]/\1<=w/\many*w<=bo ws g:=by simp_all [eU,wbX,of_decide_eq_true]
theorem iR.split{many:Int}{hs:List Str}{ws:List Int}{lns:List (List (Str×Nat))}(S:iR many hs ws lns){d:Nat}{ns:List Int}{w:Int}(h:eh ws lns many (d:Int) ns w=true):iR many (cT hs d) (cB ws d w) (dD lns d ns)/\d<hs.length:=by
 unfold eh at h;simp only[wbX]at h;obtain⟨n,A,v,x⟩:=h;rw[waA]at A v x;obtain⟨c1,E,B⟩:=vh v;obtain⟨G,H,C⟩:=vh x;have j:=S.w;have o:=S.l
 have hd:d<lns.length:=by
  unfold eX at n;rw[wbX]at n;have:=of_decide_eq_true n.2
  lia
 have f:d<ws.length:=by lia
 have r:(cT hs d).length=hs.length+1:=by unfold cT;rw[wa5];rfl
 have a:lns.getD d []∈lns:=by
  rw[wa3,wa1 hd];exact waL hd
 have k:=S.e _ a
 have c:∀l∈(lns++[aW ns (lns.getD d [])]).set d (b0 ns (lns.getD d [])),∀q∈l,q.2<hs.length:=λl hl=>by
  rcases wcs hl with z |z
  .rcases waD.mp z with z |z
   .exact S.e l z
   .rw[wap.mp z];exact λq a=>k q (dP a)
  .rw[z];exact λq a=>k q (dP a)
 refine{{by rw[r,Ch,j],?_,λz y=>?_,λl hl q a=>?_,λi l hl=>?_},by lia}
 .unfold dD;rw[r,wa0,wc8,wa5,o];rfl
 .unfold cB at y;rcases wcs y with q |q
  .rcases waD.mp q with q |q
   .exact S.p z q
   .rw[wap.mp q];lia
  .rw[q];lia
 .rw[r];unfold dD at hl;obtain⟨m,s,rfl⟩:=wab.mp hl;rcases Cj a with e |e
  .lia
  .have:=c m s q e
   lia
 .unfold dD at hl;rw[wa4]at hl
  cases e:((lns++[aW ns (lns.getD d [])]).set d (b0 ns (lns.getD d [])))[i]? with
  |none=>rw[e]at hl;cases hl
  |some m=>
   rw[e]at hl;cases hl;have D:=c m (wa8 e);rw[show lns.length=ws.length by lia,nH f m (λq a=>by rw[j];exact D q a)]
   by_cases g:i=d
   .subst g;rw[wdo (by rw[wa5];lia)]at e;cases e;rw[sr f];exact B
   .rw[wcv (λz=>g z.symm)]at e
    by_cases t:i<lns.length
    .rw[waF t]at e;rw[pq (by lia) g];exact S.b i m e
    .have u:i=lns.length:=by
      have:=(wa6.mp e).1;rw[wa5]at this;simp at this
      lia
     subst u;rw[waE (waa _),wbE]at e;cases e;rw[show lns.length=ws.length by lia,su f];exact C
noncomputable def pre(ls:List Int)(k:Nat):Int:=(ls.take k).sum
end Bs
namespace L2
open PySem PySem.Spec PyProof.Rows
section
variable{prog:waq}{w:World}{κ:Type}[DecidableEq κ]{knd:HeapKind prog w κ}{A:Around}{E:Value->Shared->Prop}{s:Shared}
end
section
variable{X:Cx}
end
end L2
namespace Bs
open PySem L2 Sx
theorem RM{a b:Prop}[Decidable a][Decidable b]{α:Type}{x y:α}(h:a↔b):(if a then x else y)=if b then x else y:=by simp_all [if_pos,if_neg]
noncomputable def gL(p:Str)(z:Str×Nat):List Str->List (List (Str×Nat))->Nat
 |h::hs,l::lns=>(if h=p then l.count z else 0)+gL p z hs lns
 |_,_=>0
theorem xX(p:Str)(z:Str×Nat)(h:Str)(l:List (Str×Nat)):∀(hs:List Str) (lns:List (List (Str×Nat))),hs.length=lns.length->gL p z (hs++[h]) (lns++[l])=gL p z hs lns+(if h=p then l.count z else 0)
 |[],[],_=>by
  show (if h=p then l.count z else 0)+0=0+_
  lia
 |[],_::_,e=>by cases e
 |_::_,[],e=>by cases e
 |x::hs,y::lns,e=>by
  show (if x=p then y.count z else 0)+gL p z (hs++[h]) (lns++[l])=_;rw[xX p z h l hs lns (by simpa using e)];show _=(if x=p then y.count z else 0)+gL p z hs lns+_
  lia
theorem Ar(p:Str)(z:Str×Nat)(g:List (Str×Nat)):∀(hs:List Str) (lns:List (List (Str×Nat))) (d:Nat),hs.length=lns.length->d<lns.length ->
 gL p z hs (lns.set d g)+(if hs.getD d ""=p then(lns.getD d []).count z else 0)=gL p z hs lns+(if hs.getD d ""=p then g.count z else 0)
 |_,[],d,_,h=>absurd h (wcN _)
 |[],_::_,_,e,_=>by cases e
 |x::hs,y::lns,0,_,_=>by
  show (if x=p then g.count z else 0)+gL p z hs lns+(if x=p then y.count z else 0)=(if x=p then y.count z else 0)+gL p z hs lns+(if x=p then g.count z else 0)
  lia
 |x::hs,y::lns,d+1,e,h=>by
  have a:=Ar p z g hs lns d (by simpa using e) (by simpa using h);show (if x=p then y.count z else 0)+gL p z hs (lns.set d g)+(if hs.getD d ""=p then(lns.getD d []).count z else 0)=(if x=p then y.count z else 0)+gL p z hs lns+(if hs.getD d ""=p then g.count z else 0)
  lia
theorem As(p:Str){f:List (Str×Nat)->List (Str×Nat)}:∀(hs:List Str) (lns:List (List (Str×Nat))),(∀l∈lns,(f l).count z=l.count z')->gL p z hs (lns.map f)=gL p z' hs lns
 |_,[],_=>by cases ‹List Str›<;>rfl
 |[],_::_,_=>rfl
 |x::hs,y::lns,h=>by
  show (if x=p then(f y).count z else 0)+gL p z hs (lns.map f)=(if x=p then y.count z' else 0)+gL p z' hs lns;rw[As p hs lns λl hl=>h l (wac _ hl),h y (wae ..)]
theorem kC:∀{hs:List Str} {lns:List (List (Str×Nat))} {i:Nat} {l:List (Str×Nat)},hs[i]?=some p->lns[i]?=some l->l.count z<=gL p z hs lns
 |y::hs,x::lns,0,l,a,b=>by
  cases a;cases b;show _<=(if p=p then x.count z else 0)+_;rw[if_pos rfl]
  lia
 |h::hs,x::lns,i+1,l,a,b=>by
  have:=kC (z:=z) (hs:=hs) (lns:=lns) (i:=i) (by simpa using a) (by simpa using b);show _<=_+gL p z hs lns
  lia
 |[],_,_,_,a,_=>by simp at a
 |_::_,[],_,_,_,b=>by simp at b
theorem cnt_cons(q z:Str×Nat)(l:List (Str×Nat)):(q::l).count z=l.count z+if q=z then 1 else 0:=by simp_all [List.count_cons,if_pos,beq_self_eq_true,if_neg]
theorem oA(f:Nat->Bool)(z:Str×Nat):∀(k:Nat) (l:List (Str×Nat)),(bz f k l).count z+(bz (λi=>!f i) k l).count z=l.count z
 |_,[]=>rfl
 |k,q::l=>by
  have a:=oA f z (k+1) l;show (if f k then q::bz f (k+1) l else bz f (k+1) l).count z+(if !f k then q::bz (λi=>!f i) (k+1) l else bz (λi=>!f i) (k+1) l).count z=_;rw[cnt_cons]
  cases f k with
  |true=>
   grind
  |false=>
   grind
theorem sv(hd:d<t)(w:Str)(e:Nat):∀l:List (Str×Nat),(∀q∈l,q.2<t)->(eP d t l).count (w,e)=l.count (w,if e=t then d else e)
 |[],_=>rfl
 |q::l,h=>by
  have f:=sv hd w e l λq c=>h q (wac _ c);have c:=h q (wae ..);have g:eP d t (q::l)=(if q.2=d then[q,(q.1,t)] else[q])++eP d t l:=rfl;rw[g,List.count_append,f,cnt_cons];obtain⟨a,b⟩:=q;have c:b<t:=c;show (if b=d then[(a,b),(a,t)] else[(a,b)]).count (w,e)+_=_
  by_cases i:b=d
  .grind
  .grind
def wK(B:Str->List (Str×Str))(hs:List Str)(lns:List (List (Str×Nat))):Prop:=
 ∀(p w:Str) (e:Nat),gL p (w,e) hs lns=if e<hs.length/\p∈hs/\(w,hs.getD e "")∈B p then 1 else 0
theorem wK.split{B:Str->List (Str×Str)}(h:wK B hs lns)(hl:lns.length=hs.length)(he:∀l∈lns,∀q∈l,q.2<hs.length)(hd:d<hs.length)(ns:List Int):wK B (cT hs d) (dD lns d ns):=by
 intro p w e
 have t:lns.getD d []∈lns:=by
  rw[wa3,wa1 (by lia)];exact waL _
 have k:∀l∈(lns++[aW ns (lns.getD d [])]).set d (b0 ns (lns.getD d [])),∀q∈l,q.2<lns.length:=λl b=>by
  rw[hl];rcases wcs b with z |z
  .rcases waD.mp z with z |z
   .exact he l z
   .rw[wap.mp z];exact λq c=>he _ t q (dP c)
  .rw[z];exact λq c=>he _ t q (dP c)
 have n:(hs++[hs.getD d ""]).getD d ""=hs.getD d "":=by
  rw[wa3,waF hd,<-wa3]
 have o:(lns++[aW ns (lns.getD d [])]).getD d []=lns.getD d []:=by
  rw[wa3,waF (by lia),<-wa3]
 unfold cT dD;rw[As p (z':=(w,if e=lns.length then d else e)) _ _ λl b=>sv (by lia) w e l (k l b)];have r:=Ar p (w,if e=lns.length then d else e) (b0 ns (lns.getD d [])) (hs++[hs.getD d ""]) (lns++[aW ns (lns.getD d [])]) d (by rw[wa5,wa5];simp[hl]) (by rw[wa5];lia);rw[n,o,xX p _ _ _ hs lns hl.symm]at r;have u:=oA (λi=>decide ((i:Int)∈ns)) (w,if e=lns.length then d else e) 0 (lns.getD d []);have y:(b0 ns (lns.getD d [])).count (w,if e=lns.length then d else e)+(aW ns (lns.getD d [])).count (w,if e=lns.length then d else e)=(lns.getD d []).count (w,if e=lns.length then d else e):=u;have v:=h p w (if e=lns.length then d else e)
 have x:gL p (w,if e=lns.length then d else e) (hs++[hs.getD d ""]) ((lns++[aW ns (lns.getD d [])]).set d (b0 ns (lns.getD d [])))=gL p (w,if e=lns.length then d else e) hs lns:=by
  by_cases j:hs.getD d ""=p
  .rw[if_pos j,if_pos j,if_pos j]at r
   lia
  .rw[if_neg j,if_neg j,if_neg j]at r
   lia
 rw[x,v]
 have m:p∈hs++[hs.getD d ""]↔p∈hs:=by
  rw[waD,wap];refine{λz=>z.elim id λz=>?_,.inl};rw[z,wa3,wa1 hd];exact waL _
 have a:(hs++[hs.getD d ""]).length=hs.length+1:=by rw[wa5];rfl
 by_cases f:e=lns.length
 .rw[if_pos f]
  have s:(hs++[hs.getD d ""]).getD e ""=hs.getD d "":=by
   rw[f,hl,wa3,waE (waa _),wbE];rfl
  rw[s,a];refine RM {λz=>{by lia,m.mpr z.2.1,z.2.2},λz=>{hd,m.mp z.2.1,z.2.2}}
 .rw[if_neg f]
  by_cases g:e<hs.length
  .have s:(hs++[hs.getD d ""]).getD e ""=hs.getD e "":=by
    rw[wa3,waF g,<-wa3]
   rw[s,a];refine RM {λz=>{by lia,m.mpr z.2.1,z.2.2},λz=>{g,m.mp z.2.1,z.2.2}}
  .rw[if_neg (λz=>g z.1),if_neg (λz=>by have:=z.1;lia)]
theorem wK.line{B:Str->List (Str×Str)}(h:wK B hs lns)(hl:lns.length=hs.length)(g:∀p,(B p).length<=b):∀l∈lns,l.length<=b*hs.length:=by
 intro l j;obtain⟨i,hi,e⟩:=wbU j;have f:lns[i]?=some l:=by rw[wa1 hi,e]
 have a:hs[i]?=some (hs[i]'()):=wa1 _;generalize hs[i]'()=p at a
 have one:∀z,l.count z<=1:=λz=>by
  have c:=kC (z:=z) a f;have d:=h p z.1 z.2;rw[show ((z.1,z.2):Str×Nat)=z from rfl]at d;rw[d]at c;split at c<;>omega
 have nd:l.Nodup:=List.nodup_iff_count.mpr one
 have sub:∀z∈l,z∈((B p).map (·.1)).flatMap λw=>(wao hs.length).map λe=>(w,e):=λz k=>by
  have c:=kC (z:=z) a f;have d:=h p z.1 z.2;rw[show ((z.1,z.2):Str×Nat)=z from rfl]at d;rw[d]at c;have m:0<l.count z:=wc2.mpr k
  by_cases hc:z.2<hs.length/\p∈hs/\(z.1,hs.getD z.2 "")∈B p
  .exact wcG.mpr {z.1,wab.mpr {_,hc.2.2,rfl},wab.mpr {z.2,wb0.mpr hc.1,rfl}}
  .rw[if_neg hc]at c;omega
 have c:=uN nd sub
 have d:(((B p).map (·.1)).flatMap λw=>(wao hs.length).map λe=>(w,e)).length<=(B p).length*hs.length:=by
  have:=uO (λw=>(wao hs.length).map λe=>((w,e):Str×Nat)) hs.length ((B p).map (·.1)) λw _=>by rw[wa0,waC];exact waa _
  rwa[wa0]at this
 exact wak c (wak d (weI _ (g p)))
theorem vi(p:Str)(z:Str×Nat)(f:Str->List (Str×Nat)):∀hs:List Str,hs.Nodup->gL p z hs (hs.map f)=if p∈hs then(f p).count z else 0
 |[],_=>rfl
 |h::hs,nd=>by
  rw[wbH]at nd;show (if h=p then(f h).count z else 0)+gL p z hs (hs.map f)=_;rw[vi p z f hs nd.2]
  by_cases e:h=p
  .grind
  .grind
theorem jd{f:Str->Option (Str×Str)}(g:∀r x,f r=some x->x.1=r):∀L:List Str,((L.filterMap f).map (·.1)).Sublist L
 |[]=>.slnil
 |r::L=>by
  rw[wbl]
  cases e:f r with
  |none=>exact(jd g L).cons _
  |some x=>
   show (x.1::(L.filterMap f).map (·.1)).Sublist _;rw[g r x e];exact(jd g L).cons₂ _
theorem yX(nd:(ch g).Nodup)(l:ss.Perm (bP ws "" ws))(hw:∀w∈ws,1<=w.length)(j:p∈ss)(n:Nat):((aV g ws ss ls n p).map (·.1)).Nodup:=by
 rw[<-Cd l hw j n];refine List.Nodup.sublist (jd (λr x e=>?_) _) (by rw[u0];exact xS nd n);unfold Kd at e;split at e
 .cases e
 .grind
theorem yY:∀{l:List (Str×Str)},(l.map (·.1)).Nodup->l.Nodup:=by intro l;induction l<;>grind [wdt,wbH]
theorem Ck{g:List (Str×Str)}{hs:List Str}(nd:g.Nodup)(hn:hs.Nodup)(w:Str)(e:Nat) :
 (((g.filter λq=>decide (q.2∈hs)).map λq=>(q.1,hs.idxOf q.2)):List (Str×Nat)).count (w,e)=if e<hs.length/\(w,hs.getD e "")∈g then 1 else 0:=by
 have inj:∀q∈g.filter (λq=>decide (q.2∈hs)),((q.1,hs.idxOf q.2):Str×Nat)=(w,e)↔(e<hs.length/\q=(w,hs.getD e "")):=λq a=>by
  grind
 have gen:∀L:List (Str×Str),L.Nodup->(∀q∈L,((q.1,hs.idxOf q.2):Str×Nat)=(w,e)↔(e<hs.length/\q=(w,hs.getD e "")))->(L.map λq=>((q.1,hs.idxOf q.2):Str×Nat)).count (w,e)=if e<hs.length/\(w,hs.getD e "")∈L then 1 else 0:=by
  intro L
  induction L with
  |nil=>grind
  |cons q L b=>
   grind
 rw[gen _ (nd.filter _) inj];refine RM {λz=>{z.1,(war.mp z.2).1},λz=>{z.1,war.mpr {z.2,decide_eq_true ?_}}};rw[wa3,wa1 z.1];exact waL _
theorem wK.first{g:Str}{ws ss ls:List Str}{n:Nat}{hs:List Str}(nd:(ch g).Nodup)(l:ss.Perm (bP ws "" ws))(hw:∀w∈ws,1<=w.length)(j:∀p∈hs,p∈ss)(hn:hs.Nodup):wK (aV g ws ss ls n) hs (bG g ws ss ls n hs):=by
 intro p w e;unfold bG;rw[vi p (w,e) _ hs hn]
 by_cases h:p∈hs
 .rw[if_pos h];unfold gw;rw[Ck (yY (yX nd l hw (j p h) n)) hn];exact RM {λz=>⟨z.1,h,z.2⟩,λz=>⟨z.1,z.2.2⟩}
 .rw[if_neg h,if_neg (λz=>h z.2.1)]
theorem pw{α:Type}(f:α->Int):∀l:List α,(∀x∈l,0<=f x)->(l.map f).sum=((l.filter λx=>decide (0<f x)).map f).sum:=by intro l;induction l<;>grind [wac,wae,waW,decide_eq_true,wb1,decide_eq_false]
theorem xY{f:Str->Int}(h:∀p∈ls,0<=f p):((av ls f).map f).sum=(ls.map f).sum:=(pw f ls h).symm
theorem Hy{f:Str->Int}(hn:∀p∈ls,0<=f p)(p:Str):bo ((av ls f).map f) (gw g ws ss ls n (av ls f) p)=hH g ws ss ls n f p:=by
 unfold hH;rw[pw (λq:Str×Str=>f q.2) (aV g ws ss ls n p) λq a=>hn _ (dC a)];unfold bo gw;rw[waf]
 have e:(aV g ws ss ls n p).filter (λq=>decide (q.2∈av ls f))=(aV g ws ss ls n p).filter λq=>decide (0<f q.2):=wfl λq a=>by
  unfold av;exact decide_eq_decide.mpr (by rw[war];exact{λz=>of_decide_eq_true z.2,λz=>{dC a,decide_eq_true z}})
 rw[e];refine congrArg List.sum (waZ λq a=>?_)
 have b:q.2∈av ls f:=by
  unfold av;have:=war.mp a;exact war.mpr {dC this.1,this.2}
 show ((av ls f).map f).getD ((av ls f).idxOf q.2) 0=f q.2;rw[wa3,wa4,(qX b).1];rfl
theorem iR.first{f:Str->Int}(hn:∀p∈ls,0<=f p)(j:FR g ws ss ls many n f):iR many (av ls f) ((av ls f).map f) (bG g ws ss ls n (av ls f)):=by
 have a:∀p∈av ls f,p∈ls/\0<f p:=λp b=>{(war.mp b).1,of_decide_eq_true (war.mp b).2};refine{wa0 _,wa0 _,λw hw=>?_,λl hl q c=>?_,λi l hl=>?_}
 .obtain⟨p,b,rfl⟩:=wab.mp hw;have:=(a p b).2
  lia
 .obtain⟨p,b,rfl⟩:=wab.mp hl;obtain⟨z,d,rfl⟩:=wab.mp c;exact List.idxOf_lt_length_of_mem (of_decide_eq_true (war.mp d).2)
 .unfold bG at hl;rw[wa4]at hl
  cases e:(av ls f)[i]? with
  |none=>rw[e]at hl;cases hl
  |some p=>
   rw[e]at hl;cases hl;rw[Hy hn,wa3,wa4,e];exact j p (a p (wa8 e)).1
end Bs
namespace L2
open PySem PySem.Calls PySem.Spec PyProof.Rows
theorem sx:∀ns:List Int,preSum (λi=>ns.getD i 0) ns.length=ns.sum
 |[]=>rfl
 |n::ns=>by
  show preSum (λi=>(n::ns).getD i 0) (ns.length+1)=n+ns.sum;rw[PySem.W.kdu_shift,<-sx ns];rfl
section
variable{X:Cx}
theorem EK(hc:X.calm=true):dj X (.builtin "sum") (λxs H Q=>∃v d kvs ns,xs=[.ref v]/\H v=some (lZ v d)/\H d=some (.dK kvs)/\kvs.map (·.2)=wcZ V.int ns/\Q (.int ns.sum) H):=by
 intro m s σ H xs U Q I r h;obtain⟨v,d,kvs,ns,rfl,D,hd,hn,q⟩:=h;obtain⟨u,rfl,E⟩:=vals1 r;cases E;obtain⟨Y,lo,c,rel,G⟩:=rN I.b7 hd;obtain⟨ep,f⟩:=G.dictAt;obtain⟨a,_⟩:=(show bW X.prog X.w H s.heap v (lZ v d) from I.b7 v _ D);have J:=I.ok.hd hc
 have g:c.length=ns.length:=by
  have:=congrArg wdI hn;rw[wa0,wa0]at this;rw[<-rel.length];exact this
 have L:∀{kvs:List (Key×V)} {c:List (Key×Value)} {ns:List Int},KV kvs c->kvs.map (·.2)=ns.map V.int->∀(i:Nat) (k:Key) (x:Value),c[i]?=some (k,x)->∃t,x=.int (ns.getD i 0) t:=by
  intro kvs c ns r
  induction r generalizing ns with
  |nil=>intro _ i k x e;simp at e
  |@cons p q ps Z h t M=>
   intro e i k x j
   cases ns with
   |nil=>cases e
   |cons n ns=>
    rw[wau,wau]at e;injection e with N O
    cases i with
    |zero=>
     simp at j;have y:=h.2;rw[N,j]at y;exact y
    |succ i=>exact M O i k x (by simpa using j)
 have z:=whe (prog:=X.prog) (w:=X.w) (r:=v) (d:=d) (knd:=bB X.prog X.w) (kvs:=c) (ep:=ep);refine call_sum_walkAnyS ?_;obtain⟨R,St,hit,S,st⟩:=z.iter X.A.in1 s J ⟨a,f⟩;refine hit _ _ {s.heap.objs.size,_,_,_,c.length,_,_,λi=>ns.getD i 0,rfl,S.toS,st,λb l=>?_,λi x ⟨k,e⟩=>L rel hn i k x e,λB t' C=>?_}
 .show b<(s.heap.push R).objs.size;rw[size_push'];rcases waK.mp l with e |l
  .rw[e];exact wbL _
  .rw[wap.mp l];exact web (z.there _ ⟨a,f⟩).2
 .have hk:∀b o,s.heap.get? b=some o->B.heap.get? b=some o:=λb o e=>
   C.heap b o (λT=>absurd (wah e) (by rw[wap.mp T];exact wbm _)) (wa9 _ e)
  rw[Moved.eq_with C];refine{.int ns.sum,H,I.kept (t':=B.toks) hk,{t',?_},q};rw[g,sx]
end
section
variable{prog:waq}{w:World}{A:Around}{E:Value->Shared->Prop}{s:Shared}{l I S:Addr}{vs:List Value}{R:wdd->Shared->Prop}{Q:Value->Shared->Prop}
theorem gM{h h':Heap}{p:Addr}{g:Array Value}(e:h.IsList p g)(hk:∀b o,h.get? b=some o->h'.get? b=some o):h'.IsList p g:=let ⟨o,a,r⟩:=e;{o,hk _ _ a,r}
theorem yZ(kf:Nat->Int)(hh:A.handled=none)(hl:s.heap.IsList l vs.toArray)(hI:I=s.heap.objs.size)(Ng:S≠I)(Yl:s.heap.objs.size<=S)
 (turn:∀(i:Nat) (v:Value),vs[i]?=some v->∃p items,v=.ref p/\s.heap.IsList p items/\(items.size:Int)=kf i/\(items.size:Int)<2^63)
 (hR:∀(v:Value) (h':Heap) (Cm:Nat),v∈vs->(∀b o,s.heap.get? b=some o->h'.get? b=some o)->R (.ok (.ret v)) {s with heap:=h',toks:=Cm}) :
 ∀(r j i:Nat) (h:Heap) (tk:Nat) (vb:Value) (tb:Tok) (c:Nat),vs.length-(j+1)=r->j+1<=vs.length->(∀b o,s.heap.get? b=some o->h.get? b=some o) ->
  h.get? S=some (seqObj "list" #[vb,.int (kf i) tb] c)->h.IsListIter I l (j+1)->vs[i]?=some vb ->
  codeAny (model prog w) A (.builtin "min.loop" {[.ref I,.builtin "len",.ref S],[]}) R {s with heap:=h,toks:=tk}:=by
 have Au:(toString "min"++toString ".loop":String)="min.loop":=⋯;have z4:l<s.heap.objs.size:=let ⟨o,ho,_⟩:=hl;wah ho
 have Qi:l≠I:=by rw[hI];exact waw z4
 have W:=wfn (prog:=prog) (w:=w) (A:=A.in1) hh I l Qi vs.toArray;have hsz:vs.toArray.size=vs.length:=waB ..
 have old:∀{b:Addr} {o:Obj},s.heap.get? b=some o->b≠S/\b≠I:=λ{b o} e=>by
  have hb:b<s.heap.objs.size:=wah e;exact{waw (wav hb Yl),by rw[hI];exact waw hb}
 intro r
 induction r with
 |zero=>
  intro j i h tk vb tb c hr hj mono nS hit TB;have Ym:j+1=vs.length:=();refine wbI weh ?_;rw[wby wbQ _];show wpAny _ A.in1 (wew (.ref S) >>= _) _ _ _;refine wa7 (wcX nS rfl ?_);show wpAny _ A.in1 (tryCatch (pyNext (.ref I)) _ >>= _) _ _ _;refine wa7 (wbP (W.done _ _ _ {by rw[hsz,<-Ym];exact hit,gM hl mono} λh' Cm Ja=>?_));have Yn:=Ja S _ (by simpa using Ng) nS;have s1:=weQ h' S (wcS λ_=>(#[]:Array Value));show wpAny _ A.in1 (whi S (λ_=>#[]) >>= _) _ _ _;refine wa7 ?_;refine wdk Yn rfl (wa7 (wdq (wax ?_)));exact hR vb _ _ (wa8 TB) λb o e=>(s1.2 b (old e).1).trans (Ja b o (by simpa using(old e).2) (mono b o e))
 |succ r ih=>
  intro j i h tk vb tb c hr hj mono nS hit TB;have Nh:j+1<vs.length:=();refine wbI weh ?_;rw[wby wbQ _];show wpAny _ A.in1 (wew (.ref S) >>= _) _ _ _;refine wa7 (wcX nS rfl ?_);show wpAny _ A.in1 (tryCatch (pyNext (.ref I)) _ >>= _) _ _ _;refine wa7 (wbP (W.item (j+1) _ _ _ (by rw[hsz];exact Nh) {hit,gM hl mono} λv h' Cm hP Km Ja=>?_));have hv:vs[j+1]?=some v:=by simpa using hP
  have xZ:∀b o,s.heap.get? b=some o->h'.get? b=some o:=λb o e=>Ja b o (by simpa using(old e).2) (mono b o e);have Oh:=Ja S _ (by simpa using Ng) nS;obtain⟨p,items,rfl,hp,TC,EL⟩:=turn (j+1) v hv;show wpAny _ A.in1 (tryCatch (holding [wam p] (call (.builtin "len") [.ref p])) _ >>= _) _ _ _;refine wa7 (wbP (wbp (weO (gM hp xZ) EL ?_)));rw[TC];show wpAny _ A.in1 (tryCatch (holding [wam p,.int (kf (j+1)) _] (richCompare .Lt (.int (kf (j+1)) _) (.int (kf i) tb) >>= _)) _ >>= _) _ _ _;refine wa7 (wbP (wbp (wa7 (CmpOf.ints_lt (prog:=prog) (w:=w) (A:=A.in1) (P:=λi v=>∃t,v=.int (kf i) t) kf (λi v h=>h) (j+1) i _ _ _ _ _ {_,rfl} ⟨tb,rfl⟩ ?_))));refine wa7 (wbp (wbt ?_));refine wa7 (wdq (wax ?_))
  by_cases HA:kf (j+1)<kf i
  .simp only[HA,decide_true,if_true];refine wa7 ?_;refine wdk Oh rfl (wa7 (wdq ?_));rw[Au];have s1:=weQ h' S (wcS λ_=>#[wam p,.int (kf (j+1)) (Cm+1)]);obtain⟨c2,TF⟩:∃c2,(h'.update S (wcS λ_=>#[wam p,.int (kf (j+1)) (Cm+1)])).get? S=some (seqObj "list" #[wam p,.int (kf (j+1)) (Cm+1)] c2):={_,get?_update_seq Oh λ_=>#[wam p,.int (kf (j+1)) (Cm+1)]};refine wax {wcj wbQ _,ih (j+1) (j+1) _ _ _ _ c2 () Nh (λb o e=>(s1.2 b (old e).1).trans (xZ b o e)) TF ?_ hv};obtain⟨TH,Ni,TK⟩:=id Km.1;exact{TH,(s1.2 I Ng.symm).trans Ni,TK}
  .simp only[HA,decide_false,wbY,if_false];refine wa7 (wdq ?_);rw[Au];exact wax {wcj wbQ _,ih (j+1) i _ _ vb tb c () Nh xZ Oh Km.1 TB}
theorem Kn(kf:Nat->Int)(hh:A.handled=none)(hl:s.heap.IsList l vs.toArray)(BA:0<vs.length)
 (turn:∀(i:Nat) (v:Value),vs[i]?=some v->∃p items,v=.ref p/\s.heap.IsList p items/\(items.size:Int)=kf i/\(items.size:Int)<2^63)
 (hQ:∀(v:Value) (h':Heap) (Cm:Nat),v∈vs->(∀b o,s.heap.get? b=some o->h'.get? b=some o)->Q v {s with heap:=h',toks:=Cm}) :
 wpAny (model prog w) A (call (.builtin "min") [.ref l] [(wcz "key",.builtin "len")]) Q E s:=by
 have Au:(toString "min"++toString ".loop":String)="min.loop":=⋯;have z4:l<s.heap.objs.size:=let ⟨o,ho,_⟩:=hl;wah ho
 refine wi6 PySem.F.kind_min PySem.F.plain_min PySem.F.entry_min (kmk_min_key _ _) ?_;show wpAny _ A.in1 (wcL "min" ["key","default"] 0 {[],[(wcz "key",.builtin "len")]} >>= _) _ _ s;refine wa7 (whF (show wcL "min" ["key","default"] 0 {[],[(wcz "key",.builtin "len")]}=pure [some (.builtin "len"),none] from rfl) ?_);refine wa7 (wax ?_);refine wa7 (wcP hl ?_);refine wa7 (wpAny_newList ?_ (waz _));rw[Au];have hS:(s.heap.push {cls:=.type "list_iterator",data:=.fields #[.ref l,.int 0 0]}).objs.size=s.heap.objs.size+1:=size_push' ..;have Qi:l≠s.heap.objs.size:=waw z4;have Ng:(s.heap.push {cls:=.type "list_iterator",data:=.fields #[.ref l,.int 0 0]}).objs.size≠s.heap.objs.size:=by rw[hS];exact wcg (wbL _)
 refine wax {wcj wbQ _,?_}
 have gI:((s.heap.push {cls:=.type "list_iterator",data:=.fields #[.ref l,.int 0 0]}).push (seqObj "list" #[] 0)).get? s.heap.objs.size=some {cls:=.type "list_iterator",data:=.fields #[.ref l,.int 0 0]}:=
  wa9 _ (wat _ rfl)
 have gS:((s.heap.push {cls:=.type "list_iterator",data:=.fields #[.ref l,.int 0 0]}).push (seqObj "list" #[] 0)).get? (s.heap.push {cls:=.type "list_iterator",data:=.fields #[.ref l,.int 0 0]}).objs.size=some (seqObj "list" #[] 0):=wat _ rfl;have Lz:∀b o,s.heap.get? b=some o->((s.heap.push {cls:=.type "list_iterator",data:=.fields #[.ref l,.int 0 0]}).push (seqObj "list" #[] 0)).get? b=some o:=λb o e=>wa9 _ (wa9 _ e)
 have old:∀{b:Addr} {o:Obj},s.heap.get? b=some o->b≠s.heap.objs.size+1/\b≠s.heap.objs.size:=λ{b o} e=>by
  have hb:b<s.heap.objs.size:=wah e;exact{waw (web hb),waw hb}
 have W:=wfn (prog:=prog) (w:=w) (A:=A.in1) hh s.heap.objs.size l Qi vs.toArray;have hsz:vs.toArray.size=vs.length:=waB ..;refine wbI weh ?_;rw[wby wbQ _];show wpAny _ A.in1 (wew (.ref _) >>= _) _ _ _;refine wa7 (wcX gS rfl ?_);show wpAny _ A.in1 (tryCatch (pyNext (.ref s.heap.objs.size)) _ >>= _) _ _ _;refine wa7 (wbP (W.item 0 _ _ _ (by rw[hsz];exact BA) {{_,gI,rfl,rfl},gM hl Lz} λv h' Cm hP Km Ja=>?_));have hv:vs[0]?=some v:=by simpa using hP
 have xZ:∀b o,s.heap.get? b=some o->h'.get? b=some o:=λb o e=>Ja b o (by simpa using(old e).2) (Lz b o e);have Oh:=Ja _ _ (by simpa using Ng) gS;obtain⟨p,items,rfl,hp,TC,EL⟩:=turn 0 v hv;show wpAny _ A.in1 (tryCatch (holding [wam p] (call (.builtin "len") [.ref p])) _ >>= _) _ _ _;refine wa7 (wbP (wbp (weO (gM hp xZ) EL ?_)));rw[TC];have s1:=weQ h' (s.heap.push {cls:=.type "list_iterator",data:=.fields #[.ref l,.int 0 0]}).objs.size (wcS λ_=>#[wam p,.int (kf 0) (Cm+1)]);obtain⟨c2,TF⟩:∃c2,(h'.update (s.heap.push {cls:=.type "list_iterator",data:=.fields #[.ref l,.int 0 0]}).objs.size (wcS λ_=>#[wam p,.int (kf 0) (Cm+1)])).get? (s.heap.push {cls:=.type "list_iterator",data:=.fields #[.ref l,.int 0 0]}).objs.size=some (seqObj "list" #[wam p,.int (kf 0) (Cm+1)] c2):={_,get?_update_seq Oh λ_=>#[wam p,.int (kf 0) (Cm+1)]};show wpAny _ A.in1 (whi (s.heap.push {cls:=.type "list_iterator",data:=.fields #[.ref l,.int 0 0]}).objs.size (λ_=>#[wam p,.int (kf 0) (Cm+1)]) >>= _) _ _ _;refine wa7 ?_;refine wdk Oh rfl ?_;rw[Au];obtain⟨TH,Ni,TK⟩:=id Km.1;refine wax {wcj wbQ _,yZ kf hh hl rfl Ng (by rw[hS];exact wc5 _) turn hQ _ 0 0 _ _ _ _ c2 rfl BA (λb o e=>(s1.2 b (by rw[hS];exact(old e).1)).trans (xZ b o e)) TF {TH,(s1.2 _ Ng.symm).trans Ni,TK} hv}
end
section
variable{X:Cx}{e:Expr}{t:TA}{p p2 kp pos:Pos}
def Ql(K:wa2)(t:TA):TE:=λσ H Q=>t σ H λvs H1=>∃(a:Addr) (ps:List Addr),vs=[.ref a]/\aL K H1 a (ps.map V.ref)/\ps≠[]/\(∀q∈ps,∃ys,aL K H1 q ys)/\∀q∈ps,Q (.ref q) H1
theorem Ko(hc:X.calm=true)(J:Gl X "min")(T:X.mg "min"=none)(l:Gl X "len")(C:X.mg "len"=none)(ha:PA X [e] t)(hs:starEach [e] X.env=[(false,eval e X.env)]:=by rfl):PE X (.Call (.Name "min" p) [e] [{some "key",.Name "len" p2,kp}] pos) (Ql X.K t):=by
 refine{?_};intro f s σ H Q I h;refine wbx (gi I J T (show waX "min"=some (.builtin "min") from Sx.JW) ?_ ⋯ ⋯);refine wfK (bO (ha pos f s σ H _ I h) λO z ⟨R,A,g,B,D⟩=>?_) (by rw[hs];rfl) (by rw[hs];rfl);refine wex (gi g l C (show waX "len"=some (.builtin "len") from we8) (weJ ?_) ⋯ ⋯);obtain⟨a,ps,rfl,E,m,n,q⟩:=D;obtain⟨u,rfl,G⟩:=vals1 B;cases G;obtain⟨b,k,pl,w⟩:=g.list E;have hl:b.length=ps.length:=by have:=k.length;rw[wa0]at this;exact this.symm
 have j:∀{ps:List Addr} {b:List Value},Vals (ps.map V.ref) b->b=ps.map wam:=by
  intro ps
  induction ps with
  |nil=>intro b r;cases r;rfl
  |cons x ps L=>
   intro b r
   cases r with
   |cons h t=>rw[L t];cases h;rfl
 have e:=j k;subst e
 have sz:∀q∈ps,∃b:List Value,z.heap.IsList q b.toArray/\b.length<=sizeLine:=λq c=>by
  obtain⟨S,M⟩:=n q c;obtain⟨b,k,pl,w⟩:=g.list M;exact{b,pl.isList,by rw[<-k.length];exact w}
 have hn:=oi;refine Kn (kf:=λi=>match ps[i]? with |some q=>if c:q∈ps then((whQ (sz q c)).length:Int) else 0 |none=>0) (g.ok.hd hc) pl.isList (by rw[wa0];cases ps with |nil=>exact absurd rfl m |cons _ _=>exact Nat.succ_pos _) (λi v d=>?_) λv U o d hk=>?_
 .rw[wa4]at d
  cases e:ps[i]? with
  |none=>rw[e]at d;cases d
  |some q=>
   rw[e]at d;cases d;have c:q∈ps:=wa8 e;obtain⟨N,Y⟩:=wey (sz q c);refine{q,_,rfl,N,?_,?_}
   .show _=if c:q∈ps then _ else _
    rw[dif_pos c,waB]
   .rw[waB]
    lia
 .obtain⟨y,c,rfl⟩:=wab.mp d;exact{.ref y,A,g.kept (t':=o) hk,rfl,q y c}
end
open AutoSeq1 (wpAny_loadPart')
noncomputable abbrev LA(t:Tok):List (Str×Value):=[(wcz "start",.int 1 t)]
theorem ER(l:Addr)(items:Array Value)(n:Nat)(j:Option Addr)(sl:Array (Option Value))(t:Tok) :
 Meets (weS.«enumerate.__new__» {[.type "enumerate",.ref l],LA t}) (λ_ R s=>s.heap.get? l=some {cls:=.type "list",dict:=j,data:=.seq items n,slots:=sl} /\
  R (.ok (.ret (.ref (s.heap.objs.size+1)))) {s with heap:=(s.heap.push {cls:=.type "list_iterator",data:=.fields #[.ref l,.int 0 0]}).push {cls:=.type "enumerate",data:=.fields #[.none,.bool false,.ref s.heap.objs.size,rawInt 1,.none,.none]}}):=
 .of_wp λprog w A R s h=>by
  obtain⟨a,g,d,i,os⟩:=s;obtain⟨hl,h⟩:=h;have b:(a.push {cls:=.type "list_iterator",data:=.fields #[.ref l,.int 0 0]}).objs.size=a.objs.size+1:=wbO ..;have e:=sub_enumerate;have f:Heap.IsList (Shared.heap ⟨a,g,d,i,os⟩) l items:={_,hl,rfl,n,rfl}
  wp_walk using wpAny_loadPart' hl
  refine wpAny_stack_any λst=>wax ?_;split
  .rename_i c _ _ _ _ _;cases(c==weA "enumerate")<;>(wp_walk using wpAny_loadPart' hl,wcP f;exact{_,rfl,by rw[b];exact h})
  .wp_walk using wpAny_loadPart' hl,wcP f
   exact{_,rfl,by rw[b];exact h}
section
variable{prog:waq}{w:World}{A:Around}{E:Value->Shared->Prop}{s:Shared}
theorem HB(l:Addr)(t:Tok):checkTypeCall "enumerate" {[.ref l],LA t}=pure .unit:=by kernel_rfl
theorem HC(l:Addr)(t:Tok):weq "enumerate.__new__" {[.type "enumerate",.ref l],LA t}=pure .unit:=by kernel_rfl
theorem Cp(o l:Addr)(t:Tok):argsOk "object.__init__" {[.ref o,.ref l],LA t}:=by unfold argsOk;kernel_rfl
theorem Cq(o l:Addr)(t:Tok):Meets (weS.«object.__init__» {[.ref o,.ref l],LA t}) (λ_ R s=>s.TypeIs (.ref o) "enumerate"/\R (.ok (.ret .none)) s):=by
 have hl:=wf2.init.lookup;have c:=wf2.made;have a:(some "enumerate.__new__" != some "object.__new__")=true:=⋯;refine Meets.of_wp λprog w A R s ⟨d,b⟩=>?_
 repeat (any_goals (first |assumption |wp_step))
 exact{_,rfl,b}
theorem Cr{Q:Value->Shared->Prop}(C:s.heap.IsList l items)
 (h:∀h',IsEnum h' (s.heap.objs.size+1) s.heap.objs.size 1 .none->h'.IsListIter s.heap.objs.size l 0->(∀b o,s.heap.get? b=some o->h'.get? b=some o)->Q (.ref (s.heap.objs.size+1)) {s with heap:=h'}) :
 wpAny (model prog w) A (call (.type "enumerate") [.ref l] (LA t)) Q E s:=by
 obtain⟨⟨c,f,x,sl⟩,hl,hc,n,hd⟩:=C;have y:c=.type "list":=hc;have z:x=.seq items n:=hd;subst y z;have B:(s.heap.push {cls:=.type "list_iterator",data:=.fields #[.ref l,.int 0 0]}).objs.size=s.heap.objs.size+1:=wbO ..;have a:=wf2;obtain⟨c,J,k⟩:=a.mro;have g:=a.made;have m:=a.sub;have L:=a.notType;have M:=a.canCreate;have D:=HB l t;refine wdf (wg5 (show wpAny _ _ (callAny (.type "enumerate") _) _ _ _ from wax {we0 _ ∅,wbI wgJ ?_}));rw[whf (wgs "enumerate" [.ref l] (LA t)) (units_type_call_type "enumerate" [.ref l] (LA t))]
 repeat (any_goals (first |assumption |wp_step))
 have p:((s.heap.push {cls:=.type "list_iterator",data:=.fields #[.ref l,.int 0 0]}).push {cls:=.type "enumerate",data:=.fields #[.none,.bool false,.ref s.heap.objs.size,rawInt 1,.none,.none]}).get? (s.heap.objs.size+1)=some {cls:=.type "enumerate",data:=.fields #[.none,.bool false,.ref s.heap.objs.size,rawInt 1,.none,.none]}:=by
  rw[<-B];exact wat _ rfl
 refine wch (wcU a.plain F.entry_enumerate_new (whF (HC l t) ((ER l items n f sl t) prog w A.in1 (wants (λv i=>v=.ref (s.heap.objs.size+1)/\i={s with heap:=(s.heap.push {cls:=.type "list_iterator",data:=.fields #[.ref l,.int 0 0]}).push {cls:=.type "enumerate",data:=.fields #[.none,.bool false,.ref s.heap.objs.size,rawInt 1,.none,.none]}}) E) s ⟨hl,rfl,rfl⟩))) λr q j=>?_
 cases r with
 |error e=>exact j
 |ok fl=>
  cases fl with
  |ret obj=>
   obtain⟨rfl,rfl⟩:=j;have u:wi8 {s with heap:=(s.heap.push {cls:=.type "list_iterator",data:=.fields #[.ref l,.int 0 0]}).push {cls:=.type "enumerate",data:=.fields #[.none,.bool false,.ref s.heap.objs.size,rawInt 1,.none,.none]}} (.ref (s.heap.objs.size+1)) "enumerate":={_,p,rfl};have G:=a.init.lookup;have H:=a.init.bind (.ref (s.heap.objs.size+1));have N:=h _ p {_,wa9 _ (wat _ rfl),rfl,rfl} λb o e=>wa9 _ (wa9 _ e)
   repeat (any_goals (first |assumption |wp_step))
   refine wch (wcU a.init.plain F.entry_object_init (a.init.check _ _ _ _ _ _ _ _ u (Cp _ l t) ((Cq (s.heap.objs.size+1) l t) prog w A.in1 (wants (λv i=>v=.none/\i={s with heap:=(s.heap.push {cls:=.type "list_iterator",data:=.fields #[.ref l,.int 0 0]}).push {cls:=.type "enumerate",data:=.fields #[.none,.bool false,.ref s.heap.objs.size,rawInt 1,.none,.none]}}) E) _ ⟨u,rfl,rfl⟩))) λI O d=>?_
   cases I with
   |error e=>exact d
   |ok Of=>
    cases Of with
    |ret r=>
     obtain⟨rfl,rfl⟩:=d
     repeat (any_goals (first |assumption |wp_step))
    |_=>exact d.elim
  |_=>exact j.elim
theorem Ct{P:Nat->Value->Prop}{St:Nat->Heap->Prop}(D:Draws prog w A it g n P St):Draws prog w A it g (n+1) (λj v=>∃i,j=i+1/\P i v) (λj h=>∃i,j=i+1/\St i h) where
 live:=λ_ _ {i,_,st}=>D.live i _ st
 frame:=λ_ h a ⟨i,e,st⟩ hk=>{i,e,D.frame i h a st hk}
 item:=λ_ s Q E l ⟨i,e,st⟩ b=>D.item i s Q E (by lia) st λx a c d f sb=>b x a c ⟨i,e,d⟩ {i+1,by lia,f} sb
 done:=λs Q E ⟨i,e,st⟩ k=>D.done s Q E ((show n=i by lia) ▸ st) k
theorem EV(g:A.handled=none)(it l:Addr)(items:Array Value)(i:Nat)(p:items[i]?=none):Draws prog w A it [it,l] (i+1) (λ_ _=>False) (λj h=>j=i+1/\h.IsListIter it l i/\h.IsList l items) where
 live:=λ_ _ {_,st,_}=>let ⟨o,a,_⟩:=st;⟨o,a⟩
 frame:=λ_ _ _ ⟨e,st,sl⟩ hk=>{e,st.at λo q=>hk it (by simp) o q,sl.at λo q=>hk l (by simp) o q}
 item:=λ_ _ _ _ b {e,_} _=>absurd e (waw b)
 done:=λ_ _ _ {_,st,sl} c=>wpAny_nextOf_list_end g st sl p c
end
noncomputable def HD(K:wa2)(a:Addr):It:=
 {λi H=>∃xs x,aL K H a xs/\xs[i]?=some x,λi H x H'=>∃T xv,H T=none/\x=.ref T/\H'=upd H T (.tup [.int ((i+1:Nat):Int),xv])/\∀xs,aL K H a xs->xs[i]?=some xv,λi H=>∃xs,aL K H a xs/\xs.length<=i}
theorem Cu{P:waq}{w:World}{K:wa2}{r:List Expr}{k:Nat}{pos:Pos}(a e it:Addr)(g:e≠it)(J:a≠it):Turn P w K (.Tuple r k pos) (HD K a) [e,it] e (λi h=>(∃old,IsEnum h e it ((i+1:Nat):Int) old)/\h.IsListIter it a i) where
 mem:=by simp
 obj:=λi h st b n=>by
  obtain⟨⟨old,c⟩,o,l,hc,hd⟩:=st;rcases waK.mp n with z |n
  .exact{_,z ▸ c,λv q=>by
    have q':wee _=wfZ v:=q
    cases q'}
  .exact{o,wap.mp n ▸ l,λv q=>by rw[hd]at q;cases q}
 keep:=λi h V st k=>{st.1.imp λold c=>k e (by simp) _ c,st.2.at λo q=>k it (by simp) o q}
 item:=by
  intro X G hw L hc i t s σ H E I M st N;subst G hw L;obtain⟨xs,x,D,O⟩:=N;obtain⟨d,Q,p,hz⟩:=I.list D;obtain⟨u,Y,ru⟩:=Q.get O;obtain⟨⟨old,c⟩,hit⟩:=st
  have R:e≠a:=λz=>by
   obtain⟨o,l,S,_⟩:=p.isList;have f:=c;rw[z]at f;rw[f]at l;cases l;have q:weA "enumerate"=.type "list":=S;injection q with q
   exact absurd q ⋯
  have Yo:i<d.length:=(wa6.mp Y).1;refine wfT (i:=i+1) (Ct (Draws.list (A:=X.A.in1) (I.ok.hd hc) it a J d.toArray)) c ⟨i,rfl,hit,p.isList⟩ (by rw[waB];lia) g (by simp[g,R]) λy V tk m l T hT hsz hk=>?_;obtain⟨Z,e1,m⟩:=m;obtain⟨i2,e2,B,Yp⟩:=T;have e1:Z=i:=by lia
  have e2:i2=i+1:=by lia
  subst e1 e2
  have ey:y=u:=by
   rw[List.getElem?_toArray,Y]at m;exact(wad m).symm
  subst ey;refine{_,rfl,wdG l λVF f j=>?_};obtain⟨_,U,_⟩:=id hit;have C:e<s.heap.objs.size:=wah c;obtain⟨fr,I1,hn⟩:=uD (y:=.int ((Z+1:Nat):Int)) (tk+1) I M (λb o h q=>(j.2 b (yL h).1).trans (hk b o (yL h).1 (yL h).2 q)) ((j.2 _ (wcg C)).trans hT) {_,rfl} ru (MF C (wah U));exact{.ref s.heap.objs.size,_,I1,rfl,{s.heap.objs.size,x,fr,rfl,rfl,λys m=>by rw[I.oW m D];exact O},{{y,by simpa using f},B.at λo q=>(j.2 it (wbu g)).trans q},hn}
 done:=by
   intro X G hw L hc i t s σ H E I M st N;subst G hw L;obtain⟨xs,D,O⟩:=N;obtain⟨d,Q,p,hz⟩:=I.list D;have hl:=Q.length;obtain⟨⟨old,c⟩,hit⟩:=st;obtain⟨g0,g1,g2,g3,g4,g5⟩:=M it (by simp);exact wgi (EV (A:=X.A.in1) (I.ok.hd hc) it a d.toArray i (wgg (by simp;lia))) c ⟨rfl,hit,p.isList⟩ λV eb=>{rfl,I.turned (t':=s.toks) (λb o n e=>eb b o n e) g0 g1 g3 g4 g5}
 self:=λ_ _ _ _ _ st h=>let ⟨⟨_,c⟩,_⟩:=st;wcQ c h
theorem z5{E:Value->Shared->Prop}{Q:Value->Shared->Prop}(l:args.any (·.1)=false)(p:j.any (·.1.isNone)=false)
 (h:wpAny M A (evalArgs (.type T) true args j) (λa g=>wpAny M A (call (.type T) (first++a.pos) a.kw) Q E g) E s):wpAny M A (callWith pos (.type T) first args j) Q E s:=by
 unfold callWith;refine wa7 (wbp (wbb h (λa g b=>wa7 (wdF ?_)) λ_ _ x=>x));simp only[l,p,Bool.or_false];exact wa7 (wax (wa7 (wbb b (λr c d=>wa7 (wbp (wpAny_point (wax d)))) λ_ _ x=>x)))
section
variable{X:Cx}
def Nj(K:wa2)(ta:TA):TI:=λσ H R=>ta σ H λvs H1=>∃a xs,vs=[.ref a]/\aL K H1 a xs/\R (HD K a) H1
theorem HE{g:List Expr}{k j:Nat}{r:Pos}{l:Expr}{C:TA}{p J kp pos:Pos}(T:Gl X "enumerate")(U:X.mg "enumerate"=none)(ha:PA X [l] C)(hs:starEach [l] X.env=[(false,eval l X.env)]:=by rfl) :
 PI X (.Tuple g k r) (.Call (.Name "enumerate" p) [l] [{some "start",.Constant (.int 1) j J,kp}] pos) (Nj X.K C):=by
 refine{?_};intro c s σ H R I h;refine wbx (gi I T U gQ ?_ ⋯ ⋯);refine z5 (by rw[hs];rfl) rfl ?_
 have w:backTo pos (starEach [l] X.env)=(false,(backTo pos (starEach [l] X.env)).head (by rw[hs];exact λz=>nomatch z) |>.2)::[]:=by
  simp only[hs];rfl
 rw[w];refine evalArgs_kwB rfl ?_;rw[<-w];refine bO (ha pos c s σ H _ I h) λus E ⟨vs,A,G,L,M⟩=>?_;refine wex (bO (aq (X:=X) (i:=1) c E σ A (λx m=>x=.int 1/\m=A) G ⟨rfl,rfl⟩) λv d ⟨y,m,n,N,O,Q⟩=>weJ ?_);subst O Q;obtain⟨t,rfl⟩:=N;obtain⟨a,xs,e,S,q⟩:=M;subst e;obtain⟨u,rfl,V⟩:=vals1 L;cases V;obtain⟨Y,rv,pl,hz⟩:=n.list S;refine Cr pl.isList λZ B hit kp=>wcQ B ?_;have I3:Inv X c σ m {d with heap:=Z}:=n.kept (t':=d.toks) kp;have o:a<d.heap.objs.size:=let ⟨_,ho,_⟩:=pl.isList;wah ho
 refine{d.heap.objs.size+1,[d.heap.objs.size+1,d.heap.objs.size],_,_,m,rfl,I3,Cu a _ _ (wcg (wbL _)) (waw o),{{_,B},hit},λb D=>?_,q}
 have f:d.heap.objs.size<=b:=by
  rcases waK.mp D with rfl |D
  .grind
  .grind
 exact n.yw f (n.b7.fresh f)
end
theorem EW{K:wa2}{a:Addr}{xs:List V}{g:TG}{C:TS}{D:Ends}{σ:St}{H:Hp}(Pv:Nat->St->Hp->Prop)(h0:Pv 0 σ H)(hl:∀i σ H,i<=xs.length->Pv i σ H->aL K H a xs)
 (hs:∀i x σ H T,xs[i]?=some x->Pv i σ H->H T=none->g (.ref T) σ (upd H T (.tup [.int ((i+1:Nat):Int),x])) λj t=>C (D.lp (Pv (i+1))) j t) (hd:∀σ H,Pv xs.length σ H->D.nx σ H) :
 ∃W:Nat->Nat->St->Hp->Prop,(∃m,W 0 m σ H)/\∀i m σ H,W i m σ H ->
  ((HD K a).stop i H/\D.nx σ H)\/((HD K a).go i H/\∃N:St->Hp->Prop,(∀l r,N l r->∃I,I<m/\W (i+1) I l r)/\∀x r,(HD K a).ui i H x r->g x σ r λj t=>C (D.lp N) j t):=by
 refine{λi m σ H=>m=xs.length-i/\i<=xs.length/\Pv i σ H,{xs.length,by simp,waz _,h0},?_};rintro i m σ H ⟨rfl,hi,p⟩;have q:=hl i σ H hi p
 by_cases b:i<xs.length
 .refine .inr {{xs,xs[i],q,by simp[b]},Pv (i+1),λl r c=>{xs.length-(i+1),by lia,rfl,b,c},λx r y=>?_};obtain⟨T,d,f,h,k,y⟩:=y;subst h k;exact hs i d σ _ T (y xs q) p f
 .have e:i=xs.length:=by lia
  subst e;exact .inl {{xs,q,waa _},hd σ H p}
end L2
namespace L2
open PySem PySem.Spec PyProof.Rows
def vj(K:wa2)(J:It)(l:Addr)(σf:St)(tt:TT)(te:TE)(H:Hp)(Q:Hp->Prop):Prop:=
 ∃W:Nat->Nat->List V->Hp->Prop,(∃m,W 0 m [] (upd H l (.lst [])))/\∀i m ys H2,W i m ys H2->H2 l=some (.lst ys) /\
  ((J.stop i H2/\Q H2)\/(J.go i H2/\ys.length<sizeLine/\∀x H3,J.ui i H2 x H3->∃p a b c,x=.ref p/\gA K H3 p [a,b,c]/\tt (some a::some b::some c::σf) H3 λok H4=>
    if ok=true then te (some a::some b::some c::σf) H4 λy H5=>H5 l=some (.lst ys)/\∃m',m'<m/\W (i+1) m' (ys++[y]) (upd H5 l (.lst (ys++[y])))
    else ∃m',m'<m/\W (i+1) m' ys H4))
def Nk(K:wa2)(wi:TI)(ix:List Nat)(tt:TT)(te:TE):TE:=λσ H Q=>wi σ H λJ H1=>∀l,H1 l=none->vj K J l (pick σ ix) tt te H1 (λH2=>Q (.ref l) H2)
section
variable{X:Cx}{pins:List (Addr×Obj)}{σ:St}{H:Hp}{s₂:Shared}{scope:wdc}{x x2 x3:Str}{ys:List Str}{ix:List Nat}{cl:List (Str×Addr)}{fp:List Addr}{L:Addr}
theorem HF(hc:X.calm=true)(B:bV X scope x ys ix)(g:bV X scope x2 ys ix)(j:bV X scope x3 ys ix)(l:x≠x2/\x≠x3/\x2≠x3)(cl L s H ex pn):PG (bI X scope ([x,x2,x3]++ys) cl L s H ex pn) (.Tuple [.Name x t,.Name x2 p,.Name x3 r] C pt) (G3 X.K 3 (lU (bN 0) (lU (bN 1) (lU (bN 2) G2)))):=by
 have d:(relabel scope X.env).names.lookup x=some .local:=wcy B.var;have b:(relabel scope X.env).names.lookup x2=some .local:=wcy g.var;have c:(relabel scope X.env).names.lookup x3=some .local:=wcy j.var
 have a:(x::x2::x3::ys).Nodup:=by
  have:=B.nd;have:=g.nd;have:=j.nd
  grind
 exact dU hc (aP (jW a rfl (.inl d) (.inr d)) (aP (jW a rfl (.inl b) (.inr b)) (aP (jW a rfl (.inl c) (.inr c)) cQ)))
theorem HG{K:wa2}{J:It}(h:vj K J l g j r H Q):xB (G3 K 3 (lU (bN 0) (lU (bN 1) (lU (bN 2) G2)))) 3 J l g j r H Q:=
 let ⟨W,a,t⟩:=h
 {W,a,λi m ys k w=>let ⟨p,q⟩:=t i m ys k w;{p,q.imp id λ⟨a,b,c⟩=>{a,b,λx n o z y=>by revert o;refine iM 3 _ ?_;exact λ_ _ _=>let ⟨p,v,f,d,e,u,s⟩:=c x n y;{p,[v,f,d],e,u,rfl,v,[f,d],rfl,f,[d],rfl,d,[],rfl,rfl,{[some v,some f,some d],rfl,rfl},s}}}}
theorem HH(hc:X.calm=true)(B:bV X scope x ys ix)(U:bV X scope x2 ys ix)(B3:bV X scope x3 ys ix)(g:x≠x2/\x≠x3/\x2≠x3)(hi:PI X (.Tuple [.Name x px,.Name x2 j,.Name x3 p] kt pt) iter wi)
 (ht:∀cl L s H ex pn,FP (bI X scope (x::x2::x3::ys) cl L s H ex pn) r I) (he:∀cl L s H ex pn,PE (bI X scope (x::x2::x3::ys) cl L s H ex pn) t T)
 (hs:∀v,wbR iter X.env v=pure v:=by intro _;rfl):PE X (.ListComp t [{.Tuple [.Name x px,.Name x2 j,.Name x3 p] kt pt,iter,r,0}] scope pos) (Nk X.K wi ix I T):=
 uB (C:=λJ l a H Q=>vj X.K J l a I T H Q) (xs:=[x,x2,x3]) hc B (HF hc B U B3 g) (λ_ _ _ _ _=>HG) hi ht he hs
end
end L2
namespace Bs
open PySem L2 Sx
noncomputable def cU(ds:List Nat)(qs:List (Str×Nat)):List (Str×Nat):=qs.filter λq=>decide (q.2∈ds)
theorem y2(h:∀d∈S,d∈T):∀g:List (Str×Nat),(cU S g).length<=(cU T g).length
 |[]=>waa _
 |q::g=>by
  have a:=y2 h g;unfold cU at a ⊢
  by_cases b:q.2∈S
  .rw[waW (by exact decide_eq_true b),waW (by exact decide_eq_true (h _ b))];exact Nat.succ_le_succ a
  .rw[wb1 (by simpa using b)]
   by_cases c:q.2∈T
   .rw[waW (by exact decide_eq_true c)];exact whv a
   .rw[wb1 (by simpa using c)];exact a
theorem HI(j:List Nat)(g:List (Str×Nat)):(cU j g).length<=g.length:=wb2 _ _
noncomputable def vk(lns:List (List (Str×Nat)))(many:Int)(ds:List Nat):List Nat:=ds.filter λd=>decide (many<=((cU ds (lns.getD d [])).length:Int))
def Dx(lns:List (List (Str×Nat)))(many:Int)(S:List Nat):Prop:=∀d∈S,d<lns.length/\many<=((cU S (lns.getD d [])).length:Int)
structure Above(lns:List (List (Str×Nat)))(many:Int)(ks:List Nat):Prop where
 sub:ks.Sublist (wao lns.length)
 top:∀S,Dx lns many S->∀d∈S,d∈ks
theorem Above.start(lns:List (List (Str×Nat)))(many:Int):Above lns many (wao lns.length):={wfk _,λS h d hd=>wb0.mpr (h d hd).1}
theorem Above.next(h:Above lns many g):Above lns many (vk lns many g):=by
 refine{wdJ.trans h.sub,λS a d hd=>war.mpr {h.top S a d hd,decide_eq_true ?_}};have b:=(a d hd).2;have c:=y2 (h.top S a) (lns.getD d [])
 lia
theorem Above.stays(h:Above lns many g)(e:vk lns many g=g):Dx lns many g:=λd hd=>by
 refine{wb0.mp (h.sub.subset hd),?_};rw[<-e]at hd;exact of_decide_eq_true (war.mp hd).2
theorem HJ(e:vk lns many g≠g):(vk lns many g).length<g.length:=by
 have a:(vk lns many g).Sublist g:=wdJ;exact Nat.lt_of_le_of_ne a.length_le λz=>e (a.eq_of_length z)
structure oB(lns:List (List (Str×Nat)))(many:Int)(ks:List Nat):Prop where
 ab:Above lns many ks
 st:Dx lns many ks
theorem oC:∀g:List (Str×Nat),(∀q∈g,ws.getD q.2 0<=h)->bo ws g<=(g.length:Int)*h
 |[],_=>by show (0:Int)<=(0:Nat)*h;simp
 |q::g,a=>by
  have c:=oC g λp b=>a p (wac _ b);have h0:=a q (wae ..);rw[cH,waH,wbz,wgk];show _<=_+1*h
  lia
theorem getD_mem{ws:List Int}{i:Nat}(h:i<ws.length):ws.getD i 0∈ws:=by
 grind
theorem Av{many h:Int}{hs:List Str}{ws:List Int}{lns:List (List (Str×Nat))}(S:iR many hs ws lns)(K:oB lns many [])(t:h∈ws)(C:∀w∈ws,w<=h)(m1:1<=many) :
 ∃(d i:Nat) (g:List (Str×Nat)) (q:Str×Nat),lns[d]?=some g/\g[i]?=some q/\ws.getD d 0=h/\ws.getD q.2 0<h:=by
 have f:=S.w;have v:=S.l
 by_cases s:∃(d i:Nat) (g:List (Str×Nat)) (q:Str×Nat),lns[d]?=some g/\g[i]?=some q/\ws.getD d 0=h/\ws.getD q.2 0<h
 .exact s
 exfalso
 have all:∀(d:Nat) (g:List (Str×Nat)),lns[d]?=some g->ws.getD d 0=h->∀q∈g,ws.getD q.2 0=h:=λd g hd hw q c=>by
  obtain⟨i,hi,e⟩:=wbU c;have x:¬ws.getD q.2 0<h:=λz=>s {d,i,g,q,hd,by rw[wa1 hi,e],hw,z};have o:=C _ (getD_mem (ws:=ws) (i:=q.2) (by rw[f];exact S.e g (wa8 hd) q c))
  lia
 obtain⟨y,j,A⟩:=wbU t;have x:1<=h:=S.p h t
 have r:Dx lns many ((wao ws.length).filter λd=>decide (ws.getD d 0=h)):=λd hd=>by
  obtain⟨u,n⟩:=war.mp hd;have u:=wb0.mp u;have n:ws.getD d 0=h:=of_decide_eq_true n;have k:d<lns.length:=by lia
  have c:lns[d]?=some (lns.getD d []):=by rw[wa3,wa1 k];rfl
  refine{k,?_};have m:=all d _ c n;have B:cU ((wao ws.length).filter λd=>decide (ws.getD d 0=h)) (lns.getD d [])=lns.getD d []:=wba.mpr λq a=>decide_eq_true (war.mpr {wb0.mpr (by rw[f];exact S.e _ (wa8 c) q a),decide_eq_true (m q a)});rw[B];have o:=S.b d _ c;have D:=oC (lns.getD d []) λq a=>Int.le_of_eq (m q a);rw[n]at o;have E:many*h<=((lns.getD d []).length:Int)*h:=we4 o D;exact wf9 E (by lia)
 have:=K.ab.top _ r y (war.mpr {wb0.mpr j,decide_eq_true (by rw[wa3,wa1 j,A];rfl)});cases this
theorem y3(f:Nat->Bool)(ws:List Int):∀(k:Nat) (g:List (Str×Nat)),bo ws (bz f k g)=(((weY k g.length).filter f).map λi=>ws.getD (g.getD (i-k) ("",0)).2 0).sum
 |_,[]=>rfl
 |k,q::g=>by
  have a:=y3 f ws (k+1) g
  have e:((weY (k+1) g.length).filter f).map (λi=>ws.getD ((q::g).getD (i-k) ("",0)).2 0)=((weY (k+1) g.length).filter f).map λi=>ws.getD (g.getD (i-(k+1)) ("",0)).2 0:=waZ λi hi=>by
   have:=(whw.mp (war.mp hi).1).1;rw[show i-k=(i-(k+1))+1 by lia];rfl
  show bo ws (if f k then q::bz f (k+1) g else bz f (k+1) g)=_;rw[waH,wfH]
  cases b:f k with
  |true=>
   rw[if_pos rfl,waW b,wau,e,cH,a,wbv,wbE];rfl
  |false=>
   rw[if_neg ⋯,wb1 (by grind),e,a]
theorem HK{a b:List Int}(h:a.Perm b):a.sum=b.sum:=by
 induction h with
 |nil=>rfl
 |cons x _ c=>grind
 |swap x y l=>grind
 |trans _ _ d e=>grind
theorem Cv{a b:List Nat}(na:a.Nodup)(g:b.Nodup)(h:∀x,x∈a↔x∈b):a.Perm b:=by grind [wi0]
theorem Cw(ws:List Int)(g:List (Str×Nat)){ns:List Nat}(nd:ns.Nodup)(j:∀n∈ns,n<g.length):bo ws (b0 (ns.map λn:Nat=>(n:Int)) g)=(ns.map λi=>ws.getD (g.getD i ("",0)).2 0).sum:=by
 unfold b0;rw[y3];refine HK (List.Perm.map _ (Cv ((List.nodup_range' ..).filter _) nd λx=>?_));rw[war,whw,decide_eq_true_eq,wab];constructor
 .grind
 .grind
theorem EX(ws:List Int)(ns:List Int)(g:List (Str×Nat)):bo ws (b0 ns g)+bo ws (aW ns g)=bo ws g:=by
 have gen:∀(f:Nat->Bool) (k:Nat) (l:List (Str×Nat)),bo ws (bz f k l)+bo ws (bz (λi=>!f i) k l)=bo ws l:=by
  intro f k l
  induction l generalizing k with
  |nil=>rfl
  |cons q l a=>
   have a:=a (k+1);show bo ws (if f k then q::bz f (k+1) l else bz f (k+1) l)+bo ws (if !f k then q::bz (λi=>!f i) (k+1) l else bz (λi=>!f i) (k+1) l)=_;rw[cH]
   cases f k with
   |true=>
    rw[if_pos ⋯,if_neg ⋯,cH]
    lia
   |false=>
    rw[if_neg ⋯,if_pos ⋯,cH]
    lia
 exact gen _ 0 g
theorem oE{f:Nat->Int}:∀ns:List Nat,(∀n∈ns,f n<=h)->(ns.map f).sum<=(ns.length:Int)*h
 |[],_=>by show (0:Int)<=(0:Nat)*h;simp
 |n::ns,a=>by
  have c:=oE ns λp b=>a p (wac _ b);have h0:=a n (wae ..);rw[wau,wbv,waH,wbz,wgk];show _<=_+1*h
  lia
theorem vm{f:Nat->Int}:∀ns:List Nat,(∀n∈ns,f n<=h)->x∈ns->f x<h->(ns.map f).sum<(ns.length:Int)*h
 |[],_,a,_=>nomatch a
 |n::ns,c,a,b=>by
  have h0:=c n (wae ..);rw[wau,wbv,waH,wbz,wgk];show _<_+1*h;rcases waK.mp a with e |a
  .have g:=oE ns λp d=>c p (wac _ d);rw[e]at b
   lia
  .have g:=vm ns (λp d=>c p (wac _ d)) a b
   lia
theorem vn{f:Nat->Int}:∀ns:List Nat,(∀n∈ns,1<=f n)->ns≠[]->1<=(ns.map f).sum
 |[],_,h=>absurd rfl h
 |[n],a,_=>by
  have:=a n (wae ..);show 1<=f n+0
  lia
 |n::m::ns,a,_=>by
  have h0:=a n (wae ..);have c:=vn (m::ns) (λp b=>a p (wac _ b)) (λz=>nomatch z);rw[wau,wbv]
  lia
theorem EY{many h w:Int}{hs:List Str}{ws:List Int}{lns:List (List (Str×Nat))}(S:iR many hs ws lns){d i0:Nat}{g:List (Str×Nat)}{ns:List Nat}(T:∀w∈ws,w<=h)(hd:lns[d]?=some g)(hw:ws.getD d 0=h)(m1:1<=many)
 (nd:ns.Nodup) (t:∀n∈ns,n<g.length) (C:ns≠[]) (J:(ns.length:Int)<=many) (r:(ns.length:Int)=many->i0∈ns) (I:ws.getD (g.getD i0 ("",0)).2 0<h)
 (j:(ns.map λi=>ws.getD (g.getD i ("",0)).2 0).sum=many*w):eh ws lns many (d:Int) (ns.map λn:Nat=>(n:Int)) w=true:=by
 have k:=S.w;have q:=S.l;have s:d<lns.length:=(wa6.mp hd).1;have m:lns.getD d []=g:=by rw[wa3,hd];rfl
 have o:g∈lns:=wa8 hd
 have a:∀i,i<g.length->ws.getD (g.getD i ("",0)).2 0∈ws:=λi hi=>by
  have e:g.getD i ("",0)=g[i]:=by rw[wa3,wa1 hi];rfl
  rw[e];exact getD_mem (by rw[k];exact S.e g o _ (waL hi))
 have c:∀n∈ns,1<=ws.getD (g.getD n ("",0)).2 0:=λn hn=>S.p _ (a n (t n hn));have f:∀n∈ns,ws.getD (g.getD n ("",0)).2 0<=h:=λn hn=>T _ (a n (t n hn));have u:=vn ns c C;rw[j]at u
 have x:1<=w:=by
  by_cases z:1<=w
  .exact z
  .have:=Int.mul_nonpos_of_nonneg_of_nonpos (show 0<=many by lia) (show w<=0 by lia)
   lia
 have H:1<=h:=by rw[<-hw];exact S.p _ (getD_mem (by lia))
 have L:w<h:=by
  have lt:many*w<many*h:=by
   rw[<-j]
   by_cases z:(ns.length:Int)=many
   .have:=vm ns f (r z) I;rw[z]at this;exact this
   .have y:=oE ns f;have A:((ns.length:Int)+1)*h<=many*h:=Int.mul_le_mul_of_nonneg_right (by lia) (by lia);rw[wgk]at A
    lia
  exact Int.lt_of_mul_lt_mul_left lt (by lia)
 have c1:=Cw ws g nd t;rw[j]at c1;have M:=EX ws (ns.map λn:Nat=>(n:Int)) g;have b:=S.b d g hd;rw[hw]at b
 have B:many*(h-w)<=bo ws (aW (ns.map λn:Nat=>(n:Int)) g):=by
  rw[whG]
  lia
 have part:∀(l:List (Str×Nat)) (v:Int),1<=v->many*v<=bo ws l->eU ws many l v=true:=λl v D hl=>by
  have hn:l≠[]:=λz=>by
   rw[z]at hl;have y:many*v<=0:=hl;have:=whH (show 0<many by lia) (show 0<v by lia)
   lia
  unfold eU;rw[decide_eq_true D,decide_eq_true hl]
  cases l with
  |nil=>exact absurd rfl hn
  |cons _ _=>rfl
 unfold eh;rw[waA,m,hw,part _ w x (Int.le_of_eq c1.symm),part _ (h-w) (by lia) B];have E:eX (d:Int) lns.length=true:=by unfold eX;rw[decide_eq_true (by lia),decide_eq_true (by lia)];rfl
 have G:(ns.map λn:Nat=>(n:Int)).all (λi=>eX i g.length)=true:=waR.mpr λi hi=>by
  obtain⟨n,hn,rfl⟩:=wab.mp hi;have:=t n hn;unfold eX;rw[decide_eq_true (by lia),decide_eq_true (by lia)];rfl
 rw[E,G];rfl
noncomputable def nI(ds:List Nat):List Int:=ds.map λn:Nat=>(n:Int)
theorem Nm{g:List Nat}{e:Nat}:(e:Int)∈nI g↔e∈g:=by grind [nI]
theorem vo(e:Nat)(g:List Nat):oR (.int (e:Int)) ((nI g).map V.int)=decide (e∈g):=by
 rw[ve];exact decide_eq_decide.mpr Nm
theorem bL(g:List Nat):(nI g).length=g.length:=wa0 _
theorem vp{g:List Nat}{i n:Nat}(h:g[i]?=some n):((nI g).map V.int)[i]?=some (.int (n:Int)):=by
 unfold nI;rw[wa4,wa4,h];rfl
theorem HL:∀{a b:List Nat},nI a=nI b->a=b
 |[],[],_=>rfl
 |[],_::_,h=>nomatch h
 |_::_,[],h=>nomatch h
 |x::a,y::b,h=>by
  unfold nI at h;rw[wau,wau]at h;injection h with d c
  rw[HL (a:=a) (b:=b) c,show x=y by lia]
theorem jA(a b:List Nat):nI (a++b)=nI a++nI b:=wai
structure Reach(lns:List (List (Str×Nat)))(rs:List Nat):Prop where
 cl:∀d∈rs,∀q∈lns.getD d [],q.2∈rs
 lt:∀d∈rs,d<lns.length
 ne:rs≠[]
 nd:rs.Nodup
noncomputable def d4(Lh:List Str)(f:Str->Int):Str->Int:=λp=>if p∈Lh then f p else 0
theorem vq{α:Type}{f g:α->Int}:∀l:List α,(∀x∈l,f x<=g x)->(l.map f).sum<=(l.map g).sum
 |[],_=>weZ _
 |x::l,h=>by
  have:=h x (wae ..);have:=vq l λy a=>h y (wac _ a);rw[wau,wau,wbv,wbv]
  lia
theorem vr{α:Type}{f:α->Int}{x:α}:∀l:List α,(∀x∈l,0<=f x)->x∈l->0<f x->0<(l.map f).sum
 |y::l,h,a,c=>by
  have h0:=h y (wae ..);have hn:=uV λz b=>h z (wac _ b);rw[wau,wbv];rcases waK.mp a with e |a
  .rw[<-e];lia
  .have:=vr l (λz b=>h z (wac _ b)) a c
   lia
theorem vt{ls g:List Str}{f:Str->Int}(h:∀p∈ls,0<=f p):∀p∈ls,0<=d4 g f p:=λp a=>by
 unfold d4;split
 .exact h p a
 .grind
theorem Aw{ls g:List Str}{f:Str->Int}(h:∀p∈ls,0<=f p):∀p∈ls,d4 g f p<=f p:=λp a=>by
 unfold d4;split
 .grind
 .exact h p a
theorem EZ{ls g:List Str}{f:Str->Int}(h:∀p∈ls,0<=f p):(ls.map (d4 g f)).sum<=(ls.map f).sum:=vq ls (Aw h)
theorem F0{ls:List Str}{f:Str->Int}{rs:List Nat}(h:∀p∈ls,0<=f p)(hl:∀d∈rs,d<(av ls f).length)(g:rs≠[]):0<(ls.map (d4 (rs.map λd=>(av ls f).getD d "") f)).sum:=by
 cases rs with
 |nil=>exact absurd rfl g
 |cons d rs=>
  have hd:=hl d (wae ..)
  have a:(av ls f).getD d ""∈av ls f:=by
   grind
  obtain⟨b,c⟩:=war.mp a;refine vr ls (vt h) b ?_;unfold d4;rw[if_pos (wab.mpr {d,wae ..,rfl})];exact of_decide_eq_true c
theorem F1{g:Str}{ws ss ls:List Str}{n:Nat}{many:Int}{f:Str->Int}{rs:List Nat}(hn:∀p∈ls,0<=f p)(l:FR g ws ss ls many n f)(R:Reach (bG g ws ss ls n (av ls f)) rs) :
 FR g ws ss ls many n (d4 (rs.map λd=>(av ls f).getD d "") f):=by
 intro p m
 by_cases h:p∈rs.map λd=>(av ls f).getD d ""
 .obtain⟨d,hd,rfl⟩:=wab.mp h;have b:=R.lt d hd;have c:d<(av ls f).length:=by unfold bG at b;rwa[wa0]at b
  have j:(bG g ws ss ls n (av ls f)).getD d []=gw g ws ss ls n (av ls f) ((av ls f).getD d ""):=by
   unfold bG;rw[wa3,wa4,wa1 c,wa3,wa1 c];rfl
  have e:hH g ws ss ls n (d4 (rs.map λd=>(av ls f).getD d "") f) ((av ls f).getD d "")=hH g ws ss ls n f ((av ls f).getD d ""):=by
   unfold hH;refine congrArg List.sum (waZ λq i=>?_);unfold d4
   by_cases a:q.2∈rs.map λd=>(av ls f).getD d ""
   .rw[if_pos a]
   .rw[if_neg a]
    by_cases h0:0<f q.2
    .exfalso;have k:q.2∈av ls f:=war.mpr {dC i,decide_eq_true h0}
     have o:(q.1,(av ls f).idxOf q.2)∈(bG g ws ss ls n (av ls f)).getD d []:=by
      rw[j];unfold gw;exact wab.mpr {q,war.mpr {i,decide_eq_true k},rfl}
     have:=R.cl d hd _ o;refine a (wab.mpr {_,this,?_});show (av ls f).getD ((av ls f).idxOf q.2) ""=q.2;rw[wa3,(qX k).1];rfl
    .have:=hn _ (dC i)
     lia
  rw[e];unfold d4;rw[if_pos h];exact l _ m
 .have e:d4 (rs.map λd=>(av ls f).getD d "") f p=0:=by unfold d4;rw[if_neg h]
  rw[e,Int.mul_zero];unfold hH;exact uV λq i=>vt hn _ (dC i)
end Bs
namespace Sx
open PySem L2 Bs
inductive Nn(K:wa2)(vs:List V)(H:Hp)(Q:VK)(dA:XK):Prop
 |mk (v a ds qs) (_:vs=[v,.ref a]) (_:bM K H (bY qs) v) (_:aL K H a ((nI ds).map V.int)) (_:qs.length<=10000) (_:∀y H',a7 H H'->bM K (aM H H') (bY (cU ds qs)) y->Q y H')
inductive Np(K:wa2)(C:Addr)(vs:List V)(H:Hp)(Q:VK)(dA:XK):Prop
 |mk (x many hs ws lns) (_:vs=[.ref x,.int many]) (_:cj K C H x hs ws lns) (_:lns.length<=1000) (_:(∀l∈lns,l.length<=10000)) (_:∀(l:Addr) (ks:List Nat) (H':Hp),a7 H H'->H l=none->H' l=some (.lst ((nI ks).map V.int))->oB lns many ks->Q (.ref l) H')
inductive F4(K:wa2)(C:Addr)(vs:List V)(H:Hp)(Q:VK)(dA:XK):Prop
 |mk (x:Addr) (d:Nat) (hs:List Str) (ws:List Int) (lns:List (List (Str×Nat))) (_:vs=[.ref x,.int (d:Int)]) (_:cj K C H x hs ws lns) (_:d<lns.length) (_:(∀l∈lns,∀q∈l,q.2<lns.length)) (_:lns.getD d []≠[]) (_:lns.length<=1000) (_:∀(l:Addr) (rs:List Nat) (H':Hp),a7 H H'->H l=none->H' l=some (.lst ((nI rs).map V.int))->Reach lns rs->Q (.ref l) H')
structure Down(ws:List Int)(lns:List (List (Str×Nat)))(h:Int)(d i:Nat)(qs:List (Str×Nat))(q:Str×Nat):Prop where
 m:h∈ws
 t:∀w∈ws,w<=h
 l:lns[d]?=some qs
 s:qs[i]?=some q
 e:ws.getD d 0=h
 lt:ws.getD q.2 0<h
inductive Nq(K:wa2)(C:Addr)(vs:List V)(H:Hp)(Q:VK)(dA:XK):Prop
 |mk (x hs ws lns) (_:vs=[.ref x]) (_:cj K C H x hs ws lns) (_:ws.length=lns.length) (_:(∀l∈lns,∀q∈l,q.2<ws.length)) (_:ws≠[]) (_:(∀h∈ws,(∀w∈ws,w<=h)->∃d i qs q,Down ws lns h d i qs q)) (_:∀(t:Addr) (h:Int) (d i:Nat) (qs:List (Str×Nat)) (q:Str×Nat) (H':Hp),a7 H H'->H' t=some (.tup [.int (d:Int),.int (i:Int)])->Down ws lns h d i qs q->Q (.ref t) H')
inductive Qm(K:wa2)(vs:List V)(H:Hp)(Q:VK)(dA:XK):Prop
 |mk (a b:Addr) (many:Int) (wl:List Int) (nums:List Nat) (_:vs=[.ref a,.ref b,.int many]) (_:aL K H a (wl.map V.int)) (_:aL K H b ((nI nums).map V.int)) (_:1<=many) (_:many<=1000) (_:(nums.length:Int)=many) (_:(∀n∈nums,n<wl.length)) (_:∀(l:Addr) (i j:Nat) (H':Hp),a7 H H'->H l=none->i<j->j<=nums.length->(((nums.take j).drop i).map λn=>wl.getD n 0).sum%many=0->H' l=some (.lst ((nI ((nums.take j).drop i)).map V.int))->Q (.ref l) H')
inductive Nr(K:wa2)(C:Addr)(vs:List V)(H:Hp)(Q:VK)(dA:XK):Prop
 |mk (x many hs ws lns) (_:vs=[.ref x,.int many]) (_:cj K C H x hs ws lns) (_:iR many hs ws lns) (_:oB lns many []) (_:hs≠[]) (_:hs.length<=1000) (_:(∀l∈lns,l.length<=10000)) (_:1<=many) (_:many<=1000) (_:∀(t l:Addr) (d:Nat) (ns:List Nat) (w:Int) (H':Hp),a7 H H'->H l=none->H t=none->H' t=some (.tup [.int (d:Int),.ref l,.int w])->H' l=some (.lst ((nI ns).map V.int))->eh ws lns many (d:Int) (nI ns) w=true->d<hs.length->ns.length<=1000->Q (.ref t) H')
end Sx
namespace Bs
open PySem L2 Sx
theorem y4:∀(a b:List Int),tF (a.map V.int) (b.map V.int)=decide (a=b)
 |[],[]=>rfl
 |[],_::_=>rfl
 |_::_,[]=>rfl
 |x::a,y::b=>by
  have d:=y4 a b;show (qJ (.int x) (.int y)&&tF (a.map V.int) (b.map V.int))=_;rw[d]
  by_cases h:x=y
  .subst h
   by_cases c:a=b
   .subst c;have:qJ (.int x) (.int x)=true:=by simp[qJ]
    rw[this,decide_eq_true rfl,decide_eq_true rfl];rfl
   .rw[decide_eq_false c,we7,decide_eq_false λz=>c (wem z).2]
  .have:qJ (.int x) (.int y)=false:=by simp[qJ,h]
   rw[this,wdv,decide_eq_false λz=>h (wem z).1]
theorem jB(a b:List Nat):tF ((nI a).map V.int) ((nI b).map V.int)=decide (a=b):=by
 rw[y4];exact decide_eq_decide.mpr {HL,λe=>by rw[e]}
theorem y6{p:V->Bool}{f:Nat->Bool}(h:∀n:Nat,p (.int (n:Int))=f n):∀g:List Nat,((nI g).map V.int).filter p=(nI (g.filter f)).map V.int:=by intro n;induction n<;>grind [nI,waW,wb1]
theorem rg(h:x∈(nI g).map V.int):∃n∈g,x=.int (n:Int):=by grind [nI]
theorem vv(n:Nat):((wao n).map λi=>V.int (i:Nat))=(nI (wao n)).map V.int:=by
 unfold nI;rw[waf];rfl
noncomputable def dB(rs:List Nat):List (Key×V):=rs.map λn:Nat=>((wb8 (n:Int):Key),V.bl true)
theorem z6(e:Nat):∀rs:List Nat,bF (dB rs) (wb8 (e:Int):Key)=if e∈rs then some (.bl true) else none
 |[]=>rfl
 |r::rs=>by
  have a:=z6 e rs
  by_cases h:r=e
  .subst h;rw[if_pos (wae ..)];exact cm (p:=((wb8 (r:Int):Key),V.bl true)) (r:=dB rs) rfl
  .have hn:¬(wb8 (r:Int):Key)=wb8 (e:Int):=λz=>h (by grind);rw[show dB (r::rs)=((wb8 (r:Int):Key),V.bl true)::dB rs from rfl,cn hn,a]
   by_cases b:e∈rs
   .grind
   .grind
theorem HM{e:Nat}{rs:List Nat}(h:e∉rs):putK (dB rs) (wb8 (e:Int):Key) (.bl true)=dB (rs++[e]):=by
 rw[fH _ (by rw[z6,if_neg h])];unfold dB;rw[wai];rfl
theorem Dy(rs:List Nat):((dB rs).map λg=>kV g.1)=(nI rs).map V.int:=by
 unfold dB nI;rw[waf,waf];rfl
theorem mj{n:Nat}{rs:List Nat}(nd:rs.Nodup)(h:∀r∈rs,r<n):rs.length<=n:=by
 have:=uN nd λr a=>wb0.mpr (h r a);rwa[waC]at this
theorem Kp(h:g≠[]):∃(z:Nat) (ys:List Nat),g=ys++[z]/\((nI g).map V.int)[((nI g).map V.int).length-1]?=some (.int (z:Int))/\((nI g).map V.int).dropLast=(nI ys).map V.int:=by
 refine{g.getLast h,g.dropLast,(wdw h).symm,?_,?_}
 .have e:nI g=nI g.dropLast++[((g.getLast h:Nat):Int)]:=by
   conv=>lhs;rw[<-wdw h]
   exact jA _ _
  rw[e,wai,wa5];show (_++[V.int _])[_+1-1]?=_;rw[Nat.add_sub_cancel,waE (waa _),wbE];rfl
 .unfold nI;rw[<-whx,<-whx]
noncomputable def kD(wl:List Int)(nums:List Nat)(j:Nat):Int:=((nums.take j).map λn=>wl.getD n 0).sum
theorem F5{wl:List Int}{g:List Nat}{j n:Nat}(h:g[j]?=some n):kD wl g (j+1)=kD wl g j+wl.getD n 0:=by
 unfold kD;rw[waO,h,wai,wi4];show _+(wl.getD n 0+0)=_
 lia
theorem HN(wl:List Int)(g:List Nat)(h:i<=j):(((g.take j).drop i).map λn=>wl.getD n 0).sum=kD wl g j-kD wl g i:=by grind [kD,wbr,wdM]
theorem HP{wl:List Int}{g:List Nat}{i j:Nat}{many:Int}(h:i<=j)(e:kD wl g i%many=kD wl g j%many):(((g.take j).drop i).map λn=>wl.getD n 0).sum%many=0:=by
 rw[HN wl g h];exact Int.emod_eq_emod_iff_emod_sub_eq_zero.mp e.symm
noncomputable def dR(many:Int)(p:Nat->Int)(n:Nat):List (Key×V):=(wao n).map λi:Nat=>((wb8 (p i%many):Key),V.int (i:Int))
theorem F6{κ:Type}[DecidableEq κ]{k:κ}{v:V}:∀{kvs:List (κ×V)},bF kvs k=some v->(k,v)∈kvs:=by intro kvs;induction kvs<;>grind [Gn,cm,wae,cn,wac]
theorem HQ(many:Int)(p:Nat->Int)(n:Nat)(r:Int):(bF (dR many p n) (wb8 r:Key)=none/\∀i,i<n->p i%many≠r)\/∃i,i<n/\p i%many=r/\bF (dR many p n) (wb8 r:Key)=some (.int (i:Int)):=by
 cases h:bF (dR many p n) (wb8 r:Key) with
 |none=>
  refine .inl {rfl,λi hi e=>?_};refine Gv h (wab.mpr {((wb8 (p i%many):Key),V.int (i:Int)),wab.mpr {i,wb0.mpr hi,rfl},?_});show (wb8 (p i%many):Key)=_;rw[e]
 |some v=>
  obtain⟨i,hi,e⟩:=wab.mp (F6 h);have a:p i%many=r:=Sum.inl.inj (wce e).1;have b:V.int (i:Int)=v:=(wce e).2;exact .inr {i,wb0.mp hi,a,by rw[b]}
theorem Nt{p:Nat->Int}(h:bF (dR many p n) (wb8 (p n%many):Key)=none):putK (dR many p n) (wb8 (p n%many):Key) (.int (n:Int))=dR many p (n+1):=by
 rw[fH _ h];unfold dR;rw[wc9,wai];rfl
theorem Nu(many:Int)(p:Nat->Int)(n:Nat):(dR many p n).length=n:=by unfold dR;rw[wa0,waC]
theorem nodup_map_on{α β:Type}{f:α->β}:∀{l:List α},l.Nodup->(∀a∈l,∀b∈l,f a=f b->a=b)->(l.map f).Nodup:=by intro l;induction l<;>grind [wdt,wac,wae]
theorem Cy{many:Int}{p:Nat->Int}{n:Nat}(h0:0<many)(hn:(n:Int)=many)(hd:∀i k,i<k->k<=n->p i%many≠p k%many):False:=by
 have nd:((wao (n+1)).map λi=>(p i%many).toNat).Nodup:=nodup_map_on wfM λa ha b c e=>by
  have ha:=wb0.mp ha;have c:=wb0.mp c;have a0:=wb9 (p a) (show many≠0 by lia);have f:=wb9 (p b) (show many≠0 by lia);have g:p a%many=p b%many:=by grind
  rcases wed a b with h |h |h
  .grind
  .exact h
  .grind
 have:=mj (n:=n) nd λr d=>by
  obtain⟨i,_,rfl⟩:=wab.mp d;have a0:=wb9 (p i) (show many≠0 by lia);have a1:=wb4 (p i) h0;show (p i%many).toNat<n
  lia
 rw[wa0,waC]at this
 lia
theorem HR(xs:List Int)(g:i<=j)(l:j<=xs.length):lW (xs.map V.int) (some (i:Int)) (some (j:Int))=((xs.take j).drop i).map V.int:=by grind [lW,HT.Js,wa0,wdM,wek,wdH,wgy]
theorem Dz(ns:List Nat)(j:Nat):(nI ns).take j=nI (ns.take j):=by unfold nI;rw[wdH]
theorem Kq(ns:List Nat)(j:Nat):(nI ns).drop j=nI (ns.drop j):=by unfold nI;rw[wek]
noncomputable def restOf(m i0:Nat):List Nat:=(wao m).filter λn=>decide (n≠i0)
noncomputable def numsOf(m i0 k:Nat):List Nat:=i0::(restOf m i0).take k
theorem Ax:∀{m:Nat},i0<m->(restOf m i0).length=m-1
 |m+1,h=>by
  unfold restOf;rw[wc9,wbj,wa5]
  by_cases e:i0=m
  .subst e;have b:(wao i0).filter (λn=>decide (n≠i0))=wao i0:=wba.mpr λn hn=>decide_eq_true (by grind);rw[b,wb1 (by simp),waC];rfl
  .have a:=Ax (i0:=i0) (m:=m) (by lia);unfold restOf at a;rw[a,waW (by grind)];show m-1+1=_
   lia
theorem Cz(m i0 k:Nat):(numsOf m i0 k).Nodup:=by
 unfold numsOf;refine wbH.mpr {λh=>?_,(wfM.filter _).sublist (wbn _ _)};have:=of_decide_eq_true (war.mp ((wbn _ _).subset h)).2;exact this rfl
theorem z7(h:i0<m):∀n∈numsOf m i0 k,n<m:=λn hn=>by
 rcases waK.mp hn with rfl |hn
 .exact h
 .exact wb0.mp (war.mp ((wbn _ _).subset hn)).1
theorem Ay(h:i0<m)(hk:k+1<=m):(numsOf m i0 k).length=k+1:=by
 grind [numsOf,waH,Ax]
theorem y7(S:iR many hs ws lns)(D:Down ws lns h d i g q):many<=(g.length:Int):=by
 have a:g∈lns:=wa8 D.l;have c:=S.b d g D.l;have f:=oC (ws:=ws) (h:=h) g λp j=>D.t _ (getD_mem (by rw[S.w];exact S.e g a p j));rw[D.e]at c;have k:1<=h:=S.p h D.m;exact wf9 (we4 c f) (by lia)
theorem Nv(ws:List Int){g:List (Str×Nat)}{n:Nat}(h:n<g.length):(g.map λq=>ws.getD q.2 0).getD n 0=ws.getD (g.getD n ("",0)).2 0:=by
 rw[wa3,wa4,wa1 h,wa3 (l:=g),wa1 h];rfl
theorem Kr{many h:Int}{hs:List Str}{ws:List Int}{lns:List (List (Str×Nat))}(S:iR many hs ws lns)(m1:1<=many){d i0:Nat}{g:List (Str×Nat)}{q:Str×Nat}(D:Down ws lns h d i0 g q){i j:Nat}(p:i<j)(C:j<=(numsOf g.length i0 (many-1).toNat).length)
 (r:((((numsOf g.length i0 (many-1).toNat).take j).drop i).map λn=>(g.map λq=>ws.getD q.2 0).getD n 0).sum%many=0) :
 eh ws lns many (d:Int) (nI (((numsOf g.length i0 (many-1).toNat).take j).drop i)) (((((numsOf g.length i0 (many-1).toNat).take j).drop i).map λn=>(g.map λq=>ws.getD q.2 0).getD n 0).sum/many)=true:=by
 have b:i0<g.length:=(wa6.mp D.s).1;have hl:=y7 S D;have u:=Ay (k:=(many-1).toNat) b (by lia);have c:=Cz g.length i0 (many-1).toNat;have f:=z7 (k:=(many-1).toNat) b;have m:i0∈numsOf g.length i0 (many-1).toNat:=wae ..;generalize numsOf g.length i0 (many-1).toNat=a at *;have sub:((a.take j).drop i).Sublist a:=(why _ _).trans (wbn _ _);have len:((a.take j).drop i).length=j-i:=by rw[wb3,wag];lia
 have o:∀n∈(a.take j).drop i,n<g.length:=λn hn=>f n (sub.subset hn);have e:((a.take j).drop i).map (λn=>(g.map λq=>ws.getD q.2 0).getD n 0)=((a.take j).drop i).map λn=>ws.getD (g.getD n ("",0)).2 0:=waZ λn hn=>Nv ws (o n hn);rw[e]at r ⊢;have v:g.getD i0 ("",0)=q:=by rw[wa3,D.s];rfl
 refine EY S (i0:=i0) D.t D.l D.e m1 (c.sublist sub) o (λz=>?_) ?_ (λz=>?_) (by rw[v];exact D.lt) ?_
 .rw[z]at len;have:(0:Nat)=j-i:=len
  lia
 .rw[len];lia
 .have w:(a.take j).drop i=a:=sub.eq_of_length (by grind);rw[w];exact m
 .have:=wgz ((((a.take j).drop i).map λn=>ws.getD (g.getD n ("",0)).2 0).sum) many
  lia
end Bs
namespace L2
open PySem
theorem Ks{X:Cx}(g:X.K=K):Oc X (Pg K):=by
 subst g;exact fG
end L2
namespace Bs
open PySem L2 Sx
structure u9(g:Str)(ws ss ls:List Str)(many:Int)(n:Nat)(f:Str->Int):Prop where
 gr:∃most:Int,1<=most/\most<=8/\nF g ws ss ls many n most f/\∀(m:Int) (h:Str->Int),1<=m->m<most->nF g ws ss ls many n m h->(ls.map h).sum=0
 ps:0<(ls.map f).sum
 le:(ls.map f).sum<=40
def z8(g:Str)(ws ss ls:List Str)(many:Int)(n:Nat):Prop:=∃most:Int,1<=most/\most<=9/\(∀(m:Int) (h:Str->Int),1<=m->m<most->nF g ws ss ls many n m h->(ls.map h).sum=0)/\(most=9\/∃f,nF g ws ss ls many n most f/\40<(ls.map f).sum)
theorem F7{f h:Str->Int}(a:nF g ws ss ls many n most f)(b:nF g ws ss ls many n most h):∀p∈ls,f p=h p:=λp c=>by
 have d:=a.top h b.le b.fit p c;have e:=b.top f a.le a.fit p c
 lia
theorem F8{f h:Str->Int}(a:nF g ws ss ls many n most f)(b:nF g ws ss ls many n most h):(ls.map f).sum=(ls.map h).sum:=congrArg List.sum (waZ λp c=>F7 a b p c)
theorem CA(f:Str->Int)(ls:List Str):(bJ (cE f ls)).map (·.2)=(ls.map f).map V.int:=by simp_all [bJ,cE,waf]
theorem Kt{R:Addr->Prop}:(∀y∈ys,∃q,y=.ref q/\R q)->∃ps:List Addr,ys=ps.map V.ref/\∀q∈ps,R q:=by
 induction ys with
 |nil=>exact λ_=>{[],rfl,λq h=>nomatch h}
 |cons y ys a=>
  intro h;obtain⟨q,rfl,c⟩:=h y (wae ..);obtain⟨ps,rfl,d⟩:=a λz b=>h z (wac _ b)
  exact{q::ps,rfl,λr e=>by
   grind}
end Bs
namespace Sx
open PySem L2 Bs
inductive HS(C CO:Addr)(vs:List V)(H:Hp)(Q:VK)(E:XK):Prop
 |mk (x:Addr) (many:Int) (n:Nat) (g:Str) (ws ss ls:List Str) (_:vs=[.ref x,.int many,.int (n:Int)]) (_:aZ C H x g ws ss ls) (_:2<=g.length) (_:g.length<=10) (_:ss.length<=900) (_:gq g.length many n) (_:(∀(d:Addr) (f:Str->Int) (H':Hp),a7 H H'->H d=none->H' d=some (.dK (bJ (cE f ls)))->u9 g ws ss ls many n f->Q (.ref d) H')) (_:(z8 g ws ss ls many n->∀H',a7 H H'->E (.ref CO) none H'))
inductive HU(C:Addr)(vs:List V)(H:Hp)(Q:VK)(dA:XK):Prop
 |mk (x d:Addr) (many:Int) (n:Nat) (f:Str->Int) (g:Str) (ws ss ls:List Str) (_:vs=[.ref x,.int many,.int (n:Int),.ref d]) (_:aZ C H x g ws ss ls) (_:(∀w∈ws,1<=w.length)) (_:(ch g).Nodup) (_:2<=g.length) (_:g.length<=10) (_:ss.length<=900) (_:gq g.length many n) (_:H d=some (.dK (bJ (cE f ls)))) (_:(∀p∈ls,0<=f p)) (_:FR g ws ss ls many n f) (_:0<(ls.map f).sum) (_:∀(dl:Addr) (f':Str->Int) (H':Hp),(∀c o,H c=some o->c≠d->H' c=some o)->H dl=none->H' dl=some (.dK (bJ (cE f' ls)))->(∀p∈ls,0<=f' p)->FR g ws ss ls many n f'->0<(ls.map f').sum->(∀p∈ls,f' p<=f p)->(ls.map f').sum<=(ls.map f).sum->Q (.ref dl) H')
end Sx
namespace L2
open PySem Sx Bs
theorem F9{Ok:Hp->Prop}{Q:Hp->Prop}(R:Nat->V->Hp->Prop)(I:∀i y T g ys,R i y T->T l=some (.lst ys)->(∀b o,T b=some o->b≠l->g b=some o)->R i y g)(U:lS J Ok xs)(hl:H l=none)(hz:xs.length<=sizeLine)(t:∀r,a7 H r->Ok r)
 (he:∀i x C ys,xs[i]?=some x->a7 H C->C l=some (.lst ys)->∃p a b c,x=.ref p/\gA K C p [a,b,c]/\∀Q',(∀y r,a7 C r->R i y r->Q' y r)->te (some a::some b::some c::σf) C Q')
 (hd:∀ys r,a7 H r->r l=some (.lst ys)->ys.length=xs.length->(∀i y,ys[i]?=some y->R i y r)->Q r):vj K J l σf wA te H Q:=by
 refine{λi m d g=>m=xs.length-i/\i<=xs.length/\a7 H g/\g l=some (.lst d)/\d.length=i/\∀j y,d[j]?=some y->R j y g,{xs.length,by simp,waz _,a7.upd hl,a6,rfl,λj y h=>by simp at h},?_};rintro i m d g ⟨rfl,hi,n,q,f,E⟩;refine{q,?_}
 by_cases k:i<xs.length
 .refine .inr {U.go i g (t _ n) k,by rw[f];lia,λx C y=>?_};obtain⟨e,G⟩:=U.ui i g x C (t _ n) k y;subst e;obtain⟨p,a,b,c,rfl,L,M⟩:=he i x _ d G n q;refine{p,a,b,c,rfl,L,?_};unfold wA;dsimp only;rw[if_pos rfl];refine M _ λy v w A=>{w _ _ q,xs.length-(i+1),by lia,rfl,k,λb o e=>?_,a6,by rw[wa5,f];rfl,λj z s=>?_}
  .rw[ae (af e hl)];exact w _ _ (n _ _ e)
  .have u:=w _ _ q;have kp:∀b o,v b=some o->b≠l->(upd v l (.lst (d++[y]))) b=some o:=λb o e N=>by rw[ae N];exact e
   by_cases B:j<d.length
   .rw[waF B]at s;exact I j z v _ _ (I j z _ _ _ (E j z s) q λb o e _=>w _ _ e) u kp
   .rw[waE (by lia)]at s
    have D:j-d.length=0:=by
     have:=(wa6.mp s).1;simp at this
     lia
    rw[D]at s;cases s;have:j=i:=by lia
    rw[this];exact I i y v _ _ A u kp
 .have e:i=xs.length:=by lia
  subst e;exact .inl {U.stop g (t _ n),hd d g n q f E}
theorem HV{Ok:Hp->Prop}{Q:Hp->Prop}(t:List ku)(hJ:lS J Ok xs)(hl:H l=none)(hz:xs.length<=sizeLine)(C:t.length=xs.length)(T:∀g,a7 H g->Ok g)
 (he:∀(i:Nat) (x:V) (d:ku) j,xs[i]?=some x->t[i]?=some d->a7 H j->∃p a b c,x=.ref p/\gA K j p [a,b,c]/\∀I,(∀y g,a7 j g->bM K (aM j g) d y->I y g)->te (some a::some b::some c::U) j I)
 (hd:∀g,a7 H g->bM K (aM H g) (.lst t) (.ref l)->Q g):vj K J l U wA te H Q:=by
 refine F9 (λi y g=>∀d,t[i]?=some d->∃j o,a7 H j/\j l=some o/\bM K (aM j g) d y) ?_ hJ hl hz T (λi x j n s h k=>?_) (λn g q u m v=>?_)
 .intro i y E G n r w kp d f;obtain⟨j,o,h,k,r⟩:=r d f;exact{j,o,h,k,bM.same (bQ k kp) d y r}
 .have hi:i<t.length:=by rw[C];exact(wa6.mp s).1
  obtain⟨p,a,b,c,e,z,A⟩:=he i x t[i] j s (wa1 hi) h;refine{p,a,b,c,e,z,λI B=>A I λy g q r=>B y g q λd f=>?_};rw[wa1 hi]at f;cases f;exact{j,_,h,k,r}
 .refine hd g q {l,n,rfl,.inl (bX hl u),bA.qW t n (by rw[C,m]) λi d y f D=>?_};obtain⟨j,o,h,k,r⟩:=v i y D d f;exact bM.same (eM h) d y r
end L2
namespace Bs
open PySem L2 Sx
noncomputable abbrev z9:=Nat×List Nat×Int
noncomputable def za(s:z9):ku:=.tup [.at (.int (s.1:Int)),nG (nI s.2.1),.at (.int s.2.2)]
set_option genInjectivity true in
inductive Runs(many:Int)(RN:List Str)(RO:List Int)(Ku:List (List (Str×Nat))):List z9->List Str->List Int->List (List (Str×Nat))->Prop
 |nil:Runs many RN RO Ku [] RN RO Ku
 |snoc {l:List z9} {hs:List Str} {ws:List Int} {lns:List (List (Str×Nat))} {d:Nat} {ns:List Nat} {w:Int}:Runs many RN RO Ku l hs ws lns->eh ws lns many (d:Int) (nI ns) w=true->Runs many RN RO Ku (l++[(d,ns,w)]) (cT hs d) (cB ws d w) (dD lns d (nI ns))
noncomputable def sy(a:Addr):List (Str×V):=[("weights",.ref a)]
noncomputable def pz(a b:Addr):List (Str×V):=[("weights",.ref a),("splits",.ref b)]
noncomputable def sA(a b c:Addr):List (Str×V):=[("weights",.ref a),("splits",.ref b),("kept",.ref c)]
noncomputable def vx(a b c d:Addr):List (Str×V):=[("weights",.ref a),("splits",.ref b),("kept",.ref c),("last",.ref d)]
theorem Qn(a:Addr):cO "weights" (.ref a) []=sy a:=rfl
theorem LC(a b:Addr):cO "splits" (.ref b) (sy a)=pz a b:=by
 show (if ("weights":Str)="splits" then _ else(("weights":Str),V.ref a)::cO "splits" (.ref b) [])=_;rw[if_neg ∅];rfl
theorem HW(a b c:Addr):cO "kept" (.ref c) (pz a b)=sA a b c:=by
 show (if ("weights":Str)="kept" then _ else(("weights":Str),V.ref a)::(if ("splits":Str)="kept" then _ else(("splits":Str),V.ref b)::cO "kept" (.ref c) []))=_;rw[if_neg ∅,if_neg ∅];rfl
theorem DA(a b c d:Addr):cO "last" (.ref d) (sA a b c)=vx a b c d:=by
 show (if ("weights":Str)="last" then _ else(("weights":Str),V.ref a)::(if ("splits":Str)="last" then _ else(("splits":Str),V.ref b)::(if ("kept":Str)="last" then _ else(("kept":Str),V.ref c)::cO "last" (.ref d) [])))=_;rw[if_neg ∅,if_neg ∅,if_neg ∅];rfl
theorem CC(a b c d:Addr):(vx a b c d).lookup ("last":Str)=some (.ref d):=by
 rw[<-DA,aF,if_pos rfl]
theorem CD(a b c d:Addr):(vx a b c d).lookup ("kept":Str)=some (.ref c):=by
 rw[<-DA,aF,if_neg ∅,<-HW,aF,if_pos rfl]
theorem zb(a b c d:Addr):(vx a b c d).lookup ("splits":Str)=some (.ref b):=by
 rw[<-DA,aF,if_neg ∅,<-HW,aF,if_neg ∅,<-LC,aF,if_pos rfl]
structure oF(K:wa2)(C CS:Addr)(H:Hp)(x:Addr)(m:List (Str×Int))(qF:List z9)(ks:List Nat)(hs:List Str)(ws:List Int)(lns:List (List (Str×Nat))):Prop where
 ex:∃dx a b c d,H x=some (.ins C dx (vx a b c d))/\H a=some (.dK (bJ m))/\bM K H (.lst (qF.map za)) (.ref b)/\bM K H (nG (nI ks)) (.ref c)/\cj K CS H d hs ws lns
theorem oF.same(h:oF K C j H x m g l hs ws lns)(s:a7 H p):oF K C j p x m g l hs ws lns:=by
 obtain⟨e,a,b,c,d,f,i,k,n,o⟩:=h;exact{e,a,b,c,d,s _ _ f,s _ _ i,bM.same s _ _ k,bM.same s _ _ n,o.same s}
theorem pA(s:a7 H g):a7 (fE H b) (fE g b):=λc o e=>by
 unfold fE at e ⊢
 by_cases h:c=b
 .rw[if_pos h]at e;cases e
 .rw[if_neg h]at e ⊢;exact s _ _ e
theorem Kv:fE (upd H b o) b=fE H b:=by
 funext c;unfold fE
 by_cases h:c=b
 .rw[if_pos h,if_pos h]
 .rw[if_neg h,if_neg h,ae h]
theorem vy:a7 (fE H b) H:=f7 λ_ _ e _=>e
theorem DB(h:H b=some o):a7 (aM H g) (fE g b):=by grind [a7,fE,cf,gv,aM]
theorem Az(s:a7 H g)(h:H b=none):a7 H (fE g b):=λc o e=>gv (s _ _ e) (af e h)
theorem DC(g:H t=some (.tup [.int (d:Int),.ref l,.int w]))(j:H l=some (.lst ((nI ns).map V.int))):bM K H (za (d,ns,w)) (.ref t):=
 {t,_,rfl,g,_,_,rfl,⟨rfl,rfl⟩,_,_,rfl,jz j,_,_,rfl,⟨rfl,rfl⟩,rfl}
structure gT(g:Str)(bw ss ls:List Str)(many:Int)(n:Nat)(f:Str->Int)(qF:List z9)(ks:List Nat)(hs:List Str)(ws:List Int)(lns:List (List (Str×Nat))):Prop where
 nn:∀p∈ls,0<=f p
 le:∀p∈ls,f p<=8
 fit:FR g bw ss ls many n f
 ps:0<(ls.map f).sum
 m:(ls.map f).sum<=40
 rn:Runs many (av ls f) ((av ls f).map f) (bG g bw ss ls n (av ls f)) qF hs ws lns
 b:iR many hs ws lns
 cv:wK (aV g bw ss ls n) hs lns
 ln:hs.length<=40
 ko:oB lns many ks
 ne:ks≠[]
 sl:qF.length<=40
 sb:∀p∈hs,p∈ls
end Bs
namespace Sx
open PySem L2 Bs
inductive HX(K:wa2)(C:Addr)(vs:List V)(H:Hp)(Q:VK)(dA:XK):Prop
 |mk (x hs ws lns) (_:vs=[.ref x]) (_:cj K C H x hs ws lns) (_:hs.length<=10000) (_:ws.length<=10000) (_:lns.length<=10000) (_:(∀l∈lns,l.length<=10000)) (_:∀y H',a7 H H'->cj K C (aM H H') y hs ws lns->Q (.ref y) H')
inductive Kw(K:wa2)(C CS:Addr)(vs:List V)(H:Hp)(Q:VK)(dA:XK):Prop
 |mk (x dx d z:Addr) (u v:V) (m:List (Str×Int)) (qF:List z9) (ks:List Nat) (hs:List Str) (ws:List Int) (lns:List (List (Str×Nat))) (_:vs=[.ref x,.ref d,u,v,.ref z]) (_:H x=some (.ins C dx [])) (_:Rd H d (.dK (bJ m))) (_:bM K H (.lst (qF.map za)) u) (_:bM K H (nG (nI ks)) v) (_:cj K CS H z hs ws lns) (_:hs.length<=10000) (_:ws.length<=10000) (_:lns.length<=10000) (_:(∀l∈lns,l.length<=10000)) (_:qF.length<=10000) (_:∀a b c y H',H' x=some (.ins C dx (vx a b c y))->H a=none->H' a=some (.dK (bJ m))->bM K (aM H H') (.lst (qF.map za)) (.ref b)->bM K (aM H H') (nG (nI ks)) (.ref c)->cj K CS (aM H H') y hs ws lns->(∀b o,H b=some o->b≠x->H' b=some o)->Q .non H')
inductive Fa(K:wa2)(C CS:Addr)(vs:List V)(H:Hp)(Q:VK)(dA:XK):Prop
 |mk (x m qF ks hs ws lns) (_:vs=[.ref x]) (_:oF K C CS H x m qF ks hs ws lns) (_:hs.length<=10000) (_:ws.length<=10000) (_:lns.length<=10000) (_:(∀l∈lns,l.length<=10000)) (_:∀y H',a7 H H'->cj K CS (aM H H') y hs ws lns->Q (.ref y) H')
end Sx
namespace L2
open PySem PySem.Spec PyProof.Rows
theorem under(n:Nat){P:Int->Prop}(h:∀k:Fin n,P ((k.val:Nat):Int))(d:Int)(a:0<=d)(b:d<(n:Int)):P d:=by
 obtain⟨k,rfl⟩:=wfU a;exact h {k,Int.ofNat_lt.mp b}
theorem ay{X:Cx}(ys:List Str)(ix:List Nat)(h:ot X.env.scope scope X.N x ys ix=true:=by kernel_rfl):bV X scope x ys ix:=BF rfl rfl h
end L2
namespace Bs
open PySem L2 Sx
theorem vz:∀{ws:List Int},(∀w∈ws,1<=w)->(ws.length:Int)<=ws.sum
 |[],_=>weZ _
 |w::ws,h=>by
  have h0:=h w (wae ..);have b:=vz (ws:=ws) λx a=>h x (wac _ a);rw[wbv,waH]
  lia
structure fh(g:Str)(bw ss ls:List Str)(many:Int)(n:Nat)(f:Str->Int)(qF:List z9)(hs:List Str)(ws:List Int)(lns:List (List (Str×Nat))):Prop where
 rn:Runs many (av ls f) ((av ls f).map f) (bG g bw ss ls n (av ls f)) qF hs ws lns
 b:iR many hs ws lns
 cv:wK (aV g bw ss ls n) hs lns
 sm:ws.sum=(ls.map f).sum
 sl:qF.length+(av ls f).length=hs.length
 sb:∀p∈hs,p∈ls
theorem fh.start{f:Str->Int}(nd:(ch g).Nodup)(j:ss.Perm (bP bw "" bw))(hw:∀w∈bw,1<=w.length)(l:∀p∈ls,p∈ss)(hl:ls.Nodup)(hn:∀p∈ls,0<=f p)(r:FR g bw ss ls many n f) :
 fh g bw ss ls many n f [] (av ls f) ((av ls f).map f) (bG g bw ss ls n (av ls f)):=
 {.nil,iR.first hn r,wK.first nd j hw (λp j=>l p (war.mp j).1) (hl.filter _),xY hn,wfL _,λp j=>(war.mp j).1}
theorem fh.step{g:Str}{bw ss ls:List Str}{many:Int}{n:Nat}{f:Str->Int}{j:List z9}{hs:List Str}{ws:List Int}{lns:List (List (Str×Nat))}(h:fh g bw ss ls many n f j hs ws lns){d:Nat}{ns:List Nat}{w:Int}(ok:eh ws lns many (d:Int) (nI ns) w=true) :
 fh g bw ss ls many n f (j++[(d,ns,w)]) (cT hs d) (cB ws d w) (dD lns d (nI ns)):=by
 obtain⟨b,hd⟩:=h.b.split ok;have hw:=h.b.w;have hl:=h.b.l;refine{.snoc h.rn ok,b,h.cv.split hl h.b.e hd (nI ns),?_,?_,λp a=>?_}
 .rw[Ci (by lia)];exact h.sm
 .have:=h.sl;unfold cT;rw[wa5,wa5];show j.length+1+_=hs.length+1
  lia
 .unfold cT at a;rcases waD.mp a with a |a
  .exact h.sb p a
  .rw[wap.mp a,wa3,wa1 hd];exact h.sb _ (waL hd)
theorem fh.len{f:Str->Int}(h:fh g bw ss ls many n f j hs ws lns):(hs.length:Int)<=(ls.map f).sum:=by
 have:=vz h.b.p;have a:=h.sm;have c:=h.b.w
 lia
theorem fh.whole{f:Str->Int}(h:fh g bw ss ls many n f r hs ws lns)(t:(ls.map f).sum<=40)(j:g.length^n<=64):Ly hs ws lns:=by
 have hl:=h.len;refine{h.b.w,h.b.l,h.b.e,by lia,λl a=>?_};have c:=h.cv.line h.b.l (b:=64) (λp=>wak (gu g bw ss ls n p) j) l a;have d:64*hs.length<=64*40:=wcb _ (by lia)
 lia
def Fb(g:Str)(bw ss:List Str)(many:Int)(n:Nat):Prop:=∀j:Nat,1<=j->(j:Int)<=24->¬i3 g bw ss (j*n) "" < many^j
end Bs
namespace Sx
open PySem L2 Bs
def TL(CX:Addr)(g:Str)(bw ss:List Str)(many:Int)(n:Nat)(H:Hp)(E:XK):Prop:=∀(k:Nat) (d:Addr) (H':Hp),RJ g bw ss many n 24 (.int (k:Nat))->a7 H H'->H d=none->H' d=some (.xd [("length",.int (k:Nat)),("rows",.int (i3 g bw ss (k*n) ""))])->E (.ref CX) (some d) H'
inductive Kx(C CX:Addr)(vs:List V)(H:Hp)(Q:VK)(E:XK):Prop
 |mk (x:Addr) (many:Int) (n:Nat) (g:Str) (bw ss ls:List Str) (_:vs=[.ref x,.int many,.int (n:Int)]) (_:aZ C H x g bw ss ls) (_:g.length<=10) (_:ss.length<=900) (_:gq g.length many n) (_:(Fb g bw ss many n->∀H',a7 H H'->Q .non H')) (_:TL CX g bw ss many n H E)
inductive HY(K:wa2)(C CP CS CX CO:Addr)(vs:List V)(H:Hp)(Q:VK)(E:XK):Prop
 |mk (x:Addr) (many:Int) (n:Nat) (g:Str) (bw ss ls:List Str) (_:vs=[.ref x,.int many,.int (n:Int)]) (_:aZ C H x g bw ss ls) (_:(∀w∈bw,1<=w.length)) (_:(ch g).Nodup) (_:2<=g.length) (_:g.length<=10) (_:ss.length<=900) (_:gq g.length many n) (_:(Fb g bw ss many n->∀(y:Addr) (f0 f:Str->Int) (qF:List z9) (ks:List Nat) (hs:List Str) (ws:List Int) (lns:List (List (Str×Nat))) (H':Hp),a7 H H'->oF K CP CS (aM H H') y (cE f ls) qF ks hs ws lns->u9 g bw ss ls many n f0->(∀p∈ls,f p<=f0 p)->gT g bw ss ls many n f qF ks hs ws lns->Q (.ref y) H')) (_:TL CX g bw ss many n H E) (_:(Fb g bw ss many n->z8 g bw ss ls many n->∀H',a7 H H'->E (.ref CO) none H'))
end Sx
namespace L2
open PySem PySem.Spec PyProof.Rows
section
variable{X:Cx}{e o:Expr}{es:List Expr}{te ta:TE}{t:TA}{a b:Expr}{pos p apos:Pos}{C f:Addr}{q:Str}{st:Stmt}{ps:List Str}{k:Nat}{sp:Sp}
theorem aK(ha:PE X e te)(hs:starEach [e] X.env=(false,eval e X.env)::starEach [] X.env:=by rfl):PA X [e] (rL te yz):=a8 ha eC hs
theorem sC(g:X.mg "len"=none)(h:PE X e te)(j:Gl X "len":=by rfl)(he:starEach [e] X.env=(false,eval e X.env)::starEach [] X.env:=by rfl)(hpl:(backTo pos (starEach [] X.env)).any (·.1)=false:=by rfl) :
 PE X (.Call (.Name "len" p) [e] [] pos) (Rx (λxs H Q=>∃z,xs=[.str z]/\z.length<=sizeLine/\Q (.int z.length) H) (rL te yz)):=aU yF j g we8 (a8 h eC he) (he:=he) (hpl:=hpl)
theorem zD(g:X.mg "len"=none)(h:PE X e te)(j:Gl X "len":=by rfl)(he:starEach [e] X.env=(false,eval e X.env)::starEach [] X.env:=by rfl)(hpl:(backTo pos (starEach [] X.env)).any (·.1)=false:=by rfl) :
 PE X (.Call (.Name "len" p) [e] [] pos) (Rx (λxs H Q=>∃p ys,xs=[.ref p]/\(aL X.K H p ys\/gA X.K H p ys)/\Q (.int ys.length) H) (rL te yz)):=aU p0 j g we8 (a8 h eC he) (he:=he) (hpl:=hpl)
theorem eV{m:Str}{fd:wb6}{pl:Sem Bool}(he:PE X o ta)(c:zN X.K C)(g:cD X.K C m q st ps f fd)(F:aS X.prog X.w X.K X.mg X.base cP k f fd ps sp)(l:dJ k X.A:=by exact dJ.mono (by assumption) ⋯)
 (r:eval (.Call (.Attribute o m apos) [] [] pos) X.env=(do
   let j <-eval o X.env
   standAt apos.atName
   let (f,first) <-holding [j] (wes j m pl)
   callWith pos f first (backTo pos (starEach [] X.env)) (backToKw pos (wcH [] X.env))):=by rfl) :
 PE X (.Call (.Attribute o m apos) [] [] pos) (D6 C m sp [] E0 ta yz):=Gd he c g.m F l g.b .nil p5 r
theorem sD{m:Str}{fd:wb6}{pl:Sem Bool}(he:PE X o ta)(c:zN X.K C)(j:cD X.K C m q st ps f fd)(F:aS X.prog X.w X.K X.mg X.base cP k f fd ps sp)(ha:PA X (e::es) t)(r:dJ k X.A:=by exact dJ.mono (by assumption) ⋯)
 (g:starEach (e::es) X.env=(false,eval e X.env)::starEach es X.env:=by rfl) (hpl:(backTo pos (starEach es X.env)).any (·.1)=false:=by rfl)
 (I:eval (.Call (.Attribute o m apos) (e::es) [] pos) X.env=(do
   let l <-eval o X.env
   standAt apos.atName
   let (f,first) <-holding [l] (wes l m pl)
   callWith pos f first (backTo pos (starEach (e::es) X.env)) (backToKw pos (wcH [] X.env))):=by rfl) :
 PE X (.Call (.Attribute o m apos) (e::es) [] pos) (D6 C m sp [] E0 ta t):=Jr he c j.m F r j.b .nil p5 ha g hpl I
theorem forA(hi:PI X j iter l)(r:PG X j g)(I:tR X body J)(T:PassesOwn (model X.prog X.w) X.A X.env X.xe:=by exact wdl)(hc:X.calm=true:=by rfl)(hs:∀x,wbR iter X.env x=pure x:=by intro _;rfl):PS X (.For j iter body [] pos) (OX l g J):=G7 T hc hi r I hs
theorem cu(g:kQ X (wbc op) r)(ha:PE X a ta)(j:PE X b l)(h:op≠.In:=by decide)(I:op≠.NotIn:=by decide):PT X (.Compare a [op] [b] pos) (Ga (OY r ta l)):=eZ g ha j (oh _ h I)
end
end L2
namespace K52
open PySem L2 Bs Sx
noncomputable def top(i:Nat):Stmt:=PySem.Challenge.pw_bandscribe_k52_whole_spoilt_signs.main.body.getD i (.Pass ⟨0,0,0,0⟩)
theorem cY{CX P w K mg base N q g f cd A o s H E}:(uo CX P w K mg base N q g f cd A o s H E).K=K:=rfl
theorem cZ{X:Cx}{f}:(X.og f).K=X.K:=rfl
theorem vA{t u:TS}{D:Ends}{σ:St}{H:Hp}(h:∀R:St->Hp->Prop,(∀σ H,u D σ H->R σ H)->t (D.L6 R) σ H):Ml t u D σ H:=h _ λ_ _ x=>x
theorem aX{x p y q e}:(wdy [.Name x p,.Name y q] e).length=2:=rfl
theorem aY{x p y q z r e}:(wdy [.Name x p,.Name y q,.Name z r] e).length=3:=rfl
structure Txt(mg:Str->Option Value):Prop where
 «all»:mg "all"=none
 «any»:mg "any"=none
 «bool»:mg "bool"=none
 «dict»:mg "dict"=none
 «enum»:mg "enumerate"=none
 «int»:mg "int"=none
 «FT»:mg "isinstance"=none
 «len»:mg "len"=none
 «list»:mg "list"=none
 «max»:mg "max"=none
 «min»:mg "min"=none
 «range»:mg "range"=none
 «reversed»:mg "reversed"=none
 «set»:mg "set"=none
 «sorted»:mg "sorted"=none
 «str»:mg "str"=none
 «sum»:mg "sum"=none
structure Fc(K:wa2)(C:Addr):Prop where
 cl:zN K C
 b5:bU K C "writer"
 DE:bU K C "pairs"
structure Ky(K:wa2)(C:Addr):Prop where
 cl:zN K C
 pB:bU K C "signs"
 vB:bU K C "barred"
 kE:bU K C "moves"
 ri:bU K C "lasting"
structure HZ(K:wa2)(C:Addr):Prop where
 cl:zN K C
 fM:bU K C "homes"
 dg:bU K C "weights"
 cR:bU K C "lines"
structure Kz(K:wa2)(C:Addr):Prop where
 cl:zN K C
 dg:bU K C "weights"
 AA:bU K C "splits"
 Ia:bU K C "kept"
 Ib:bU K C "last"
structure Fd(K:wa2)(C:Addr):Prop where
 cl:zN K C
 pC:bU K C "scheme"
 rj:bU K C "band"
 Ic:bU K C "many"
 je:bU K C "wide"
 fM:bU K C "homes"
 cR:bU K C "lines"
 rk:bU K C "opening"
 DF:bU K C "first"
structure Lk(K:wa2)(mg:Str->Option Value) where
 T:Txt mg
 (vC kW pD fN eQ fu gf jC iS nJ jD sE sF y8 ml mm kX nK pE pF kF gU jE ir iT mn nL sG kY vD mq vE y9 pG nM nN sH vF mr pH DG pI sI ya oG AB mw gx nO mx pJ pK DH my gW pL iu fv mz jF pM kG sJ AD pN yc kZ fO pO AF fP lj mB vG nP mC iU mD mE sL nQ sM sN sP vH kH fQ iw:Addr)
 (vI lq pP iV eR fz gg jG iW nR jH sQ sR yd mF mG lz nT pQ pR pT lA jI iy iX mH nU sS lB vJ mI vK ye pU nV nW sT vL mJ pV DI pW sU yf vM AG mK jJ nX mL pX pY DJ mM lC pZ iz fA mN jK q0 q8 sV AH q9 yg lD fR qa AI iY lE mO vN nY mP iZ mQ mR sW nZ sX sY sZ vO qc j2 mS:wb6)
 iA:FnAt K mg "is_whole" (top 17) ["thing"] vC vI
 lF:FnAt K mg "steps_by_word" (top 19) ["writer"] kW lq
 qe:FnAt K mg "desks_into" (top 20) ["pairs","ends"] pD pP
 mU:FnAt K mg "all_among" (top 24) ["text","signs"] sE sQ
 t5:FnAt K mg "are_signs" (top 25) ["thing"] sF sR
 yh:FnAt K mg "is_word" (top 26) ["thing","signs"] y8 yd
 mV:FnAt K mg "check_barred" (top 27) ["barred","signs"] ml mF
 fS:FnAt K mg "bears_barred" (top 28) ["row","barred"] mm mG
 lG:FnAt K mg "sorted_places" (top 29) ["barred"] kX lz
 o1:FnAt K mg "longest_end" (top 30) ["row","places"] nK nT
 qf:FnAt K mg "moves_from" (top 31) ["place","signs","barred","places"] pE pQ
 qg:FnAt K mg "leads_into" (top 32) ["ends","lot"] pF pR
 qh:FnAt K mg "live_among" (top 33) ["moves"] kF pT
 vP:FnAt K mg "all_rows" (top 36) ["band","wide"] vE vK
 yi:FnAt K mg "is_rate" (top 37) ["band","many","wide"] y9 ye
 fT:FnAt K mg "check_rate" (top 38) ["band","many","wide"] pG pU
 o4:FnAt K mg "longer_rows" (top 39) ["band","rows"] nM nV
 jf:FnAt K mg "blocks_from" (top 40) ["band","place","wide"] nN nW
 t6:FnAt K mg "ends_from" (top 42) ["band","place"] sH sT
 vQ:FnAt K mg "all_ends" (top 43) ["band"] vF vL
 iB:FnAt K mg "counts_up_to" (top 44) ["band","length"] mr mJ
 qi:FnAt K mg "count_from" (top 45) ["band","place","length"] pH pV
 DK:FnAt K mg "count" (top 46) ["band","length"] DG DI
 qj:FnAt K mg "block_ends" (top 48) ["band","wide"] pI pW
 t7:FnAt K mg "weight_of" (top 49) ["places","weights"] sI sU
 yj:FnAt K mg "lowered" (top 50) ["ends","many","weights"] ya yf
 vR:FnAt K mg "greatest" (top 51) ["band","many","wide","most"] oG vM
 AJ:FnAt K mg "scarce" (top 52) ["band","many","wide","most"] AB AG
 mW:FnAt K mg "copied_steps" (top 54) ["line"] mw mK
 jg:FnAt K mg "first_sheet" (top 56) ["band","many","wide","weights"] nO nX
 iC:FnAt K mg "is_number_of" (top 57) ["number","things"] mx mL
 dE:FnAt K mg "check_part" (top 58) ["sheet","many","steps","weight"] pJ pX
 qk:FnAt K mg "with_twins" (top 59) ["line","desk","twin"] pK pY
 ua:FnAt K mg "split" (top 60) ["sheet","many","desk","numbers","weight"] DH DJ
 iD:FnAt K mg "copied_sheet" (top 65) ["sheet"] my mM
 dF:FnAt K mg "check_not_scarce" (top 67) ["band","many","wide"] iu iz
 cz:FnAt K mg "weights_of_least_most" (top 68) ["band","many","wide"] fv fA
 mX:FnAt K mg "reached_from" (top 69) ["sheet","desk"] mz mN
 jL:FnAt K mg "closed_weights" (top 70) ["band","many","wide","weights"] jF jK
 kJ:FnAt K mg "steps_into" (top 71) ["line","desks"] pM q0
 kK:FnAt K mg "kept_desks" (top 72) ["sheet","many"] kG q8
 t8:FnAt K mg "step_down" (top 73) ["sheet"] sJ sV
 AK:FnAt K mg "run_by" (top 74) ["weights","numbers","many"] AD AH
 ql:FnAt K mg "next_split" (top 75) ["sheet","many"] pN q9
 nr:FnAt K mg "plan_of" (top 76) ["band","many","wide"] yc yg
 lH:FnAt K mg "blocks_behind" (top 78) ["band","wide"] kZ lD
 fU:FnAt K mg "steps_by_new_numbers" (top 79) ["line","kept","many"] fO fR
 qm:FnAt K mg "check_data" (top 80) ["data","many"] pO qa
 vS:FnAt K mg "walked" (top 81) ["lines","desk","data"] AF AI
 gN:FnAt K mg "_law_here" (top 84) ["_law_script","_law_place"] sL sW
 jh:FnAt K mg "_law_shaken" (top 85) ["_law_cell","_law_many"] nQ nZ
 t9:FnAt K mg "_law_band" (top 86) ["_law_script"] sM sX
 tf:FnAt K mg "_law_rate" (top 87) ["_law_script","_law_signs"] sN sY
 tj:FnAt K mg "_law_told" (top 88) ["_law_signs","_law_words","_law_many","_law_wide"] sP sZ
 vT:FnAt K mg "_law_due" (top 89) ["_law_told_here","_law_wide","_law_many_words","_law_at"] vH vO
 qo:FnAt K mg "_law_alike" (top 90) ["_law_found","_law_data","_law_touched_here","_law_many"] kH qc
 j3:FnAt K mg "_law_by_windows" (top 91) ["_law_reader","_law_told_here","_law_wide","_law_row","_law_found"] fQ j2
 iE:FnAt K mg "_law_touched" (top 92) ["_law_reader","_law_told_here","_law_wide","_law_length","_law_many_words","_law_at"] iw mS
 aD:Addr
 Ie:mg "Reader"=some (.ref aD)
 ak:Fc K aD
 Fe:Mk K aD fN
 aA:Addr
 Nw:mg "Band"=some (.ref aA)
 aJ:Ky K aA
 KA:Mk K aA gU
 aE:Addr
 zc:mg "Sheet"=some (.ref aE)
 aB:HZ K aE
 vU:Mk K aE gx
 aO:Addr
 Nx:mg "Plan"=some (.ref aO)
 dG:Kz K aO
 KB:Mk K aO gW
 aj:Addr
 Ig:mg "Writer"=some (.ref aj)
 ag:Fd K aj
 Ff:Mk K aj fP
 j4:cD K aD "__init__" "Reader.__init__" (inClass (top 21) 0) ["self","writer"] fN iV
 cV:cD K aD "blocks_in_window" "Reader.blocks_in_window" (inClass (top 21) 1) ["self"] eQ eR
 fB:cD K aD "desks_ahead_of" "Reader.desks_ahead_of" (inClass (top 21) 2) ["self","row"] fu fz
 dY:cD K aD "word_fitting" "Reader.word_fitting" (inClass (top 21) 3) ["self","window"] gf gg
 jM:cD K aD "word_of" "Reader.word_of" (inClass (top 21) 4) ["self","window"] jC jG
 fV:cD K aD "words_in" "Reader.words_in" (inClass (top 21) 5) ["self","length"] iS iW
 gC:cD K aD "read" "Reader.read" (inClass (top 21) 6) ["self","row"] nJ nR
 gy:cD K aD "touched" "Reader.touched" (inClass (top 21) 7) ["self","length","number"] jD jH
 lI:cD K aA "__init__" "Band.__init__" (inClass (top 34) 0) ["self","signs","barred"] gU lA
 dh:cD K aA "check_row" "Band.check_row" (inClass (top 34) 1) ["self","row"] jE jI
 fi:cD K aA "check_place" "Band.check_place" (inClass (top 34) 2) ["self","place"] ir iy
 j5:cD K aA "check_live" "Band.check_live" (inClass (top 34) 3) ["self","place"] iT iX
 mY:cD K aA "is_good" "Band.is_good" (inClass (top 34) 4) ["self","row"] mn mH
 o6:cD K aA "places" "Band.places" (inClass (top 34) 5) ["self"] nL nU
 j6:cD K aA "live" "Band.live" (inClass (top 34) 6) ["self"] sG sS
 lJ:cD K aA "place_of" "Band.place_of" (inClass (top 34) 7) ["self","row"] kY lB
 oH:cD K aA "led" "Band.led" (inClass (top 34) 8) ["self","place","sign"] vD vJ
 mZ:cD K aA "longest" "Band.longest" (inClass (top 34) 9) ["self"] mq mI
 eN:cD K aE "__init__" "Sheet.__init__" (inClass (top 55) 0) ["self","homes","weights","lines"] gx jJ
 lK:cD K aO "__init__" "Plan.__init__" (inClass (top 66) 0) ["self","weights","splits","kept","last"] gW lC
 qp:cD K aO "sheet" "Plan.sheet" (inClass (top 66) 1) ["self"] pL pZ
 j7:cD K aj "__init__" "Writer.__init__" (inClass (top 82) 0) ["self","band","many","wide"] fP iY
 bf:cD K aj "behind" "Writer.behind" (inClass (top 82) 1) ["self"] lj lE
 cq:cD K aj "ahead" "Writer.ahead" (inClass (top 82) 2) ["self"] mB mO
 Ih:cD K aj "start" "Writer.start" (inClass (top 82) 3) ["self"] vG vN
 dS:cD K aj "lead" "Writer.lead" (inClass (top 82) 4) ["self"] nP nY
 fW:cD K aj "desks" "Writer.desks" (inClass (top 82) 5) ["self"] mC mP
 j8:cD K aj "place_at" "Writer.place_at" (inClass (top 82) 6) ["self","desk"] iU iZ
 iF:cD K aj "steps" "Writer.steps" (inClass (top 82) 7) ["self","desk"] mD mQ
 n0:cD K aj "write" "Writer.write" (inClass (top 82) 8) ["self","data"] mE mR
 dm:Addr
 AO:mg "BandError"=some (.ref dm)
 XT:MX K dm "BandError"
 XB:Ln K dm
 fC:Addr
 jN:mg "NoSplit"=some (.ref fC)
 jO:fg K fC dm "NoSplit"
 Oi:MZ K fC
 iG:wbk K (.ref fC) "__init__"=some (some (.builtin "ValueError.__init__"))
 cF:Addr
 AQ:mg "Scarce"=some (.ref cF)
 iH:fg K cF dm "Scarce"
 Qo:MZ K cF
 et:Addr
 fX:wb6
 AR:zV K "__init__" "Scarce.__init__" (inClass (top 13) 0) et fX
 AU:Binds K fX ["self","length","rows"] []
 Fg:wbk K (.ref cF) "__init__"=some (some (.ref et))
 Fh:wft K (.ref et)=true
 tI:wbk K (.ref cF) "length"=some none
 wL:wbk K (.ref cF) "rows"=some none
 oI:Addr
 CF:mg "Open"=some (.ref oI)
 zf:fg K oI dm "Open"
 TN:MZ K oI
 DL:wbk K (.ref oI) "__init__"=some (some (.builtin "ValueError.__init__"))
 vV:∃t,mg "MOST_BLOCKS"=some (.int 24 t)
 vW:∃t,mg "MOST_WEIGHT"=some (.int 8 t)
 lT:∃t,mg "MOST_WEIGHT_IN_ALL"=some (.int 40 t)
 known:∃t,mg "KNOWN_SIGNS"=some (.str fI t)
section
variable{P:waq}{w:World}{K:wa2}{mg:Str->Option Value}{base:Heap}
local macro_rules|`(tactic|ac_rfl)=>`(tactic|try dsimp only[cZ,cY,aX,aY])
theorem qt(L:Lk K mg):aS P w K mg base cP 1 L.sE L.sQ ["text","signs"] JI:=by
 have T:=L.T;refine L.mU.F.d7 (N:=["text","signs"]) (λf A outer s H n Q E nd o h=>?_);obtain⟨a,b,rfl,hl,k⟩:=h;refine{_,(a9 (aw (aU (zW rfl) (by rfl) T.all PH (aK (cG rfl (ay ["signs"] [1]) (yH (pv 0)) (λ_ _ _ _ _ _=>bj) (λ_ _ _ _ _ _=>(hV xj (pv 0) (pv 1) rfl))))))),?_}
 ac_rfl
 refine{_,rfl,a,rfl,λl e=>comp_map (RB b) (p6 a) e (by unfold eT;rw[wa0];exact ao (wak (wdS (aN a)) (by lia))) (λ_ _=>trivial) (λx g p i _ q=>?_) (λj m d=>?_)}
 .obtain⟨c,_,rfl⟩:=wab.mp i;exact{_,rfl,_,rfl,_,_,rfl,rfl,q g (a7.refl _)}
 .rw[Ei]at d;refine{l,_,rfl,aL.of d,?_};have:=k j m;rw[wfC];exact this
theorem gX(L:Lk K mg):aS P w K mg base cP 1 L.mm L.mG ["row","barred"] (JK K):=by
 have T:=L.T;refine L.fS.F.d7 (N:=["row","barred"]) (λi A outer s H o Q E nd p h=>?_);obtain⟨r,a,j,rfl,f,hl,k⟩:=h;refine{_,(a9 (aw (aU (uC rfl) (by rfl) T.any MH (aK (cG rfl (ay ["row"] [0]) (aQ (pv 1)) (λ_ _ _ _ _ _=>bj) (λ_ _ _ _ _ _=>(hV xj (pv 0) (pv 1) rfl))))))),?_}
 ac_rfl
 refine{_,rfl,a,rfl,{_,f},λl d=>comp_map (RB r) (aR K a (j.map V.str)) d (by rw[wa0];exact ao (by lia)) (λg e=>e.seq f) (λx m t n _ q=>?_) (λg e b=>?_)}
 .obtain⟨c,_,rfl⟩:=wab.mp n;exact{_,rfl,_,rfl,_,_,rfl,rfl,q m (a7.refl _)}
 .rw[GD]at b;refine{l,_,rfl,aL.of b,?_};have:=k g e;rw[wfE];exact this
theorem zg(L:Lk K mg):aS P w K mg base cP 2 L.sF L.sR ["thing"] PL:=by
 have T:=L.T;refine L.t5.F.d7 (N:=["thing"]) (λd A outer s H l Q E nd m h=>?_);obtain⟨x,rfl,S,k⟩:=h;have a:x.length<=sizeLine:=ao (by have:=S.hi;lia);obtain⟨f,b⟩:=L.known
 refine{_,(a5 (b6 (PW.pt (fk (cS (bT (aU bR (by rfl) T.FT tG (a8 (pv 0) (aK (eY (v:=.ty "str") (by rfl) T.str JH rfl)))))) (fk (cu iO (sC T.len (pv 0)) aq) (fF (cu lV (sC T.len (pv 0)) aq))))) (a9 (aw dZ)) aG)
  (a9 (aw (yv (hV rJ (aU A0 (by rfl) T.len we8 (aK (bp (zZ rfl) (by rfl) T.set Tb (aK (pv 0))))) (sC T.len (pv 0)) (oh _)) (yu (au (qt L) L.mU (a8 (pv 0) (aK (tS (v:=.str fI) (by rfl) b ⟨f,rfl⟩))))))))),?_}
 ac_rfl
 refine{_,rfl,_,_,_,true,rfl,gE.str x,rfl,true,rfl,?_};refine bx ?_;refine{_,rfl,x,rfl,a,_,_,rfl,rfl,_,rfl,?_};refine GC (by have:=S.lo;simp;lia) ?_;refine{_,rfl,x,rfl,a,_,_,rfl,rfl,_,rfl,?_};refine GC (by have:=S.hi;simp;lia) ?_;refine{_,rfl,x,rfl,?_,λp g=>?_}
 .have:=S.hi;show x.length+1<wdY;unfold wdY
  lia
 refine{p,_,rfl,a6,_,rfl,x,rfl,a,rfl,?_};refine{_,rfl,?_};refine Ta (by rw[A4 S.nd];simp) ?_;refine{_,rfl,x,fI,rfl,by have:=S.hi;lia,λi j=>?_};have e:((ch x).all λc=>decide (c∈ch fI))=true:=waR.mpr λc hc=>decide_eq_true (S.sub c hc);rw[e];exact k i ((a7.upd g).trans j)
theorem CG(L:Lk K mg):aS P w K mg base cP 2 L.y8 L.yd ["thing","signs"] PN:=by
 have T:=L.T;refine L.yh.F.d7 (N:=["thing","signs"]) (λb A outer s H i Q E nd j h=>?_);obtain⟨x,g,rfl,S,k⟩:=h;have a:x.length<=sizeLine:=ao (by have:=S.hi;lia)
 refine{_,(a5 (b6 (PW.pt (fk (cS (bT (aU bR (by rfl) T.FT tG (a8 (pv 0) (aK (eY (v:=.ty "str") (by rfl) T.str JH rfl)))))) (fk (cu iO (sC T.len (pv 0)) aq) (fF (cu lV (sC T.len (pv 0)) aq))))) (a9 (aw dZ)) aG)
  (a9 (aw (au (qt L) L.mU (a8 (pv 0) (aK (pv 1))))))),?_}
 ac_rfl
 refine{_,rfl,_,_,_,true,rfl,gE.str x,rfl,true,rfl,?_};refine bx ?_;refine{_,rfl,x,rfl,a,_,_,rfl,rfl,_,rfl,?_};refine GC (by have:=S.lo;simp;lia) ?_;refine{_,rfl,x,rfl,a,_,_,rfl,rfl,_,rfl,?_};refine GC (by have:=S.hi;simp;lia) ?_;refine{_,rfl,_,rfl,x,g,rfl,by have:=S.hi;lia,λd f=>?_};have e:((ch x).all λc=>decide (c∈ch g))=true:=waR.mpr λc hc=>decide_eq_true (S.sub c hc);rw[e];exact k d f
theorem tJ(L:Lk K mg):aS P w K mg base cP 3 L.ml L.mF ["barred","signs"] (JL K):=by
 have T:=L.T;refine L.mV.F.d7 (N:=["barred","signs","number","thing"]) (λj A outer s H q Q E nd r h=>?_);obtain⟨a,g,d,rfl,c,hl,hw,k⟩:=h
 refine{_,(a5 (b6 (cu lV (zD T.len (pv 0)) aq) cK aG)
  (a9 (forA (kc (by rfl) T.enum (aK (pv 0))) (dU rfl (aP (ax (i:=2)) (aP (ax (i:=3)) cQ))) (a9 (b6 (cS (bT (au (CG L) L.yh (a8 (pv 3) (aK (pv 1)))))) cK aG))))),?_}
 ac_rfl
 refine{_,rfl,a,_,rfl,.inl c,_,_,rfl,rfl,_,rfl,?_};refine GC (by grind) ?_;refine{_,rfl,a,_,rfl,c,m3 (K:=K) (a:=a) (xs:=d.map V.str) (λi σ b=>a7 H b/\∃e f,σ=[some (.ref a),some (.str g),e,f]) {a7.refl _,none,none,rfl} (λi σ b _ p=>p.1.seq c) ?_ (λσ b p=>k b p.1)};rintro i x σ b T u ⟨l,e,f,rfl⟩ m
 obtain⟨t,rfl,n⟩:∃t,x=.str t/\t∈d:=by
  grind
 refine{T,_,rfl,gA.of a6,rfl,_,_,rfl,_,_,rfl,rfl,?_};refine{_,rfl,_,rfl,t,g,rfl,hw t n,λv o=>{true,rfl,?_}};refine bx ?_;exact{(l.trans (a7.upd m)).trans o,_,_,rfl}
theorem rm(L:Lk K mg):aS P w K mg base cP 2 L.kX L.lz ["barred"] (GI K):=by
 have T:=L.T;refine L.lG.F.d7 (N:=["barred","found","word","length","beginning"]) (λM A outer s H vs Q E nd O h=>?_);obtain⟨a,ws,rfl,y,hl,hw,k⟩:=h;have R:=eW O
 refine{_,(a5 (ai (i:=1) (Dc (zT eB dZ D8) rfl rfl (by simp) ⋯))
  (a5 (forA (aQ (pv 0)) (ax (i:=2)) (a9 (forA (qG rfl T.range (a8 aq (aK (sC T.len (pv 2))))) (ax (i:=3)) (a5 (ai (i:=4) (bK gP (pv 2) f5 (bg (pv 3))))
  (a9 (b6 (cS (bT (au (gX L) L.fS (a8 (pv 4) (aK (pv 0)))))) (a9 (ee R (pv 1) (pv 4) dZ rfl)) aG))))))
  (a9 (aw (aU (yJ rfl) (by rfl) T.sorted JG (aK (pv 1))))))),?_}
 ac_rfl
 intro d hd;refine{a6,[((wal "":Key),V.bl true)],rfl,⋯,?_}
 have G:a7 H (upd (upd H d (.dK [])) d (.dK (k6 [] [((wal "":Key),V.bl true)]))):=by
  rw[D0];exact a7.upd hd
 refine{_,rfl,a,rfl,{_,G.seq y},d9 (K:=K) (a:=a) (xs:=ws.map V.str) (λi σ m=>∃B c v4,σ=[some (.ref a),some (.ref d),B,c,v4]/\a7 H m/\m d=some (.dK (kT (bP ws "" (ws.take i)))))
  ⟨none,none,none,rfl,G,a6⟩ (λi σ m _ {_,_,_,_,f,_}=>f.seq y) ?_ ?_}
 .rintro i x σ m g ⟨B,c,v4,rfl,f,t⟩;have hi:i<ws.length:=by have:=(wa6.mp g).1;rwa[wa0]at this
  obtain⟨wd,p,rfl⟩:∃wd,ws[i]?=some wd/\x=.str wd:=by
   rw[wa4]at g
   cases e:ws[i]? with
   |none=>rw[e]at g;cases g
   |some z=>rw[e]at g;exact{z,rfl,(wad g).symm}
  have S:wd∈ws:=wa8 p;have U:=hw wd S;have X:ws.take (i+1)=ws.take i++[wd]:=by rw[waO,p];rfl
  have Y:(bP ws "" (ws.take i)).length<=30:=by
   have:=ni (ws:=ws) (e:="") (us:=ws.take i) λv Z=>hw v (wbh Z);rw[wag]at this
   lia
  refine{_,rfl,wd,rfl,ao (by lia),1,_,rfl,{⋯,⋯,by lia,by lia},?_};have en:((wd.length:Int)-1).toNat=wd.length-1:=by lia
  refine cw (lo:=1) (n:=((wd.length:Int)-1).toNat) (λj σ u=>∃c v4,σ=[some (.ref a),some (.ref d),some (.str wd),c,v4]/\a7 H u/\u d=some (.dK (kT (upTo ws wd (bP ws "" (ws.take i)) j))))
   ⟨c,v4,rfl,f,t⟩ ?_ ?_
  .rintro j σ u hj ⟨c,v4,rfl,q,C⟩;have ec:(1+(j:Int))=((1+j:Nat):Int):=by lia
   refine{_,rfl,_,rfl,_,rfl,wd,rfl,ao (by lia),?_};rw[ec];have RP:=uE ws wd (bP ws "" (ws.take i)) j;refine{_,rfl,_,rfl,df wd (1+j),a,ws,rfl,q.seq y,by lia,λH4 D=>{_,rfl,?_}};have I:=D _ _ C
   cases J:bears ws (df wd (1+j)) with
   |true=>
    refine bx ?_;refine{_,_,rfl,q.trans D,?_};rw[I,gn];unfold qN;rw[if_pos J]
   |false=>
    refine eD ?_;refine{_,rfl,_,rfl,d,_,rfl,jZ.k (k:=wal (df wd (1+j))) I (by rw[Ek];exact bE (by lia)),?_};refine{_,_,rfl,λb o e=>?_,?_}
    .rw[ae (af e hd)];exact D _ _ (q _ _ e)
    .rw[a6,Ej,gn];unfold qN;rw[if_neg (by rw[J];exact wan)]
  .rintro σ u ⟨c,v4,rfl,q,C⟩;refine{_,c,v4,rfl,q,?_};rw[C,X,BC,en];rfl
 .rintro σ m ⟨B,c,v4,rfl,f,t⟩;rw[wa0,waG]at t;have Wa:=ni (ws:=ws) (e:="") (us:=ws) hw;refine{_,rfl,d,_,_,rfl,t,BG _,by lia,λl ss r hp hs=>?_};exact k l ss _ (f.trans (a7.upd r)) (f.free r) a6 hp hs
theorem vX(L:Lk K mg):aS P w K mg base cP 1 L.nK L.nT ["row","places"] (MI K):=by
 refine L.o1.F.d7 (N:=["row","places","cut"]) (λq A outer s H x Q E nd y h=>?_);obtain⟨r,a,ps,rfl,t,u,hl,k⟩:=h
 refine{_,(a5 (ai (i:=2) aq)
  (a5 (jo wdl (eZ hZ (bK gP (pv 0) (bg (pv 2)) f5) (pv 1) rfl) (a9 (uh (i:=2) nd rfl (wdW rfl) aq G6)))
  (a9 (aw (bK gP (pv 0) (bg (pv 2)) f5))))),?_}
 ac_rfl
 refine{λm σ c=>∃n:Nat,n<=r.length/\m=r.length-n/\σ=[some (.str r),some (.ref a),some (.int (n:Int))]/\a7 H c/\∀j,j<n->d5 r j∉ps,{r.length,0,waz _,rfl,rfl,a7.refl _,λj d=>absurd d (wcN j)},?_};rintro m σ c ⟨n,hn,rfl,rfl,f,o⟩;refine{_,rfl,_,rfl,_,rfl,r,rfl,ao (by lia),_,rfl,a,_,rfl,.inl (f.seq t),rfl,fm ps,_,rfl,?_};rw[if_pos rfl,jr]
 by_cases h:d5 r n∈ps
 .have e:decide (waI r (some (n:Int)) none∈ps)=true:=decide_eq_true h;rw[e];refine bx ?_;refine{_,rfl,_,rfl,_,rfl,r,rfl,ao (by lia),?_};have:=k c f;unfold lend at this;rw[uG h o hn]at this;exact this
 .have e:decide (waI r (some (n:Int)) none∈ps)=false:=decide_eq_false h;rw[e];refine eD ?_
  have g:n<r.length:=by
   rcases wf3 hn with z |z
   .exact z
   .subst z;rw[qO]at h;exact absurd u h
  refine{λb p=>∃l:Nat,l=n+1/\b=[some (.str r),some (.ref a),some (.int (l:Int))]/\a7 H p,?_,?_}
  .rintro b p ⟨l,rfl,rfl,v⟩;refine{r.length-(n+1),by lia,n+1,g,rfl,rfl,v,λj d=>?_};rcases wf3 (Nat.le_of_lt_succ d) with z |z
   .exact o j z
   .rw[z];exact h
  .exact{_,rfl,_,_,rfl,rfl,n+1,rfl,rfl,f}
theorem wM(L:Lk K mg):aS P w K mg base cP 2 L.pE L.pQ ["place","signs","barred","places"] (JM K):=by
 refine L.qf.F.d7 (N:=["place","signs","barred","places","moves","sign","row"]) (λR A outer s H vs Q E nd S h=>?_);obtain⟨p,g,a,b,l,ps,rfl,T,U,V,X,Y,B,C,k⟩:=h;have Z:=eW S
 refine{_,(a5 (ai (i:=4) da)
  (a5 (forA (yH (pv 1)) (ax (i:=5)) (a5 (ai (i:=6) (aC ia (pv 0) (pv 5)))
  (a9 (ee Z (pv 4) (pv 5) (zH (bT (au (gX L) L.fS (a8 (pv 6) (aK (pv 2))))) dn (au (vX L) L.o1 (a8 (pv 6) (aK (pv 3))))) rfl))))
  (a9 (aw (pv 4))))),?_}
 ac_rfl
 intro d hd
 refine{_,rfl,g,rfl,lY (p6 g) (λi σ f=>∃r v6,σ=[some (.str p),some (.str g),some (.ref a),some (.ref b),some (.ref d),r,v6]/\a7 H f/\f d=some (.dK (((ch g).take i).map λc=>((wal ({#[c]}:Str):Key),tW l ps p c))))
  {none,none,rfl,a7.upd hd,a6} (λ_ _ _ _ _=>trivial) ?_ ?_}
 .rintro i x σ f m ⟨r,v6,rfl,t,y⟩
  obtain⟨c,hc,rfl⟩:∃c,(ch g)[i]?=some c/\x=.str ⟨#[c]⟩:=by
   unfold eT at m;rw[wa4]at m
   cases e:(ch g)[i]? with
   |none=>rw[show g.cps.toList[i]?=none from e]at m;cases m
   |some z=>rw[show g.cps.toList[i]?=some z from e]at m;exact{z,rfl,(wad m).symm}
  have hi:i<(ch g).length:=(wa6.mp hc).1;have J:=aN g;have yk:(p++({#[c]}:Str)).length=p.length+1:=by rw[<-aN,aT,wa5,aN];rfl
  refine{_,rfl,_,rfl,p,{#[c]},rfl,rfl,ao (by show p.length+1<=_;lia),?_}
  have fin:∀u,a7 f u->Le (Jj 4) (Jj 5) (λ_ D Q5=>Q5 (tW l ps p c) D) {nx:=λσ f=>∃r v6,σ=[some (.str p),some (.str g),some (.ref a),some (.ref b),some (.ref d),r,v6]/\a7 H f/\f d=some (.dK (((ch g).take (i+1)).map λc=>((wal ({#[c]}:Str):Key),tW l ps p c))),rt:=Q}
   [some (.str p),some (.str g),some (.ref a),some (.ref b),some (.ref d),some (.str {#[c]}),some (.str (p++{#[c]}))] u:=by
   intro u n;have h4:=n _ _ y;refine{_,rfl,_,rfl,d,_,rfl,jZ.k (k:=wal ({#[c]}:Str)) h4 (by rw[wa0,wag];exact bE (by lia)),?_};refine{_,_,rfl,λb o e=>?_,?_}
   .rw[ae (af e hd)];exact n _ _ (t _ _ e)
   .rw[a6,fH]
    .have:(ch g).take (i+1)=(ch g).take i++[c]:=by rw[waO,hc];rfl
     rw[this,wai];rfl
    .cases q:bF (((ch g).take i).map λc=>((wal (⟨#[c]⟩:Str):Key),tW l ps p c)) (wal (⟨#[c]⟩:Str):Key) with
     |none=>rfl
     |some v=>
      have:=yG q;rw[waf]at this;obtain⟨G,I,e⟩:=wab.mp this;have e':({#[G]}:Str)={#[c]}:=wcf e
      have:G=c:=by
       have:=congrArg ch e';simpa [ch] using this
      subst this;obtain⟨j,hj,M⟩:=wdC.mp I;rw[wfi]at M;rw[wag]at hj;have e1:(ch g)[i]=G:=(wa6.mp hc).2;have:=(wcl B).mp (M.trans e1.symm)
      lia
  refine{_,rfl,_,rfl,_,a,l,rfl,t.seq T,C,λu n=>{_,rfl,?_}}
  cases O:bears l (p++⟨#[c]⟩) with
  |true=>
   refine eD ?_;have:=fin u n;unfold tW at this;rw[if_pos O]at this;unfold tW;exact this
  |false=>
   refine bx ?_;refine{_,rfl,_,rfl,_,b,ps,rfl,(t.trans n).seq U,V,by lia,λD s5=>?_};have:=fin D (n.trans s5);unfold tW at this;rw[if_neg (by rw[O];exact wan)]at this;unfold tW;exact this
 .rintro σ f ⟨r,v6,rfl,t,y⟩;have e:(eT g).length=(ch g).length:=by unfold eT;rw[wa0]
  rw[e,waG]at y;exact{_,rfl,k d f t hd y}
theorem wN(L:Lk K mg):aS P w K mg base cP 1 L.pF L.pR ["ends","lot"] (JN K):=by
 have T:=L.T;refine L.qg.F.d7 (N:=["ends","lot"]) (λm A outer s H u Q E nd v h=>?_);obtain⟨a,b,d,ls,rfl,i,n,fa,o,hl,k⟩:=h;refine{_,(a9 (aw (aU (uC rfl) (by rfl) T.any MH (aK (cG rfl (ay ["lot"] [1]) (aQ (pv 0)) (λ_ _ _ _ _ _=>bj) (λ_ _ _ _ _ _=>(hV (ic (K:=K) rfl) (pv 0) (pv 1) rfl))))))),?_}
 ac_rfl
 refine{_,rfl,a,rfl,{_,i},λl f=>comp_map (PR ls) (aR K a d) f (ao (by lia)) (λj g=>g.seq i) (λx p y r t q=>?_) (λj g c=>?_)}
 .exact{_,rfl,_,rfl,b,ls,rfl,.inl (t.seq n),waR.mp fa x r,o,q p (a7.refl _)}
 .have e:d.map (PR ls)=(d.map λe=>oR e ls).map V.bl:=by rw[waf];rfl
  rw[e]at c;refine{l,_,rfl,aL.of c,?_};have:=k j g;rw[wfE];exact this
theorem wO(L:Lk K mg):aS P w K mg base cP 2 L.kF L.pT ["moves"] (MK K):=by
 have T:=L.T;refine L.qh.F.d7 (N:=["moves","lot","left"]) (λY A outer s H vs Q E nd hr h=>?_);obtain⟨d,Z,o,rfl,hd,hl,hm,hf,Yq,k⟩:=h;have hu:=eW hr;have Oj:(A.deeper (wcc "live_among" (aH (top 33)) s.heap.objs.size L.kF Y)).units<wcp:=hr.oj
 refine{_,(a5 (ai (i:=1) (bp (k9 rfl) (by rfl) T.list fJ (aK (pv 0))))
  (a9 (jo wdl (bT dZ) (a5 (du (i:=2) rfl (ay ["moves","lot"] [0,1]) nd rfl rfl (aQ (pv 1)) (λ_ _ _ _ _ _=>gB (bT (au (wN L) L.qg (a8 (bp (Bz rfl) (by rfl) T.list fJ (aK (Di (K:=K) rfl wd5 wdX wfN xF (d8 hu (pv 1) (pv 0) (λ_ _=>rfl))))) (aK (pv 2)))))) (λ_ _ _ _ _ _=>(pv 0)))
  (a5 (b6 (cu (yK Oj) (pv 2) (pv 1)) (a9 (aw (pv 1))) aG)
  (a9 (ai (i:=1) (pv 2)))))))),?_}
 ac_rfl
 refine{_,rfl,d,_,rfl,hd,λl0 t=>?_}
 refine{λm σ H2=>∃(l:Addr) (ls:List Str) (v:Option V),m=ls.length/\σ=[some (.ref d),some (.ref l),v]/\a7 H H2/\H l=none/\H2 l=some (.lst (ls.map V.str))/\ls.Sublist (Z.map (·.1)) /\
  ∀b:List Str,(∀k∈b,k∈Z.map (·.1)/\m7 (o k) b=true)->∀k∈b,k∈ls,
  {_,l0,Z.map (·.1),none,rfl,rfl,a7.upd t,t,by rw[a6,ie],wfk _,λb h k hk=>(h k hk).1},?_}
 rintro m σ H2 ⟨l,ls,v,rfl,rfl,S,LD,U,f,c⟩;refine{true,rfl,eD ?_};have z4:ls.length<=1000:=by have:=f.length_le;rw[wa0]at this;lia
 let p:V->Bool:=λx=>match x with
  |.str k=>m7 (o k) ls
  |_=>false
 let g:List Str:=ls.filter λk=>m7 (o k) ls
 have u:(ls.map V.str).filter p=g.map V.str:=by
  rw[weK];rfl
 refine{λy r=>∃(B:Addr) (v:Option V),y=[some (.ref d),some (.ref B),v]/\a7 H r/\H B=none/\r B=some (.lst (g.map V.str))/\g.length<ls.length,?_,?_}
 .rintro y r ⟨B,v,rfl,n,Bg,C,Nh⟩;refine{g.length,Nh,B,g,v,rfl,rfl,n,Bg,C,(wdJ).trans f,λb h k hk=>?_};have Yr:=c b h k hk;exact war.mpr {Yr,BI (c b h) (h k hk).2}
 .refine{_,rfl,l,rfl,{_,aL.of U},λl2 D=>dN p (λx=>x) (aR K l (ls.map V.str)) D (by rw[wa0];exact ao (by lia)) (λr n=>n.seq (aL.of U)) (λx G Q' hx s3 q=>?_) (λx G Q' hx _ s3 q=>{_,rfl,q G (a7.refl _)}) (λr n C=>?_)}
  .obtain⟨X,Ys,rfl⟩:=wab.mp hx;obtain⟨a,ha,I⟩:=i7 (f.subset Ys);have J:a7 H G:=S.trans s3;have RQ:=J _ _ hd;have j:=J _ _ (hm _ ha);refine{_,rfl,_,rfl,d,.ref a,rfl,?_,?_}
   .have:=eA.k (k:=(wal X:Key)) RQ;rw[I]at this;exact this
   refine{.inr (.inr (.inl {rfl,.inl {_,j}})),a,_,rfl,rfl,j,λvw M=>?_};refine{vw,a,_,rfl,a6,by rw[ae (af j M)];exact j,λl3 JD=>?_};have s4:a7 G (upd (upd G vw (lZ vw a)) l3 (.lst ((o X).map (·.2)))):=(a7.upd M).trans (a7.upd JD);refine{_,rfl,l3,l,_,_,rfl,aL.of a6,aL.of (s4 _ _ (s3 _ _ U)),hf X,fm ls,by rw[wa0];exact Yq X,λH5 s5=>{_,rfl,?_}};exact q H5 (s4.trans s5)
  .rw[we3,u]at C;have O:=n _ _ U;refine{_,rfl,_,rfl,l2,l,_,_,rfl,rfl,aL.of C,aL.of O,fm _,fm _,_,rfl,?_};rw[xH];have R:H l2=none:=S.free D
   by_cases e:g=ls
   .rw[decide_eq_true e];refine eD ?_;refine{_,rfl,k l ls r (S.trans n) LD O {f,λkk hk=>?_,c}};have:=e ▸ hk;exact(war.mp this).2
   .rw[decide_eq_false e];refine bx ?_;refine{_,rfl,l2,_,rfl,S.trans n,R,C,?_};rcases wf3 (wb2 (λk=>m7 (o k) ls) ls) with z |z
    .exact z
    .exact absurd ((wdJ (p:=λk=>m7 (o k) ls)).eq_of_length z) e
theorem ro(L:Lk K mg):aS P w K mg base cP 4 L.gU L.lA ["self","signs","barred"] (MN K L.aA):=by
 have T:=L.T;refine L.lI.F.d7 (N:=["self","signs","barred","places","place"]) (λgG A outer s H vs Q E nd hr h=>?_);obtain⟨x,t,g,a,ws,rfl,hx,hS,sg,hl,hw,k⟩:=h;have Z:∀w∈ws,w.length<=5:=λw h=>(hw w h).hi;have hu:=eW hr
 refine{_,(a5 (b6 (cS (bT (au (zg L) L.t5 (aK (pv 1))))) cK aG)
  (a5 (b8 (au (tJ L) L.mV (a8 (pv 2) (aK (pv 1)))))
  (a5 (d1 (pv 0) (pv 1) rfl)
  (a5 (d1 (pv 0) (bp cW (by rfl) T.list fJ (aK (pv 2))) rfl)
  (a5 (d1 (pv 0) da rfl)
  (a5 (ai (i:=3) (au (rm L) L.lG (aK (pv 2))))
  (a5 (forA (aQ (pv 3)) (ax (i:=4)) (a9 (ee hu (az (pv 0) rfl) (pv 4) (au (wM L) L.qf (a8 (pv 4) (a8 (pv 1) (a8 (pv 2) (aK (pv 3)))))) rfl)))
  (a9 (d1 (pv 0) (au (wO L) L.qh (aK (az (pv 0) rfl))) rfl))))))))),?_}
 ac_rfl
 refine{_,rfl,g,rfl,sg,λH1 s1=>{true,rfl,bx ?_}};refine{_,rfl,_,rfl,a,g,ws,rfl,s1.seq hS,hl,hw,λH2 s2=>?_};have D:a7 H H2:=s1.trans s2;have Yt:=D _ _ hx;refine{_,rfl,_,rfl,x,L.aA,t,_,rfl,Yt,L.aJ.cl,L.aJ.pB,⋯,?_};rw[MM];have Qp:∀(o:HO) b ob,H b=some ob->b≠x->(upd H2 x o) b=some ob:=λo b ob e hb=>by rw[ae hb];exact D _ _ e
 have G:∀{H':Hp} (h:∀b o,H b=some o->b≠x->H' b=some o),aL K H' a (ws.map V.str):=λ{H'} h=>by
  have Wb:∀o,H a=some o->(∀fs,o≠.ins L.aA t fs)->a≠x:=λo e ne z=>by
   subst z;rw[hx]at e;exact ne [] (wad e).symm
  rcases hS with(e |⟨o,e⟩) |e
  .exact .inl (.inl (h _ _ e (Wb _ e (λ_ z=>by cases z))))
  .exact .inl (.inr {o,h _ _ e (Wb _ e (λ_ z=>by cases z))})
  .exact .inr e
 refine{_,rfl,a,_,rfl,.inl (G (Qp _)),λb hb=>?_};have v:x≠b:=af a6 hb;have TQ:H2 b=none:=by rw[ae v.symm]at hb;exact hb
 refine{_,rfl,x,L.aA,t,RC g,rfl,by rw[ae v,a6],L.aJ.cl,L.aJ.vB,(show 1<1000 by decide),?_};rw[put2];intro d hd;have r:x≠d:=af a6 hd
 have Qq:b≠d:=by
  intro z;subst z;rw[ae v.symm,a6]at hd;cases hd
 have I:H2 d=none:=by rw[ae r.symm,ae Qq.symm,ae r.symm]at hd;exact hd
 refine{_,rfl,x,L.aA,t,Of g b,rfl,by rw[ae r,a6],L.aJ.cl,L.aJ.kE,(show 2<1000 by decide),?_};rw[put3];generalize J:upd (upd (upd (upd (upd H2 x (.ins L.aA t (RC g))) b (.lst (ws.map V.str))) x (.ins L.aA t (Of g b))) d (.dK [])) x (.ins L.aA t (ML g b d))=H3;have x3:H3 x=some (.ins L.aA t (ML g b d)):=by rw[<-J,a6]
 have d3:H3 d=some (.dK []):=by rw[<-J,ae r.symm,a6]
 have b3:H3 b=some (.lst (ws.map V.str)):=by rw[<-J,ae v.symm,ae Qq,ae v.symm,a6]
 have k3:∀c o,H c=some o->c≠x->H3 c=some o:=λc o e hc=>by
  have e2:=D _ _ e;rw[<-J,ae hc,ae (af e2 I),ae hc,ae (af e2 TQ),ae hc];exact e2
 clear J;refine{_,rfl,a,ws,rfl,G k3,hl,Z,λl ss H4 s4 R h4 hp Yu=>?_};have Th:ss.Nodup:=hp.nodup_iff.mpr (rS ws);have wQ:ss.length<=25:=by have:=ni (ws:=ws) (e:="") (us:=ws) Z;rw[hp.length_eq];lia
 have Qr:∀p∈ss,p.length<=5:=λp CH=>Eo Z p (hp.mem_iff.mp CH);have TR:("":Str)∈ss:=hp.mem_iff.mpr (cp ws);have RT:l≠d:=λz=>by rw[z,d3]at R;cases R
 have nlx:l≠x:=λz=>by rw[z,x3]at R;cases R
 refine{_,rfl,l,rfl,{_,aL.of h4},d9 (K:=K) (a:=l) (xs:=ss.map V.str) (λi σ S=>∃v4 B,σ=[some (.ref x),some (.str g),some (.ref a),some (.ref l),v4]/\S d=some (.dK (cx B))/\B.map (·.1)=ss.take i/\(∀m∈B,S m.2=some (.dK (rowOf g ws ss m.1)))/\(∀m∈B,H4 m.2=none)/\(∀c o,H4 c=some o->c≠d->S c=some o))
  {none,[],rfl,s4 _ _ d3,rfl,λm u=>(nomatch u),λm u=>(nomatch u),λc o e _=>e} (λi σ S _ {_,_,_,_,_,_,_,M}=>aL.of (M _ _ h4 RT)) ?_ ?_}
 .rintro i y σ S hy ⟨v4,B,rfl,C,n,f,PV,M⟩
  obtain⟨p,U,rfl⟩:∃p,ss[i]?=some p/\y=.str p:=by
   rw[wa4]at hy
   cases e:ss[i]? with
   |none=>rw[e]at hy;cases hy
   |some z=>rw[e]at hy;exact{z,rfl,(wad hy).symm}
  have hi:i<ss.length:=(wa6.mp U).1;have CH:p∈ss:=wa8 U
  have k5:∀c o,H c=some o->c≠x->S c=some o:=λc o e hc=>M _ _ (s4 _ _ (k3 c o e hc)) (λz=>by
   subst z;have:=D _ _ e
   rw[I]at this;cases this)
  have x5:S x=some (.ins L.aA t (ML g b d)):=M _ _ (s4 _ _ x3) r;refine{_,rfl,_,rfl,_,rfl,_,rfl,p,g,a,l,ws,ss,rfl,G k5,aL.of (M _ _ h4 RT),TR,by have:=Qr p CH;lia,by have:=sg.hi;lia,sg.nd,by lia,λe H6 O X h6=>?_};have d6:=O _ _ C
  have Ii:p∉B.map (·.1):=by
   rw[n];intro u;obtain⟨j,hj,ej⟩:=wdC.mp u;rw[wfi]at ej;rw[wag]at hj;have e1:ss[i]=p:=(wa6.mp U).2;have:=(wcl Th).mp (ej.trans e1.symm)
   lia
  have Y:B.length<=25:=by have:=congrArg wdI n;rw[wa0,wag]at this;lia
  refine{_,rfl,x,L.aA,t,_,_,rfl,O _ _ x5,L.aJ.cl,L.aJ.kE,m9 g b d,_,rfl,d,_,rfl,jZ.k (k:=wal p) d6 (by unfold cx;rw[wa0];exact bE (by lia)),?_};have Ol:e≠d:=λz=>by rw[z,C]at X;cases X
  have e4:H4 e=none:=by
   cases q:H4 e with
   |none=>rfl
   |some o=>
    have:=M _ _ q Ol;rw[this]at X;cases X
  refine{_,B++[(p,e)],rfl,?_,?_,?_,?_,?_}
  .rw[a6,fH _ (ou Ii)];unfold cx;rw[wai];rfl
  .rw[wai,n];have:ss.take (i+1)=ss.take i++[p]:=by rw[waO,U];rfl
   rw[this];rfl
  .intro m u;rcases waD.mp u with z |z
   .have nm:m.2≠d:=λq=>by
     have:=f m z;rw[q,C]at this;have:=PV m z;rw[q]at this;rw[s4 _ _ d3]at this;cases this
    rw[ae nm];exact O _ _ (f m z)
   .have:m=(p,e):=by simpa using z
    subst this;rw[ae Ol];exact h6
  .intro m u;rcases waD.mp u with z |z
   .exact PV m z
   .have:m=(p,e):=by simpa using z
    subst this;exact e4
  .intro c o hc Wc;rw[ae Wc];exact O _ _ (M c o hc Wc)
 .rintro σ S ⟨v4,B,rfl,C,n,f,PV,M⟩;rw[wa0,waG]at n;have x5:S x=some (.ins L.aA t (ML g b d)):=M _ _ (s4 _ _ x3) r;have Y:B.length<=1000:=by have:=congrArg wdI n;rw[wa0]at this;lia
  refine{_,rfl,x,L.aA,t,_,_,rfl,x5,L.aJ.cl,L.aJ.kE,m9 g b d,d,B,rowOf g ws ss,rfl,C,Y,f,λkx=>BH g ws ss kx,λkx=>by rw[El];have:=sg.hi;lia,λq ls H6 O hq h6 lv=>?_};refine{_,rfl,x,L.aA,t,_,rfl,O _ _ x5,L.aJ.cl,L.aJ.ri,(show 3<1000 by decide),?_};rw[En];have TU:q≠x:=λz=>by rw[z,x5]at hq;cases hq
  have Yv:∀m∈B,m.2≠x:=λm u z=>by
   have:=f m u;rw[z,x5]at this;cases this
  refine k ss ls _ {{t,b,d,q,B,a6,?_,?_,n,λm u=>?_,?_},hp,Yu,by rw[n]at lv;exact lv} λc o e hc=>?_
  .rw[ae v.symm];exact O _ _ (M _ _ (s4 _ _ b3) Qq)
  .rw[ae r.symm];exact O _ _ C
  .rw[ae (Yv m u)];exact O _ _ (f m u)
  .rw[ae TU];exact h6
  .rw[ae hc]
   exact O _ _ (M _ _ (s4 _ _ (k3 c o e hc)) (λz=>by
    subst z;have:=D _ _ e
    rw[I]at this;cases this))
theorem vY(L:Lk K mg):aS P w K mg base cP 1 L.nL L.nU ["self"] (GK L.aA):=by
 have T:=L.T;refine L.o6.F.d7 (N:=["self"]) (λa A outer s H j Q E nd m h=>?_);obtain⟨x,g,n,ss,ls,rfl,B,k⟩:=h;obtain⟨⟨c,b,d,q,o,e,p,f,i,r,t⟩,_,_,_⟩:=B;refine{_,(a9 (aw (bp (k9 rfl) (by rfl) T.list fJ (aK (az (pv 0) rfl))))),?_}
 ac_rfl
 refine{_,rfl,x,L.aA,c,_,_,rfl,e,L.aJ.cl,L.aJ.kE,kd g b d q,d,_,rfl,f,λl hl=>?_};rw[ie,i];exact k l _ (a7.upd hl) hl a6
theorem kL(L:Lk K mg):aS P w K mg base cP 1 L.sG L.sS ["self"] (JO L.aA):=by
 have T:=L.T;refine L.j6.F.d7 (N:=["self"]) (λa A outer s H i Q E nd j h=>?_);obtain⟨x,g,m,ss,ls,rfl,B,k⟩:=h;obtain⟨⟨c,b,d,q,n,e,o,p,r,t,f⟩,_,_,_⟩:=B;refine{_,(a9 (aw (bp cW (by rfl) T.list fJ (aK (az (pv 0) rfl))))),?_}
 ac_rfl
 refine{_,rfl,x,L.aA,c,_,_,rfl,e,L.aJ.cl,L.aJ.ri,xI g b d q,q,_,rfl,.inl (aL.of f),λl hl=>?_};exact k l _ (a7.upd hl) hl a6
theorem hO(L:Lk K mg):aS P w K mg base cP 1 L.ir L.iy ["self","place"] (Tc L.aA):=by
 have T:=L.T;refine L.fi.F.d7 (N:=["self","place"]) (λc A outer s H r Q E nd e h=>?_);obtain⟨x,p,g,t,ss,ls,rfl,B,f,k⟩:=h;obtain⟨⟨i,b,d,q,mv,j,u,l,m,y,z⟩,_,_,_⟩:=B;obtain⟨a,ha,n⟩:=i7 (mv:=mv) (k:=p) (by rw[m];exact f);have o:=eW e;refine{_,(a9 (b6 (PW.pt (fk (cS (bT (aU bR (by rfl) T.FT tG (a8 (pv 1) (aK (eY (v:=.ty "str") (by rfl) T.str JH rfl)))))) (fF (yt (xu o (pv 1) (az (pv 0) rfl)))))) cK aG)),?_}
 ac_rfl
 refine{_,rfl,_,_,_,true,rfl,gE.str p,rfl,true,rfl,bx ?_};refine{_,rfl,_,rfl,x,L.aA,i,_,_,rfl,j,L.aJ.cl,L.aJ.kE,kd g b d q,d,_,rfl,eA.k (k:=(wal p:Key)) l,_,rfl,?_};rw[n];exact bx k
theorem tm(L:Lk K mg):aS P w K mg base cP 2 L.vD L.vJ ["self","place","sign"] (PU L.aA):=by
 refine L.oH.F.d7 (N:=["self","place","sign"]) (λn A outer s H z Q E nd o h=>?_);obtain⟨x,p,c,g,r,ss,ls,rfl,B,e,hc,k⟩:=h;obtain⟨⟨f,b,d,q,mv,i,C,t,u,v,D⟩,_,_,_⟩:=id B;obtain⟨a,ha,y⟩:=i7 (mv:=mv) (k:=p) (by rw[u];exact e);have j:=eW o
 refine{_,(a5 (b8 (sD (pv 0) L.aJ.cl L.fi (hO L) (aK (pv 1))))
  (a9 (aw (d8 j (d8 j (az (pv 0) rfl) (pv 1) (λ_ _=>rfl)) (pv 2) (λ_ _=>rfl))))),?_}
 ac_rfl
 refine{_,rfl,x,f,_,rfl,i,Bf _ _ _ _ ∅ ∅ ∅ ∅,_,rfl,x,p,g,r,ss,ls,rfl,B,e,?_};have l:=eA.k (k:=(wal p:Key)) t;rw[y]at l;have m:=eA.k (k:=(wal ({#[c]}:Str):Key)) (v _ ha);rw[Dk hc]at m;exact{_,rfl,x,L.aA,f,_,_,rfl,i,L.aJ.cl,L.aJ.kE,kd g b d q,_,rfl,d,_,rfl,l,_,rfl,a,_,rfl,m,k}
theorem zh(L:Lk K mg):aS P w K mg base cP 3 L.sH L.sT ["band","place"] (C6 L.aA):=by
 refine L.t6.F.d7 (N:=["band","place","ends"]) (λI A outer s H X Q E nd Y h=>?_);obtain⟨x,p,g,u,ss,ls,rfl,B,J,M,k⟩:=h
 refine{_,(a5 (du (i:=2) rfl (ay ["band","place"] [0,1]) nd rfl rfl (yH (az (pv 0) rfl)) (λ_ _ _ _ _ _=>bj) (λ_ _ _ _ _ _=>(sD (pv 1) L.aJ.cl L.oH (tm L) (a8 (pv 2) (aK (pv 0))))))
  (a9 (aw (cG rfl (ay [] []) (aQ (pv 2)) (λ_ _ _ _ _ _=>gB (cu oY (pv 0) dn)) (λ_ _ _ _ _ _=>(pv 0)))))),?_}
 ac_rfl
 obtain⟨⟨O,b,d,q,Z,R,h2,h3,h4,h5,h6⟩,pm,_,_⟩:=id B;refine{_,rfl,x,L.aA,O,_,_,rfl,R,L.aJ.cl,L.aJ.pB,kl g b d q,g,rfl,λl hl=>?_};refine comp_map (W2 u ss p) (p6 g) hl (by rw[BL];exact ao (by lia)) (λ_ _=>trivial) (λz C D S n e=>?_) (λC n a=>?_)
 .obtain⟨c,hc,rfl⟩:=wab.mp S;have G:=B.same n;obtain⟨⟨o,_,_,_,_,r,_⟩,_⟩:=id G;exact{_,rfl,x,o,_,rfl,r,Bf _ _ _ _ ∅ ∅ ∅ ∅,_,rfl,_,rfl,x,p,c,g,u,ss,ls,rfl,G,J,hc,e C (a7.refl _)}
 .rw[Ez]at a;refine{_,rfl,l,rfl,{_,aL.of a},λT f=>?_};refine dN C3 (λv=>v) (aR K l _) f (by rw[wa0,aN];exact ao (by lia)) (λH' U=>aL.of (U _ _ a)) (λy j D V t e=>{_,rfl,rfl,_,rfl,e j (a7.refl _)}) (λy j D V _ t e=>{_,rfl,e j (a7.refl _)}) (λj t m=>?_);rw[we3,Ab]at m;exact k T j (n.trans t) (none_of n f) m
theorem AV(L:Lk K mg):aS P w K mg base cP 4 L.vF L.vL ["band"] (EA L.aA):=by
 refine L.vQ.F.d7 (N:=["band","ends","place"]) (λgG A outer s H vs Q E nd hr h=>?_);obtain⟨x,g,U,ss,ls,rfl,B,X,wQ,k⟩:=h;have hu:=eW hr
 refine{_,(a5 (ai (i:=1) da)
  (a5 (forA (aQ (eV (pv 0) L.aJ.cl L.o6 (vY L))) (ax (i:=2)) (a9 (ee hu (pv 1) (pv 2) (au (zh L) L.t6 (a8 (pv 0) (aK (pv 2)))) rfl)))
  (a9 (aw (pv 1))))),?_}
 ac_rfl
 refine λn r=>?_;have R:a7 H (upd H n (.dK [])):=a7.upd r;have B0:=B.same R;obtain⟨⟨dx,b,d,q,mv,h1,h2,h3,h4,h5,h6⟩,pm,_,_⟩:=id B0;refine{_,rfl,x,dx,_,rfl,h1,Bf _ _ _ _ ∅ ∅ ∅ ∅,x,g,U,ss,ls,rfl,B0,λlp S G f1 I=>?_};have Y:lp≠n:=λz=>by rw[z,a6]at f1;cases f1
 have nd:=B.nd
 refine{lp,rfl,{_,aL.of I},d9 (K:=K) (a:=lp) (xs:=ss.map V.str) (λi σ T=>∃Z l,σ=[some (.ref x),some (.ref n),Z]/\T n=some (.dK (cx l))/\l.map (·.1)=ss.take i/\(∀m∈l,T m.2=some (.lst ((gR g U ss m.1).map V.str)))/\(∀m∈l,S m.2=none)/\(∀c o,S c=some o->c≠n->T c=some o))
  {none,[],rfl,G _ _ a6,rfl,λm t=>(nomatch t),λm t=>(nomatch t),λc o e _=>e} (λi σ T _ {_,_,_,_,_,_,_,D}=>aL.of (D _ _ I Y)) ?_ ?_}
 .rintro i y σ H5 hy ⟨Z,l,rfl,u,f,j,v,D⟩;obtain⟨p,Ny,rfl,hi,CH,qE⟩:=gJ hy;have TV:a7 H H5:=λc o e=>D _ _ (G _ _ (R _ _ e)) (af e r);refine{_,rfl,_,rfl,x,p,g,U,ss,ls,rfl,B.same TV,CH,X,λe H6 s6 C Yw=>?_};have d6:=s6 _ _ u;have J:p∉l.map (·.1):=by rw[f];exact ik nd Ny
  have TX:l.length<=900:=by have:=congrArg wdI f;rw[wa0,wag]at this;lia
  refine{_,rfl,_,rfl,n,_,rfl,jZ.k (k:=wal p) d6 (by unfold cx;rw[wa0];exact bE (by lia)),?_};have M:e≠n:=λz=>by rw[z,u]at C;cases C
  have e1:S e=none:=by
   cases q:S e with
   |none=>rfl
   |some o=>
    have:=D _ _ q M;rw[this]at C;cases C
  refine{_,l++[(p,e)],rfl,?_,?_,?_,?_,?_}
  .rw[a6,fH _ (ou J)];unfold cx;rw[wai];rfl
  .rw[wai,f,qE];rfl
  .intro m t;rcases waD.mp t with z |z
   .have nm:m.2≠n:=λq=>by
     have:=v m z;rw[q,G _ _ a6]at this;cases this
    rw[ae nm];exact s6 _ _ (j m z)
   .have:m=(p,e):=by simpa using z
    subst this;rw[ae M];exact Yw
  .intro m t;rcases waD.mp t with z |z
   .exact v m z
   .have:m=(p,e):=by simpa using z
    subst this;exact e1
  .intro c o hc O;rw[ae O];exact s6 _ _ (D c o hc O)
 .rintro σ H5 ⟨Z,l,rfl,u,f,j,v,D⟩;rw[wa0,waG]at f;exact{_,rfl,k n l H5 (λc o e=>D _ _ (G _ _ (R _ _ e)) (af e r)) r u f j λm t=>none_of R (none_of G (v m t))}
inductive Yx(g:Str)(ws ss:List Str)(ev:List (Str×Addr))(o:Obj)(x de lt:Addr)(n:Int)(H:Hp)(i:Nat)(σ:St)(H4:Hp):Prop
 |mk (ts:List Addr) (dc:Addr) (v4 v6 v7:Option V) (_:σ=[some (.ref x),some (.int n),some (.ref de),some (.ref dc),v4,some (.ref lt),v6,v7]) (_:ts.length=i+1) (_:ts[i]?=some dc) (_:H4 lt=some (.lst (ts.map V.ref))) (_:∀j t,ts[j]?=some t->H4 t=some (.dK (N1 g ws ss j))) (_:H4 de=some (.frz o (.dK (cx ev)))) (_:∀m∈ev,H4 m.2=some (.lst ((gR g ws ss m.1).map V.str))) (_:a7 H H4)
theorem lL(L:Lk K mg):aS P w K mg base cP 5 L.mr L.mJ ["band","length"] (K2 L.aA):=by
 have T:=L.T;refine L.iB.F.d7 (N:=["band","length","ends","counts","place","table","step","longer"]) (λgG A outer s H vs Q E nd hr h=>?_);obtain⟨x,n,g,G,ss,ls,rfl,B,DM,wQ,hn0,hn1,k⟩:=h;have hu:=eW hr
 refine{_,(a5 (ai (i:=2) (au (AV L) L.vQ (aK (pv 0))))
  (a5 (ai (i:=3) da)
  (a5 (forA (tY (pv 2)) (ax (i:=4)) (a9 (ee hu (pv 3) (pv 4) aq rfl)))
  (a5 (ai (i:=5) (cA (aK (pv 3))))
  (a5 (forA (bZ rfl T.range (aK (pv 1))) (ax (i:=6)) (a5 (ai (i:=7) da)
  (a5 (forA (tY (pv 2)) (ax (i:=4)) (a9 (ee hu (pv 7) (pv 4) (aU (mc rfl) (by rfl) T.sum Es (aK (cG rfl (ay ["counts"] [3]) (aQ (d8 hu (pv 2) (pv 4) (λ_ _=>rfl))) (λ_ _ _ _ _ _=>bj) (λ_ _ _ _ _ _=>(d8 hu (pv 1) (pv 0) (λ_ _=>rfl)))))) rfl)))
  (a5 (b8 (hF waN waU waY cL (pv 5) (aK (pv 7))))
  (a9 (ai (i:=3) (pv 7)))))))
  (a9 (aw (pv 5)))))))),?_}
 ac_rfl
 have nd:=B.nd;have he:("":Str)∈ss:=B.pm.mem_iff.mpr (cp G);refine{_,rfl,x,g,G,ss,ls,rfl,B,DM,wQ,λd q H1 s1 TY h1 ek er ef=>?_};refine λl v=>?_;have Z:d≠l:=af h1 v;have I:((cx q).map λkv=>kV kv.1)=ss.map V.str:=by rw[ie,ek]
 have Yy:∀m∈q,m.2≠d:=λm r z=>by have:=er m r;rw[z,h1]at this;cases this
 refine{_,rfl,d,_,rfl,.inl {(a7.upd v) _ _ h1,λo=>?_}};have J:=jv d o (cx q);rw[I]at J;have S:(upd (upd H1 l (.dK [])) d (.frz o (.dK (cx q)))) l=some (.dK []):=by rw[ae (wbu Z),a6]
 have U:(upd (upd H1 l (.dK [])) d (.frz o (.dK (cx q)))) d=some (.frz o (.dK (cx q))):=a6
 have sz:a7 H (upd (upd H1 l (.dK [])) d (.frz o (.dK (cx q)))):=λc u e=>by
  rw[ae (af e TY)];exact a7.upd v _ _ (s1 _ _ e)
 have X:∀m∈q,(upd (upd H1 l (.dK [])) d (.frz o (.dK (cx q)))) m.2=some (.lst ((gR g G ss m.1).map V.str)):=λm r=>by
  rw[ae (Yy m r)];exact a7.upd v _ _ (er m r)
 have f0:H l=none:=none_of s1 v;generalize upd (upd H1 l (.dK [])) d (.frz o (.dK (cx q)))=Hz at S U sz X;have TZ:∀m∈q,m.2≠l:=λm r z=>by have:=X m r;rw[z,S]at this;cases this
 refine lY J (λi σ H3=>∃v4,σ=[some (.ref x),some (.int n),some (.ref d),some (.ref l),v4,none,none,none]/\H3 l=some (.dK (qR (λp=>.int (i3 g G ss 0 p)) (ss.take i)))/\∀c u,Hz c=some u->c≠l->H3 c=some u) {none,rfl,S,λc u e _=>e} (λi σ H3 _ {_,_,_,b}=>b _ _ U Z) ?_ ?_
 .rintro i y σ H3 hy ⟨v4,rfl,h3,b⟩;obtain⟨p,Ny,rfl,hi,CH,qE⟩:=gJ hy;refine{_,rfl,_,rfl,l,_,rfl,jZ.k (k:=wal p) h3 (by rw[Ac,wag];exact bE (by lia)),?_};refine{_,rfl,?_,λc u e hc=>by rw[ae hc];exact b c u e hc};rw[a6,fH _ (xP _ (ik nd Ny)),qE,xQ];rfl
 rintro σ H3 ⟨v4,rfl,h3,b⟩;rw[wa0,waG]at h3;have s3:a7 H H3:=λc u e=>b _ _ (sz _ _ e) (af e f0);have U0:=b _ _ U Z;have RU:∀m∈q,H3 m.2=some (.lst ((gR g G ss m.1).map V.str)):=λm r=>b _ _ (X m r) (TZ m r);clear b S U sz X J v h1 er;refine{_,rfl,by show 1<=sizeLine;decide,λlt C=>?_};have flt:H lt=none:=none_of s3 C
 refine{_,rfl,n,rfl,by lia,by lia,cw (lo:=0) (n:=n.toNat) (Yx g G ss q o x d lt n H)
  {[l],l,_,none,none,rfl,rfl,rfl,a6,?_,a7.upd C _ _ U0,λm r=>a7.upd C _ _ (RU m r),s3.trans (a7.upd C)} ?_ ?_}
 .intro j t R
  cases j with
  |zero=>
   obtain rfl:l=t:=wad R;exact a7.upd C _ _ h3
  |succ j=>simp at R
 .rintro i σ H4 hi ⟨ts,dc,v4,v6,v7,rfl,M,Wd,U1,Y,D,LI,s4⟩;refine λdl Ij=>?_;have sd:a7 H4 (upd H4 dl (.dK [])):=a7.upd Ij;have Yz:=Y i dc Wd;have J:=jv d o (cx q);rw[I]at J;have nle:d≠dl:=af D Ij;refine{_,rfl,d,_,rfl,.inr {o,sd _ _ D,?_}};refine lY J (λj σ H5=>∃v4,σ=[some (.ref x),some (.int n),some (.ref d),some (.ref dc),v4,some (.ref lt),some (.int (0+(i:Int))),some (.ref dl)]/\H5 dl=some (.dK (qR (λp=>.int (i3 g G ss (i+1) p)) (ss.take j)))/\∀c u,H4 c=some u->H5 c=some u) {_,rfl,a6,λc u e=>sd _ _ e} (λj σ H5 _ {_,_,_,b}=>b _ _ D) ?_ ?_
  .rintro j y σ H5 hy ⟨v4,rfl,h5,b⟩;obtain⟨p,Om,rfl,hj,CH,qE⟩:=gJ hy;obtain⟨a,ha,hv⟩:=i7 (mv:=q) (k:=p) (by rw[ek];exact CH);have e1:=eA.f (k:=(wal p:Key)) (b _ _ D);rw[hv]at e1;have We:=b _ _ (LI _ ha);have U2:=b _ _ Yz;have el:=C4 g G ss p;refine{_,rfl,_,rfl,d,_,rfl,e1,a,rfl,{_,aL.of We},λlm YB=>?_};refine comp_map (K1 (i3 g G ss i)) (aR K a ((gR g G ss p).map V.str)) YB (by rw[wa0];exact ao (by lia)) (λH' s'=>aL.of (s' _ _ We)) (λz H6 Q' hz s6 qq=>?_) (λH6 s6 h6=>?_)
   .obtain⟨t,R,rfl⟩:=wab.mp hz;have e2:=eA.k (k:=(wal t:Key)) (s6 _ _ U2);rw[uL _ (C5 he R)]at e2;exact{_,rfl,_,rfl,dc,_,rfl,e2,qq H6 (a7.refl _)}
   .rw[qS]at h6;refine{lm,_,rfl,aL.of h6,?_};have YC:=s6 _ _ h5;refine{_,rfl,_,rfl,dl,_,rfl,jZ.k (k:=wal p) YC (by rw[Ac,wag];exact bE (by lia)),?_};refine{_,rfl,?_,λc u e=>by rw[ae (af e Ij)];exact s6 _ _ (b c u e)};rw[a6,fH _ (xP _ (ik nd Om)),qE,xQ];rfl
  rintro σ H5 ⟨v4',rfl,h5,b⟩;rw[wa0,waG]at h5;have O:=b _ _ U1;refine{_,rfl,.inl {rfl,_,aL.of O},_,rfl,lt,_,_,rfl,rfl,O,by rw[wa0];exact wbi (m:=200000) (by lia) (by rw[wc4];decide),?_};have YD:∀t,H5 t=some (.dK (N1 g G ss (i+1)))->t≠lt:=λt e z=>by rw[z,O]at e;cases e
  refine{_,rfl,ts++[dl],dl,_,_,_,rfl,by rw[wa5,M];rfl,by rw[waE (by lia),M,wbE];rfl,by rw[a6,wai];rfl,?_,?_,?_,?_}
  .intro j t R
   by_cases hj:j<ts.length
   .rw[waF hj]at R;have e:=b _ _ (Y j t R);rw[ae (λz=>by rw[z,O]at e;cases e)];exact e
   .have YF:j=i+1:=by
     have:=(wa6.mp R).1;rw[wa5,wcn]at this
     lia
    subst YF;rw[waE (by lia),M,wbE]at R;obtain rfl:dl=t:=wad R;rw[ae (YD _ h5)];exact h5
  .have e:=b _ _ D;rw[ae (λz=>by rw[z,O]at e;cases e)];exact e
  .intro m r;have e:=b _ _ (LI m r)
   by_cases z:m.2=lt
   .exfalso;have f:=RU m r;rw[z,C]at f;cases f
   .rw[ae z];exact e
  .exact λc u e=>by rw[ae (af e flt)];exact b _ _ (s4 _ _ e)
 .rintro σ H4 ⟨ts,dc,v4,v6,v7,rfl,M,Wd,U1,Y,D,LI,s4⟩;exact{_,rfl,k lt ts H4 s4 flt U1 M Y}
theorem wR(L:Lk K mg):aS P w K mg base cP 6 L.pH L.pV ["band","place","length"] (Hn L.aA):=by
 refine L.qi.F.d7 (N:=["band","place","length"]) (λy A outer s H T Q E nd C h=>?_);obtain⟨x,p,n,g,r,ss,ls,rfl,B,u,e,f,i,j,k⟩:=h;have D:=eW C
 refine{_,(a5 (b8 (sD (pv 0) L.aJ.cl L.fi (hO L) (aK (pv 1))))
  (a9 (aw (d8 D (bc bD (au (lL L) L.iB (a8 (pv 0) (aK (pv 2)))) (OZ Mr aq) (λ_ _=>rfl)) (pv 1) (λ_ _=>rfl))))),?_}
 ac_rfl
 obtain⟨⟨G,b,d,q,U,I,X,Y,Z,h5,h6⟩,_,_,_⟩:=id B;refine{_,rfl,x,G,_,rfl,I,Bf _ _ _ _ ∅ ∅ ∅ ∅,_,rfl,x,p,g,r,ss,ls,rfl,B,u,?_};refine{_,rfl,_,rfl,x,n,g,r,ss,ls,rfl,B,e,f,i,j,λl m J M f1 hl a O=>?_};obtain⟨c,t,rfl⟩:∃l t,m=l++[t]:={m.dropLast,m.getLast (by intro z;rw[z]at a;simp at a),(wdw _).symm};have R:uq ((c++[t]).map V.ref) (-1)=some (.ref t):=by rw[wai];exact Gf _ _
 have o:c.length=n.toNat:=by rw[wa5,wcn]at a;lia
 have S:=O n.toNat t (by rw[waE (by lia),o,wbE];rfl);have v:=eA.k (k:=(wal p:Key)) S;rw[uL _ u]at v;exact{_,rfl,l,_,-1,_,rfl,rfl,aL.of hl,R,_,rfl,t,_,rfl,v,k J M}
theorem Ik(L:Lk K mg):aS P w K mg base cP 7 L.DG L.DI ["band","length"] (K3 L.aA):=by
 refine L.DK.F.d7 (N:=["band","length"]) (λf A outer s H j Q E nd l h=>?_);obtain⟨x,n,g,e,ss,ls,rfl,B,a,b,c,d,k⟩:=h;refine{_,(a9 (aw (au (wR L) L.qi (a8 (pv 0) (a8 eB (aK (pv 1))))))),?_}
 ac_rfl
 have i:("":Str)∈ss:=B.pm.mem_iff.mpr (cp e);exact{_,rfl,_,rfl,x,"",n,g,e,ss,ls,rfl,B,i,a,b,c,d,k}
theorem j9(L:Lk K mg):aS P w K mg base cP 1 L.vC L.vI ["thing"] Hg:=by
 have T:=L.T;refine L.iA.F.d7 (N:=["thing"]) (λa A outer s H b Q E nd c h=>?_);obtain⟨i,rfl,k⟩:=h;refine{_,(a9 (aw (yv (aU bR (by rfl) T.FT tG (a8 (pv 0) (aK (eY (v:=.ty "int") (by rfl) T.int Q6 rfl)))) (yu (G1 (aU bR (by rfl) T.FT tG (a8 (pv 0) (aK (eY (v:=.ty "bool") (by rfl) T.bool GW rfl))))))))),?_}
 ac_rfl
 refine{_,rfl,_,_,_,true,rfl,gE.int i,rfl,true,rfl,eD ?_};exact{_,rfl,_,_,_,false,rfl,gE.int i,rfl,false,rfl,k}
theorem AW(L:Lk K mg):aS P w K mg base cP 1 L.vE L.vK ["band","wide"] (EB L.aA):=by
 have T:=L.T;refine L.vP.F.d7 (N:=["band","wide","rows","step"]) (λf A outer s H r Q E nd t h=>?_);obtain⟨x,n,g,u,ss,ls,rfl,B,j,l,m,k⟩:=h
 refine{_,(a5 (ai (i:=2) aq)
  (a5 (forA (bZ rfl T.range (aK (pv 1))) (ax (i:=3)) (a9 (uh (i:=2) nd rfl (wdW rfl) (sC T.len (az (pv 0) rfl)) Hf)))
  (a9 (aw (pv 2))))),?_}
 ac_rfl
 obtain⟨⟨o,b,d,q,v,p,y,z,C,D,G⟩,_,_,_⟩:=id B;refine{_,rfl,n,rfl,by lia,by lia,cw (lo:=0) (n:=n.toNat) (λi σ a=>a=H/\∃c,σ=[some (.ref x),some (.int n),some (.int ((g.length:Int)^i)),c]) ⟨rfl,none,rfl⟩ ?_ ?_}
 .rintro i σ a hi ⟨e,c,rfl⟩;rw[e];refine{_,rfl,_,rfl,x,L.aA,o,_,_,rfl,p,L.aJ.cl,L.aJ.pB,kl g b d q,g,rfl,ao (by lia),_,_,rfl,rfl,.inr {by lia,by lia},rfl,some (.int (0+(i:Int))),?_};rw[wfO];rfl
 .rintro σ a ⟨e,c,rfl⟩;rw[e];exact{_,rfl,k}
theorem CI(L:Lk K mg):aS P w K mg base cP 2 L.y9 L.ye ["band","many","wide"] (Ad L.aA):=by
 refine L.yi.F.d7 (N:=["band","many","wide"]) (λc A outer s H f Q E nd i h=>?_);obtain⟨x,many,wide,g,d,ss,ls,rfl,B,a,b,k⟩:=h
 refine{_,(a5 (b6 (PW.pt (fk (cS (bT (au (j9 L) L.iA (aK (pv 1))))) (fk (cu iO (pv 1) aq) (fF (cu lV (pv 1) aq))))) (a9 (aw dZ)) aG)
  (a5 (b6 (PW.pt (fk (cS (bT (au (j9 L) L.iA (aK (pv 2))))) (fk (cu iO (pv 2) aq) (fF (cu lV (pv 2) aq))))) (a9 (aw dZ)) aG)
  (a9 (aw (hV G9 (au (AW L) L.vP (a8 (pv 0) (aK (pv 2)))) aq (oh _)))))),?_}
 ac_rfl
 obtain⟨ha,j,hc,hd,e⟩:=id b;refine{_,rfl,many,rfl,true,rfl,bx ?_};refine{_,rfl,_,_,rfl,rfl,false,congrArg V.bl (decide_eq_false (by lia)),bx ?_};refine{_,rfl,_,_,rfl,rfl,false,congrArg V.bl (decide_eq_false (by lia)),bx ?_};refine{_,rfl,wide,rfl,true,rfl,bx ?_};refine{_,rfl,_,_,rfl,rfl,false,congrArg V.bl (decide_eq_false (by lia)),bx ?_};refine{_,rfl,_,_,rfl,rfl,false,congrArg V.bl (decide_eq_false (by lia)),bx ?_};refine{_,rfl,_,rfl,x,wide,g,d,ss,ls,rfl,B,a,by lia,by lia,_,_,rfl,rfl,?_};show Q (V.bl (decide ((g.length:Int)^wide.toNat<=64))) H;rw[decide_eq_true e];exact k
theorem gD(L:Lk K mg):aS P w K mg base cP 3 L.pG L.pU ["band","many","wide"] (Ad L.aA):=by
 refine L.fT.F.d7 (N:=["band","many","wide"]) (λc A outer s H e Q E nd f h=>?_);obtain⟨x,many,wide,g,d,ss,ls,rfl,B,a,b,k⟩:=h
 refine{_,(a5 (b6 (cS (bT (au (CI L) L.yi (a8 (pv 0) (a8 (pv 1) (aK (pv 2))))))) cK aG)
  (a9 (aw dZ))),?_}
 ac_rfl
 exact{_,rfl,_,rfl,_,rfl,x,many,wide,g,d,ss,ls,rfl,B,a,b,true,rfl,bx k}
theorem Fi(L:Lk K mg):aS P w K mg base cP 6 L.AB L.AG ["band","many","wide","most"] (EH L.aA):=by
 have T:=L.T;refine L.AJ.F.d7 (N:=["band","many","wide","most","table","rows_of_data","length"]) (λgG A outer s H vs Q E nd hr h=>?_);obtain⟨x,many,wide,most,g,m,ss,ls,rfl,B,q,D,r,Wf,YG,Z⟩:=h;have k1:∀k:Nat,1<=k->(k:Int)<=most->i3 g m ss (k*wide.toNat) "" < many^k->(∀j:Nat,1<=j->j<k->¬i3 g m ss (j*wide.toNat) "" < many^j)->∀f,a7 H f->Q (.int (k:Nat)) f:=λk a b c d f G=>Z _ f G (.some k a b c d);have k2:(∀j:Nat,1<=j->(j:Int)<=most->¬i3 g m ss (j*wide.toNat) "" < many^j)->∀f,a7 H f->Q .non f:=λa f G=>Z _ f G (.none a);have hu:=eW hr
 refine{_,(a5 (b8 (au (gD L) L.fT (a8 (pv 0) (a8 (pv 1) (aK (pv 2))))))
  (a5 (ai (i:=4) (au (lL L) L.iB (a8 (pv 0) (aK (aC dW (pv 3) (pv 2))))))
  (a5 (ai (i:=5) aq)
  (a5 (forA (qG rfl T.range (a8 aq (aK (aC bu (pv 3) aq)))) (ax (i:=6)) (a5 (uh (i:=5) nd rfl (wdW rfl) (pv 1) Hf)
  (a9 (b6 (cu iO (d8 hu (bc bD (pv 4) (aC dW (pv 6) (pv 2)) (λ_ _=>rfl)) eB (λ_ _=>rfl)) (pv 5)) (a9 (aw (pv 6))) aG))))
  (a9 (aw dn)))))),?_}
 ac_rfl
 have he:("":Str)∈ss:=B.pm.mem_iff.mpr (cp m);obtain⟨ha,hb,hc,hd,_⟩:=id r;obtain⟨e,t⟩:∃w:Nat,wide=(w:Int):={wide.toNat,by lia};obtain⟨u,I⟩:∃w:Nat,most=(w:Int):={most.toNat,by lia};have o:most*wide=((u*e:Nat):Int):=by rw[t,I,waT]
 have bmw:u*e<=600:=by
  have p:u<=100:=by lia
  have h2:e<=6:=by lia
  exact wak (wbd p h2) ⋯
 have ew:wide.toNat=e:=by lia
 rw[ew]at k1 k2;refine{_,rfl,_,rfl,_,rfl,x,many,wide,g,m,ss,ls,rfl,B,q,r,?_};refine{_,rfl,_,rfl,_,rfl,_,_,rfl,rfl,.inl {by lia,by lia},x,most*wide,g,m,ss,ls,rfl,B,q,D,by rw[o];lia,by rw[o];lia,λl J M s1 f1 hl O ht=>?_};rw[o,waA]at O;refine{_,rfl,_,_,rfl,rfl,1,most+1,rfl,{by lia,by lia,by lia,by lia},cw (lo:=1) (n:=(most+1-1).toNat) (λi σ R=>R=M/\(∃v6,σ=[some (.ref x),some (.int many),some (.int wide),some (.int most),some (.ref l),some (.int (many^i)),v6])/\∀j:Nat,1<=j->j<=i->¬i3 g m ss (j*e) "" < many^j) {rfl,{none,by rw[Int.pow_zero];rfl},λj p h2=>by lia} ?_ ?_}
 .rintro i σ R hi ⟨S,⟨v6,rfl⟩,lo⟩;rw[S];have U:i+1<=u:=by lia
  have Wg:(i+1)*e<=u*e:=weI _ U;have v:(i+1)*e<J.length:=by lia
  have e1:(J.map V.ref)[(i+1)*e]?=some (.ref J[(i+1)*e]):=by rw[wa4,wa1 v];rfl
  have y:=bC e1;have ei:((((i+1)*e:Nat)):Int)=(1+(i:Int))*wide:=by rw[t,waT,wbz,Int.add_comm];rfl
  rw[ei]at y;have X:=ht _ _ (wa1 v);have e3:=eA.k (k:=(wal "":Key)) X;rw[uL _ he]at e3;refine{_,rfl,_,rfl,_,_,rfl,rfl,.inr {by lia,by lia},?_};refine{_,rfl,_,rfl,_,rfl,_,_,rfl,rfl,.inr {by lia,by lia},l,_,_,_,rfl,rfl,aL.of hl,y,_,_,rfl,e3,_,rfl,_,_,rfl,rfl,_,rfl,?_};refine uz (λp=>?_) (λp=>{rfl,{_,by rw[wfO];rfl},λj C q2=>?_})
  .have Y:=of_decide_eq_true p;have:=k1 (i+1) (by lia) (by lia) (by rw[wfO];exact Y) (λj C q2=>lo j C (by lia)) M s1;rw[show (((i+1:Nat):Nat):Int)=1+(i:Int) by lia]at this;exact{_,rfl,this}
  .by_cases hj:j<=i
   .exact lo j C hj
   .obtain rfl:j=i+1:=by lia
    rw[wfO];exact λz=>p (decide_eq_true z)
 .rintro σ R ⟨S,⟨v6,rfl⟩,lo⟩;rw[S];exact k2 (λj C q2=>lo j C (by lia)) M s1
theorem tK(L:Lk K mg):aS P w K mg base cP 1 L.mw L.mK ["line"] (Hw K):=by
 refine L.mW.F.d7 (N:=["line"]) (λo A outer s H D Q E nd c h=>?_);obtain⟨v,p,rfl,t,hn,k⟩:=h;refine{_,(a9 (aw (fK rfl (ay [] []) (ay [] []) ⋯ (aQ (pv 0)) (λ_ _ _ _ _ _=>bj) (λ_ _ _ _ _ _=>(dX (a8 (pv 0) (aK (pv 1)))))))),?_}
 ac_rfl
 obtain⟨a,u,rfl,j,b,x⟩:=kA t;have d:=b;rw[wa0]at d;refine{_,rfl,a,rfl,{_,j},λl hl=>?_};refine jy (prs:=p.map eF) (λ_=>true) (λq=>.tup [.at q.1,.at q.2]) (aR K a u) b (λi q e=>let ⟨r,y,B⟩:=x i q e;{r,y,gA.of B}) hl (ao (by lia)) (λm f=>f.seq j) (λq n C _ _ g=>g n (a7.refl _)) (λq n C e _ G g=>?_) (λm f r=>?_)
 .obtain⟨z,I,rfl⟩:=wab.mp e;exact{_,rfl,_,rfl,by show 2<=sizeLine;decide,λr c=>g _ _ (a7.upd c) (mi c z)}
 .rw[wba.mpr (λ_ _=>rfl),waf]at r;exact k _ m f r
theorem fY(L:Lk K mg):aS P w K mg base cP 2 L.gx L.jJ ["self","homes","weights","lines"] (Hx K L.aE):=by
 have T:=L.T;refine L.eN.F.d7 (N:=["self","homes","weights","lines"]) (λgG A outer s H vs Q E nd hr h=>?_);obtain⟨x,j,u,v,w,C,D,t,rfl,J,Z,U3,Il,n1,n2,n3,n4,k⟩:=h
 refine{_,(a5 (d1 (pv 0) (bp cW (by rfl) T.list fJ (aK (pv 1))) rfl)
  (a5 (d1 (pv 0) (bp cW (by rfl) T.list fJ (aK (pv 2))) rfl)
  (a9 (d1 (pv 0) (cG rfl (ay [] []) (aQ (pv 3)) (λ_ _ _ _ _ _=>bj) (λ_ _ _ _ _ _=>(au (tK L) L.mW (aK (pv 0))))) rfl)))),?_}
 ac_rfl
 obtain⟨a,rfl,ha⟩:=Hu Z;obtain⟨b,rfl,hb⟩:=iq U3;obtain⟨c,xs,rfl,hc,M⟩:=Il;have xl:xs.length=t.length:=by rw[M.len,wa0]
 have l:∀{d:Addr} {ys:List V} {H':Hp},aL K H d ys->(∀b o,H b=some o->b≠x->H' b=some o)->aL K H' d ys:=λhS kp=>(f7 kp).seq (yT J hS);refine{_,rfl,a,_,rfl,.inl ha,λf B=>?_};have m:x≠f:=af J B;refine{_,rfl,x,L.aE,j,[],rfl,by rw[ae m];exact J,L.aB.cl,L.aB.fM,(show 0<1000 by decide),?_};rw[Lw];have X:∀d o,H d=some o->d≠x->(upd (upd H f (.lst (C.map V.str))) x (.ins L.aE j (sf f))) d=some o:=λd o e hd=>by rw[ae hd];exact a7.upd B _ _ e
 have x1:(upd (upd H f (.lst (C.map V.str))) x (.ins L.aE j (sf f))) x=some (.ins L.aE j (sf f)):=a6;have a1:(upd (upd H f (.lst (C.map V.str))) x (.ins L.aE j (sf f))) f=some (.lst (C.map V.str)):=by rw[ae m.symm,a6]
 generalize upd (upd H f (.lst (C.map V.str))) x (.ins L.aE j (sf f))=O at X x1 a1 ⊢;refine{_,rfl,b,_,rfl,.inl (l hb X),λg n=>?_};have p:x≠g:=af x1 n;have YH:f≠g:=af a1 n
 have U4:H g=none:=by
  cases q:H g with
  |none=>rfl
  |some o=>have:=X _ _ q p.symm;rw[n]at this;cases this
 refine{_,rfl,x,L.aE,j,sf f,rfl,by rw[ae p];exact x1,L.aB.cl,L.aB.dg,(show 1<1000 by decide),?_};rw[Hv];have G:∀d o,H d=some o->d≠x->(upd (upd O g (.lst (D.map V.int))) x (.ins L.aE j (pk f g))) d=some o:=λd o e hd=>by rw[ae hd];exact a7.upd n _ _ (X _ _ e hd)
 have Y:(upd (upd O g (.lst (D.map V.int))) x (.ins L.aE j (pk f g))) x=some (.ins L.aE j (pk f g)):=a6;have a2:(upd (upd O g (.lst (D.map V.int))) x (.ins L.aE j (pk f g))) f=some (.lst (C.map V.str)):=by rw[ae m.symm,ae YH];exact a1
 have b2:(upd (upd O g (.lst (D.map V.int))) x (.ins L.aE j (pk f g))) g=some (.lst (D.map V.int)):=by rw[ae p.symm,a6]
 generalize upd (upd O g (.lst (D.map V.int))) x (.ins L.aE j (pk f g))=H2 at G Y a2 b2 ⊢;have R:=bA.same (f7 G) _ _ (bA.off J _ _ M);refine{_,rfl,c,rfl,{_,l (.inl hc) G},λc' S=>?_};refine vc (K:=K) (t.map bY) (aR K c xs) S (ao (by lia)) (by rw[wa0,xl]) (λH' s'=>s'.seq (l (.inl hc) G)) (λi y d U Q' hy hd I qq=>?_) (λU I r3=>?_)
 .obtain⟨d',e',r⟩:=R.get i y hy;rw[hd]at e';cases e';rw[wa4]at hd
  cases e:t[i]? with
  |none=>rw[e]at hd;cases hd
  |some qs=>
   rw[e]at hd;cases hd;exact{_,rfl,y,qs,rfl,bM.same I _ _ r,n4 qs (wa8 e),λz H4 s4 r4=>qq z H4 s4 r4}
 .have ncx:x≠c':=af Y S;refine{_,rfl,x,L.aE,j,pk f g,rfl,I _ _ Y,L.aB.cl,L.aB.cR,(show 2<1000 by decide),?_};rw[Dv];have up:a7 (aM H U) (aM H (upd U x (.ins L.aE j (Ce f g c')))):=bQ J λd o e hd=>by rw[ae hd];exact e
  have old:a7 (aM H2 U) (aM H U):=λd o e=>by
   unfold aM at e ⊢
   cases q:H d with
   |none=>
    cases q2:H2 d with
    |none=>rw[q2]at e;exact e
    |some z=>rw[q2]at e;cases e
   |some z=>
    by_cases hd:d=x
    .rw[hd,Y]at e;cases e
    .rw[G _ _ q hd]at e;cases e
  refine k f g c' _ a6 ?_ ?_ (bM.same (old.trans up) _ _ r3) λd o e hd=>by rw[ae hd];exact I _ _ (G _ _ e hd)
  .exact pj ((bX B (by rw[ae m.symm];exact I _ _ a2)))
  .exact jz ((bX U4 (by rw[ae p.symm];exact I _ _ b2)))
theorem lM(L:Lk K mg):aS P w K mg base cP 1 L.mx L.mL ["number","things"] (Kj K):=by
 have T:=L.T;refine L.iC.F.d7 (N:=["number","things"]) (λc A outer s H f Q E nd g h=>?_);obtain⟨i,a,b,rfl,d,k⟩:=h;refine{_,(a9 (aw (yv (hV D5 (pv 0) aq (oh _)) (yu (hV iO (pv 0) (zD T.len (pv 1)) (oh _)))))),?_}
 ac_rfl
 by_cases h0:0<=i
 .have e:eX i b.length=decide (i<(b.length:Int)):=by unfold eX;rw[decide_eq_true h0,wel]
  rw[e]at k;exact{_,rfl,_,_,rfl,rfl,true,congrArg V.bl (decide_eq_true h0),eD {_,rfl,_,rfl,a,b,rfl,.inl d,_,_,rfl,rfl,k}}
 .have e:eX i b.length=false:=by unfold eX;rw[decide_eq_false h0,wdv]
  rw[e]at k;exact{_,rfl,_,_,rfl,rfl,false,congrArg V.bl (decide_eq_false h0),bx k}
theorem o7(L:Lk K mg):aS P w K mg base (Bh P w) 1 L.pJ L.pX ["sheet","many","steps","weight"] (Nf K L.aE L.fC):=by
 have T:=L.T;refine L.dE.F.Ex (N:=["sheet","many","steps","weight"]) (λU A outer s H vs Q E nd hr h=>?_);obtain⟨x,many,v,w,hs,c,X,b,rfl,S,Y,Z,t,m0,m1,k⟩:=h
 refine{_,(a5 (b6 (cu rJ (zD T.len (pv 2)) aq) (a9 (gp cX rfl L.jO L.iG rfl L.jN (aK eB))) aG)
  (a5 (b6 (cu iO (pv 3) aq) (a9 (gp cX rfl L.jO L.iG rfl L.jN (aK eB))) aG)
  (a9 (b6 (cu iO (aU (mc rfl) (by rfl) T.sum Es (aK (fK rfl (ay ["sheet"] [0]) (ay ["sheet"] [0]) ⋯ (aQ (pv 2)) (λ_ _ _ _ _ _=>bj) (λ_ _ _ _ _ _=>(bc (gH (K:=K) rfl) (nj (K:=K) rfl (pv 2) rfl) (pv 1) (λ_ _=>rfl)))))) (aC dW (pv 1) (pv 3))) (a9 (gp cX rfl L.jO L.iG rfl L.jN (aK eB))) aG)))),?_}
 ac_rfl
 obtain⟨dx,ah,bw,cl,hx,rh,u,rl⟩:=id S;obtain⟨Wh,eb,hb⟩:=iq u;cases eb;obtain⟨a,o,rfl,p,J⟩:=dQ Y;have g:o.length=b.length:=by rw[J.1,wa0,wa0]
 have no:eU c many b w=false->∀y,a7 H y->E (.ref L.fC) none y:=λh=>by
  rcases k with⟨r,_⟩ |⟨_,i⟩
  .rw[h]at r;cases r
  .exact i
 by_cases B:b=[]
 .subst B;have r0:o=[]:=wbB g;subst r0;exact{_,rfl,a,_,rfl,.inl p,rfl,true,Hd _,eD {rfl,no rfl H (a7.refl _)}}
 have hq1:o.length≠0:=by rw[g];exact λz=>B (wbB z)
 have j:b.isEmpty=false:=by cases b with |nil=>exact absurd rfl B |cons _ _=>rfl
 refine{_,rfl,a,_,rfl,.inl p,rfl,false,congrArg V.bl (decide_eq_false λz=>by have:=V.int.inj z;rw[wa0]at this;omega),bx ?_}
 by_cases M:w<1
 .refine{_,rfl,_,_,rfl,rfl,true,congrArg V.bl (decide_eq_true M),eD {rfl,no ?_ H (a7.refl _)}};unfold eU;rw[decide_eq_false (show ¬1<=w by omega),wdv,we7]
 refine{_,rfl,_,_,rfl,rfl,false,congrArg V.bl (decide_eq_false M),bx ?_};refine{_,rfl,a,rfl,{_,p},λlc C=>?_};refine ow (prs:=b.map eF) (λ_=>true) (λq=>match q.2 with |.int e=>.int (c.getD e.toNat 0) |_=>.non) (aR K a (o.map V.ref)) J C (ao ()) (λy s'=>s'.seq p) (λq d O _ _ D=>D d (a7.refl _)) (λq d O hq _ l D=>?_) (λd l R=>?_)
 .obtain⟨f,G,rfl⟩:=wab.mp hq;have m:=t f G;have I:uq (c.map V.int) (f.2:Int)=some (.int (c.getD f.2 0)):=bC (by rw[wa4,wa1 m,wa3,wa1 m];rfl)
  have q2:O (.int (c.getD f.2 0)) d:=by
   have:=D d (a7.refl _);rwa[show (eF f).2=.int (f.2:Int) from rfl]at this
  exact{_,rfl,x,L.aE,dx,_,_,rfl,l _ _ hx,L.aB.cl,L.aB.dg,cI ah bw cl,_,rfl,bw,_,_,_,rfl,rfl,l.seq hb,I,q2}
 have e7:((b.map eF).filter λ_=>true).map (λq=>match q.2 with |.int e=>V.int (c.getD e.toNat 0) |_=>.non)=(b.map λq=>c.getD q.2 0).map V.int:=by
  rw[wba.mpr (λ_ _=>rfl),waf,waf];rfl
 rw[e7]at R;refine{lc,_,rfl,aL.of R,_,rfl,_,rfl,_,_,rfl,rfl,.inl {(),()},_,_,rfl,rfl,?_}
 by_cases n:bo c b<many*w
 .refine{true,congrArg V.bl (decide_eq_true n),eD {rfl,no ?_ d l}};unfold eU;rw[decide_eq_false (show ¬many*w<=bo c b by omega),we7,we7]
 .refine{false,congrArg V.bl (decide_eq_false n),bx ?_};rcases k with⟨_,r⟩ |⟨i,_⟩
  .exact r d l
  .unfold eU at i;rw[j,decide_eq_true (show 1<=w by omega),decide_eq_true (show many*w<=bo c b by omega)]at i;cases i
theorem wU(L:Lk K mg):aS P w K mg base cP 1 L.pK L.pY ["line","desk","twin"] (Kk K):=by
 refine L.qk.F.d7 (N:=["line","desk","twin","steps","word","end"]) (λgG A outer s H vs Q E nd u h=>?_);obtain⟨v,d,t,p,rfl,hL,LJ,k⟩:=h
 refine{_,(a5 (ai (i:=3) (cA eC))
  (a5 (forA (aQ (pv 0)) (dU rfl (aP (ax (i:=4)) (aP (ax (i:=5)) cQ))) (a5 (b8 (hF waN waU waY cL (pv 3) (aK (dX (a8 (pv 4) (aK (pv 5)))))))
  (a9 (b6 (cu rJ (pv 5) (pv 1)) (a9 (b8 (hF waN waU waY cL (pv 3) (aK (dX (a8 (pv 4) (aK (pv 2)))))))) aG))))
  (a9 (aw (pv 3))))),?_}
 ac_rfl
 obtain⟨a,S,rfl,hS,hT⟩:=dQ hL;have yk:S.length=p.length:=by rw[hT.1,wa0,wa0]
 refine{waz _,λb M=>?_};have sb:a7 H (upd H b (.lst [])):=a7.upd M;have x:(upd H b (.lst [])) b=some (.lst []):=a6;generalize upd H b (.lst [])=B at sb x;have keep:∀{g:Hp},(∀c o,B c=some o->c≠b->g c=some o)->a7 H g:=λC c o e=>C _ _ (sb _ _ e) (af e M)
 refine{_,rfl,a,rfl,{_,sb.seq hS},d9 (K:=K) (a:=a) (xs:=S.map V.ref) (λj σ g=>∃(v4 v5:Option V) (as:List V),σ=[some (.ref a),some (.int (d:Int)),some (.int (t:Int)),some (.ref b),v4,v5]/\g b=some (.lst as)/\(∀c o,B c=some o->c≠b->g c=some o)/\bA K (aM B g) ((eP d t (p.take j)).map kU) as)
  {none,none,[],rfl,x,λc o e _=>e,rfl} (λj σ g _ {_,_,_,_,_,C,_}=>(keep C).seq hS) ?_ ?_}
 .rintro j y σ g hy ⟨v4,v5,as,rfl,l,C,T⟩;have hj:j<S.length:=by have:=(wa6.mp hy).1;rwa[wa0]at this
  have U:j<p.length:=by lia
  rw[wa4,wa1 hj]at hy;cases hy;have X:H S[j]=some (.tup [.str p[j].1,.int (p[j].2:Int)]):=hT.2 j S[j] (jx (eF p[j])) (wa1 hj) (by rw[wa4,wa4,wa1 U];rfl);have qE:p.take (j+1)=p.take j++[p[j]]:=by rw[waO,wa1 U];rfl
  have RV:as.length<=2*j:=by
   rw[T.len,wa0];exact wak (qZ d t _) (wcb 2 (by rw[wag];lia))
  generalize p[j]=q at X qE;refine{S[j],_,rfl,gA.of (keep C _ _ X),rfl,_,_,rfl,_,_,rfl,rfl,?_};refine{_,rfl,.inl {rfl,_,aL.of l},_,rfl,_,rfl,by show 2<=sizeLine;decide,λr u=>?_};have I:∀n:Nat,n<=20000->n<sizeLine:=λn hn=>wbi hn (by rw[wc4];decide);have RW:=a7.upd (o:=.tup [.str q.1,.int (q.2:Int)]) u _ _ l;refine{b,_,_,rfl,rfl,RW,I _ (by lia),?_};have Y:∀c o,(upd g r (.tup [.str q.1,.int (q.2:Int)])) c=some o->c≠b->(upd (upd g r (.tup [.str q.1,.int (q.2:Int)])) b (.lst (as++[.ref r]))) c=some o:=λc o e hc=>by rw[ae hc];exact e
  have D:∀c o,B c=some o->c≠b->(upd (upd g r (.tup [.str q.1,.int (q.2:Int)])) b (.lst (as++[.ref r]))) c=some o:=λc o e hc=>Y _ _ (a7.upd u _ _ (C c o e hc)) hc
  have r0:B r=none:=by
   cases z:B r with
   |none=>rfl
   |some o=>
    by_cases hc:r=b
    .rw[hc,l]at u;cases u
    .rw[C _ _ z hc]at u;cases u
  have O:bA K (aM B (upd (upd g r (.tup [.str q.1,.int (q.2:Int)])) b (.lst (as++[.ref r])))) ((eP d t (p.take j)).map kU++[kU q]) (as++[.ref r]):=by
   refine i9 (bA.same ((ip (a7.upd u)).trans (bQ x Y)) _ _ T) ?_;have R:r≠b:=λz=>by rw[z,l]at u;cases u
   exact{r,_,rfl,bX r0 (by rw[ae R,a6]),.str q.1,[.int (q.2:Int)],rfl,⟨rfl,rfl⟩,.int (q.2:Int),[],rfl,⟨rfl,rfl⟩,rfl}
  have m:(upd (upd g r (.tup [.str q.1,.int (q.2:Int)])) b (.lst (as++[.ref r]))) b=some (.lst (as++[.ref r])):=a6;generalize upd (upd g r (.tup [.str q.1,.int (q.2:Int)])) b (.lst (as++[.ref r]))=H4 at D O m
  by_cases G:q.2=d
  .refine{_,rfl,_,rfl,rfl,true,congrArg V.bl (decide_eq_true (by rw[G])),eD ?_};refine{_,rfl,.inl {rfl,_,aL.of m},_,rfl,_,rfl,by show 2<=sizeLine;decide,λJ f=>?_};have LI:=a7.upd (o:=.tup [.str q.1,.int (t:Int)]) f _ _ m;refine{b,_,_,rfl,rfl,LI,I _ (by rw[wa5,wcn];lia),?_};have Z:∀c o,(upd H4 J (.tup [.str q.1,.int (t:Int)])) c=some o->c≠b->(upd (upd H4 J (.tup [.str q.1,.int (t:Int)])) b (.lst (as++[.ref r]++[.ref J]))) c=some o:=λc o e hc=>by rw[ae hc];exact e
   have YJ:B J=none:=by
    cases z:B J with
    |none=>rfl
    |some o=>
     by_cases hc:J=b
     .rw[hc,m]at f;cases f
     .rw[D _ _ z hc]at f;cases f
   refine{_,_,_,rfl,a6,λc o e hc=>Z _ _ (a7.upd f _ _ (D c o e hc)) hc,?_};rw[qE,vf,if_pos G,wai];have em:([q,(q.1,t)]:List (Str×Nat)).map kU=[kU q]++[kU (q.1,t)]:=rfl;rw[em,<-waM];refine i9 (bA.same ((ip (a7.upd f)).trans (bQ x Z)) _ _ O) ?_;have R:J≠b:=λz=>by rw[z,m]at f;cases f
   exact{J,_,rfl,bX YJ (by rw[ae R,a6]),.str q.1,[.int (t:Int)],rfl,⟨rfl,rfl⟩,.int (t:Int),[],rfl,⟨rfl,rfl⟩,rfl}
  .refine{_,rfl,_,rfl,rfl,false,congrArg V.bl (decide_eq_false λz=>G (by have:=V.int.inj z;lia)),bx ?_};refine{_,_,_,rfl,m,D,?_};rw[qE,vf,if_neg G,wai];exact O
 .rintro σ g ⟨v4,v5,as,rfl,l,C,T⟩;rw[wa0,yk,waG]at T;exact{_,rfl,k _ _ (keep C) {b,as,rfl,.inl (bX M l),bA.same (eM sb) _ _ T}}
theorem Im(L:Lk K mg):aS P w K mg base (Bh P w) 4 L.DH L.DJ ["sheet","many","desk","numbers","weight"] (Kl K L.aE L.fC):=by
 have T:=L.T;refine L.ua.F.Ex (N:=["sheet","many","desk","numbers","weight","line","chosen","others","rest","lines","weights","twin"]) (λgG A outer s H vs Q E nd hr h=>?_);obtain⟨x,a,many,B,w,ns,u,j,f,rfl,S,hA,KC,Wv,m0,m1,k⟩:=h
 refine{_,(a5 (b6 (cS (bT (au (lM L) L.iC (a8 (pv 2) (aK (az (pv 0) rfl)))))) (a9 (gp cX rfl L.jO L.iG rfl L.jN (aK eB))) aG)
  (a5 (ai (i:=5) (bc bD (az (pv 0) rfl) (pv 2) (λ_ _=>rfl)))
  (a5 (b6 (cS (bT (aU (zW rfl) (by rfl) T.all PH (aK (cG rfl (ay ["line"] [5]) (aQ (pv 3)) (λ_ _ _ _ _ _=>bj) (λ_ _ _ _ _ _=>(au (lM L) L.iC (a8 (pv 0) (aK (pv 1)))))))))) (a9 (gp cX rfl L.jO L.iG rfl L.jN (aK eB))) aG)
  (a5 (sj (i:=6) rfl (ay ["numbers"] [3]) nd rfl rfl (ay ["numbers"] [3]) ⋯ (kc (by rfl) T.enum (aK (pv 5))) (λ_ _ _ _ _ _=>gB (eZ (ic (K:=K) rfl) (pv 0) (pv 2) rfl)) (λ_ _ _ _ _ _=>(pv 1)))
  (a5 (sj (i:=7) rfl (ay ["numbers"] [3]) nd rfl rfl (ay ["numbers"] [3]) ⋯ (kc (by rfl) T.enum (aK (pv 5))) (λ_ _ _ _ _ _=>gB (eZ (wC (K:=K) rfl) (pv 0) (pv 2) rfl)) (λ_ _ _ _ _ _=>(pv 1)))
  (a5 (ai (i:=8) (aC gk (bc bD (az (pv 0) rfl) (pv 2) (λ_ _=>rfl)) (pv 4)))
  (a5 (b8 (jY (o7 L) (hr.mono ⋯) rfl L.dE.g L.dE.F.kp L.dE.b .nil (xM cX) (a8 (pv 0) (a8 (pv 1) (a8 (pv 6) (aK (pv 4)))))))
  (a5 (b8 (jY (o7 L) (hr.mono ⋯) rfl L.dE.g L.dE.F.kp L.dE.b .nil (xM cX) (a8 (pv 0) (a8 (pv 1) (a8 (pv 7) (aK (pv 8)))))))
  (a5 (ai (i:=9) (aC yV (az (pv 0) rfl) (cA (aK (pv 7)))))
  (a5 (ug (pv 6) (G4 (pv 9) (pv 2) set_list))
  (a5 (ai (i:=10) (aC yV (az (pv 0) rfl) (cA (aK (pv 8)))))
  (a5 (ug (pv 4) (G4 (pv 10) (pv 2) set_list))
  (a5 (ai (i:=11) (zD T.len (az (pv 0) rfl)))
  (a9 (aw (nh L.vU (fY L) (hr.mono ⋯) rfl L.zc L.eN.b .nil p5 (a8 (aC yV (az (pv 0) rfl) (cA (aK (bc bD (az (pv 0) rfl) (pv 2) (λ_ _=>rfl))))) (a8 (pv 10) (aK (cG rfl (ay ["desk","twin"] [2,11]) (aQ (pv 9)) (λ_ _ _ _ _ _=>bj) (λ_ _ _ _ _ _=>(au (wU L) L.qk (a8 (pv 0) (a8 (pv 1) (aK (pv 2)))))))))))))))))))))))))),?_}
 ac_rfl
 refine vA λR1 c1=>?_;obtain⟨dx,M,bw,cl,hx,rh,Jb,rl⟩:=id S;have hh:=u5 rh;have hw:=Ki Jb;obtain⟨Qs,t,ec,hc,wB⟩:=id rl;cases ec;have xl:t.length=f.length:=by rw[wB.len,wa0]
 have hn:=Wv.n;have A5:=Wv.w;have z4:=Wv.l
 have no:eh j f many B ns w=false->∀H',a7 H H'->E (.ref L.fC) none H':=λh=>by
  rcases k with⟨k1,_⟩ |⟨_,k2⟩
  .rw[h]at k1;cases k1
  .exact k2
 cases h1:eX B f.length with
 |false=>
  refine{_,rfl,_,rfl,x,L.aE,dx,_,_,rfl,hx,L.aB.cl,L.aB.cR,bS M bw cl,B,cl,t,rfl,.inl hc,false,congrArg V.bl (by rw[xl];exact h1),eD {rfl,no ?_ H (a7.refl _)}};unfold eh;rw[h1,wdv]
 |true=>
 obtain⟨d,rfl,hd⟩:∃d:Nat,B=(d:Int)/\d<f.length:=by
  unfold eX at h1;rw[wbX]at h1;have a1:=of_decide_eq_true h1.1;have a2:=of_decide_eq_true h1.2;exact{B.toNat,by lia,by lia}
 refine{_,rfl,_,rfl,x,L.aE,dx,_,_,rfl,hx,L.aB.cl,L.aB.cR,bS M bw cl,_,cl,t,rfl,.inl hc,true,congrArg V.bl (by rw[xl];exact h1),bx ?_};refine c1 _ _ (vA λR2 c2=>?_);rw[waA]at k;have VU:d<t.length:=by lia
 have Wi:t[d]?=some t[d]:=wa1 VU;obtain⟨dd,Oo,rd⟩:=wB.get d _ Wi;have Qt:f[d]?=some f[d]:=wa1 hd;rw[wa4,Qt]at Oo;cases Oo;have RD:f.getD d []=f[d]:=by rw[wa3,Qt];rfl
 have Oq:f[d]∈f:=waL hd;have U5:=Wv.m _ Oq;have U6:=Wv.e _ Oq
 have Wj:eh j f many (d:Int) ns w=(ns.all (λi=>eX i f[d].length)&&(eU j many (b0 ns f[d]) w&&eU j many (aW ns f[d]) (j.getD d 0-w))):=by
  unfold eh;rw[h1,wel,waA,RD]
 unfold dD at k;rw[RD]at k;rw[Wj]at k no;refine{_,rfl,x,L.aE,dx,_,_,rfl,hx,L.aB.cl,L.aB.cR,bS M bw cl,_,rfl,cl,t,_,t[d],rfl,rfl,.inl hc,bC Wi,?_};obtain⟨al,ys,el,O,LK⟩:=rd;rw[el];have yl:ys.length=f[d].length:=by rw[LK.len,wa0]
 generalize f[d]=p at Wj Oq U5 U6 LK yl k no;refine c2 _ _ (vA λR3 c3=>?_);refine{_,rfl,a,rfl,{_,hA},λl1 Nz=>?_};refine comp_map (λv=>match v with |.int i=>V.bl (eX i ys.length) |_=>.non) (aR K a (ns.map V.int)) Nz (by rw[wa0];exact ao (by lia)) (λH' s'=>s'.seq hA) (λz H2 Q' hz s2 R=>?_) (λH2 s2 h2=>?_)
 .obtain⟨i,_,rfl⟩:=wab.mp hz;exact{_,rfl,_,rfl,i,al,ys,rfl,s2.seq (.inl O),R H2 (a7.refl _)}
 have e2:(ns.map V.int).map (λv=>match v with |.int i=>V.bl (eX i ys.length) |_=>.non)=(ns.map λi=>eX i p.length).map V.bl:=by
  rw[waf,waf,yl];rfl
 rw[e2]at h2
 have Fj:((ns.map λi=>eX i p.length).all id)=ns.all (λi=>eX i p.length):=by
  rw[wfC];rfl
 cases h3:ns.all (λi=>eX i p.length) with
 |false=>
  refine{l1,_,rfl,aL.of h2,false,congrArg V.bl (Fj.trans h3),eD {rfl,no ?_ H2 s2}};rw[h3,wdv]
 |true=>
 refine{l1,_,rfl,aL.of h2,true,congrArg V.bl (Fj.trans h3),bx ?_};refine c3 _ _ (vA λR4 c4=>?_);rw[h3,wel]at k no;refine{_,rfl,al,ys,rfl,s2.seq (.inl O),λlc KD=>?_};refine xW (λi=>oR (.int (i:Nat)) (ns.map V.int)) (s2.seq (.inl O)) KD (ao (by lia)) (λi y H3 Q' _ s3 R=>?_) (λi y H3 Q' _ s3 R=>{_,rfl,R H3 (a7.refl _)}) (λH3 s3 Wk=>?_)
 .exact{_,rfl,_,rfl,a,_,rfl,.inl ((s2.trans s3).seq hA),rfl,cy ns,_,rfl,R H3 (a7.refl _)}
 have YK:(λi:Nat=>oR (.int (i:Nat)) (ns.map V.int))=λi:Nat=>decide ((i:Int)∈ns):=funext λi=>ve _ ns;rw[YK]at Wk;have zi:=s2.trans s3;refine c4 _ _ (vA λR5 c5=>?_);refine{_,rfl,al,ys,rfl,zi.seq (.inl O),λlo MO=>?_};refine xW (λi=>!oR (.int (i:Nat)) (ns.map V.int)) (zi.seq (.inl O)) MO (ao (by lia)) (λi y H4 Q' _ s4 R=>?_) (λi y H4 Q' _ s4 R=>{_,rfl,R H4 (a7.refl _)}) (λH4 s4 Wl=>?_)
 .exact{_,rfl,_,rfl,a,_,rfl,.inl ((zi.trans s4).seq hA),rfl,cy ns,_,rfl,R H4 (a7.refl _)}
 have U7:(λi:Nat=>!oR (.int (i:Nat)) (ns.map V.int))=λi:Nat=>!decide ((i:Int)∈ns):=funext λi=>congrArg (!·) (ve _ ns);rw[U7]at Wl;have C:=zi.trans s4;refine c5 _ _ (vA λR6 c6=>?_);have YL:=s4 _ _ Wk;have rC:bM K H4 (bY (b0 ns p)) (.ref lc):={lc,_,rfl,.inl YL,Aq _ (bA.same C _ _ LK)};have rO:bM K H4 (bY (aW ns p)) (.ref lo):={lo,_,rfl,.inl Wl,Aq _ (bA.same C _ _ LK)};have Wm:(b0 ns p).length<=5000:=wak (nq _ _ _) U5;have YM:(aW ns p).length<=5000:=wak (nq _ _ _) U5;have ce:∀q∈b0 ns p,q.2<j.length:=λq hq=>by rw[A5];exact U6 q (dP hq)
 have oe:∀q∈aW ns p,q.2<j.length:=λq hq=>by rw[A5];exact U6 q (dP hq)
 have Wn:d<j.length:=by lia
 have U8:uq (j.map V.int) (d:Int)=some (.int (j.getD d 0)):=bC (by rw[wa4,wa1 Wn,wa3,wa1 Wn];rfl);refine{_,rfl,x,L.aE,dx,_,_,rfl,C _ _ hx,L.aB.cl,L.aB.dg,cI M bw cl,_,rfl,bw,_,_,_,rfl,rfl,C.seq (.inl hw),U8,_,rfl,_,_,rfl,rfl,?_};show bN 8 (V.int (j.getD d 0-w)) _ _ _;refine c6 _ _ (vA λR7 c7=>?_);have S4:=S.same C;refine{_,rfl,_,rfl,_,rfl,_,rfl,x,many,.ref lc,w,u,j,f,b0 ns p,rfl,S4,rC,by lia,ce,m0,m1,?_}
 cases h5:eU j many (b0 ns p) w with
 |false=>exact .inr {rfl,λH5 s5=>no (by rw[h5,wdv]) H5 (C.trans s5)}
 |true=>
 refine .inl {rfl,λH5 s5=>?_};refine c7 _ _ (vA λR8 c8=>?_);rw[h5,wel]at k no;refine{_,rfl,_,rfl,_,rfl,_,rfl,x,many,.ref lo,j.getD d 0-w,u,j,f,aW ns p,rfl,S4.same s5,bM.same s5 _ _ rO,by lia,oe,m0,m1,?_}
 cases h6:eU j many (aW ns p) (j.getD d 0-w) with
 |false=>exact .inr {rfl,λH6 s6=>no h6 H6 ((C.trans s5).trans s6)}
 |true=>
 refine .inl {rfl,λH6 s6=>?_};refine c8 _ _ ?_;obtain⟨_,kk⟩:True/\_:=⟨trivial,k⟩;rcases kk with⟨_,k⟩ |⟨k1,_⟩
 rotate_left
 .rw[h6]at k1;cases k1
 have U9:=s5.trans s6;have Qu:=C.trans U9;have YN:=bM.same U9 _ _ rC;have YQ:=bM.same U9 _ _ rO;have big:∀n:Nat,n<=20000->n<=sizeLine:=λn hn=>wak hn (by rw[wc4];decide);refine{_,rfl,x,L.aE,dx,_,_,rfl,Qu _ _ hx,L.aB.cl,L.aB.cR,bS M bw cl,_,rfl,by show 1<=sizeLine;decide,λl7 Wo=>?_};refine{cl,l7,t,[.ref lo],rfl,rfl,ph (Qu.trans (a7.upd Wo)) hc,.inl a6,big _ (by show t.length+1<=_;lia),λU I=>?_};have Wq:a7 H6 (upd H6 l7 (.lst [V.ref lo])):=a7.upd Wo;generalize upd H6 l7 (.lst [V.ref lo])=X at Wq I;have s6b:a7 X (upd X U (.lst (t++[V.ref lo]))):=a7.upd I
 have Wg:E8 (t++[V.ref lo]).length (d:Int)=some d:=by
  have Y:(t++[V.ref lo]).length=t.length+1:=by rw[wa5];rfl
  unfold E8;rw[Y,if_pos (by lia),if_pos (by lia),waA]
 refine{_,rfl,_,rfl,_,rfl,U,_,_,d,rfl,rfl,a6,Wg,?_};have RA:(upd (upd X U (.lst (t++[V.ref lo]))) U (.lst ((t++[V.ref lo]).set d (V.ref lc)))) U=some (.lst ((t++[V.ref lo]).set d (V.ref lc))):=a6
 have RX:a7 H6 (upd (upd X U (.lst (t++[V.ref lo]))) U (.lst ((t++[V.ref lo]).set d (V.ref lc)))):=λc o e=>by
  have J:=Wq _ _ e;rw[ae (af J I),ae (af J I)];exact J
 generalize upd (upd X U (.lst (t++[V.ref lo]))) U (.lst ((t++[V.ref lo]).set d (V.ref lc)))=H8 at RA RX;have Ot:=Qu.trans RX
 have YR:bA K H8 (((f++[aW ns p]).set d (b0 ns p)).map bY) ((t++[V.ref lo]).set d (V.ref lc)):=by
  have r1:bA K H8 (f.map bY++[bY (aW ns p)]) (t++[V.ref lo]):=i9 (bA.same Ot _ _ wB) (bM.same RX _ _ YQ)
  have e:((f++[aW ns p]).set d (b0 ns p)).map bY=(f.map bY++[bY (aW ns p)]).set d (bY (b0 ns p)):=by
   rw[List.map_set,wai];rfl
  rw[e];exact r1.set d (bM.same RX _ _ YN)
 refine{_,rfl,x,L.aE,dx,_,_,rfl,Ot _ _ hx,L.aB.cl,L.aB.dg,cI M bw cl,_,rfl,by show 1<=sizeLine;decide,λl9 Ws=>?_};refine{bw,l9,_,[.int (j.getD d 0-w)],rfl,rfl,ph (Ot.trans (a7.upd Ws)) hw,.inl a6,big _ (by rw[wa0];show j.length+1<=_;lia),λlw NA=>?_};have Wt:a7 H8 (upd H8 l9 (.lst [.int (j.getD d 0-w)])):=a7.upd Ws;generalize upd H8 l9 (.lst [.int (j.getD d 0-w)])=Ua at Wt NA;have Ub:j.map V.int++[V.int (j.getD d 0-w)]=(j++[j.getD d 0-w]).map V.int:=by rw[wai];rfl
 rw[Ub]
 have Uc:E8 ((j++[j.getD d 0-w]).map V.int).length (d:Int)=some d:=by
  have Y:((j++[j.getD d 0-w]).map V.int).length=j.length+1:=by rw[wa0,wa5];rfl
  unfold E8;rw[Y,if_pos (by lia),if_pos (by lia),waA]
 refine{_,rfl,_,rfl,_,rfl,lw,_,_,d,rfl,rfl,a6,Uc,?_}
 have Ud:((j++[j.getD d 0-w]).map V.int).set d (.int w)=(cB j d w).map V.int:=by
  unfold cB;rw[List.map_set]
 rw[Ud];have Wu:(upd (upd Ua lw (.lst ((j++[j.getD d 0-w]).map V.int))) lw (.lst ((cB j d w).map V.int))) lw=some (.lst ((cB j d w).map V.int)):=a6
 have Ue:a7 H8 (upd (upd Ua lw (.lst ((j++[j.getD d 0-w]).map V.int))) lw (.lst ((cB j d w).map V.int))):=λc o e=>by
  have J:=Wt _ _ e;rw[ae (af J NA),ae (af J NA)];exact J
 generalize upd (upd Ua lw (.lst ((j++[j.getD d 0-w]).map V.int))) lw (.lst ((cB j d w).map V.int))=H9 at Wu Ue;have D:=Ot.trans Ue;refine{_,rfl,x,L.aE,dx,_,_,rfl,D _ _ hx,L.aB.cl,L.aB.cR,bS M bw cl,cl,t,rfl,.inl (D.seq (.inl hc)),?_};rw[xl];have Ww:d<u.length:=by lia
 have Ug:uq (u.map V.str) (d:Int)=some (.str (u.getD d "")):=bC (by rw[wa4,wa1 Ww,wa3,wa1 Ww];rfl);refine{_,rfl,x,L.aE,dx,_,_,rfl,D _ _ hx,L.aB.cl,L.aB.fM,fq M bw cl,_,rfl,x,L.aE,dx,_,_,rfl,D _ _ hx,L.aB.cl,L.aB.fM,fq M bw cl,_,rfl,M,_,_,_,rfl,rfl,D.seq (.inl hh),Ug,by show 1<=sizeLine;decide,λl10 Qv=>?_};refine{M,l10,_,[.str (u.getD d "")],rfl,rfl,ph (D.trans (a7.upd Qv)) hh,.inl a6,big _ (by rw[wa0];show u.length+1<=_;lia),λlh Ou=>?_};have Wx:a7 H9 (upd H9 l10 (.lst [.str (u.getD d "")])):=a7.upd Qv;generalize upd H9 l10 (.lst [.str (u.getD d "")])=Wy at Wx Ou;have Qw:u.map V.str++[V.str (u.getD d "")]=(cT u d).map V.str:=by unfold cT;rw[wai];rfl
 rw[Qw];have RY:=Wx.trans (a7.upd (o:=.lst ((cT u d).map V.str)) Ou);have Qx:(upd Wy lh (.lst ((cT u d).map V.str))) lh=some (.lst ((cT u d).map V.str)):=a6;generalize upd Wy lh (.lst ((cT u d).map V.str))=Ov at RY Qx;have LL:=Ue.trans RY;have Z:=LL _ _ RA;have Uh:=bA.same LL _ _ YR;have zl:((t++[V.ref lo]).set d (V.ref lc)).length=f.length+1:=by rw[wc8,wa5,xl];rfl
 refine{_,rfl,_,rfl,U,rfl,{_,aL.of Z},λlt Nh=>?_}
 have Qy:∀l∈(f++[aW ns p]).set d (b0 ns p),l.length<=5000:=λl hl=>by
  rcases wcs hl with z |z
  .rcases waD.mp z with z |z
   .exact Wv.m l z
   .rw[wap.mp z];exact YM
  .rw[z];exact Wm
 refine vc (K:=K) ((((f++[aW ns p]).set d (b0 ns p)).map (eP d f.length)).map bY) (aR K U ((t++[V.ref lo]).set d (V.ref lc))) Nh (big _ (by rw[zl];lia)) (by rw[wa0,wa0,wc8,wa5,zl];rfl) (λH' s'=>aL.of (s' _ _ Z)) (λi y dt FU Q' hy Jc G R=>?_) (λFU G YS=>?_)
 .obtain⟨d',J,r⟩:=Uh.get i y hy;rw[wa4]at J Jc;rw[wa4]at Jc
  cases e:((f++[aW ns p]).set d (b0 ns p))[i]? with
  |none=>rw[e]at J;cases J
  |some l=>
   rw[e]at J Jc;cases J;cases Jc;exact{_,rfl,_,rfl,_,rfl,y,d,f.length,l,rfl,bM.same G _ _ r,Qy l (wa8 e),λz Io KG YT=>R z Io KG YT}
 intro y dy ny Ui YV;have sm:a7 FU (upd (upd FU dy (.own y)) y (.ins L.aE dy [])):=fo ny Ui;have Ip:=D.trans RY;refine{y,dy,.ref lh,.ref lw,.ref lt,cT u d,cB j d w,((f++[aW ns p]).set d (b0 ns p)).map (eP d f.length),rfl,a6,pj (sm _ _ (G _ _ Qx)),jz (sm _ _ (G _ _ (RY _ _ Wu))),bM.same ((cf _ _).trans sm) _ _ YS,?_,?_,?_,?_,λa' b' c' Io Uj q1 q2 q3 Uk=>{rfl,?_}}
 .unfold cT;rw[wa5];show u.length+1<=_;lia
 .unfold cB;rw[wc8,wa5];show j.length+1<=_;lia
 .rw[wa0,wc8,wa5];show f.length+1<=_;lia
 .intro l hl;obtain⟨l',Qz,rfl⟩:=wab.mp hl;have:=qZ d f.length l';have:=Qy l' Qz
  lia
 .have KG:a7 FU Io:=λc o e=>Uk _ _ (sm _ _ e) (af e ny);refine k y Io (Ip.trans (G.trans KG)) ?_;have Ul:H y=none:=none_of (Ip.trans G) ny;have nw:=λ(dd:ku) (v:V) (r:bM K (aM _ Io) dd v)=>bM.same (eM ((Ip.trans G).trans sm)) dd v r;exact{dy,a',b',c',bX Ul Uj,nw _ _ q1,nw _ _ q2,nw _ _ q3}
theorem o8(L:Lk K mg):aS P w K mg base cP 1 L.pM L.q0 ["line","desks"] (Nn K):=by
 refine L.kJ.F.d7 (N:=["line","desks"]) (λy A outer s H R Q E nd g h=>?_);obtain⟨v,b,f,j,rfl,B,C,hn,k⟩:=h;refine{_,(a9 (aw (fK rfl (ay ["desks"] [1]) (ay ["desks"] [1]) ⋯ (aQ (pv 0)) (λ_ _ _ _ _ _=>gB (eZ (ic (K:=K) rfl) (pv 1) (pv 2) rfl)) (λ_ _ _ _ _ _=>(dX (a8 (pv 0) (aK (pv 1)))))))),?_}
 ac_rfl
 obtain⟨a,D,rfl,p,c,G⟩:=kA B;have m:=c;rw[wa0]at m;refine{_,rfl,a,rfl,{_,p},λl hl=>?_}
 refine jy (prs:=j.map eF) (λq=>oR q.2 ((nI f).map V.int)) (λq=>.tup [.at q.1,.at q.2]) (aR K a D) c (λi q d=>let ⟨r,I,J⟩:=G i q d;{r,I,gA.of J}) hl (ao (by lia)) (λt n=>n.seq p) (λq u M d x o=>by
  obtain⟨z,O,rfl⟩:=wab.mp d
  exact{_,rfl,_,rfl,b,_,rfl,.inl (x.seq C),rfl,cy _,_,rfl,o u (a7.refl _)}) (λq u M d _ x o=>?_) (λt n r=>?_)
 .obtain⟨z,O,rfl⟩:=wab.mp d;exact{_,rfl,_,rfl,by show 2<=sizeLine;decide,λr g=>o _ _ (a7.upd g) (mi g z)}
 .have e:((j.map eF).filter λq=>oR q.2 ((nI f).map V.int))=(cU f j).map eF:=by
   unfold cU;rw[weK];refine congrArg _ (wfl λq _=>?_);exact vo q.2 f
  rw[e,waf]at r;exact k _ t n r
theorem o9(L:Lk K mg):aS P w K mg base cP 2 L.kG L.q8 ["sheet","many"] (Np K L.aE):=by
 have T:=L.T;refine L.kK.F.d7 (N:=["sheet","many","kept","left"]) (λG A outer s H vs Q E nd hr h=>?_);obtain⟨x,many,hs,ws,b,rfl,S,hn,hm,k⟩:=h;have I:(A.deeper (wcc "kept_desks" (aH (top 72)) s.heap.objs.size L.kG G)).units<wcp:=hr.oj
 refine{_,(a5 (ai (i:=2) (bp (uK rfl) (by rfl) T.list fJ (aK (bp rV (by rfl) T.range yS (aK (zD T.len (az (pv 0) rfl)))))))
  (a9 (jo wdl (bT dZ) (a5 (du (i:=3) rfl (ay ["sheet","kept","many"] [0,2,1]) nd rfl rfl (aQ (pv 2)) (λ_ _ _ _ _ _=>gB (cu D5 (aU (wD (K:=K) rfl) (by rfl) T.len we8 (aK (au (o8 L) L.kJ (a8 (bc (gH (K:=K) rfl) (nj (K:=K) rfl (pv 1) rfl) (pv 0) (λ_ _=>rfl)) (aK (pv 2)))))) (pv 3))) (λ_ _ _ _ _ _=>(pv 0)))
  (a5 (b6 (cu (yK I) (pv 3) (pv 2)) (a9 (aw (pv 2))) aG)
  (a9 (ai (i:=2) (pv 3)))))))),?_}
 ac_rfl
 obtain⟨dx,ah,bw,cl,hx,rh,Jb,rl⟩:=id S;obtain⟨Qs,J,ec,hc,m⟩:=id rl;cases ec;have xl:J.length=b.length:=by rw[m.len,wa0]
 refine{_,rfl,x,L.aE,dx,_,_,rfl,hx,L.aB.cl,L.aB.cR,bS ah bw cl,cl,J,rfl,.inl (.inl hc),?_};rw[xl];refine{_,rfl,λp hp=>?_};refine{p,b.length,rfl,a6,ao (by lia),λl hl=>?_};have s1:a7 H (upd H p (.rng 0 (b.length:Int))):=a7.upd hp;have fl:H l=none:=none_of s1 hl;have s2:=s1.trans (a7.upd (o:=.lst ((wao b.length).map λi=>V.int (i:Nat))) hl);have h2:(upd (upd H p (.rng 0 (b.length:Int))) l (.lst ((wao b.length).map λi=>V.int (i:Nat)))) l=some (.lst ((nI (wao b.length)).map V.int)):=by rw[a6,vv]
 generalize upd (upd H p (.rng 0 (b.length:Int))) l (.lst ((wao b.length).map λi=>V.int (i:Nat)))=H2 at s2 h2;refine{λq σ M=>∃(l:Addr) (c:List Nat) (v3:Option V),q=c.length/\σ=[some (.ref x),some (.int many),some (.ref l),v3]/\a7 H M/\H l=none/\M l=some (.lst ((nI c).map V.int))/\Above b many c,{_,l,_,none,rfl,rfl,s2,fl,h2,Above.start b many},?_};rintro q σ M ⟨l,c,v3,rfl,rfl,O,fl,r,t⟩;refine{true,rfl,eD ?_};refine{λu C=>∃(g:Addr),u=[some (.ref x),some (.int many),some (.ref g),some (.ref g)]/\a7 H C/\H g=none/\C g=some (.lst ((nI (vk b many c)).map V.int))/\vk b many c≠c,?_,?_}
 .rintro u C ⟨g,rfl,R,U,h',X⟩;exact{_,HJ X,g,_,_,rfl,rfl,R,U,h',t.next}
 have Y:∀d∈c,d<b.length:=λd hd=>wb0.mp (t.sub.subset hd);have Wa:c.length<=1000:=by have:=t.sub.length_le;rw[waC]at this;lia
 refine{_,rfl,l,rfl,{_,aL.of r},λg z=>?_};refine dN (λv=>match v with |.int d=>decide (many<=((cU c (b.getD d.toNat [])).length:Int)) |_=>false) (λv=>v) (aR K l _) z (ao (by rw[wa0,bL];lia)) (λC R=>aL.of (R _ _ r)) (λy D Q' hy j Z=>?_) (λy D Q' hy _ j Z=>{_,rfl,Z D (a7.refl _)}) (λD j h4=>?_)
 .obtain⟨n,Bg,rfl⟩:=rg hy;have KC:=Y n Bg;have hq:b[n]?=some (b.getD n []):=by rw[wa3,wa1 KC];rfl
  obtain⟨v,NF,rd⟩:=m.at (i:=n) (d:=bY (b.getD n [])) (by rw[wa4,hq];rfl);have e:=O.trans j;refine{_,rfl,x,L.aE,dx,_,_,rfl,e _ _ hx,L.aB.cl,L.aB.cR,bS ah bw cl,_,rfl,cl,J,_,_,rfl,rfl,e.seq (.inl hc),bC NF,_,rfl,v,l,c,b.getD n [],rfl,bM.same e _ _ rd,aL.of (j _ _ r),hm _ (wa8 hq),λy H5 s5 r5=>?_};obtain⟨a,rs,rfl,hS,hT⟩:=dQ r5;have yk:rs.length=(cU c (b.getD n [])).length:=by rw[hT.1,wa0,wa0]
  refine{a,_,rfl,.inl ((cf _ _).seq hS),?_};rw[wa0,yk];exact{_,rfl,_,_,rfl,rfl,_,rfl,Z H5 s5}
 rw[we3,y6 (f:=λn=>decide (many<=((cU c (b.getD n [])).length:Int))) (λn=>rfl)]at h4;have e:=O.trans j;refine{_,rfl,_,rfl,g,l,_,_,rfl,rfl,aL.of h4,aL.of (j _ _ r),cy _,cy _,_,rfl,?_};refine uz (λB=>?_) (λB=>?_)
 .rw[jB,decide_eq_true_eq]at B;exact{_,rfl,k l c D e fl (j _ _ r) {t,t.stays B}}
 .rw[jB,decide_eq_true_eq]at B;exact{_,rfl,g,rfl,e,none_of O z,h4,B}
inductive Um(lns:List (List (Str×Nat)))(rs ys:List Nat)(x rd wl a:Addr)(d z:Nat)(H:Hp)(i:Nat)(σ:St)(H5:Hp):Prop
 |mk (ad v5 v6) (_:σ=[some (.ref x),some (.int (d:Int)),some (.ref rd),some (.ref wl),some (.ref a),v5,v6]) (_:a7 H H5) (_:H5 rd=some (.dK (dB (rs++ad)))) (_:H5 wl=some (.lst ((nI (ys++ad)).map V.int))) (_:(rs++ad).Nodup) (_:∀r∈rs++ad,r<lns.length) (_:∀q∈(lns.getD z []).take i,q.2∈rs++ad)
theorem Um.s{wl:Addr}(q:Um lns rs ys x rd wl a d z H i σ g):a7 H g:=by
 obtain⟨_,_,_,_,h,_⟩:=q;exact h
theorem tL(L:Lk K mg):aS P w K mg base cP 1 L.mz L.mN ["sheet","desk"] (F4 K L.aE):=by
 have T:=L.T;refine L.mX.F.d7 (N:=["sheet","desk","reached","waiting","line","word","end"]) (λgG A outer s H vs Q E nd n h=>?_);obtain⟨x,d,hs,ws,c,rfl,S,hd,he,BA,hn,k⟩:=h;have hu:=eW n
 refine{_,(a5 (ai (i:=2) da)
  (a5 (ai (i:=3) (cA (aK (pv 1))))
  (a5 (jo wdl (cu lV (zD T.len (pv 3)) aq) (a5 (ai (i:=4) (bc bD (az (pv 0) rfl) (Gi waN whb PySem.F.type_list_pop Mx (pv 3)) (λ_ _=>rfl)))
  (a9 (forA (aQ (pv 4)) (dU rfl (aP (ax (i:=5)) (aP (ax (i:=6)) cQ))) (a9 (b6 (yt (xu hu (pv 6) (pv 2))) (a5 (ee hu (pv 2) (pv 6) dZ rfl)
  (a9 (b8 (hF waN waU waY cL (pv 3) (aK (pv 6)))))) aG))))))
  (a9 (aw (bp (k9 rfl) (by rfl) T.list fJ (aK (pv 2)))))))),?_}
 ac_rfl
 obtain⟨dx,ah,bw,cl,hx,rh,Jb,rl⟩:=id S;obtain⟨Qs,xs,ec,hc,wB⟩:=id rl;cases ec;have xl:xs.length=c.length:=by rw[wB.len,wa0]
 refine λrd Uo=>?_;refine{_,rfl,by show 1<=sizeLine;decide,λwl A5=>?_};have J:rd≠wl:=af a6 A5;have s0:a7 H (upd (upd H rd (.dK [])) wl (.lst [.int (d:Int)])):=(a7.upd Uo).trans (a7.upd A5);have Wz:(upd (upd H rd (.dK [])) wl (.lst [.int (d:Int)])) rd=some (.dK (dB [])):=by rw[ae J,a6];rfl
 have WB:(upd (upd H rd (.dK [])) wl (.lst [.int (d:Int)])) wl=some (.lst ((nI [d]).map V.int)):=a6;have WC:H wl=none:=none_of (a7.upd Uo) A5;generalize upd (upd H rd (.dK [])) wl (.lst [.int (d:Int)])=H0 at s0 Wz WB
 refine{λq σ Y=>∃(f Z:List Nat) (v4 M v6:Option V),q=2*(c.length-f.length)+Z.length/\σ=[some (.ref x),some (.int (d:Int)),some (.ref rd),some (.ref wl),v4,M,v6]/\a7 H Y/\Y rd=some (.dK (dB f))/\Y wl=some (.lst ((nI Z).map V.int))/\f.Nodup/\(∀r∈f,r<c.length)/\(∀w∈Z,w<c.length)/\(∀r∈f,r∉Z->∀q∈c.getD r [],q.2∈f)/\(d∉Z->∀q∈c.getD d [],q.2∈f)/\Z.length<=f.length+1,
  {_,[],[d],none,none,none,rfl,rfl,s0,Wz,WB,wdt,λr h=>absurd h wc0,λw h=>by rw[wap.mp h];exact hd,λr h=>absurd h wc0,λh=>absurd (wap.mpr rfl) h,waa _},?_}
 rintro q σ Y ⟨f,Z,v4,M,v6,rfl,rfl,s3,RW,O,nd,RZ,Up,QA,RQ,R⟩;have yk:=mj nd RZ
 by_cases WD:Z=[]
 .subst WD;refine{_,rfl,wl,_,rfl,.inl (aL.of O),_,_,rfl,rfl,false,rfl,bx ?_};refine{_,rfl,rd,_,rfl,RW,λl hl=>?_};rw[Dy];refine k l f _ (s3.trans (a7.upd hl)) (none_of s3 hl) a6 {λr n=>QA r n wc0,RZ,λz=>?_,nd}
  cases e:c.getD d [] with
  |nil=>exact BA e
  |cons q qs=>
   have:=RQ wc0 q (by rw[e];exact wae ..);rw[z]at this;cases this
 obtain⟨z,t,rfl,hz,Ij⟩:=Kp WD;refine{_,rfl,wl,_,rfl,.inl (aL.of O),_,_,rfl,rfl,true,congrArg V.bl (decide_eq_true (by rw[wa0,bL,wa5];show (0:Int)<((_+1:Nat):Int);lia)),eD ?_};have YW:z<c.length:=Up z (waJ _ (wap.mpr rfl));have WG:c[z]?=some (c.getD z []):=by rw[wa3,wa1 YW];rfl
 have Uq:∀q∈c.getD z [],q.2<c.length:=he _ (wa8 WG);obtain⟨v,NF,YX⟩:=wB.at (i:=z) (d:=bY (c.getD z [])) (by rw[wa4,WG];rfl);obtain⟨a,rr,rfl,hS,hT⟩:=dQ YX;have WH:rr.length=(c.getD z []).length:=by rw[hT.1,wa0,wa0]
 refine{λσ' H'=>∃(ad:List Nat) (M v6:Option V),σ'=[some (.ref x),some (.int (d:Int)),some (.ref rd),some (.ref wl),some (.ref a),M,v6]/\a7 H H'/\H' rd=some (.dK (dB (f++ad)))/\H' wl=some (.lst ((nI (t++ad)).map V.int))/\(f++ad).Nodup/\(∀r∈f++ad,r<c.length)/\(∀q∈c.getD z [],q.2∈f++ad),?_,?_}
 .rintro σ' H' ⟨ad,M,v6,rfl,s',Ur,YY,WK,HA,j⟩;have Qz:=mj WK HA;rw[wa5]at Qz;refine{_,?_,f++ad,t++ad,_,M,v6,rfl,rfl,s',Ur,YY,WK,HA,λw hw=>?_,λr n U q I=>?_,λU q I=>?_,?_}
  .rw[wa5,wa5,wa5];show _<2*(c.length-f.length)+(t.length+1)
   lia
  .rcases waD.mp hw with hw |hw
   .exact Up w (waV _ hw)
   .exact HA w (waJ _ hw)
  .rcases waD.mp n with n |n
   .by_cases B:r=z
    .rw[B]at I;exact j q I
    .refine waV _ (QA r n (λm=>?_) q I);rcases waD.mp m with m |m
     .exact U (waV _ m)
     .exact B (wap.mp m)
   .exact absurd (waJ _ n) U
  .by_cases B:d=z
   .rw[B]at I;exact j q I
   .refine waV _ (RQ (λm=>?_) q I);rcases waD.mp m with m |m
    .exact U (waV _ m)
    .exact B (wap.mp m)
  .rw[wa5]at R;rw[wa5,wa5];have:t.length+1<=f.length+1:=R
   lia
 refine{_,rfl,x,L.aE,dx,_,_,rfl,s3 _ _ hx,L.aB.cl,L.aB.cR,bS ah bw cl,_,rfl,.inl {rfl,_,aL.of O},wl,_,_,rfl,rfl,O,hz,?_};rw[Ij];have s4:a7 H (upd Y wl (.lst ((nI t).map V.int))):=λb o e=>by rw[ae (af e WC)];exact s3 _ _ e
 have LI:(upd Y wl (.lst ((nI t).map V.int))) rd=some (.dK (dB f)):=by rw[ae J];exact RW
 have QB:(upd Y wl (.lst ((nI t).map V.int))) wl=some (.lst ((nI t).map V.int)):=a6;generalize upd Y wl (.lst ((nI t).map V.int))=H4 at s4 LI QB;refine{cl,xs,_,_,rfl,rfl,s4.seq (.inl hc),bC NF,?_};refine{_,rfl,a,rfl,{_,s4.seq hS},d9 (K:=K) (a:=a) (xs:=rr.map V.ref) (Um c f t x rd wl a d z H) {[],_,_,rfl,s4,by rw[waS];exact LI,by rw[waS];exact QB,by rw[waS];exact nd,by rw[waS];exact RZ,λq I=>by rw[wdu]at I;cases I} (λi σ H5 _ q=>q.s.seq hS) ?_ ?_}
 .rintro i y σ H5 hy ⟨ad,M,v6,rfl,s5,C,X,D,G,j⟩;have hi:i<rr.length:=by have:=(wa6.mp hy).1;rwa[wa0]at this
  have Us:i<(c.getD z []).length:=by lia
  rw[wa4,wa1 hi]at hy;cases hy;have QC:H rr[i]=some (.tup [.str (c.getD z [])[i].1,.int ((c.getD z [])[i].2:Int)]):=hT.2 i rr[i] (jx (eF (c.getD z [])[i])) (wa1 hi) (by rw[wa4,wa4,wa1 Us];rfl);have QD:(c.getD z []).take (i+1)=(c.getD z []).take i++[(c.getD z [])[i]]:=by rw[waO,wa1 Us];rfl
  have LJ:=Uq _ (waL Us);generalize (c.getD z [])[i]=q at QC QD LJ;have YZ:=mj D G;refine{rr[i],_,rfl,gA.of (s5 _ _ QC),rfl,_,_,rfl,_,_,rfl,rfl,?_};have g:=eA.k (k:=(wb8 (q.2:Int):Key)) C;rw[z6]at g
  by_cases m:q.2∈f++ad
  .rw[if_pos m]at g;refine{_,rfl,_,rfl,rd,_,rfl,g,false,rfl,bx ?_};refine{ad,_,_,rfl,s5,C,X,D,G,λp u=>?_};rw[QD]at u;rcases waD.mp u with u |u
   .exact j p u
   .rw[wap.mp u];exact m
  .rw[if_neg m]at g;refine{_,rfl,_,rfl,rd,_,rfl,g,true,rfl,eD ?_};refine{_,rfl,_,rfl,rd,_,rfl,jZ.k (k:=wb8 (q.2:Int)) C (bE (by unfold dB;rw[wa0];lia)),?_};rw[HM m];have WL:(upd H5 rd (.dK (dB (f++ad++[q.2])))) wl=some (.lst ((nI (t++ad)).map V.int)):=by rw[ae J.symm];exact X
   refine{_,rfl,.inl {rfl,_,aL.of WL},_,rfl,wl,_,_,rfl,rfl,WL,?_,?_}
   .rw[wa5]at R YZ;rw[wa0,bL,wa5];have:t.length+1<=f.length+1:=R;exact bE (by lia)
   refine{ad++[q.2],_,_,rfl,λb o e=>by rw[ae (af e WC),ae (af e Uo)];exact s5 _ _ e,by rw[ae J,a6,waM],by rw[a6,<-waM,jA (t++ad),wai];rfl,?_,λr n=>?_,λp u=>?_}
   .rw[<-waM];refine wfh.mpr {D,by simp,λa ha b hb e=>?_};rw[wap.mp hb]at e;rw[e]at ha;exact m ha
   .rw[<-waM]at n;rcases waD.mp n with n |n
    .exact G r n
    .rw[wap.mp n];exact LJ
   .rw[<-waM];rw[QD]at u;rcases waD.mp u with u |u
    .exact waV _ (j p u)
    .rw[wap.mp u];exact waJ _ (wap.mpr rfl)
 .rintro σ H5 ⟨ad,M,v6,rfl,s5,C,X,D,G,j⟩;rw[wa0,WH,waG]at j;exact⟨ad,M,v6,rfl,s5,C,X,D,G,j⟩
end
end K52
namespace L2
open PySem PySem.Spec PyProof.Rows PySem.W
open Builtin Builtin.ObjectAttr
section
variable{prog:waq}{w:World}{A:Around}{E:Value->Shared->Prop}{s:Shared}{K:wa2}{x dx C CB f:Addr}{mA:Str->Option Value}{name:Str}{v:Value}{R:wdd->Shared->Prop}
theorem Fl{Q:Unit->Shared->Prop}(X:K.In s.heap)(hx:s.heap.get? x=some (tX C d t))(hd:s.heap.Ns1 d mA)(hw:wdQ mA ns)(hl:ns.length<=100)(hc:clsIn K C=some cd)(hm:cd.mro=.ref C::oS CB)(hh:cd.hasDict=true)(ha:findIn K (.ref C) name=some none)
 (hs:findIn K (.ref C) "__setattr__"=some (some (.builtin "object.__setattr__")))
 (h:∀h' tk,(∀b,b≠d->h'.get? b=s.heap.get? b)->h'.Ns1 d (λy=>if y=name then some v else mA y)->Q .unit {s with heap:=h',toks:=tk}) :
 wpAny (model prog w) A (setAttr (.ref x) name v) Q E s:=by
 obtain⟨od,es,ep,e1,_⟩:=id hd;have J:InstAt s.heap x (tX C d t) C (some od):=⟨hx,rfl,rfl,e1⟩;refine wfc X J hs (xJ (s:={s with toks:=s.toks+1}) X J hc hm ha ?_);unfold storeInOwnDict;refine wa7 (wax ?_);rw[if_neg (by simp)];unfold ownDictForStores instanceDict;refine wa7 (wa7 (wgo hx ?_));dsimp only;refine wa7 (wf1 (s:={s with toks:=s.toks+1}) (wea X hc) ?_);rw[hh];simp only[wgV,wbY,if_false];refine wax ?_;show wpAny _ _ (storeInDict d (.str name s.toks) name v) _ _ _;unfold storeInDict newKeyGuard;refine wa7 (wax (wa7 (wh8 hd λh' Bg Lh=>?_)));obtain⟨oD,Yb,Yc,Ti,VJ,VL⟩:=Bg.count (wg1 name v hw);refine wa7 (wfu Ti (by grind [wfv,wak,wc4]) ?_)
 wp_walk
 exact h h' _ (λb hb=>Lh.2 b hb) Bg
end
section
variable{X:Cx}{CB:Addr}{o value:Expr}{ta tv:TE}{name:Str}{pos pos':Pos}
theorem Fm{fs:List (Str×V)}{g:Str->Option Value}(r:∀f,jb (fs.lookup f) (g f)):wdQ g (fs.map (·.1)):=by grind [jb,wdQ,wae,wac]
theorem AX(h:fs.lookup name=none)(f:Str):(fs++[(name,y)]).lookup f=if f=name then some y else fs.lookup f:=by
 grind
def NI(K:wa2)(CB:Addr)(ta tv:TE)(name:Str):TS:=λD σ H=>tv σ H λy H1=>ta σ H1 λz H2=>∃x C nm d fs,z=.ref x/\H2 x=some (XD x C d)/\H2 d=some (.xd fs)/\fs.length<=50/\fg K C CB nm/\findIn K (.ref C) name=some none/\fs.lookup name=none/\D.nx σ (upd H2 d (.xd (fs++[(name,y)])))
theorem Iq(ha:PE X o ta)(J:PE X value tv)(hs:wc7 value (some (.Attribute o name pos')) pos.line X.env=pure false):PS X (.Assign [.Attribute o name pos'] value pos) (NI X.K CB ta tv name):=by
 refine{?_};intro c s σ H D I h;refine wd2 (bO (J c s σ H _ I h) λu G ⟨y,L,M,O,q⟩=>bO (ha c G σ L _ M q) λQ E R=>?_) hs;obtain⟨z,i,g,S,x,C,T,d,fs,V,Y,hd,hl,U,hn,Z,q2⟩:=R;subst V;obtain rfl:Q=wam x:=S;obtain⟨⟨t,ht⟩,_⟩:=g.b7 x _ Y;obtain⟨mA,ns,r⟩:=g.b7 d _ hd;obtain⟨qn,N,bs,sn,sub,ab,m,dd,k0,k1,k2,k3,k5,lk⟩:=U.lk;refine Fl (CB:=CB) g.hU ht ns (Fm r) (by rw[wa0];lia) (cd:={name:=T,bases:=bs,mro:=.ref C::oS CB,ns:=N,qualname:=qn,hasDict:=true,slotNames:=sn,subclasses:=sub,abstract:=ab,collection:=m,hasDel:=false}) (by unfold clsIn;rw[lk]) rfl rfl hn U.sa λp tk k j=>{σ,_,?_,q2};obtain⟨o',_,_,eo,_⟩:=id j;have nx:∀{b:Addr} {o:HO},i b=some o->(∀fs,o≠.xd fs)->b≠d:=λe n z=>by rw[z,hd]at e;exact n _ (wad e).symm
 have A:∀{b:Addr},i b=none->b≠d:=λe z=>by rw[z,hd]at e;cases e
 have un:Un (rH X.stack) [] i (upd i d (.xd (fs++[(name,y)]))) E.heap p:=by
  refine{λb o q n _ _=>by rw[k b (A n)];exact q,λb o q n _ _=>{o.slots,by rw[k b (A n)];exact q},λb o q n _=>?_,λb o q _=>?_,λb vs q=>?_,λb o v q=>?_,λb ps q=>?_}
  .rw[ae (A n)];exact n
  .by_cases z:b=d
   .rw[z];exact{_,eo}
   .exact{o,by rw[k b z];exact q}
  .rw[ae (nx q λψ z=>by cases z)];exact q
  .rw[ae (nx q λψ z=>by cases z)];exact q
  .exact{#[],by rw[ae (nx q λψ z=>by cases z),q];simp}
 have b7:jV X.prog X.w (upd i d (.xd (fs++[(name,y)]))) p:=λa o e=>by
  by_cases z:a=d
  .subst z;rw[a6]at e;cases e;refine{_,j,λf=>?_};rw[AX Z]
   by_cases e:f=name
   .rw[if_pos e,if_pos e];exact O
   .rw[if_neg e,if_neg e];exact r f
  .rw[ae z]at e;refine(g.b7 a o e).wt (λb u l q=>?_) (λb q=>?_) λb vs q=>?_
   .rw[k b ?_]
    .exact q
    .rintro rfl;rcases l with rfl |l
     .exact z rfl
     .rw[hd]at l;cases l
   .rw[ae (λB=>by rw[B,hd]at q;cases q)];exact q
   .rw[ae (λB=>by rw[B,hd]at q;cases q)];exact q
 exact g.xh (s':={E with heap:=p,toks:=tk}) rfl un b7 g.bare λb z=>absurd z (by simp)
end
end L2
namespace Sx
open PySem L2 Bs
def LN(v:V):Prop:=∃i:Int,v=.int i/\i.natAbs.log2<1920
inductive Ut(C:Addr)(n1 n2:Str)(d7 Z0:V->Prop)(vs:List V)(H:Hp)(Q:VK)(dA:XK):Prop
 |mk (x u v) (_:vs=[.ref x,u,v]) (_:d7 u) (_:Z0 v) (_:H x=some (XN x C)) (_:∀d,H d=none->Q .non (upd (upd H d (.xd [(n1,u),(n2,v)])) x (XD x C d)))
end Sx
namespace Bs
open PySem L2 Sx
theorem fZ{a b:Str}{m n:Nat}(g:a.length<=m)(j:b.length<=n):(a++b).length<=m+n:=by
 rw[len_app];exact Nat.add_le_add g j
theorem CJ{m j N:Nat}{many wide:Int}{g:Str}{bw ss:List Str}(l:gq m many wide)(b:(j:Int)<=24)(c:i3 g bw ss N "" < many^j):(i3 g bw ss N "").natAbs.log2<1920:=by
 have h0:0<=i3 g bw ss N "":=N7 N "";obtain⟨k,hk⟩:∃k:Nat,many=k:={many.toNat,by have:=l.a;lia};have d:k<=8:=by have:=l.b;lia
 rw[hk,<-wdO]at c;have e:k^j<=8^24:=wak (Nat.pow_le_pow_left d j) (wgP ⋯ (by lia))
 have f:(i3 g bw ss N "").natAbs<2^72:=by
  grind
 have h:=Nat.log2_lt (n:=(i3 g bw ss N "").natAbs) (k:=72)
 by_cases z:(i3 g bw ss N "").natAbs=0
 .rw[z];decide
 .grind
end Bs
namespace L2
open PySem PySem.Spec PyProof.Rows Sx
section
variable{X:Cx}
theorem Fn{K:wa2}(J:X.K=K):Jv X "list.index" (λx xs H Q=>∃l g k i,x=.ref l/\xs=[.int k]/\aL K H l (wcZ V.int g)/\g.length<=1000/\g[i]?=some k/\(∀j:Nat,j<i->g[j]?≠some k)/\Q (.int (i:Nat)) H):=by
 subst J;intro B s σ H x xs v Z Q I G L h;obtain⟨l,g,k,i,rfl,rfl,M,N,hi,o,q⟩:=h;cases G;obtain⟨u,rfl,O,rfl⟩:=L.one;obtain⟨a,C,pl,hz⟩:=I.list M;obtain⟨⟨cls,R,data,sl⟩,D,hc,n,hd⟩:=pl.isList;simp only at hc hd;subst hc hd;have d:=C.length;rw[wa0]at d;have S:i<g.length:=(wa6.mp hi).1
 have b:∀m (c:m<a.length),∃t,a[m]=.int (g[m]'()) t:=λm c=>by
  obtain⟨w,E,T⟩:=C.get (i:=m) (x:=.int (g[m]'())) (by rw[wa4,wa1 ()];rfl);rw[wa1 c]at E;obtain⟨t,rfl⟩:=T;exact{t,wad E}
 refine weF wd7 {_,D,rfl} wfI (wfp _ _)
  (wfJ l a.toArray n R sl (.int k O) (λw=>match w with |.int z _=>z==k |_=>false) i (by simp;omega) () ?_ ?_) {D,λy U=>?_,?_}
 .obtain⟨t,e⟩:=b i ();have Y:g[i]=k:=(wa6.mp hi).2;simp only[wdD];rw[e,Y];simp
 .intro m c p;have r:m<a.length:=by simpa using c
  obtain⟨t,e⟩:=b m r;simp only[wdD];rw[e];have f:=o m p;rw[wa1 ()]at f;simp only[beq_eq_false_iff_ne,ne_eq];exact λz=>f (by rw[z])
 .have A:y∈a:=by simpa using U
  obtain⟨m,c,rfl⟩:=wbU A;obtain⟨t,e⟩:=b m c;rw[e];exact wgq _ _ _ _
 .exact{.int (i:Nat),H,I.tok _,{_,rfl},q}
end
end L2
namespace Bs
open PySem L2 Sx
noncomputable def g7(ks:List Nat)(m:Nat)(qs:List (Str×Nat)):List (Str×Nat):=((cU ks qs).take m).map λq=>(q.1,ks.idxOf q.2)
noncomputable def fj(lns:List (List (Str×Nat)))(ks:List Nat)(m:Nat):List (List (Str×Nat)):=ks.map λd=>g7 ks m (lns.getD d [])
noncomputable def lN(wl:List (List (Str×Nat)))(s:Str×Nat)(t:Nat):Str×Nat:=(s.1++((wl.getD s.2 []).getD t ("",0)).1,((wl.getD s.2 []).getD t ("",0)).2)
noncomputable def cJ(wl:List (List (Str×Nat)))(d:Nat)(ts:List Nat):Str×Nat:=ts.foldl (lN wl) ("",d)
structure FV(many:Int)(n:Nat)(wl:List (List (Str×Nat))):Prop where
 ne:wl≠[]
 ln:∀l∈wl,(l.length:Int)=many
 e:∀l∈wl,∀q∈l,q.2<wl.length
 wd:∀l∈wl,∀q∈l,q.1.length=n
theorem ym(wl:List (List (Str×Nat)))(d:Nat)(ts:List Nat)(t:Nat):cJ wl d (ts++[t])=lN wl (cJ wl d ts) t:=by
 grind [cJ]
theorem cM{wl:List (List (Str×Nat))}{d:Nat}(h:d<wl.length):wl[d]?=some (wl.getD d []):=by
 grind
theorem rq{l:List (Str×Nat)}{t:Nat}(h:t<l.length):l[t]?=some (l.getD t ("",0)):=by
 grind
theorem DN{many:Int}{n:Nat}{wl:List (List (Str×Nat))}(g:FV many n wl):∀(ts:List Nat) (s:Str×Nat),s.2<wl.length->(∀t∈ts,(t:Int)<many)->(ts.foldl (lN wl) s).2<wl.length/\(ts.foldl (lN wl) s).1.length=s.1.length+n*ts.length
 |[],s,h,_=>⟨h,rfl⟩
 |t::ts,s,h,c=>by
  have j:=c t (wae ..);have hl:=wa8 (cM h);have f:=g.ln _ hl;have d:=wa8 (rq (l:=wl.getD s.2 []) (t:=t) (by lia));obtain⟨a,b⟩:=DN g ts (lN wl s t) (g.e _ hl ((wl.getD s.2 []).getD t ("",0)) d) λx i=>c x (wac _ i);refine{a,?_};rw[wdL,b];show (s.1++_).length+_=_;rw[len_app,g.wd _ hl _ d,waH,wcV,whI]
  lia
theorem qu{many:Int}{n:Nat}{wl:List (List (Str×Nat))}(W:FV many n wl){d:Nat}(hd:d<wl.length){ts:List Nat}(g:∀t∈ts,(t:Int)<many):(cJ wl d ts).2<wl.length/\(cJ wl d ts).1.length=n*ts.length:=by
 obtain⟨a,b⟩:=DN W ts ("",d) hd g;refine{a,b.trans ?_};show 0+_=_
 lia
theorem wK.word(h:wK (aV g bw ss ls n) hs lns)(hl:lns.length=hs.length)(j:∀p∈hs,p∈ss)(he:("":Str)∈ss):∀l∈lns,∀q∈l,q.1.length=n:=by
 intro l d q f;obtain⟨i,hi,e⟩:=wbU d;have a:i<hs.length:=by lia
 have b:0<gL hs[i] (q.1,q.2) hs lns:=by
  have k:hs[i]?=some hs[i]:=wa1 a;have m:lns[i]?=some l:=by rw[wa1 hi,e]
  have:=kC (z:=(q.1,q.2)) k m;have hc:0<l.count (q.1,q.2):=wc2.mpr f
  lia
 rw[h hs[i] q.1 q.2]at b
 by_cases c:q.2<hs.length/\hs[i]∈hs/\(q.1,hs.getD q.2 "")∈aV g bw ss ls n hs[i]
 .exact(uT he (j _ (waL a)) n _ (war.mp c.2.2).1).2
 .rw[if_neg c]at b
  lia
theorem QE{many:Int}{n:Nat}{lns:List (List (Str×Nat))}{g:List Nat}(h:oB lns many g)(j:g≠[])(t:0<=many)(r:∀l∈lns,∀q∈l,q.1.length=n):FV many n (fj lns g many.toNat):=by
 refine{λz=>j (wh2.mp z),λl hl=>?_,λl hl q a=>?_,λl hl q a=>?_}
 .obtain⟨d,hd,rfl⟩:=wab.mp hl;have:=(h.st d hd).2;unfold g7;rw[wa0,wag]
  lia
 .obtain⟨d,hd,rfl⟩:=wab.mp hl;unfold g7 at a;obtain⟨p,b,rfl⟩:=wab.mp a;have c:=of_decide_eq_true (war.mp ((wbn _ _).subset b)).2;unfold fj;rw[wa0];exact wc3.mpr c
 .obtain⟨d,hd,rfl⟩:=wab.mp hl;unfold g7 at a;obtain⟨p,b,rfl⟩:=wab.mp a;have e:=(war.mp ((wbn _ _).subset b)).1;exact r _ (wa8 (cM (h.st d hd).1)) p e
theorem vZ:∀{hs:List Nat} {j:Nat} (h:j<hs.length),hs.idxOf hs[j]<=j
 |[],j,h=>absurd h (wcN _)
 |a::hs,0,h=>by
  show (a::hs).idxOf a<=0;rw[wgO];exact waa 0
 |a::hs,j+1,h=>by
  have b:j<hs.length:=by simpa using h
  show (a::hs).idxOf hs[j]<=j+1;rw[wi3];have:=vZ b
  cases(a==hs[j]) with
  |true=>grind
  |false=>grind
theorem KH(h:k∈g):(nI g)[g.idxOf k]?=some (k:Int)/\∀j:Nat,j<g.idxOf k->(nI g)[j]?≠some (k:Int):=by
 have hl:g.idxOf k<g.length:=wc3.mpr h;unfold nI;refine{by grind,λj c e=>?_};have a:j<g.length:=by lia
 rw[wa4,wa1 a]at e;have b:g[j]=k:=by grind
 have:=vZ a;rw[b]at this
 lia
end Bs
namespace Sx
open PySem L2 Bs
inductive KI(K:wa2)(vs:List V)(H:Hp)(Q:VK)(dA:XK):Prop
 |mk (v b many ks qs) (_:vs=[v,.ref b,.int many]) (_:bM K H (bY qs) v) (_:aL K H b ((nI ks).map V.int)) (_:ks.length<=1000) (_:qs.length<=10000) (_:0<=many) (_:∀y H',a7 H H'->bM K (aM H H') (bY (g7 ks many.toNat qs)) y->Q y H')
inductive Ir(K:wa2)(vs:List V)(H:Hp)(Q:VK)(dA:XK):Prop
 |mk (v:V) (d:Nat) (a:Addr) (many:Int) (n:Nat) (wl:List (List (Str×Nat))) (ts:List Nat) (_:vs=[v,.int (d:Int),.ref a]) (_:bM K H (kz wl) v) (_:aL K H a ((nI ts).map V.int)) (_:FV many n wl) (_:d<wl.length) (_:(∀t∈ts,(t:Int)<many)) (_:ts.length<=100000) (_:n<=10) (_:∀p H',a7 H H'->H' p=some (.tup [.str (cJ wl d ts).1,.int ((cJ wl d ts).2:Int)])->Q (.ref p) H')
structure Iu(bw:List Str)(M:Int):Prop where
 u:∀w∈bw,(w.length:Int)<=M
 a:M=0/\bw=[]\/∃w∈bw,(w.length:Int)=M
structure n6(bw:List Str)(n:Nat)(b:Nat):Prop where
 le:b<=1000
 is:∃M:Int,Iu bw M/\(b:Int)=((if 0>M-1 then 0 else M-1)+(n:Int)-1)/(n:Int)
inductive KJ(C:Addr)(vs:List V)(H:Hp)(Q:VK)(dA:XK):Prop
 |mk (x g bw ss ls) (_:vs=[.ref x]) (_:aZ C H x g bw ss ls) (_:bw.length<=1000) (_:(∀w∈bw,w.length<=1000)) (_:∀(M:Int) (H':Hp),a7 H H'->Iu bw M->Q (.int M) H')
inductive Iv(C:Addr)(vs:List V)(H:Hp)(Q:VK)(dA:XK):Prop
 |mk (x:Addr) (n:Nat) (g:Str) (bw ss ls:List Str) (_:vs=[.ref x,.int (n:Int)]) (_:aZ C H x g bw ss ls) (_:1<=n) (_:n<=10) (_:(∀w∈bw,w.length<=900)) (_:bw.length<=1000) (_:∀(b:Nat) (H':Hp),a7 H H'->n6 bw n b->Q (.int (b:Int)) H')
end Sx
namespace K52
open PySem L2 Bs Sx
section
variable{P:waq}{w:World}{K:wa2}{mg:Str->Option Value}{base:Heap}
local macro_rules|`(tactic|ac_rfl)=>`(tactic|try dsimp only[cZ,cY,aX,aY])
theorem jP(L:Lk K mg):aS P w K mg base cP 2 L.fO L.fR ["line","kept","many"] (KI K):=by
 refine L.fU.F.d7 (N:=["line","kept","many"]) (λX A outer s H vs Q E nd t h=>?_);obtain⟨v,b,many,c,g,rfl,Y,S,u,x,m0,k⟩:=h;refine{_,(a9 (aw (fK rfl (ay ["kept"] [1]) (ay ["kept"] [1]) ⋯ (aQ (bK hX (au (o8 L) L.kJ (a8 (pv 0) (aK (pv 1)))) f5 (bg (pv 2)))) (λ_ _ _ _ _ _=>bj) (λ_ _ _ _ _ _=>(dX (a8 (pv 0) (aK (Hr (K:=K) rfl waN wd7 wfV (Fn (K:=K) rfl) (pv 2) (aK (pv 1)))))))))),?_}
 ac_rfl
 have B:many=((many.toNat:Nat):Int):=();refine{_,rfl,_,rfl,v,b,c,g,rfl,Y,S,x,λy C D Z=>?_};obtain⟨a,f,rfl,hS,T⟩:=dQ (bM.same (cf _ _) _ _ Z);have yk:f.length=(cU c g).length:=by rw[T.1,wa0,wa0]
 have Yo:=HI c g;refine{_,rfl,((many.toNat:Nat):Int),congrArg V.int B,a,_,rfl,hS,λm G=>?_};rw[Dn,<-wdH];have n:=a7.upd (H:=C) (o:=.lst ((f.take many.toNat).map V.ref)) G;have I:(upd C m (.lst ((f.take many.toNat).map V.ref))) m=some (.lst ((f.take many.toNat).map V.ref)):=a6;generalize upd C m (.lst ((f.take many.toNat).map V.ref))=H2 at n I;refine{m,rfl,{_,aL.of I},λl hl=>?_};refine jy (prs:=((cU c g).take many.toNat).map eF) (λ_=>true) (λq=>match q.2 with |.int e=>.tup [.at q.1,.at (.int (c.idxOf e.toNat:Int))] |_=>.at .non) (aR K m _) (by grind) (λi q j=>?_) hl (ao (by grind)) (λU J=>aL.of (J _ _ I)) (λq M Q' _ _ O=>O M (a7.refl _)) (λq M Q' j _ s3 O=>?_) (λU J r=>?_)
 .rw[wa4]at j
  have hi:i<((cU c g).take many.toNat).length:=by
   cases e:((cU c g).take many.toNat)[i]? with
   |none=>rw[e]at j;cases j
   |some z=>exact(wa6.mp e).1
  have d:i<many.toNat/\i<f.length:=by rw[wag]at hi;omega
  rw[wdT d.1,wa1 ()]at j;cases j;refine{f[i],by rw[wa4,wdT d.1,wa1 d.2];rfl,gA.of (n _ _ ?_)};exact T.2 i f[i] (jx (eF (cU c g)[i])) (wa1 d.2) (by rw[wa4,wa4,wa1 ()];rfl)
 .obtain⟨z,hz,rfl⟩:=wab.mp j;have R:=of_decide_eq_true (war.mp ((wbn _ _).subset hz)).2;have p:aL K M b ((nI c).map V.int):=((D.trans n).trans s3).seq S;obtain⟨i1,i2⟩:=KH R;refine{_,rfl,_,rfl,.inl {rfl,_,p},_,rfl,b,nI c,(z.2:Int),c.idxOf z.2,rfl,rfl,p,by rw[bL];exact u,i1,i2,by show 2<=sizeLine;decide,λr t=>?_};exact O _ _ (a7.upd t) (mi t (z.1,c.idxOf z.2))
 .rw[wba.mpr (λ_ _=>rfl),waf]at r;refine k _ U ((D.trans n).trans J) (bM.same (eM (D.trans n)) _ _ ?_);unfold g7 bY;rw[waf];exact r
theorem yn(L:Lk K mg):aS P w K mg base cP 1 L.AF L.AI ["lines","desk","data"] (Ir K):=by
 refine L.vS.F.d7 (N:=["lines","desk","data","row","thing","step"]) (λX A outer s H vs Q E nd hr h=>?_);obtain⟨v,d,a,many,n,wl,ts,rfl,Y,T,z,hd,m,Z,hn,k⟩:=h
 refine{_,(a5 (ai (i:=3) eB)
  (a5 (forA (aQ (pv 2)) (ax (i:=4)) (a5 (ai (i:=5) (bc bD (bc bD (pv 0) (pv 1) (λ_ _=>rfl)) (pv 4) (λ_ _=>rfl)))
  (a5 (uh (i:=3) nd rfl (wdW rfl) (bc fG (pv 5) aq (λ_ _=>rfl)) K7)
  (a9 (ai (i:=1) (bc fG (pv 5) aq (λ_ _=>rfl)))))))
  (a9 (aw (dX (a8 (pv 3) (aK (pv 1)))))))),?_}
 ac_rfl
 obtain⟨cl,xs,rfl,hc,B⟩:=id Y;refine{_,rfl,a,rfl,{_,T},d9 (K:=K) (a:=a) (xs:=(nI ts).map V.int) (λi σ u=>∃(v4 C:Option V),σ=[some (.ref cl),some (.int ((cJ wl d (ts.take i)).2:Int)),some (.ref a),some (.str (cJ wl d (ts.take i)).1),v4,C]/\a7 H u) {none,none,rfl,a7.refl _} (λi σ u _ {_,_,_,c}=>c.seq T) ?_ ?_}
 .rintro i y σ u D ⟨v4,C,rfl,c⟩;have hi:i<ts.length:=by have:=(wa6.mp D).1;rwa[wa0,bL]at this
  have g:ts[i]?=some ts[i]:=wa1 hi;rw[vp g]at D;cases D;have G:=m _ (waL hi);have qE:ts.take (i+1)=ts.take i++[ts[i]]:=by rw[waO,g];rfl
  generalize ts[i]=t at g G qE;obtain⟨w1,w2⟩:=qu z hd (ts:=ts.take i) λx hx=>m x ((wbn _ _).subset hx);have e:=ym wl d (ts.take i) t;rw[<-qE]at e;have I:=cM w1;have LD:=z.ln _ (wa8 I);have J:=z.wd _ (wa8 I);have M:lN wl (cJ wl d (ts.take i)) t=((cJ wl d (ts.take i)).1++((wl.getD (cJ wl d (ts.take i)).2 []).getD t ("",0)).1,((wl.getD (cJ wl d (ts.take i)).2 []).getD t ("",0)).2):=rfl;rw[M]at e;generalize cJ wl d (ts.take i)=O at *;obtain⟨v,R,rd⟩:=B.at (i:=O.2) (d:=bY (wl.getD O.2 [])) (by rw[wa4,I];rfl);generalize wl.getD O.2 []=f at *;obtain⟨b,j,rfl,hS,U⟩:=dQ rd;have yk:j.length=f.length:=by rw[U.1,wa0,wa0]
  have l:t<f.length:=by lia
  have o:t<j.length:=by lia
  have r:H j[t]=some (.tup [.str f[t].1,.int (f[t].2:Int)]):=U.2 t j[t] (jx (eF f[t])) (wa1 o) (by rw[wa4,wa4,wa1 l];rfl);have eq:f.getD t ("",0)=f[t]:=by rw[wa3,wa1 l];rfl
  have S:=J _ (waL l);rw[eq]at e;generalize f[t]=q at *;refine{_,rfl,_,rfl,cl,xs,_,_,rfl,rfl,c.seq (.inl hc),bC R,_,rfl,b,_,_,_,rfl,rfl,c.seq hS,bC (v:=.ref j[t]) (by rw[wa4,wa1 o];rfl),?_};refine{_,rfl,_,rfl,j[t],_,_,_,rfl,rfl,gA.of (c _ _ r),rfl,_,_,rfl,rfl,ao ?_,?_}
  .rw[w2,S,wag];have h1:n*min i ts.length<=10*99999:=wbd hn (by lia)
   lia
  refine{_,rfl,j[t],_,_,_,rfl,rfl,gA.of (c _ _ r),rfl,?_};rw[e];exact{_,_,rfl,c}
 .rintro σ u ⟨v4,C,rfl,c⟩;rw[wa0,bL,waG];refine{_,rfl,_,rfl,by show 2<=sizeLine;decide,λp hp=>?_};exact k p _ (c.trans (a7.upd hp)) a6
theorem tM(L:Lk K mg):aS P w K mg base cP 1 L.mq L.mI ["self"] (KJ L.aA):=by
 have T:=L.T;refine L.mZ.F.d7 (N:=["self"]) (λo A outer s H R Q E nd S h=>?_);obtain⟨x,g,bw,ss,ls,rfl,B,p,e,k⟩:=h;refine{_,(a9 (aw (Kg rfl (by rfl) T.max (aK (cG rfl (ay [] []) (aQ (az (pv 0) rfl)) (λ_ _ _ _ _ _=>bj) (λ_ _ _ _ _ _=>(sC T.len (pv 0))))) aq))),?_}
 ac_rfl
 obtain⟨r,b,d,q,U,t,l,f,X,Y,Z⟩:=id B.ex;refine{_,rfl,x,L.aA,r,_,_,rfl,t,L.aJ.cl,L.aJ.vB,rW g b d q,b,rfl,{_,aL.of l},λu i=>?_};refine dN (λ_=>true) (λv=>match v with |.str z=>.int (z.length:Int) |_=>.non) (aR K b _) i (ao (by rw[wa0];lia)) (λH' C=>aL.of (C _ _ l)) (λy a D m c j=>j a (a7.refl _)) (λy a D m _ c j=>?_) (λa c f=>?_)
 .obtain⟨w,hw,rfl⟩:=wab.mp m;exact{_,rfl,w,rfl,ao (by have:=e w hw;lia),j a (a7.refl _)}
 have G:((bw.map V.str).filter λ_=>true).map (λv=>match v with |.str z=>V.int (z.length:Int) |_=>.non)=(bw.map λw=>(w.length:Int)).map V.int:=by
  rw[wba.mpr (λ_ _=>rfl),waf,waf];rfl
 rw[G]at f;refine{u,_,0,rfl,rfl,aL.of f,λhn=>?_,λM I J=>?_}
 .have n:bw=[]:=wh2.mp hn;exact k 0 a c {(λw hw=>by rw[n]at hw;cases hw),.inl ⟨rfl,n⟩}
 .obtain⟨w,hw,rfl⟩:=wab.mp I;exact k _ a c {λz O=>J _ (wab.mpr ⟨z,O,rfl⟩),.inr ⟨w,hw,rfl⟩}
theorem rx(L:Lk K mg):aS P w K mg base cP 2 L.kZ L.lD ["band","wide"] (Iv L.aA):=by
 have T:=L.T;refine L.lH.F.d7 (N:=["band","wide","signs"]) (λj A outer s H v Q E nd y h=>?_);obtain⟨x,n,g,bw,ss,ls,rfl,B,n1,lO,c,e,k⟩:=h
 refine{_,(a5 (ai (i:=2) (aU (xk rfl) (by rfl) T.max Ds (a8 (aC gk (eV (pv 0) L.aJ.cl L.mZ (tM L)) aq) (aK aq))))
  (a9 (aw (aC iN (aC gk (aC bu (pv 2) (pv 1)) aq) (pv 1))))),?_}
 ac_rfl
 obtain⟨l,b,d,q,z,m,C,D,G,I,J⟩:=id B.ex;refine{_,rfl,x,l,_,rfl,m,Bf g b d q ∅ ∅ ∅ ∅,x,g,bw,ss,ls,rfl,B,e,(λw hw=>by have:=c w hw;omega),λM o p f=>?_};refine{_,_,rfl,rfl,_,_,rfl,?_}
 have r:0<=M/\M<=900:=by
  rcases f.a with⟨h,_⟩ |⟨w,hw,h⟩
  .omega
  .have:=c w hw;omega
 have t:0<=((if 0>M-1 then 0 else M-1)+(n:Int)-1)/(n:Int):=wi2 (by split<;>omega) ()
 have u:((if 0>M-1 then 0 else M-1)+(n:Int)-1)/(n:Int)<=1000:=by
  refine we4 (Int.ediv_le_self _ (by split<;>omega)) (by split<;>omega)
 refine{_,rfl,_,rfl,_,_,rfl,rfl,_,_,rfl,rfl,_,rfl,_,_,rfl,rfl,{(),()},?_};have:=k (((if 0>M-1 then 0 else M-1)+(n:Int)-1)/(n:Int)).toNat o p {(),M,f,()};rwa[show ((((if 0>M-1 then 0 else M-1)+(n:Int)-1)/(n:Int)).toNat:Int)=((if 0>M-1 then 0 else M-1)+(n:Int)-1)/(n:Int) by omega]at this
theorem oJ(L:Lk K mg):aS P w K mg base cP 1 L.iT L.iX ["self","place"] (Tx L.aA):=by
 have T:=L.T;refine L.j5.F.d7 (N:=["self","place"]) (λa A outer s H l Q E nd m h=>?_);obtain⟨x,p,g,n,ss,ls,rfl,B,c,k⟩:=h;obtain⟨⟨f,b,d,q,o,i,r,t,u,y,j⟩,_,_,_⟩:=B;refine{_,(a9 (b6 (PW.pt (fk (cS (bT (aU bR (by rfl) T.FT tG (a8 (pv 1) (aK (eY (v:=.ty "str") (by rfl) T.str JH rfl)))))) (fF (eZ hZ (pv 1) (az (pv 0) rfl) rfl)))) cK aG)),?_}
 ac_rfl
 refine{_,rfl,_,_,_,true,rfl,gE.str p,rfl,true,rfl,bx ?_};refine{_,rfl,_,rfl,x,L.aA,f,_,_,rfl,i,L.aJ.cl,L.aJ.ri,xI g b d q,q,_,rfl,.inl (aL.of j),rfl,fm _,?_};have e:oR (.str p) (ls.map V.str)=true:=by rw[jr];exact decide_eq_true c
 refine{false,?_,bx k};show V.bl (!oR (.str p) (ls.map V.str))=V.bl false;rw[e];rfl
theorem w4(L:Lk K mg):aS P w K mg base cP 3 L.nM L.nV ["band","rows"] (Hh L.aA):=by
 refine L.o4.F.d7 (N:=["band","rows","longer","word","place","sign","end"]) (λgG A outer s H vs Q E nd hr h=>?_);obtain⟨x,l,rs,m,g,n,ss,ls,rfl,B,R,hq,LJ,DM,k⟩:=h
 refine{_,(a5 (ai (i:=2) (cA eC))
  (a5 (forA (aQ (pv 1)) (dU rfl (aP (ax (i:=3)) (aP (ax (i:=4)) cQ))) (a9 (forA (yH (az (pv 0) rfl)) (ax (i:=5)) (a5 (ai (i:=6) (sD (pv 0) L.aJ.cl L.oH (tm L) (a8 (pv 4) (aK (pv 5)))))
  (a9 (b6 (cu oY (pv 6) dn) (a9 (b8 (hF waN waU waY cL (pv 2) (aK (dX (a8 (aC ia (pv 3) (pv 5)) (aK (pv 6)))))))) aG))))))
  (a9 (aw (pv 2))))),?_}
 ac_rfl
 refine{waz _,λu v=>?_};have s0:a7 H (upd H u (.lst [])):=a7.upd v;refine{_,rfl,l,rfl,{_,aL.of (s0 _ _ R.l)},d9 (K:=K) (a:=l) (xs:=rs.map V.ref) (λi σ J=>∃(v3 v4 z v6:Option V) (f:List Addr),σ=[some (.ref x),some (.ref l),some (.ref u),v3,v4,z,v6]/\a7 H J/\eE J u f (fL g n ss (m.take i))) {none,none,none,none,[],rfl,s0,{a6,b9.nil _}} (λi σ J _ {_,_,_,_,_,_,C,_}=>aL.of (C _ _ R.l)) ?_ ?_}
 .rintro i y σ J D ⟨v3,v4,z,v6,f,rfl,C,R2⟩;rw[wa4]at D
  obtain⟨r,O,rfl⟩:∃r,rs[i]?=some r/\y=.ref r:=by
   cases q:rs[i]? with
   |none=>rw[q]at D;cases D
   |some r=>rw[q]at D;exact{r,rfl,(wad D).symm}
  have S:i<m.length:=by have:=(wa6.mp O).1;rw[R.len]at this;exact this
  have T:m[i]?=some m[i]:=wa1 S;obtain⟨U,X⟩:=hq m[i] (waL S);have hT:=R.t.2 i r (me m[i]) O (by rw[wa4,T];rfl);have qE:m.take (i+1)=m.take i++[m[i]]:=by rw[waO,T];rfl
  have G:fL g n ss (m.take (i+1))=fL g n ss (m.take i)++qT g n ss m[i]:=by
   unfold fL;rw[qE,weP];simp
  have LO:(fL g n ss (m.take i)).length<=1000:=by
   have h1:=rY g n ss (m.take i);have h2:(m.take i).length<=100:=by rw[wag];lia
   exact wak h1 (wbd h2 DM)
  generalize m[i]=q at U X hT G;obtain⟨w,p⟩:=q;generalize fL g n ss (m.take i)=M at R2 G LO;refine{r,_,rfl,gA.of (C _ _ hT),rfl,_,_,rfl,_,_,rfl,rfl,?_};have B2:=B.same C;obtain⟨⟨dx,b,d,qq,mv,h1,h2,h3,h4,h5,h6⟩,pm,_,_⟩:=id B2;refine{_,rfl,x,L.aA,dx,_,_,rfl,h1,L.aJ.cl,L.aJ.pB,kl g b d qq,g,rfl,lY (p6 g) (λj σ Y=>∃(z v6:Option V) (f:List Addr),σ=[some (.ref x),some (.ref l),some (.ref u),some (.str w),some (.str p),z,v6]/\a7 H Y/\eE Y u f (M++((ch g).take j).filterMap λc=>if bears n (p++{#[c]})=true then none else some (w++{#[c]},lend ss (p++{#[c]})))) {_,_,f,rfl,C,by rw[wdu,List.filterMap_nil,waS];exact R2} (λ_ _ _ _ _=>trivial) ?_ ?_}
  .rintro j y σ Y D ⟨z,v6,f,rfl,Z,R3⟩;obtain⟨c,hci,rfl,hj,Z1,QD⟩:=Ep D;have B3:=B.same Z;obtain⟨⟨Z2,_,_,_,_,Z3,_⟩,_⟩:=id B3;refine{_,rfl,x,Z2,_,rfl,Z3,Bf _ _ _ _ ∅ ∅ ∅ ∅,_,rfl,_,rfl,x,p,c,g,n,ss,ls,rfl,B3,U,Z1,?_}
   have Uu:(M++((ch g).take j).filterMap λc=>if bears n (p++{#[c]})=true then none else some (w++({#[c]}:Str),lend ss (p++({#[c]}:Str)))).length<=1010:=by
    have:=we2 (λc=>if bears n (p++{#[c]})=true then none else some (w++({#[c]}:Str),lend ss (p++({#[c]}:Str)))) ((ch g).take j);rw[wag,aN]at this;rw[wa5]
    lia
   refine{_,rfl,rfl,_,rfl,?_};rw[QD,wgx,<-waM];generalize (M++((ch g).take j).filterMap λc=>if bears n (p++{#[c]})=true then none else some (w++({#[c]}:Str),lend ss (p++({#[c]}:Str))))=M2 at R3 Uu
   cases hb:bears n (p++⟨#[c]⟩) with
   |true=>
    have e:tW n ss p c=.non:=by unfold tW;rw[hb];rfl
    rw[e];refine bx {_,_,f,rfl,Z,?_}
    have e2:([c].filterMap λc=>if bears n (p++{#[c]})=true then none else some (w++({#[c]}:Str),lend ss (p++({#[c]}:Str))))=[]:=by
     rw[wbl,hb];rfl
    rw[e2,waS];exact R3
   |false=>
    have e:tW n ss p c=.str (lend ss (p++{#[c]})):=by unfold tW;rw[hb];rfl
    rw[e]
    have e2:([c].filterMap λc=>if bears n (p++{#[c]})=true then none else some (w++({#[c]}:Str),lend ss (p++({#[c]}:Str))))=[(w++{#[c]},lend ss (p++{#[c]}))]:=by
     rw[wbl,hb];rfl
    rw[e2];have yk:=R3.len;have Z4:w.length<=100:=X;refine eD {_,rfl,.inl {rfl,_,aL.of R3.l},_,rfl,_,rfl,_,_,rfl,rfl,ao (by show w.length+1<=_;lia),_,rfl,by show 2<=sizeLine;decide,λr' I=>?_};refine{u,_,_,rfl,rfl,a7.upd I _ _ R3.l,by rw[wa0,yk];exact wbi Uu (by rw[wc4];decide),?_};have key:=R3.push I (w++{#[c]},lend ss (p++{#[c]}))
    have sk:a7 H (upd (upd Y r' (.tup [.str (w++{#[c]}),.str (lend ss (p++{#[c]}))])) u (.lst (f.map V.ref++[.ref r']))):=λa o ea=>by
     rw[ae (af ea v)];exact a7.upd I _ _ (Z _ _ ea)
    unfold me at key;generalize lend ss (p++{#[c]})=le at key sk ⊢;refine{some (.str {#[c]}),some (.str le),f++[r'],?_,?_,?_}
    .rfl
    .exact sk
    .exact key
  .rintro σ Y ⟨z,v6,f,rfl,Z,R3⟩;refine{_,_,_,_,f,rfl,Z,?_};have:(eT g).length=(ch g).length:=by unfold eT;rw[wa0]
   rw[this,waG]at R3;rw[G];exact R3
 .rintro σ J ⟨v3,v4,z,v6,f,rfl,C,R2⟩;rw[wa0,R.len,waG]at R2;exact{_,rfl,k u f J C v R2}
theorem n7(L:Lk K mg):aS P w K mg base cP 4 L.nN L.nW ["band","place","wide"] (Hi L.aA):=by
 have T:=L.T;refine L.jf.F.d7 (N:=["band","place","wide","rows","step","live"]) (λgG A outer s H vs Q E nd hr h=>?_);obtain⟨x,p,n,g,a,ss,ls,rfl,B,hp,j,hn,DP,J,k⟩:=h
 refine{_,(a5 (b8 (sD (pv 0) L.aJ.cl L.j5 (oJ L) (aK (pv 1))))
  (a5 (ai (i:=3) (cA (aK (dX (a8 eB (aK (pv 1)))))))
  (a5 (forA (bZ rfl T.range (aK (pv 2))) (ax (i:=4)) (a9 (ai (i:=3) (au (w4 L) L.o4 (a8 (pv 0) (aK (pv 3)))))))
  (a5 (ai (i:=5) (eV (pv 0) L.aJ.cl L.j6 (kL L)))
  (a9 (aw (fK rfl (ay ["live"] [5]) (ay ["live"] [5]) ⋯ (aQ (pv 3)) (λ_ _ _ _ _ _=>gB (eZ (ic (K:=K) rfl) (pv 1) (pv 2) rfl)) (λ_ _ _ _ _ _=>(dX (a8 (pv 0) (aK (pv 1)))))))))))),?_}
 ac_rfl
 have he:("":Str)∈ss:=B.pm.mem_iff.mpr (cp a);have M:p∈ss:=B.lv.sub.subset hp;obtain⟨⟨dx,b,d,q,mv,m,z,h3,h4,h5,h6⟩,pm,_,_⟩:=id B;refine{_,rfl,x,dx,_,rfl,m,Bf _ _ _ _ ∅ ∅ ∅ ∅,_,rfl,x,p,g,a,ss,ls,rfl,B,hp,?_};refine{_,rfl,by show 2<=sizeLine;decide,λe O=>{by show 1<=sizeLine;decide,λC o=>?_}}
 have R0:eE (upd (upd H e (.tup [.str "",.str p])) C (.lst [.ref e])) C [e] (uS g a ss p 0):=by
  refine{a6,rfl,λi r xs m z=>?_}
  match i,m,z with
  |0,m,z=>
   cases m;cases z;exact a7.upd o _ _ a6
 have s0:a7 H (upd (upd H e (.tup [.str "",.str p])) C (.lst [.ref e])):=(a7.upd O).trans (a7.upd o);refine{_,rfl,(n:Int),rfl,by lia,by lia,?_};rw[waA];refine cw (lo:=0) (n:=n) (λi σ D=>∃(l:Addr) (u:List Addr) (v4:Option V),σ=[some (.ref x),some (.str p),some (.int (n:Int)),some (.ref l),v4,none]/\a7 H D/\eE D l u (uS g a ss p i)) {C,[e],none,rfl,s0,R0} ?_ ?_
 .rintro i σ D hi ⟨l,u,v4,rfl,f,R2⟩;have c:(uS g a ss p i).length<=100:=wak (pd g a ss p i) (wak (wgP (by lia) (by lia)) j);refine{_,rfl,_,rfl,x,l,u,_,g,a,ss,ls,rfl,B.same f,R2,λr hr=>?_,c,J,λl' R H3 v f3 R3=>{l',R,_,rfl,f.trans v,R3}};obtain⟨a1,a2⟩:=uT he M i r hr;exact{a1,by lia}
 .rintro σ D ⟨l,u,v4,rfl,f,R2⟩;have B2:=B.same f;obtain⟨⟨S,_,_,_,_,U,_⟩,_⟩:=id B2;refine{_,rfl,x,S,_,rfl,U,Bf _ _ _ _ ∅ ∅ ∅ ∅,x,g,a,ss,ls,rfl,B2,λlv H3 v f3 X=>?_};have R3:=R2.same v;have c:(uS g a ss p n).length<=100:=wak (pd g a ss p n) j;have yk:=R3.len;refine{_,rfl,l,rfl,{_,aL.of R3.l},λlr y=>?_};refine ED (prs:=(uS g a ss p n).map pe) (λq=>oR q.2 (ls.map V.str)) jx (aR K l (u.map V.ref)) (by rw[Dt];exact R3.t) y (ao (by lia)) (λH' s'=>aL.of (s' _ _ R3.l)) (λqv G Q' hq I Y=>?_) (λqv G Q' hq _ I Y=>?_) (λys G I Z t4=>?_)
  .obtain⟨q',_,rfl⟩:=wab.mp hq;exact{_,rfl,_,rfl,lv,_,rfl,.inl (aL.of (I _ _ X)),rfl,fm _,_,rfl,Y G (a7.refl _)}
  .exact{_,rfl,_,rfl,by show 2<=sizeLine;decide,λr' Ur=>Y r' _ (a7.upd Ur) a6}
  .rw[Aj]at t4;exact k lr ys G ((f.trans v).trans I) (none_of (f.trans v) y) ⟨Z,t4⟩
theorem wV(L:Lk K mg):aS P w K mg base cP 5 L.pI L.pW ["band","wide"] (Ak L.aA):=by
 refine L.qj.F.d7 (N:=["band","wide","ends","place"]) (λgG A outer s H vs Q E nd hr h=>?_);obtain⟨x,n,g,J,ss,ls,rfl,B,Jd,hn,DP,DM,wQ,k⟩:=h;have hu:=eW hr
 refine{_,(a5 (ai (i:=2) da)
  (a5 (forA (aQ (eV (pv 0) L.aJ.cl L.j6 (kL L))) (ax (i:=3)) (a9 (ee hu (pv 2) (pv 3) (fK rfl (ay [] []) (ay [] []) ⋯ (aQ (au (n7 L) L.jf (a8 (pv 0) (a8 (pv 3) (aK (pv 1)))))) (λ_ _ _ _ _ _=>bj) (λ_ _ _ _ _ _=>(pv 1))) rfl)))
  (a9 (aw (pv 2))))),?_}
 ac_rfl
 refine λu v=>?_;have Y:a7 H (upd H u (.dK [])):=a7.upd v;have B0:=B.same Y;obtain⟨⟨dx,b,d,q,mv,h1,h2,h3,h4,h5,h6⟩,pm,_,_⟩:=id B0;refine{_,rfl,x,dx,_,rfl,h1,Bf _ _ _ _ ∅ ∅ ∅ ∅,x,g,J,ss,ls,rfl,B0,λlp Z R f1 S=>?_};have RT:lp≠u:=λz=>by rw[z,a6]at f1;cases f1
 have nd:ls.Nodup:=B.nd.sublist B.lv.sub;have z4:ls.length<=900:=wak B.lv.sub.length_le wQ
 refine{lp,rfl,{_,aL.of S},d9 (K:=K) (a:=lp) (xs:=ls.map V.str) (λi σ H2=>∃v3 r,σ=[some (.ref x),some (.int (n:Int)),some (.ref u),v3]/\H2 u=some (.dK (cx r))/\r.map (·.1)=ls.take i/\(∀m∈r,H2 m.2=some (.lst (((aV g J ss ls n m.1).map (·.2)).map V.str)))/\(∀m∈r,Z m.2=none)/\(∀c o,Z c=some o->c≠u->H2 c=some o))
  {none,[],rfl,R _ _ a6,rfl,λm C=>(nomatch C),λm C=>(nomatch C),λc o e _=>e} (λi σ H2 _ {_,_,_,_,_,_,_,M}=>aL.of (M _ _ S RT)) ?_ ?_}
 .rintro i y σ H5 hy ⟨v3,r,rfl,D,f,j,G,M⟩;obtain⟨p,Ny,rfl,hi,CH,qE⟩:=gJ hy;have TV:a7 H H5:=λc o e=>M _ _ (R _ _ (Y _ _ e)) (af e v);refine{_,rfl,_,rfl,_,rfl,x,p,n,g,J,ss,ls,rfl,B.same TV,CH,Jd,hn,DP,DM,λlb rs H6 s6 f6 R6=>?_};have NK:=gu g J ss ls n p;have yk:=R6.len;refine{lb,rfl,{_,aL.of R6.l},λe he=>?_};refine ow (prs:=(aV g J ss ls n p).map pe) (λ_=>true) (λq=>q.2) (aR K lb (rs.map V.ref)) (by rw[Dt];exact R6.t) he (ao (by lia)) (λH' s'=>aL.of (s' _ _ R6.l)) (λq H7 Q' _ _ qq=>qq H7 (a7.refl _)) (λq H7 Q' _ _ _ qq=>{_,rfl,qq H7 (a7.refl _)}) (λH7 s7 h7=>?_)
  have e7:(((aV g J ss ls n p).map pe).filter λ_=>true).map (λq=>q.2)=((aV g J ss ls n p).map (·.2)).map V.str:=by
   rw[wba.mpr (λ_ _=>rfl),waf,waf];rfl
  rw[e7]at h7;have O:=s6.trans s7;have d6:=O _ _ D;have I:H5 e=none:=none_of s6 he;have T:p∉r.map (·.1):=by rw[f];exact ik nd Ny
  have TX:r.length<=900:=by have:=congrArg wdI f;rw[wa0,wag]at this;lia
  refine{_,rfl,_,rfl,u,_,rfl,jZ.k (k:=wal p) d6 (by unfold cx;rw[wa0];exact bE (by lia)),?_};have U:e≠u:=λz=>by rw[z,D]at I;cases I
  have e1:Z e=none:=by
   cases q:Z e with
   |none=>rfl
   |some o=>
    have:=M _ _ q U;rw[this]at I;cases I
  refine{_,r++[(p,e)],rfl,?_,?_,?_,?_,?_}
  .rw[a6,fH _ (ou T)];unfold cx;rw[wai];rfl
  .rw[wai,f,qE];rfl
  .intro m C;rcases waD.mp C with z |z
   .have nm:m.2≠u:=λq=>by
     have:=G m z;rw[q,R _ _ a6]at this;cases this
    rw[ae nm];exact O _ _ (j m z)
   .have:m=(p,e):=by simpa using z
    subst this;rw[ae U];exact h7
  .intro m C;rcases waD.mp C with z |z
   .exact G m z
   .have:m=(p,e):=by simpa using z
    subst this;exact e1
  .intro c o hc X;rw[ae X];exact O _ _ (M c o hc X)
 .rintro σ H5 ⟨v3,r,rfl,D,f,j,G,M⟩;rw[wa0,waG]at f;exact{_,rfl,k u r H5 (λc o e=>M _ _ (R _ _ (Y _ _ e)) (af e v)) v D f j λm C=>none_of Y (none_of R (G m C))}
theorem zj(L:Lk K mg):aS P w K mg base cP 1 L.sI L.sU ["places","weights"] (Hj K):=by
 have T:=L.T;refine L.t7.F.d7 (N:=["places","weights"]) (λj A outer s H y Q E nd n h=>?_);obtain⟨l,d,o,m,f,rfl,g,p,hd,hw,k⟩:=h;have q:=eW n;refine{_,(a9 (aw (aU (mc rfl) (by rfl) T.sum Es (aK (cG rfl (ay ["weights"] [1]) (aQ (pv 0)) (λ_ _ _ _ _ _=>bj) (λ_ _ _ _ _ _=>(d8 q (pv 1) (pv 0) (λ_ _=>rfl)))))))),?_}
 ac_rfl
 refine{_,rfl,l,rfl,{_,g},λr a=>?_};refine comp_map (K1 f) (aR K l (o.map V.str)) a (by rw[wa0];exact ao (by lia)) (λB t=>t.seq g) (λz b C u c v=>?_) (λb c i=>?_)
 .obtain⟨e,x,rfl⟩:=wab.mp u;have g3:=eA.rd (k:=(wal e:Key)) (hd.same c);rw[eK,hw e x]at g3;exact{_,rfl,_,rfl,d,_,rfl,g3,v b (a7.refl _)}
 .rw[qS]at i;exact{r,_,rfl,aL.of i,k b c}
theorem CK(L:Lk K mg):aS P w K mg base cP 2 L.ya L.yf ["ends","many","weights"] EG:=by
 have T:=L.T;refine L.yj.F.d7 (N:=["ends","many","weights","lower","place"]) (λX A outer s H vs Q E nd Y h=>?_);obtain⟨x,B,many,n,o,M,f,g,r,ss,ls,rfl,l,O,Z,Jd,nd,z4,hm2,Z5,C,k⟩:=h;have D:=eW Y
 refine{_,(a5 (ai (i:=3) da)
  (a5 (forA (tY (pv 0)) (ax (i:=4)) (a9 (ee D (pv 3) (pv 4) (aU (qH rfl) (by rfl) T.min JW (a8 (d8 D (pv 2) (pv 4) (λ_ _=>rfl)) (aK (aC iN (au (zj L) L.t7 (a8 (d8 D (pv 0) (pv 4) (λ_ _=>rfl)) (aK (pv 2)))) (pv 1))))) rfl)))
  (a9 (aw (pv 3))))),?_}
 ac_rfl
 refine λdl m=>?_;have R:a7 H (upd H dl (.dK [])):=a7.upd m;have J:=jv x o (cx M);rw[ie,O]at J;refine{_,rfl,x,_,rfl,.inr {o,R _ _ l,?_}};refine lY J (λj σ t=>∃(v4:Option V),σ=[some (.ref x),some (.int many),some (.ref B),some (.ref dl),v4]/\t dl=some (.dK (bJ (cE (mh g r ss ls many n f) (ls.take j))))/\a7 H t) ⟨none,rfl,a6,R⟩ (λj σ t _ {_,_,_,b}=>b _ _ l) ?_ ?_
 .rintro j y σ t hy ⟨v4,rfl,z,b⟩;obtain⟨p,G,rfl,hj,u,qE⟩:=gJ hy;have d:=C.same b;have g3:=eA.rd (k:=(wal p:Key)) d;rw[eK,kq f ls p u]at g3;obtain⟨a,ha,hv⟩:=i7 (mv:=M) (k:=p) (by rw[O];exact u);have S:=eA.f (k:=(wal p:Key)) (b _ _ l);rw[hv]at S;have I:=b _ _ (Z _ ha);have NK:=gu g r ss ls n p;refine{_,rfl,_,rfl,B,_,rfl,g3,_,rfl,_,rfl,x,_,rfl,S,_,rfl,a,B,(aV g r ss ls n p).map (·.2),_,f,rfl,aL.of I,by rw[wa0];lia,d,λe he=>?_,λH4 U=>?_}
  .obtain⟨q,hq,rfl⟩:=wab.mp he;exact kq f ls _ (dC hq)
  have eb:(((aV g r ss ls n p).map (·.2)).map f).sum=hH g r ss ls n f p:=by unfold hH;rw[waf];rfl
  refine{_,rfl,_,_,rfl,rfl,{by lia,by lia},_,_,rfl,?_};have h4:=U _ _ z;have v:p∉(cE (mh g r ss ls many n f) (ls.take j)).map (·.1):=by rw[qV];exact ik nd G
  refine{_,rfl,_,rfl,dl,_,rfl,jZ.k (k:=wal p) h4 (by rw[jw];unfold cE;rw[wa0,wag];exact bE (by lia)),?_};refine{_,rfl,?_,λc oc e=>?_}
  .rw[a6,qU v,eb,qE];unfold cE;rw[wai];rfl
  .rw[ae (af e m)];exact U _ _ (b _ _ e)
 .rintro σ t ⟨v4,rfl,z,b⟩;rw[wa0,waG]at z;exact{_,rfl,k dl t b m z}
theorem AY(L:Lk K mg):aS P w K mg base cP 6 L.oG L.vM ["band","many","wide","most"] (K6 L.aA):=by
 refine L.vR.F.d7 (N:=["band","many","wide","most","ends","weights","place","lower"]) (λgG A outer s H vs Q E nd hr h=>?_);obtain⟨x,many,n,most,g,v,ss,ls,rfl,B,DP,U,X,Y,Wf,k⟩:=h;have hu:=eW hr;have Oj:(A.deeper (wcc "greatest" (aH (top 51)) s.heap.objs.size L.oG gG)).units<wcp:=hr.oj
 refine{_,(a5 (b8 (au (gD L) L.fT (a8 (pv 0) (a8 (pv 1) (aK (pv 2))))))
  (a5 (ai (i:=4) (au (wV L) L.qj (a8 (pv 0) (aK (pv 2)))))
  (a5 (ai (i:=5) da)
  (a5 (forA (Ai (pv 4)) (ax (i:=6)) (a9 (ee hu (pv 5) (pv 6) (pv 3) rfl)))
  (a9 (jo wdl (bT dZ) (a5 (ai (i:=7) (au (CK L) L.yj (a8 (pv 4) (a8 (pv 1) (aK (pv 5))))))
  (a5 (b6 (cu (N5 Oj) (pv 7) (pv 5)) (a9 (aw (pv 5))) aG)
  (a9 (ai (i:=5) (pv 7))))))))))),?_}
 ac_rfl
 obtain⟨Z,rb,rc,rd,re⟩:=id Y
 have Jd:g.length^n<=64:=by
  rw[waA]at re;have:((g.length^n:Nat):Int)<=64:=by rw[wdO];exact re
  lia
 have nd:ls.Nodup:=B.nd.sublist B.lv.sub;have z4:ls.length<=900:=wak B.lv.sub.length_le X;refine{_,rfl,_,rfl,_,rfl,x,many,n,g,v,ss,ls,rfl,B,U,Y,?_};refine{_,rfl,_,rfl,x,n,g,v,ss,ls,rfl,B,by lia,by lia,DP,U,X,λd G H1 s1 TY h1 ek er ef=>?_};have Z6:∀q∈G,q.2≠d:=λq hq z=>by have:=er q hq;rw[z,h1]at this;cases this
 refine λa b=>?_;have I:d≠a:=af h1 b;have WM:(upd H1 a (.dK [])) d=some (.dK (cx G)):=a7.upd b _ _ h1;refine{_,rfl,d,_,rfl,.inl WM,λo H2 h2 l=>?_};have M:H2 a=some (.dK []):=by rw[l a (wbu I),a6]
 have s2:a7 H H2:=λc O e=>by
  rw[l c (af e TY)];exact a7.upd b _ _ (s1 _ _ e)
 have R:∀m∈G,H2 m.2=some (.lst (((aV g v ss ls n m.1).map (·.2)).map V.str)):=λm r=>by
  rw[l _ (Z6 m r)];exact a7.upd b _ _ (er m r)
 have t:H a=none:=none_of s1 b;have J:=jv d o (cx G);rw[ie,ek]at J;refine lY J (λj σ u=>∃(v6:Option V),σ=[some (.ref x),some (.int many),some (.int (n:Int)),some (.int most),some (.ref d),some (.ref a),v6,none]/\u a=some (.dK (bJ (cE (λ_=>most) (ls.take j))))/\∀c O,H2 c=some O->c≠a->u c=some O) {none,rfl,M,λc O e _=>e} (λj σ u _ {_,_,_,C}=>C _ _ h2 I) ?_ ?_
 .rintro j y σ u hy ⟨v6,rfl,h3,C⟩;obtain⟨p,Om,rfl,hj,CH,qE⟩:=gJ hy;have Ii:p∉(cE (λ_=>most) (ls.take j)).map (·.1):=by rw[qV];exact ik nd Om
  refine{_,rfl,_,rfl,_,rfl,a,_,rfl,jZ.k (k:=wal p) h3 (by rw[jw];unfold cE;rw[wa0,wag];exact bE (by lia)),?_};refine{_,rfl,?_,λc O e hc=>by rw[ae hc];exact C c O e hc};rw[a6,qU Ii,qE];unfold cE;rw[wai];rfl
 rintro σ u ⟨v6,rfl,h3,C⟩;rw[wa0,waG]at h3;have U0:=C _ _ h2 I;have s3:a7 H u:=λc O e=>C _ _ (s2 _ _ e) (af e t);have KL:∀m∈G,m.2≠a:=λm r z=>by have:=R m r;rw[z,M]at this;cases this
 have RU:∀m∈G,u m.2=some (.lst (((aV g v ss ls n m.1).map (·.2)).map V.str)):=λm r=>C _ _ (R m r) (KL m r);clear C h2 M R er h1 l WM J b
 refine{λq σ H4=>∃(a:Addr) (f:Str->Int) (v6 v7:Option V),q=(ls.map λp=>(f p).toNat).sum/\σ=[some (.ref x),some (.int many),some (.int (n:Int)),some (.int most),some (.ref d),some (.ref a),v6,v7]/\a7 u H4/\H a=none/\H4 a=some (.dK (bJ (cE f ls)))/\(∀p∈ls,0<=f p)/\(∀p∈ls,f p<=most)/\(∀h:Str->Int,(∀p∈ls,h p<=most)->FR g v ss ls many n h->∀p∈ls,h p<=f p),
  {_,a,λ_=>most,v6,none,rfl,rfl,a7.refl _,t,h3,λ_ _=>Wf,λ_ _=>weZ _,λh hh _ p hp=>hh p hp},?_}
 rintro q σ H4 ⟨a,f,v6,v7,rfl,rfl,s4,t,h4,S,WN,WO⟩;refine{true,rfl,eD ?_};refine{λσ' H'=>∃(dl:Addr) (v6 v7:Option V),σ'=[some (.ref x),some (.int many),some (.int (n:Int)),some (.int most),some (.ref d),some (.ref dl),v6,v7]/\a7 u H'/\H dl=none/\H' dl=some (.dK (bJ (cE (mh g v ss ls many n f) ls)))/\¬∀p∈ls,mh g v ss ls many n f p=f p,?_,?_}
 .rintro σ' H' ⟨dl,v6,v7,rfl,s',T,h',BA⟩;exact{_,N8 Z S BA,dl,_,_,_,rfl,rfl,s',T,h',Hm Z S,λp hp=>we4 (Hl many n f p) (WN p hp),λh hh D=>EF Z D (WO h hh D)}
 .refine{_,rfl,_,rfl,_,rfl,d,a,many,n,o,G,f,g,v,ss,ls,rfl,s4 _ _ U0,ek,λm r=>s4 _ _ (RU m r),by lia,nd,z4,Z,rb,.inl h4,λdl H5 s5 T h5=>?_};have WQ:=s5 _ _ h4;refine{_,rfl,_,rfl,dl,a,_,_,rfl,rfl,.inl h5,.inl WQ,uU _,uU _,_,rfl,?_};refine uz (λhe=>?_) (λhe=>?_)
  .have e:=Lr.mp he;exact{_,rfl,k a f H5 ((s3.trans s4).trans s5) t WQ {S,WN,K5 Z e,WO}}
  .exact{_,rfl,dl,_,_,rfl,s4.trans s5,none_of s3 (none_of s4 T),h5,λe=>he (Lr.mpr e)}
theorem n8(L:Lk K mg):aS P w K mg base cP 5 L.nO L.nX ["band","many","wide","weights"] (Kf K L.aA L.aE):=by
 refine L.jg.F.d7 (N:=["band","many","wide","weights","homes","lines","place","blocks"]) (λgG A outer s H vs Q E nd hr h=>?_);obtain⟨x,d,many,n,m,f,g,u,ss,ls,rfl,B,DP,DM,wQ,Iw,hd,hw,k⟩:=h;have hu:=eW hr
 refine{_,(a5 (b8 (au (gD L) L.fT (a8 (pv 0) (a8 (pv 1) (aK (pv 2))))))
  (a5 (ai (i:=4) (cG rfl (ay ["weights"] [3]) (aQ (eV (pv 0) L.aJ.cl L.j6 (kL L))) (λ_ _ _ _ _ _=>gB (cu lV (d8 hu (pv 1) (pv 0) (λ_ _=>rfl)) aq)) (λ_ _ _ _ _ _=>(pv 0))))
  (a5 (ai (i:=5) (cA eC))
  (a5 (forA (aQ (pv 4)) (ax (i:=6)) (a5 (ai (i:=7) (au (n7 L) L.jf (a8 (pv 0) (a8 (pv 6) (aK (pv 2))))))
  (a9 (b8 (hF waN waU waY cL (pv 5) (aK (fK rfl (ay ["homes"] [4]) (ay ["homes"] [4]) ⋯ (aQ (pv 7)) (λ_ _ _ _ _ _=>gB (eZ (ic (K:=K) rfl) (pv 1) (pv 2) rfl)) (λ_ _ _ _ _ _=>(dX (a8 (pv 0) (aK (Hr (K:=K) rfl waN wd7 wfV (EI (K:=K) rfl) (pv 2) (aK (pv 1))))))))))))))
  (a9 (aw (nh L.vU (fY L) (hr.mono ⋯) rfl L.zc L.eN.b .nil p5 (a8 (pv 4) (a8 (cG rfl (ay ["weights"] [3]) (aQ (pv 4)) (λ_ _ _ _ _ _=>bj) (λ_ _ _ _ _ _=>(d8 hu (pv 1) (pv 0) (λ_ _=>rfl)))) (aK (pv 5))))))))))),?_}
 ac_rfl
 obtain⟨ra,rb,rc,rd,re⟩:=id Iw
 have Jd:g.length^n<=64:=by
  rw[waA]at re;have:((g.length^n:Nat):Int)<=64:=by rw[wdO];exact re
  lia
 have z4:ls.length<=900:=wak B.lv.sub.length_le wQ;refine{_,rfl,_,rfl,_,rfl,x,many,n,g,u,ss,ls,rfl,B,DM,Iw,?_};obtain⟨⟨dx,b,d0,q,mv,h1,h2,h3,h4,h5,h6⟩,pm,_,_⟩:=id B;refine{_,rfl,x,dx,_,rfl,h1,Bf _ _ _ _ ∅ ∅ ∅ ∅,x,g,u,ss,ls,rfl,B,λlv H1 s1 f1 hv=>?_};refine{lv,rfl,{_,aL.of hv},λS Ou=>?_};refine dN (λv=>match v with |.str p=>decide (0<f p) |_=>false) (λv=>v) (aR K lv (ls.map V.str)) Ou (by rw[wa0];exact ao (by lia)) (λH' s'=>aL.of (s' _ _ hv)) (λz J Q' hz s2 Y=>?_) (λz J Q' hz _ s2 Y=>{_,rfl,Y J (a7.refl _)}) (λJ s2 hh=>?_)
 .obtain⟨p,hp,rfl⟩:=wab.mp hz;have g3:=eA.rd (k:=(wal p:Key)) (hd.same (s1.trans s2));rw[eK,hw p hp]at g3;have q2:Q' (decide (0<f p)) J:=Y J (a7.refl _);exact{_,rfl,_,rfl,d,_,rfl,g3,_,_,rfl,rfl,_,rfl,q2}
 have Z7:((ls.map V.str).filter (λv=>match v with |.str p=>decide (0<f p) |_=>false)).map (λv=>v)=(av ls f).map V.str:=by
  rw[we3,weK];rfl
 rw[Z7]at hh;have WR:(av ls f).length<=900:=wak (wb2 _ _) z4;have QF:∀p∈av ls f,p∈ls:=λp hp=>(war.mp hp).1;have Ow:=s1.trans s2;refine{waz _,λC D=>?_};have sb:a7 J (upd J C (.lst [])):=a7.upd D;have Z:(upd J C (.lst [])) C=some (.lst []):=a6;generalize upd J C (.lst [])=Hb at sb Z;have Z8:S≠C:=af hh D
 refine{_,rfl,S,rfl,{_,aL.of (sb _ _ hh)},d9 (K:=K) (a:=S) (xs:=(av ls f).map V.str) (λj σ H3=>∃(v6 v7:Option V) (as:List V),σ=[some (.ref x),some (.int many),some (.int (n:Int)),some (.ref d),some (.ref S),some (.ref C),v6,v7]/\H3 C=some (.lst as)/\(∀c o,Hb c=some o->c≠C->H3 c=some o)/\bA K (aM Hb H3) (((av ls f).take j).map λp=>bY (gw g u ss ls n (av ls f) p)) as)
  {none,none,[],rfl,Z,λc o e _=>e,rfl} (λj σ H3 _ {_,_,_,_,_,kk,_}=>aL.of (kk _ _ (sb _ _ hh) Z8)) ?_ ?_}
 .rintro j y σ H3 hy ⟨v6,v7,as,rfl,Uv,kk,hR⟩;obtain⟨p,Om,rfl,hj,CH,qE⟩:=gJ hy;have M:a7 J H3:=λc o e=>kk _ _ (sb _ _ e) (af e D);have B3:=B.same (Ow.trans M);refine{_,rfl,_,rfl,_,rfl,x,p,n,g,u,ss,ls,rfl,B3,QF p CH,by lia,by lia,DP,DM,λlb rb T G f4 R4=>?_};have I:=G _ _ Uv;have NK:=gu g u ss ls n p
  have RV:as.length=j:=by
   rw[hR.len,wa0,wag]
   lia
  refine{_,rfl,.inl {rfl,_,aL.of I},_,rfl,lb,rfl,{_,aL.of R4.l},λlc KD=>?_};have O:T S=some (.lst ((av ls f).map V.str)):=G _ _ (M _ _ hh);refine jy (prs:=(aV g u ss ls n p).map pe) (λq=>oR q.2 ((av ls f).map V.str)) (λq=>.tup [.at q.1,.at (.int (match q.2 with |.str e=>((av ls f).idxOf e:Nat) |_=>0))]) (aR K lb (rb.map V.ref)) (by rw[wa0,wa0,R4.len]) (λi q U=>?_) KD (by rw[wa0,R4.len];exact ao (by lia)) (λH' s'=>aL.of (s' _ _ R4.l)) (λq R Q' U X Y=>?_) (λq R Q' U Z9 X Y=>?_) (λR X r5=>?_)
  .have hi:i<rb.length:=by have:=(wa6.mp U).1;rw[wa0,<-R4.len]at this;exact this
   rw[wa4]at U
   cases e:(aV g u ss ls n p)[i]? with
   |none=>rw[e]at U;cases U
   |some z=>
    rw[e]at U;cases U;refine{rb[i],by rw[wa4,wa1 hi];rfl,gA.of (R4.t.2 i rb[i] (me z) (wa1 hi) (by rw[wa4,e];rfl))}
  .obtain⟨z,hz,rfl⟩:=wab.mp U;exact{_,rfl,_,rfl,S,_,rfl,.inl (aL.of (X _ _ O)),rfl,fm _,_,rfl,Y R (a7.refl _)}
  .obtain⟨z,hz,rfl⟩:=wab.mp U
   have hm:z.2∈av ls f:=by
    have:oR (.str z.2) ((av ls f).map V.str)=true:=Z9;rw[jr]at this;exact of_decide_eq_true this
   obtain⟨i1,i2⟩:=qX hm;refine{_,rfl,_,rfl,.inl {rfl,_,aL.of (X _ _ O)},_,rfl,S,av ls f,z.2,(av ls f).idxOf z.2,rfl,rfl,aL.of (X _ _ O),by lia,i1,i2,by show 2<=sizeLine;decide,λr hr=>?_};exact Y _ _ (a7.upd hr) (mi hr (z.1,(av ls f).idxOf z.2))
  have el:((((aV g u ss ls n p).map pe).filter λq=>oR q.2 ((av ls f).map V.str)).map λq=>ku.tup [.at q.1,.at (.int (match q.2 with |.str e=>((av ls f).idxOf e:Nat) |_=>0))])=(gw g u ss ls n (av ls f) p).map kU:=by
   unfold gw;rw[weK,waf,waf]
   have ep:((λq:V×V=>oR q.2 ((av ls f).map V.str)) ∘ pe)=λq:Str×Str=>decide (q.2∈av ls f):=by
    funext q;exact jr q.2 _
   rw[ep];rfl
  rw[el]at r5;refine{C,_,_,rfl,rfl,X _ _ I,by rw[RV];exact wbi (show j<=900 by lia) (by rw[wc4];decide),?_};have WT:=G.trans X;have WU:=X _ _ I;have kp:∀c o,R c=some o->c≠C->(upd R C (.lst (as++[.ref lc]))) c=some o:=λc o e hc=>by rw[ae hc];exact e
  refine{_,_,as++[.ref lc],rfl,a6,λc o e hc=>kp _ _ (WT _ _ (kk c o e hc)) hc,?_};rw[qE,wai];refine i9 (bA.same ((ip WT).trans (bQ Z kp)) _ _ hR) ?_
  have old:a7 (aM T R) (aM Hb R):=λc o e=>by
   unfold aM at e ⊢
   cases q:Hb c with
   |none=>
    cases q2:T c with
    |none=>rw[q2]at e;exact e
    |some z=>rw[q2]at e;cases e
   |some z=>
    by_cases hc:c=C
    .rw[hc,I]at e;cases e
    .rw[G _ _ (kk _ _ q hc)]at e;cases e
  exact bM.same (old.trans (bQ Z kp)) _ _ r5
 .rintro σ H3 ⟨v6,v7,as,rfl,Uv,kk,hR⟩;rw[wa0,waG]at hR;have M:a7 J H3:=λc o e=>kk _ _ (sb _ _ e) (af e D);have zi:=Ow.trans M;have Uw:=M _ _ hh;refine{_,rfl,_,rfl,S,rfl,{_,aL.of Uw},λlw NA=>?_};refine comp_map (K1 f) (aR K S ((av ls f).map V.str)) NA (by rw[wa0];exact ao (by lia)) (λH' s'=>aL.of (s' _ _ Uw)) (λz T Q' hz G Y=>?_) (λT G QB=>?_)
  .obtain⟨p,hp,rfl⟩:=wab.mp hz;have g3:=eA.rd (k:=(wal p:Key)) (hd.same (zi.trans G));rw[eK,hw p (QF p hp)]at g3;exact{_,rfl,_,rfl,d,_,rfl,g3,Y T (a7.refl _)}
  rw[qS]at QB;have I:=G _ _ Uv;have Za:=G _ _ Uw;refine{_,rfl,λy dy ny Ui YV=>?_};have sm:a7 T (upd (upd T dy (.own y)) y (.ins L.aE dy [])):=fo ny Ui;refine{y,dy,.ref S,.ref lw,.ref C,av ls f,(av ls f).map f,bG g u ss ls n (av ls f),rfl,a6,pj (sm _ _ Za),jz (sm _ _ QB),?_,by lia,by rw[wa0];lia,by unfold bG;rw[wa0];lia,?_,λa' b' c' R Ux r1 r2 r3 Zb=>{rfl,?_}}
  .have Zc:bA K T ((av ls f).map λp=>bY (gw g u ss ls n (av ls f) p)) as:=bA.same ((cf _ _).trans G) _ _ hR;refine{C,as,rfl,.inl (sm _ _ I),?_}
   have e:(bG g u ss ls n (av ls f)).map bY=(av ls f).map λp=>bY (gw g u ss ls n (av ls f) p):=by
    unfold bG;rw[waf];rfl
   rw[e];exact bA.same sm _ _ Zc
  .intro l hl;obtain⟨p,_,rfl⟩:=wab.mp hl;have:=Cg g u ss ls n (av ls f) p
   lia
  .have X:a7 T R:=λc o e=>Zb _ _ (sm _ _ e) (af e ny);refine k y R (zi.trans (G.trans X)) ?_;have Ul:H y=none:=none_of (zi.trans G) ny;have nw:=λ(d:ku) (v:V) (r:bM K (aM _ R) d v)=>bM.same (eM ((zi.trans G).trans sm)) d v r;exact{dy,a',b',c',bX Ul Ux,nw _ _ r1,nw _ _ r2,nw _ _ r3}
theorem zk(L:Lk K mg):aS P w K mg base cP 1 L.sJ L.sV ["sheet"] (Nq K L.aE):=by
 have T:=L.T;refine L.t8.F.d7 (N:=["sheet","heaviest","desk","line","number","step"]) (λgG A outer s H vs Q E nd hr h=>?_);obtain⟨x,hs,g,b,rfl,S,A5,he,BA,hex,k⟩:=h
 refine{_,(a5 (ai (i:=1) (aU (EC rfl) (by rfl) T.max Ds (aK (az (pv 0) rfl))))
  (a5 (forA (kc (by rfl) T.enum (aK (az (pv 0) rfl))) (dU rfl (aP (ax (i:=2)) (aP (ax (i:=3)) cQ))) (a9 (forA (kc (by rfl) T.enum (aK (pv 3))) (dU rfl (aP (ax (i:=4)) (aP (ax (i:=5)) cQ))) (a9 (b6 (PW.pt (uf (cu rJ (bc bD (az (pv 0) rfl) (pv 2) (λ_ _=>rfl)) (pv 1)) (oV (cu iO (bc bD (az (pv 0) rfl) (bc fG (pv 5) aq (λ_ _=>rfl)) (λ_ _=>rfl)) (pv 1))))) (a9 (aw (dX (a8 (pv 2) (aK (pv 4)))))) aG)))))
  (a9 (aw dn)))),?_}
 ac_rfl
 obtain⟨dx,ah,bw,cl,hx,rh,Jb,rl⟩:=id S;obtain⟨Wh,eb,hb⟩:=iq Jb;cases eb;obtain⟨Qs,xs,ec,hc,R⟩:=id rl;cases ec;have xl:xs.length=b.length:=by rw[R.len,wa0]
 refine{_,rfl,x,L.aE,dx,_,_,rfl,hx,L.aB.cl,L.aB.dg,cI ah bw cl,bw,g,rfl,hb,BA,λM hM hT=>?_};have U:∀n:Nat,n<g.length->uq (g.map V.int) (n:Int)=some (.int (g.getD n 0)):=λn hn=>bC (by rw[wa4,wa1 hn,wa3,wa1 hn];rfl);refine{_,rfl,x,L.aE,dx,_,_,rfl,hx,L.aB.cl,L.aB.cR,bS ah bw cl,cl,xs,rfl,.inl hc,m3 (K:=K) (a:=cl) (xs:=xs) (λi σ X=>a7 H X/\(∃v2 v3 v4 O,σ=[some (.ref x),some (.int M),v2,v3,v4,O])/\∀d f c q,Down g b M d f c q->i<=d) {a7.refl _,⟨none,none,none,none,rfl⟩,λ_ _ _ _ _=>waz _} (λi σ X _ p=>p.1.seq (.inl hc)) ?_ (λσ X p=>?_)}
 .rintro d y σ X T hy ⟨s2,⟨v2,v3,v4,O,rfl⟩,C⟩ Zd;have hd:d<xs.length:=(wa6.mp hy).1;have Ij:d<b.length:=by lia
  have Y:b[d]?=some (b.getD d []):=by rw[wa3,wa1 Ij];rfl
  obtain⟨v,Z,rd⟩:=R.at (i:=d) (d:=bY (b.getD d [])) (by rw[wa4,Y];rfl);rw[hy]at Z;cases Z;obtain⟨a,B,rfl,hS,QG⟩:=dQ rd;have WH:B.length=(b.getD d []).length:=by rw[QG.1,wa0,wa0]
  have Uq:∀q∈b.getD d [],q.2<g.length:=he _ (wa8 Y);have s3:=s2.trans (a7.upd (o:=.tup [.int (d:Nat),.ref a]) Zd);refine{T,_,rfl,gA.of a6,rfl,_,_,rfl,_,_,rfl,rfl,?_};generalize upd X T (.tup [.int (d:Nat),.ref a])=H3 at s3;refine{_,rfl,a,_,rfl,s3.seq hS,m3 (K:=K) (a:=a) (xs:=B.map V.ref) (λi σ H4=>a7 H H4/\(∃v4 O,σ=[some (.ref x),some (.int M),some (.int (d:Int)),some (.ref a),v4,O])/\∀f c q,Down g b M d f c q->i<=f) {s3,{_,_,rfl},λ_ _ _ _=>waz _} (λi σ H4 _ p=>p.1.seq hS) ?_ (λσ H4 p=>?_)}
  .rintro i y σ H4 T2 G ⟨s4,⟨v4,O,rfl⟩,j⟩ Ze;have hi:i<B.length:=by have:=(wa6.mp G).1;rwa[wa0]at this
   have I:i<(b.getD d []).length:=by lia
   rw[wa4,wa1 hi]at G;cases G;have QC:H B[i]=some (.tup [.str (b.getD d [])[i].1,.int ((b.getD d [])[i].2:Int)]):=QG.2 i B[i] (jx (eF (b.getD d [])[i])) (wa1 hi) (by rw[wa4,wa4,wa1 I];rfl);have J:(b.getD d [])[i]?=some (b.getD d [])[i]:=wa1 I;have LJ:=Uq _ (waL I);generalize (b.getD d [])[i]=q at QC J LJ;have m:=s4.trans (a7.upd (o:=.tup [.int (i:Nat),.ref B[i]]) Ze);refine{T2,_,rfl,gA.of a6,rfl,_,_,rfl,_,_,rfl,rfl,?_};generalize upd H4 T2 (.tup [.int (i:Nat),.ref B[i]])=H5 at m
   have L6:(¬∃c q,Down g b M d i c q)->∀f c q,Down g b M d f c q->i+1<=f:=λhn f c q hD=>by
    have:=j f c q hD
    by_cases e:f=i
    .subst e;exact absurd ⟨c,q,hD⟩ hn
    .lia
   refine{_,rfl,x,L.aE,dx,_,_,rfl,m _ _ hx,L.aB.cl,L.aB.dg,cI ah bw cl,_,rfl,bw,_,_,_,rfl,rfl,m.seq hb,U d (by lia),_,rfl,?_}
   by_cases r:g.getD d 0=M
   .refine{rfl,true,congrArg V.bl (decide_eq_true (by rw[r])),eD ?_};refine{_,rfl,x,L.aE,dx,_,_,rfl,m _ _ hx,L.aB.cl,L.aB.dg,cI ah bw cl,_,rfl,B[i],_,_,_,rfl,rfl,gA.of (m _ _ QC),rfl,bw,_,_,_,rfl,rfl,m.seq hb,U q.2 LJ,_,rfl,_,_,rfl,rfl,?_}
    by_cases u:g.getD q.2 0<M
    .refine{true,congrArg V.bl (decide_eq_true u),eD ?_};refine{_,rfl,_,rfl,by show 2<=sizeLine;decide,λt ht=>?_};exact k t M d i _ q _ (m.trans (a7.upd ht)) a6 ⟨hM,hT,Y,J,r,u⟩
    .refine{false,congrArg V.bl (decide_eq_false u),bx ?_};refine{m,{_,_,rfl},L6 ?_};rintro⟨c,q',D⟩;have e1:=D.l;rw[Y]at e1;cases e1;have e2:=D.s;rw[J]at e2;cases e2;exact u D.lt
   .refine{rfl,false,congrArg V.bl (decide_eq_false λz=>r (V.int.inj z)),bx ?_};refine bx {m,{_,_,rfl},L6 ?_};rintro⟨c,q',D⟩;exact r D.e
  .obtain⟨s4,⟨v4,O,rfl⟩,j⟩:=p;refine{s4,{_,_,_,_,rfl},λd' f c q D=>?_};have:=C d' f c q D
   by_cases e:d'=d
   .subst e;have:=j f c q D;have e1:=D.l;rw[Y]at e1;cases e1;have:=(wa6.mp D.s).1;rw[wa0]at *
    lia
   .lia
 .obtain⟨s2,_,C⟩:=p;obtain⟨d,i,c,q,D⟩:=hex M hM hT;have:=C d i c q D;have:=(wa6.mp D.l).1
  lia
theorem Fo(L:Lk K mg):aS P w K mg base cP 1 L.AD L.AH ["weights","numbers","many"] (Qm K):=by
 have T:=L.T;refine L.AK.F.d7 (N:=["weights","numbers","many","taken_at","total","taken","number"]) (λgG A outer s H vs Q E nd hr h=>?_);obtain⟨a,b,many,wl,d,rfl,hA,I,m1,m2,J,M,k⟩:=h;have O:=eW hr
 refine{_,(a5 (ai (i:=3) (Dc (zT aq aq D8) rfl rfl (by simp) ⋯))
  (a5 (ai (i:=4) aq)
  (a5 (forA (HE (by rfl) T.enum (aK (pv 1))) (dU rfl (aP (ax (i:=5)) (aP (ax (i:=6)) cQ))) (a5 (uh (i:=4) nd rfl (wdW rfl) (bc bD (pv 0) (pv 6) (λ_ _=>rfl)) G6)
  (a5 (b6 (yt (Go O (aC cN (pv 4) (pv 2)) (pv 3))) (a9 (aw (bK hX (pv 1) (bg (d8 O (pv 3) (aC cN (pv 4) (pv 2)) (λ_ _=>rfl))) (bg (pv 5))))) aG)
  (a9 (ee O (pv 3) (aC cN (pv 4) (pv 2)) (pv 5) rfl)))))
  (a9 (aw (cA eC)))))),?_}
 ac_rfl
 have l:(0:Int)<many:=by lia
 refine λg m=>{a6,[((wb8 0:Key),V.int 0)],rfl,⋯,?_};have R:a7 H (upd (upd H g (.dK [])) g (.dK (k6 [] [((wb8 0:Key),V.int 0)]))):=λc o e=>by rw[ae (af e m),ae (af e m)];exact e
 have h0:(upd (upd H g (.dK [])) g (.dK (k6 [] [((wb8 0:Key),V.int 0)]))) g=some (.dK (dR many (kD wl d) 1)):=by
  rw[a6];refine congrArg (λz=>some (HO.dK z)) ?_;show [((wb8 0:Key),V.int 0)]=[((wb8 (0%many):Key),V.int 0)];rw[Int.zero_emod]
 generalize upd (upd H g (.dK [])) g (.dK (k6 [] [((wb8 0:Key),V.int 0)]))=H0 at R h0;refine{_,rfl,b,_,rfl,R.seq I,EW (K:=K) (a:=b) (xs:=(nI d).map V.int) (λj σ q=>a7 H q/\(∃S v6,σ=[some (.ref a),some (.ref b),some (.int many),some (.ref g),some (.int (kD wl d j)),S,v6])/\q g=some (.dK (dR many (kD wl d) (j+1)))/\∀i k,i<k->k<=j->kD wl d i%many≠kD wl d k%many) {R,⟨none,none,rfl⟩,h0,λi k Y C=>by lia} (λi σ q _ p=>p.1.seq I) ?_ (λσ q p=>?_)}
 .rintro j y σ q T U ⟨Z,⟨S,v6,rfl⟩,C,f⟩ hT;have hj:j<d.length:=by have:=(wa6.mp U).1;rwa[wa0,bL]at this
  have r:d[j]?=some d[j]:=wa1 hj;rw[vp r]at U;cases U;have t:=M _ (waL hj);have x:=F5 (wl:=wl) r;generalize d[j]=n at r t x;have u:=Z.trans (a7.upd (o:=.tup [.int ((j+1:Nat):Int),.int (n:Int)]) hT);have D:(upd q T (.tup [.int ((j+1:Nat):Int),.int (n:Int)])) g=some (.dK (dR many (kD wl d) (j+1))):=a7.upd hT _ _ C;refine{T,_,rfl,gA.of a6,rfl,_,_,rfl,_,_,rfl,rfl,?_};generalize upd q T (.tup [.int ((j+1:Nat):Int),.int (n:Int)])=H3 at u D;refine{_,rfl,_,rfl,_,rfl,a,_,_,_,rfl,rfl,u.seq hA,bC (v:=.int (wl.getD n 0)) (by rw[wa4,wa1 t,wa3,wa1 t];rfl),_,_,rfl,rfl,?_};dsimp only;rw[<-x];refine{_,rfl,_,rfl,_,_,rfl,rfl,l,_,rfl,g,_,rfl,eA.k (k:=(wb8 (kD wl d (j+1)%many):Key)) D,?_};rcases HQ many (kD wl d) (j+1) (kD wl d (j+1)%many) with⟨G,B⟩ |⟨i,hi,X,G⟩
  .rw[G];refine{false,rfl,bx ?_};refine{_,rfl,_,rfl,_,rfl,_,rfl,_,_,rfl,rfl,l,g,_,rfl,jZ.k (k:=wb8 (kD wl d (j+1)%many)) D (by rw[Nu];exact bE (by lia)),?_};rw[Nt G];refine{λc o e=>by rw[ae (af e m)];exact u _ _ e,{_,_,rfl},a6,λi k Y C=>?_}
   by_cases e:k=j+1
   .subst e;exact B i (by lia)
   .exact f i k Y (by lia)
  .have hg:=eA.k (k:=(wb8 (kD wl d (j+1)%many):Key)) D;rw[G]at hg ⊢;refine{true,rfl,eD ?_};refine{_,rfl,_,rfl,_,rfl,_,rfl,_,_,rfl,rfl,l,g,_,rfl,hg,_,rfl,_,rfl,_,rfl,b,_,rfl,u.seq I,λp hp=>?_};rw[HR _ (by lia) (by rw[bL];lia),Dz,Kq];exact k p i (j+1) _ (u.trans (a7.upd hp)) (none_of u hp) (by lia) (by lia) (HP (by lia) X) a6
 .obtain⟨Z,⟨S,v6,rfl⟩,C,f⟩:=p;rw[wa0,bL]at f;exact absurd (Cy l J f) id
theorem wW(L:Lk K mg):aS P w K mg base cP 2 L.pN L.q9 ["sheet","many"] (Nr K L.aE):=by
 have T:=L.T;refine L.ql.F.d7 (N:=["sheet","many","found","desk","weights","others","numbers"]) (λgG A outer s H vs Q E nd hr h=>?_);obtain⟨x,many,hs,c,u,rfl,S,B,hK,BA,hn,hm,m1,m2,k⟩:=h
 refine{_,(a5 (ai (i:=2) (au (zk L) L.t8 (aK (pv 0))))
  (a5 (ai (i:=3) (bc fG (pv 2) aq (λ_ _=>rfl)))
  (a5 (ai (i:=4) (fK rfl (ay ["sheet"] [0]) (ay ["sheet"] [0]) ⋯ (aQ (bc bD (az (pv 0) rfl) (pv 3) (λ_ _=>rfl))) (λ_ _ _ _ _ _=>bj) (λ_ _ _ _ _ _=>(bc (gH (K:=K) rfl) (nj (K:=K) rfl (pv 2) rfl) (pv 1) (λ_ _=>rfl)))))
  (a5 (du (i:=5) rfl (ay ["found"] [2]) nd rfl rfl (bZ rfl T.range (aK (zD T.len (pv 4)))) (λ_ _ _ _ _ _=>gB (cu zJ (pv 0) (bc (Ks (K:=K) rfl) (pv 1) aq (λ_ _=>rfl)))) (λ_ _ _ _ _ _=>(pv 0)))
  (a5 (ai (i:=6) (au (Fo L) L.AK (a8 (pv 4) (a8 (aC Bu (cA (aK (bc fG (pv 2) aq (λ_ _=>rfl)))) (bK hX (pv 5) f5 (bg (aC gk (pv 1) aq)))) (aK (pv 1))))))
  (a9 (aw (dX (a8 (pv 3) (a8 (pv 6) (aK (aC iN (aU (mc rfl) (by rfl) T.sum Es (aK (cG rfl (ay ["weights"] [4]) (aQ (pv 6)) (λ_ _ _ _ _ _=>bj) (λ_ _ _ _ _ _=>(bc (gH (K:=K) rfl) (pv 1) (pv 0) (λ_ _=>rfl)))))) (pv 1))))))))))))),?_}
 ac_rfl
 obtain⟨dx,ah,bw,cl,hx,rh,Jb,rl⟩:=id S;obtain⟨Wh,eb,hb⟩:=iq Jb;cases eb;obtain⟨Qs,xs,ec,hc,wB⟩:=id rl;cases ec;have O:=B.w;have z4:=B.l;have xl:xs.length=u.length:=by rw[wB.len,wa0]
 have Zf:c≠[]:=λz=>BA (wbB (by rw[<-O,z];rfl));refine{_,rfl,x,hs,c,u,rfl,S,by lia,λl hl q hq=>by rw[O];exact B.e l hl q hq,Zf,λh hh ht=>?_,λt h d i b q H1 R ht D=>?_}
 .obtain⟨d,i,b,q,e1,e2,e3,e4⟩:=Av B hK hh ht m1;exact⟨d,i,b,q,hh,ht,e1,e2,e3,e4⟩
 have hd:d<u.length:=(wa6.mp D.l).1;have hi:i<b.length:=(wa6.mp D.s).1;have Oq:b∈u:=wa8 D.l;have LJ:=hm b Oq;have WV:=y7 B D;have hT:=gA.of (K:=K) ht;refine{_,rfl,t,_,_,_,rfl,rfl,hT,rfl,?_};obtain⟨v,NF,rd⟩:=wB.at (i:=d) (d:=bY b) (by rw[wa4,D.l];rfl);obtain⟨a,rs,rfl,hS,QG⟩:=dQ rd;have yk:rs.length=b.length:=by rw[QG.1,wa0,wa0]
 refine{_,rfl,x,L.aE,dx,_,_,rfl,R _ _ hx,L.aB.cl,L.aB.cR,bS ah bw cl,_,rfl,cl,xs,_,_,rfl,rfl,R.seq (.inl hc),bC NF,a,rfl,{_,R.seq hS},λlc KD=>?_};refine ow (prs:=b.map eF) (λ_=>true) (λq=>match q.2 with |.int e=>.int (c.getD e.toNat 0) |_=>.non) (aR K a (rs.map V.ref)) (QG.same R) KD (ao (by lia)) (λH' s'=>(R.trans s').seq hS) (λq H7 Q' _ _ m=>m H7 (a7.refl _)) (λq H7 Q' hq _ s7 m=>?_) (λH7 s7 h7=>?_)
 .obtain⟨U,Zg,rfl⟩:=wab.mp hq;have C:U.2<c.length:=by rw[O];exact B.e b Oq U Zg
  have S0:uq (c.map V.int) (U.2:Int)=some (.int (c.getD U.2 0)):=bC (by rw[wa4,wa1 C,wa3,wa1 C];rfl)
  have q2:Q' (.int (c.getD U.2 0)) H7:=by
   have:=m H7 (a7.refl _);rwa[show (eF U).2=.int (U.2:Int) from rfl]at this
  have G:=R.trans s7;exact{_,rfl,x,L.aE,dx,_,_,rfl,G _ _ hx,L.aB.cl,L.aB.dg,cI ah bw cl,_,rfl,bw,_,_,_,rfl,rfl,G.seq hb,S0,q2}
 have e7:((b.map eF).filter λ_=>true).map (λq=>match q.2 with |.int e=>V.int (c.getD e.toNat 0) |_=>.non)=(b.map λq=>c.getD q.2 0).map V.int:=by
  rw[wba.mpr (λ_ _=>rfl),waf,waf];rfl
 rw[e7]at h7;have G:=R.trans s7;have WW:=s7.Ke hT;have g:(b.map λq=>c.getD q.2 0).length=b.length:=wa0 _;refine{_,rfl,lc,_,rfl,.inl (aL.of h7),_,rfl,by lia,by rw[wa0,g];lia,λlo MO=>?_};have en:((((b.map λq=>c.getD q.2 0).map V.int).length:Nat):Int).toNat=b.length:=by rw[wa0,g,waA]
 rw[en];refine dN (λv=>!decide (v=.int (i:Int))) (λv=>v) (k8 0 b.length) MO (ao (by rw[wa0,waC];lia)) (λ_ _=>wbw) (λy I Q' hy X m=>?_) (λy I Q' hy _ X m=>{_,rfl,m I (a7.refl _)}) (λI X h8=>?_)
 .obtain⟨n,Bg,rfl⟩:=wab.mp hy;exact{_,rfl,_,rfl,t,_,_,_,rfl,rfl,X.Ke WW,rfl,rfl,_,rfl,m I (a7.refl _)}
 have e8:(((wao b.length).map λi:Nat=>V.int (0+(i:Nat))).filter λv=>!decide (v=.int (i:Int)))=(nI (restOf b.length i)).map V.int:=by
  have e9:((wao b.length).map λi:Nat=>V.int (0+(i:Nat)))=(nI (wao b.length)).map V.int:=by
   rw[<-vv];exact waZ λn _=>by rw[wbN]
  rw[e9,y6 (f:=λn=>decide (n≠i)) λn=>?_]
  .rfl
  .by_cases z:n=i
   .subst z;simp
   .have:¬V.int (n:Int)=V.int (i:Int):=λy=>z (by have:=V.int.inj y;lia);rw[decide_eq_false this,decide_eq_true z];rfl
 rw[we3,e8]at h8;have NM:=G.trans X;have Zh:=X.Ke WW;have WX:=X _ _ h7;refine{_,rfl,_,rfl,t,_,_,_,rfl,rfl,Zh,rfl,by show 1<=sizeLine;decide,λl1 Nz=>?_};have s9:=a7.upd (H:=I) (o:=.lst [V.int (i:Int)]) Nz;have h9:(upd I l1 (.lst [V.int (i:Int)])) l1=some (.lst [V.int (i:Int)]):=a6;generalize upd I l1 (.lst [V.int (i:Int)])=H9 at s9 h9;have Zi:many-1=(((many-1).toNat:Nat):Int):=by lia
 refine{_,rfl,_,rfl,_,_,rfl,rfl,(((many-1).toNat:Nat):Int),congrArg V.int Zi,lo,_,rfl,aL.of (s9 _ _ h8),λl2 Uy=>?_};rw[Dn,<-wdH,Dz];have Y:=a7.upd (H:=H9) (o:=.lst ((nI ((restOf b.length i).take (many-1).toNat)).map V.int)) Uy;have Iy:(upd H9 l2 (.lst ((nI ((restOf b.length i).take (many-1).toNat)).map V.int))) l2=some (.lst ((nI ((restOf b.length i).take (many-1).toNat)).map V.int)):=a6;generalize upd H9 l2 (.lst ((nI ((restOf b.length i).take (many-1).toNat)).map V.int))=Z at Y Iy;have KC:=Ay (k:=(many-1).toNat) hi (by lia);refine{l1,l2,_,_,rfl,rfl,Y _ _ h9,Iy,ao ?_,λl3 JD=>?_}
 .rw[wa0,bL,wag];show 1+_<=_
  lia
 rw[show [V.int (i:Int)]++(nI ((restOf b.length i).take (many-1).toNat)).map V.int=(nI (numsOf b.length i (many-1).toNat)).map V.int from rfl];have Je:=a7.upd (H:=Z) (o:=.lst ((nI (numsOf b.length i (many-1).toNat)).map V.int)) JD;have QH:(upd Z l3 (.lst ((nI (numsOf b.length i (many-1).toNat)).map V.int))) l3=some (.lst ((nI (numsOf b.length i (many-1).toNat)).map V.int)):=a6;generalize upd Z l3 (.lst ((nI (numsOf b.length i (many-1).toNat)).map V.int))=FU at Je QH;have j:=(s9.trans Y).trans Je;refine{_,rfl,lc,l3,many,b.map λq=>c.getD q.2 0,numsOf b.length i (many-1).toNat,rfl,aL.of (j _ _ WX),aL.of QH,m1,m2,by rw[KC];lia,λn hn=>by rw[g];exact z7 hi n hn,λl i' j' Io KG Uz Zj hj hz p=>?_};have b7:=Kr B m1 D Zj hj hz;have C:∀n∈((numsOf b.length i (many-1).toNat).take j').drop i',n<b.length:=λn hn=>z7 hi n (((why _ _).trans (wbn _ _)).subset hn)
 have LD:(((numsOf b.length i (many-1).toNat).take j').drop i').length<=1000:=by
  rw[wb3,wag]
  lia
 generalize ((numsOf b.length i (many-1).toNat).take j').drop i'=ns at *;have J:=NM.trans (j.trans KG);have S2:=KG _ _ (j _ _ WX);refine{_,rfl,_,rfl,_,rfl,l,rfl,{_,aL.of p},λls UA=>?_};refine dN (λ_=>true) (λv=>match v with |.int n=>.int ((b.map λq=>c.getD q.2 0).getD n.toNat 0) |_=>.non) (aR K l _) UA (ao (by rw[wa0,bL];lia)) (λH' s'=>aL.of (s' _ _ p)) (λy I Q' hy X m=>m I (a7.refl _)) (λy KM Q' hy _ r m=>?_) (λKM r LQ=>?_)
 .obtain⟨n,Bg,rfl⟩:=rg hy;have M:n<(b.map λq=>c.getD q.2 0).length:=by rw[g];exact C n Bg
  exact{_,rfl,_,rfl,lc,_,_,_,rfl,rfl,aL.of (r _ _ S2),bC (v:=.int ((b.map λq=>c.getD q.2 0).getD n 0)) (by rw[wa4,wa1 M,wa3,wa1 M];rfl),m KM (a7.refl _)}
 have Zk:(((nI ns).map V.int).filter λ_=>true).map (λv=>match v with |.int n=>V.int ((b.map λq=>c.getD q.2 0).getD n.toNat 0) |_=>.non)=(ns.map λn=>(b.map λq=>c.getD q.2 0).getD n 0).map V.int:=by
  rw[wba.mpr (λ_ _=>rfl)];unfold nI;rw[waf,waf,waf];rfl
 rw[Zk]at LQ;refine{ls,_,rfl,aL.of LQ,_,rfl,_,_,rfl,rfl,{by lia,by lia},by show 3<=sizeLine;decide,λt' UB=>?_};exact k t' l d ns _ _ (J.trans (r.trans (a7.upd UB))) (none_of (NM.trans j) Uz) (none_of (J.trans r) UB) a6 (a7.upd UB _ _ (r _ _ p)) b7 (by lia) LD
theorem ji(L:Lk K mg):aS P w K mg base (Bh P w) 7 L.fv L.fA ["band","many","wide"] (HS L.aA L.oI):=by
 have T:=L.T;refine L.cz.F.Ex (N:=["band","many","wide","most","weights","in_all"]) (λX A outer s H vs Q E nd hr h=>?_);obtain⟨x,many,n,g,M,ss,ls,rfl,B,r,t,u,y,k,O⟩:=h
 refine{_,(a5 (G7 whz rfl (qG rfl T.range (a8 aq (aK (aC bu (tS (v:=.int 8) (by rfl) L.vW.choose_spec {_,rfl}) aq)))) (ax (i:=3)) (a5 (ai (i:=4) (au (AY L) L.vR (a8 (pv 0) (a8 (pv 1) (a8 (pv 2) (aK (pv 3)))))))
  (a5 (ai (i:=5) (aU (EK rfl) (by rfl) T.sum Es (aK (Di (K:=K) rfl wd5 wdX wfN xF (pv 4)))))
  (a5 (b6 (cu lV (pv 5) (tS (v:=.int 40) (by rfl) L.lT.choose_spec {_,rfl})) (a9 (gp cX rfl L.zf L.DL rfl L.CF (aK eB))) aG)
  (a9 (b6 (cu lV (pv 5) aq) (a9 (aw (pv 4))) aG))))))
  (a9 (gp cX rfl L.zf L.DL rfl L.CF (aK eB)))),?_}
 ac_rfl
 refine{_,_,rfl,rfl,1,9,rfl,⋯,?_};refine cw (lo:=1) (n:=8) (λi σ q=>∃z v4 C:Option V,σ=[some (.ref x),some (.int many),some (.int (n:Int)),z,v4,C]/\a7 H q/\∀(m:Int) (h:Str->Int),1<=m->m<1+(i:Int)->nF g M ss ls many n m h->(ls.map h).sum=0) {none,none,none,rfl,a7.refl _,λm h R Y=>by lia} ?_ ?_
 .rintro i σ q hi ⟨z,v4,C,rfl,j,l⟩;refine{_,rfl,_,rfl,_,rfl,_,rfl,x,many,n,1+(i:Int),g,M,ss,ls,rfl,B.same j,r,t,u,y,by lia,λd f S Z fd D G=>?_};refine{_,rfl,.inr (.inr (.inl {rfl,.inl {_,D}})),d,_,rfl,rfl,D,λv hv=>?_};have I:=a7.upd (o:=lZ v d) hv;have J:=I _ _ D;have p:(upd S v (lZ v d)) v=some (lZ v d):=a6;generalize upd S v (lZ v d)=U at I J p;have a:=j.trans (Z.trans I);refine{v,d,_,ls.map f,rfl,p,J,CA f ls,?_}
  by_cases b:(40:Int)<(ls.map f).sum
  .refine{_,rfl,_,_,rfl,rfl,true,congrArg V.bl (decide_eq_true b),eD {rfl,?_}};exact O {1+(i:Int),by lia,by lia,l,.inr ⟨f,G,b⟩} U a
  refine{_,rfl,_,_,rfl,rfl,false,congrArg V.bl (decide_eq_false b),bx ?_}
  by_cases h0:(0:Int)<(ls.map f).sum
  .refine{_,rfl,_,_,rfl,rfl,true,congrArg V.bl (decide_eq_true h0),eD {_,rfl,?_}};exact k d f U a (none_of j fd) J {{1+(i:Int),by lia,by lia,G,l},h0,by lia}
  .refine{_,rfl,_,_,rfl,rfl,false,congrArg V.bl (decide_eq_false h0),bx ?_};refine{_,_,_,rfl,a,λm h R Y c=>?_}
   by_cases e:m=1+(i:Int)
   .subst e;have:=F8 G c;have:=uV c.nn
    lia
   .exact l m h R (by lia) c
 .rintro σ q ⟨z,v4,C,rfl,j,l⟩;exact{rfl,O {9,⋯,⋯,l,.inl rfl} q j}
theorem qw(L:Lk K mg):aS P w K mg base cP 6 L.jF L.jK ["band","many","wide","weights"] (HU L.aA):=by
 have T:=L.T;refine L.jL.F.d7 (N:=["band","many","wide","weights","sheet","lots","homes","closed","place"]) (λgG A outer s H vs Q E nd hr h=>?_);obtain⟨x,d,many,n,f,g,ws,ss,ls,rfl,B,Il,QI,DP,DM,wQ,Iw,hd,D,Z,WY,k⟩:=h;have hu:=eW hr
 refine{_,(a5 (ai (i:=4) (au (n8 L) L.jg (a8 (pv 0) (a8 (pv 1) (a8 (pv 2) (aK (pv 3)))))))
  (a5 (du (i:=5) rfl (ay ["sheet"] [4]) nd rfl rfl (bZ rfl T.range (aK (zD T.len (az (pv 4) rfl)))) (λ_ _ _ _ _ _=>bj) (λ_ _ _ _ _ _=>(au (tL L) L.mX (a8 (pv 1) (aK (pv 0))))))
  (a5 (du (i:=6) rfl (ay ["sheet"] [4]) nd rfl rfl (aQ (Ko rfl (by rfl) T.min (by rfl) T.len (aK (pv 5)))) (λ_ _ _ _ _ _=>bj) (λ_ _ _ _ _ _=>(bc (gH (K:=K) rfl) (nj (K:=K) rfl (pv 1) rfl) (pv 0) (λ_ _=>rfl))))
  (a5 (ai (i:=7) da)
  (a5 (forA (Ai (pv 3)) (ax (i:=8)) (a9 (ee hu (pv 7) (pv 8) (zH (eZ qK (pv 8) (pv 6) rfl) (d8 hu (pv 3) (pv 8) (λ_ _=>rfl)) aq) rfl)))
  (a9 (aw (pv 7)))))))),?_}
 ac_rfl
 have nd:ls.Nodup:=B.nd.sublist B.lv.sub;have z4:ls.length<=900:=wak B.lv.sub.length_le wQ;refine{_,rfl,_,rfl,_,rfl,_,rfl,x,d,many,n,cE f ls,f,g,ws,ss,ls,rfl,B,DP,DM,wQ,Iw,.inl hd,kq f ls,λy H1 s1 S1=>?_};have S:=S1.same (cf _ _);have hB:=iR.first (g:=g) (ws:=ws) (ss:=ss) (n:=n) (many:=many) D Z;have WR:(av ls f).length<=ls.length:=wb2 _ _;have I:=hB.l;have hmn:(1:Int)<=many:=by have:=Iw.a;lia
 generalize WZ:av ls f=m at S hB WR I;generalize UC:bG g ws ss ls n m=G at S hB I
 have UD:m≠[]:=λz=>by
  have h1:=xY D;rw[WZ,z]at h1;have:(0:Int)=(ls.map f).sum:=h1
  lia
 have LO:0<m.length:=wcd.mpr UD
 have UE:∀i,i<G.length->G.getD i []≠[]:=λi hi z=>by
  have U:G[i]?=some (G.getD i []):=by rw[wa3,wa1 hi];rfl
  have h1:=hB.b i _ U;rw[z]at h1;have h2:many*(m.map f).getD i 0<=0:=h1;have hw:=hB.w;have h3:=hB.p _ (getD_mem (ws:=m.map f) (i:=i) (by lia));have:=whH (show 0<many by lia) (show 0<(m.map f).getD i 0 by lia)
  lia
 obtain⟨dx,ah,bw,cl,hx,rh,Jb,rl⟩:=id S;have hh:=u5 rh;refine{_,rfl,y,L.aE,dx,_,_,rfl,hx,L.aB.cl,L.aB.fM,fq ah bw cl,ah,_,rfl,.inl (.inl hh),_,rfl,by lia,by rw[wa0];lia,λll UG=>?_};have en:(((m.map V.str).length:Nat):Int).toNat=m.length:=by rw[wa0,waA]
 rw[en];refine va (λi v H'=>∃q r,v=.ref q/\q≠ll/\H' q=some (.lst ((nI r).map V.int))/\Reach G r) (λi v Ha Hb ys h hl kp=>?_) (k8 0 m.length) UG (ao (by rw[wa0,waC];lia)) (λ_ _=>wbw) (λi v H3 ys Q' hv s3 JD qq=>?_) (λys H3 s3 h3 LK hR=>?_)
 .obtain⟨q,r,rfl,U,Zm,X⟩:=h;exact{q,r,rfl,U,kp _ _ Zm U,X}
 .have hi:i<m.length:=by have:=(wa6.mp hv).1;rwa[wa0,waC]at this
  rw[wa4,wdK hi]at hv
  have hv:v=.int (i:Int):=by
   rw[<-wad hv];show V.int (0+(i:Int))=_;rw[wbN]
  subst hv;refine{_,rfl,_,rfl,y,i,m,_,G,rfl,S.same s3,by lia,λl hl q U=>by rw[I];exact hB.e l hl q U,UE i (by lia),by lia,λl r H' s' fl Qz t=>?_};exact qq _ H' s' {l,r,rfl,(λz=>by rw[z,JD]at fl;cases fl),Qz,t}
 obtain⟨ps,rfl,Sa⟩:=Kt (ys:=ys) (R:=λq=>∃r,H3 q=some (.lst ((nI r).map V.int))/\Reach G r) λv hv=>by
  obtain⟨i,hi,e⟩:=wbU hv;obtain⟨q,r,e1,_,e2,e3⟩:=hR i v (by rw[wa1 hi,e]);exact⟨q,e1,r,e2,e3⟩
 have hpl:ps≠[]:=λz=>by
  rw[wa0,wa0,waC,z]at LK;have:0=m.length:=LK
  lia
 refine{_,rfl,ll,ps,rfl,aL.of h3,hpl,λq U=>by obtain⟨r,e,_⟩:=Sa q U;exact{_,aL.of e},λq U=>?_};obtain⟨r,X,t⟩:=Sa q U;have yk:=mj t.nd t.lt;refine{q,rfl,{_,aL.of X},λlh Ou=>?_};refine dN (λ_=>true) (λv=>match v with |.int d=>.str (m.getD d.toNat "") |_=>.non) (aR K q _) Ou (ao (by rw[wa0,bL];lia)) (λH' s'=>aL.of (s' _ _ X)) (λv H8 Q' hy s8 qq=>qq H8 (a7.refl _)) (λv H4 Q' hy _ s4 qq=>?_) (λH4 s4 h4=>?_)
 .obtain⟨n',Bg,rfl⟩:=rg hy;have QJ:n'<m.length:=by rw[<-I];exact t.lt n' Bg
  have Y:=s3.trans s4;exact{_,rfl,y,L.aE,dx,_,_,rfl,Y _ _ hx,L.aB.cl,L.aB.fM,fq ah bw cl,_,rfl,ah,_,_,_,rfl,rfl,Y.seq (.inl hh),bC (v:=.str (m.getD n' "")) (by rw[wa4,wa1 QJ,wa3,wa1 QJ];rfl),qq H4 (a7.refl _)}
 have e4:(((nI r).map V.int).filter λ_=>true).map (λv=>match v with |.int d=>V.str (m.getD d.toNat "") |_=>.non)=(r.map λd=>m.getD d "").map V.str:=by
  rw[wba.mpr (λ_ _=>rfl)];unfold nI;rw[waf,waf,waf];rfl
 rw[e4]at h4;have Y:=s3.trans s4;refine λdl C=>?_;have M:=s1.trans Y;have Ol:d≠dl:=af (M _ _ hd) C;have Jc:(upd H4 dl (.dK [])) d=some (.dK (bJ (cE f ls))):=a7.upd C _ _ (M _ _ hd);refine{_,rfl,d,_,rfl,.inl Jc,λo H5 h5 NN=>?_};have WU:H5 dl=some (.dK []):=by rw[NN dl (wbu Ol),a6]
 have Zn:lh≠d:=λz=>by rw[z]at h4;rw[M _ _ hd]at h4;cases h4
 have Zo:H5 lh=some (.lst ((r.map λd=>m.getD d "").map V.str)):=by rw[NN lh Zn];exact a7.upd C _ _ h4
 have k5:∀c O,H c=some O->c≠d->H5 c=some O:=λc O e hc=>by rw[NN c hc];exact a7.upd C _ _ (M _ _ e)
 have UH:H dl=none:=none_of M C;have UI:dl≠lh:=λz=>by rw[z]at C;rw[h4]at C;cases C
 have J:=jv d o (bJ (cE f ls));rw[show ((bJ (cE f ls)).map λkv=>kV kv.1)=ls.map V.str by unfold bJ cE;rw[waf,waf];rfl]at J;refine lY J (λj σ H6=>∃(v8:Option V),σ=[some (.ref x),some (.int many),some (.int (n:Int)),some (.ref d),some (.ref y),some (.ref ll),some (.ref lh),some (.ref dl),v8]/\H6 dl=some (.dK (bJ (cE (d4 (r.map λd=>m.getD d "") f) (ls.take j))))/\∀c O,H5 c=some O->c≠dl->H6 c=some O) {none,rfl,WU,λc O e _=>e} (λj σ H6 _ {_,_,_,kk}=>kk _ _ h5 Ol) ?_ ?_
 .rintro j v σ H6 hy ⟨v8,rfl,h6,kk⟩;obtain⟨p,Om,rfl,hj,CH,qE⟩:=gJ hy;have Ii:p∉(cE (d4 (r.map λd=>m.getD d "") f) (ls.take j)).map (·.1):=by rw[qV];exact ik nd Om
  have put:∀u,u=d4 (r.map λd=>m.getD d "") f p->putK (bJ (cE (d4 (r.map λd=>m.getD d "") f) (ls.take j))) (wal p:Key) (.int u)=bJ (cE (d4 (r.map λd=>m.getD d "") f) (ls.take (j+1))):=λu Zq=>by
   rw[qU Ii,qE,Zq];unfold cE;rw[wai];rfl
  have hlen:(bJ (cE (d4 (r.map λd=>m.getD d "") f) (ls.take j))).length<sizeLine:=by rw[jw];unfold cE;rw[wa0,wag];exact bE (by lia)
  have g6:=eA.f (k:=(wal p:Key)) (kk _ _ h5 Ol);rw[eK,kq f ls p CH]at g6;refine{_,rfl,_,rfl,lh,_,rfl,.inl (aL.of (kk _ _ Zo (wbu UI))),rfl,fm _,decide (p∈r.map λd=>m.getD d ""),congrArg V.bl (jr p _),?_}
  by_cases hp:p∈r.map λd=>m.getD d ""
  .rw[decide_eq_true hp];refine eD {_,rfl,_,rfl,d,_,rfl,g6,_,rfl,_,rfl,dl,_,rfl,jZ.k (k:=wal p) h6 hlen,?_};exact{_,rfl,by rw[a6,put (f p) (by unfold d4;rw[if_pos hp])],λc O e hc=>by rw[ae hc];exact kk c O e hc}
  .rw[decide_eq_false hp];refine bx {_,rfl,_,rfl,dl,_,rfl,jZ.k (k:=wal p) h6 hlen,?_};exact{_,rfl,by rw[a6,put 0 (by unfold d4;rw[if_neg hp])],λc O e hc=>by rw[ae hc];exact kk c O e hc}
 rintro σ H6 ⟨v8,rfl,h6,kk⟩;rw[wa0,waG]at h6;subst WZ;subst UC;exact{_,rfl,k dl _ H6 (λc o e hc=>kk _ _ (k5 c o e hc) (af e UH)) UH h6 (vt D) (F1 D Z t) (F0 D (λd hd=>by rw[<-I];exact t.lt d hd) t.ne) (Aw D) (EZ D)}
theorem oK(L:Lk K mg):aS P w K mg base cP 1 L.et L.fX ["self","length","rows"] (Ut L.cF "length" "rows" LN LN):=by
 refine L.AR.d7 (N:=["self","length","rows"]) (λm A outer s H n Q E nd o h=>?_);obtain⟨x,u,v,rfl,⟨i,rfl,a⟩,⟨j,rfl,b⟩,g,k⟩:=h
 refine{_,(a5 (b8 (GP rfl L.AO L.XB (a8 (pv 0) (aK (JT (BP (GR (pv 1) (BP (GR (pv 2) (BP MT))))))))))
  (a5 (JR (CB:=L.dm) (pv 0) (pv 1) rfl)
  (a9 (Iq (CB:=L.dm) (pv 0) (pv 2) rfl)))),?_}
 ac_rfl
 have l1:=weL a;have l:=weL b;refine{_,rfl,ao ?_,_,rfl,.inl {i,rfl,a,ao ?_,ao ?_,_,rfl,.inl {j,rfl,b,ao ?_,ao ?_,ao ?_,x,L.cF,_,_,rfl,g,L.iH,?_}}}
 .exact wak (show _<=1000 by decide+kernel) ⋯
 .exact wak (fZ (show _<=1000 by decide+kernel) l1) ⋯
 .exact wak (fZ (fZ (show _<=1000 by decide+kernel) l1) (show _<=1000 by decide+kernel)) ⋯
 .exact wak (fZ (fZ (fZ (show _<=1000 by decide+kernel) l1) (show _<=1000 by decide+kernel)) l) ⋯
 .exact wak (fZ (fZ (fZ (fZ (show _<=1000 by decide+kernel) l1) (show _<=1000 by decide+kernel)) l) (show _<=1000 by decide+kernel)) ⋯
 .exact wak (fZ (fZ (fZ (fZ (show _<=1000 by decide+kernel) l1) (show _<=1000 by decide+kernel)) l) (show _<=1000 by decide+kernel)) ⋯
 refine{_,rfl,_,rfl,x,L.cF,_,rfl,g,L.iH,L.tI,λd hd=>?_};have f:d≠x:=λz=>by rw[z,g]at hd;cases hd
 refine{_,rfl,_,rfl,x,L.cF,_,d,[("length",.int i)],rfl,a6,by rw[ae f,a6],by show 1<=50;decide,L.iH,L.wL,by rw[wdA,show (("rows":Str) == "length")=false by decide+kernel];rfl,?_}
 have e:upd (upd (upd H d (.xd [(("length":Str),V.int i)])) x (XD x L.cF d)) d (.xd ([(("length":Str),V.int i)]++[(("rows":Str),V.int j)]))=upd (upd H d (.xd [(("length":Str),V.int i),(("rows":Str),V.int j)])) x (XD x L.cF d):=by
  funext c
  by_cases a:c=d
  .subst a;rw[a6,ae f,a6];rfl
  .rw[ae a]
   by_cases b:c=x
   .subst b;rw[a6,a6]
   .rw[ae b,ae b,ae a,ae a]
 rw[e];exact k d hd
theorem nA(L:Lk K mg):aS P w K mg base (Bh P w) 8 L.iu L.iz ["band","many","wide"] (Kx L.aA L.cF):=by
 refine L.dF.F.Ex (N:=["band","many","wide","length"]) (λC A outer s H S Q E nd D h=>?_);obtain⟨x,many,n,g,bw,ss,ls,rfl,B,l,m,f,k,G⟩:=h
 refine{_,(a5 (ai (i:=3) (au (Fi L) L.AJ (a8 (pv 0) (a8 (pv 1) (a8 (pv 2) (aK (tS (v:=.int 24) (by rfl) L.vV.choose_spec {_,rfl})))))))
  (a9 (b6 (cu oY (pv 3) dn) (a9 (GQ cX rfl L.iH L.Fg L.Fh (oK L) (D.mono ⋯) L.AU rfl L.AQ (a8 (pv 3) (aK (au (Ik L) L.DK (a8 (pv 0) (aK (aC dW (pv 3) (pv 2))))))))) aG))),?_}
 ac_rfl
 refine{_,rfl,_,rfl,_,rfl,x,many,(n:Int),24,g,bw,ss,ls,rfl,B,l,m,f,⋯,⋯,λv I o p=>?_};rw[waA]at p;have q:=p
 cases p with
 |none a=>exact{_,rfl,rfl,false,rfl,bx (k (λj u J=>a j u J) I o)}
 |some j a b c d=>
  refine{_,rfl,rfl,true,rfl,eD ?_}
  have hk:(j:Int)*(n:Int)<=100000:=by
   have u:(j:Int)*(n:Int)<=24*6:=Int.mul_le_mul b f.d (by lia) (by lia)
   lia
  have r:0<=(j:Int)*(n:Int):=Int.mul_nonneg (by lia) (by lia);have M:((j:Int)*(n:Int)).toNat=j*n:=by rw[<-waT,waA]
  refine{_,rfl,_,rfl,_,rfl,_,rfl,_,_,rfl,rfl,?_,x,(j:Int)*(n:Int),g,bw,ss,ls,rfl,B.same o,l,m,r,hk,λT y=>?_}
  .exact .inl {by lia,by lia}
  rw[M];refine{by show 2<=sizeLine;decide,λe O=>{e,_,_,rfl,{_,rfl,?_},{_,rfl,?_},a6,λt hd=>{rfl,.inr {t,a6,?_}}}}
  .have:=Nat.log2_le_self ((j:Nat):Int).natAbs
   lia
  .exact CJ f b c
  obtain⟨U,z,R⟩:=BW (o2:=.xd [("length",.int (j:Nat)),("rows",.int (i3 g bw ss (j*n) ""))]) (o3:=XD e L.cF t) O hd;rw[R];exact G j t _ q ((o.trans y).trans (a7.upd z)) (none_of (o.trans y) z) a6
theorem lP(L:Lk K mg):aS P w K mg base cP 4 L.my L.mM ["sheet"] (HX K L.aE):=by
 refine L.iD.F.d7 (N:=["sheet"]) (λB A outer s H vs Q E nd C h=>?_);obtain⟨x,D,G,j,rfl,S,n1,I,J,M,k⟩:=h;refine{_,(a9 (aw (nh L.vU (fY L) (C.mono ⋯) rfl L.zc L.eN.b .nil p5 (a8 (az (pv 0) rfl) (a8 (az (pv 0) rfl) (aK (az (pv 0) rfl))))))),?_}
 ac_rfl
 obtain⟨l,g,bw,cl,m,O,n,R⟩:=id S;refine{_,rfl,x,L.aE,l,_,_,rfl,m,L.aB.cl,L.aB.fM,fq g bw cl,_,rfl,x,L.aE,l,_,_,rfl,m,L.aB.cl,L.aB.dg,cI g bw cl,_,rfl,x,L.aE,l,_,_,rfl,m,L.aB.cl,L.aB.cR,bS g bw cl,?_};intro y i p q T;have sm:a7 H (upd (upd H i (.own y)) y (.ins L.aE i [])):=fo p q;refine{y,i,.ref g,.ref bw,.ref cl,D,G,j,rfl,a6,bM.same sm _ _ O,bM.same sm _ _ n,bM.same sm _ _ R,n1,I,J,M,λU X Y a d Z q2 q3 f=>{rfl,?_}};have t:a7 H a:=λc o e=>f _ _ (sm _ _ e) (af e p);have u:=λ(z:ku) (v:V) (r:bM K (aM _ a) z v)=>bM.same (eM sm) z v r;exact k y a t {i,U,X,Y,bX p d,u _ _ Z,u _ _ q2,u _ _ q3}
theorem ry(L:Lk K mg):aS P w K mg base cP 5 L.gW L.lC ["self","weights","splits","kept","last"] (Kw K L.aO L.aE):=by
 have T:=L.T;refine L.lK.F.d7 (N:=["self","weights","splits","kept","last"]) (λgG A outer s H vs Q E nd hr h=>?_);obtain⟨x,f,d,z,u,v,m,p,Y,hs,ws,Z,rfl,D,hd,Zr,U3,S,n1,n2,n3,n4,n5,k⟩:=h
 refine{_,(a5 (d1 (pv 0) (bp Cb (by rfl) T.dict Q7 (aK (pv 1))) rfl)
  (a5 (d1 (pv 0) (HH rfl (ay [] []) (ay [] []) (ay [] []) {⋯,⋯,⋯} (aQ (pv 2)) (λ_ _ _ _ _ _=>bj) (λ_ _ _ _ _ _=>(dX (a8 (pv 0) (a8 (bp (wJ (K:=K) rfl) (by rfl) T.list fJ (aK (pv 1))) (aK (pv 2))))))) rfl)
  (a5 (d1 (pv 0) (bp cW (by rfl) T.list fJ (aK (pv 3))) rfl)
  (a9 (d1 (pv 0) (au (lP L) L.iD (aK (pv 4))) rfl))))),?_}
 ac_rfl
 obtain⟨c,rfl,hc⟩:=iq U3;obtain⟨b,xs,rfl,hb,NK⟩:=Zr;have xl:xs.length=p.length:=by rw[NK.len,wa0]
 have G:∀{d:Addr} {ys:List V} {H':Hp},aL K H d ys->(∀b o,H b=some o->b≠x->H' b=some o)->aL K H' d ys:=λhS kp=>(f7 kp).seq (yT D hS);refine{_,rfl,d,_,rfl,hd,λa I=>?_};have B:x≠a:=af D I;refine{_,rfl,x,L.aO,f,[],rfl,by rw[ae B];exact D,L.dG.cl,L.dG.dg,(show 0<1000 by decide),?_};rw[Qn];have k1:∀d o,H d=some o->d≠x->(upd (upd H a (.dK (bJ m))) x (.ins L.aO f (sy a))) d=some o:=λd o e hd=>by rw[ae hd];exact a7.upd I _ _ e
 have x1:(upd (upd H a (.dK (bJ m))) x (.ins L.aO f (sy a))) x=some (.ins L.aO f (sy a)):=a6;have a1:(upd (upd H a (.dK (bJ m))) x (.ins L.aO f (sy a))) a=some (.dK (bJ m)):=by rw[ae B.symm,a6]
 generalize upd (upd H a (.dK (bJ m))) x (.ins L.aO f (sy a))=H1 at k1 x1 a1 ⊢;have UJ:=bA.same (f7 k1) _ _ (bA.off D _ _ NK);have X0:aL K H1 b xs:=G (.inl hb) k1;refine{_,rfl,b,rfl,{_,X0},λg HA=>?_};refine HV (K:=K) (p.map za) (aR K b xs) HA (ao (by lia)) (by rw[wa0,xl]) (λH' s'=>s'.seq X0) (λi v dd n hv l U=>?_) (λn U r3=>?_)
 .obtain⟨d',e',r⟩:=UJ.get i v hv;rw[l]at e';cases e';rw[wa4]at l
  cases e:p[i]? with
  |none=>rw[e]at l;cases l
  |some sp=>
   rw[e]at l;cases l;obtain⟨r0,ys,rfl,hT,h2⟩:=r;obtain⟨v1,vs1,rfl,⟨rfl,_⟩,h3⟩:=h2;obtain⟨v2,Zt,rfl,r2,h4⟩:=h3;obtain⟨v3,Zu,rfl,⟨rfl,_⟩,h5⟩:=h4;cases(show Zu=[] from h5);obtain⟨l2,rfl,Uy⟩:=iq r2;refine{r0,_,_,_,rfl,gA.of (U _ _ hT),λQ' qq=>?_};refine{_,rfl,_,rfl,l2,_,rfl,.inl (U.seq Uy),λl3 J=>?_};refine{_,rfl,by show 3<=sizeLine;decide,λt ht=>?_};have s4:a7 (upd n l3 (.lst ((nI sp.2.1).map V.int))) (upd (upd n l3 (.lst ((nI sp.2.1).map V.int))) t (.tup [.int (sp.1:Int),.ref l3,.int sp.2.2])):=a7.upd ht;refine qq _ _ ((a7.upd J).trans s4) ?_;exact DC (d:=sp.1) (ns:=sp.2.1) (w:=sp.2.2) (bX (none_of (a7.upd J) ht) a6) (bX J (s4 _ _ a6))
 have nbx:x≠g:=af x1 HA;have x3:=U _ _ x1;have a3:=U _ _ a1;refine{_,rfl,x,L.aO,f,sy a,rfl,x3,L.dG.cl,L.dG.AA,(show 1<1000 by decide),?_};rw[LC];have k3:∀d o,H d=some o->d≠x->(upd n x (.ins L.aO f (pz a g))) d=some o:=λd o e hd=>by rw[ae hd];exact U _ _ (k1 _ _ e hd)
 have x4:(upd n x (.ins L.aO f (pz a g))) x=some (.ins L.aO f (pz a g)):=a6;have a4:(upd n x (.ins L.aO f (pz a g))) a=some (.dK (bJ m)):=by rw[ae B.symm];exact a3
 have old:a7 (aM H1 n) (aM H n):=λd o e=>by
  unfold aM at e ⊢
  cases q:H d with
  |none=>
   cases M:H1 d with
   |none=>rw[M]at e;exact e
   |some z=>rw[M]at e;cases e
  |some z=>
   by_cases hd:d=x
   .rw[hd,x1]at e;cases e
   .rw[k1 _ _ q hd]at e;cases e
 have r4:bM K (aM H (upd n x (.ins L.aO f (pz a g)))) (.lst (p.map za)) (.ref g):=bM.same (old.trans (bQ D λd o e hd=>by rw[ae hd];exact e)) _ _ r3;generalize upd n x (.ins L.aO f (pz a g))=X at k3 x4 a4 r4 ⊢;refine{_,rfl,c,_,rfl,.inl (G hc k3),λj O=>?_};have C:x≠j:=af x4 O
 have Zv:H j=none:=by
  cases q:H j with
  |none=>rfl
  |some o=>have:=k3 _ _ q C.symm;rw[O]at this;cases this
 refine{_,rfl,x,L.aO,f,pz a g,rfl,by rw[ae C];exact x4,L.dG.cl,L.dG.Ia,(show 2<1000 by decide),?_};rw[HW];have s5:∀d o,X d=some o->d≠x->(upd (upd X j (.lst ((nI Y).map V.int))) x (.ins L.aO f (sA a g j))) d=some o:=λd o e hd=>by rw[ae hd];exact a7.upd O _ _ e
 have x5:(upd (upd X j (.lst ((nI Y).map V.int))) x (.ins L.aO f (sA a g j))) x=some (.ins L.aO f (sA a g j)):=a6;have c5:(upd (upd X j (.lst ((nI Y).map V.int))) x (.ins L.aO f (sA a g j))) j=some (.lst ((nI Y).map V.int)):=by rw[ae C.symm,a6]
 generalize upd (upd X j (.lst ((nI Y).map V.int))) x (.ins L.aO f (sA a g j))=H5 at s5 x5 c5 ⊢;have k5:∀d o,H d=some o->d≠x->H5 d=some o:=λd o e hd=>s5 _ _ (k3 _ _ e hd) hd
 have S5:cj K L.aE H5 z hs ws Z:=by
  obtain⟨dz,ah,bw,cl,hz,rh,Jb,rl⟩:=id S;have Zw:z≠x:=λq=>by rw[q,D]at hz;have:=wad hz;injection this with _ _ M;cases M
  have go:=λ(dd:ku) (v:V) (r:bM K H dd v)=>bM.same (f7 k5) dd v (bM.off D dd v r);exact{dz,ah,bw,cl,k5 _ _ hz Zw,go _ _ rh,go _ _ Jb,go _ _ rl}
 refine{_,rfl,z,hs,ws,Z,rfl,S5,n1,n2,n3,n4,λy R s6 S6=>?_};refine{_,rfl,x,L.aO,f,sA a g j,rfl,s6 _ _ x5,L.dG.cl,L.dG.Ib,(show 3<1000 by decide),?_};rw[DA];have up:∀{Ha:Hp},(∀d o,Ha d=some o->d≠x->(upd R x (.ins L.aO f (vx a g j y))) d=some o)->a7 (aM H Ha) (aM H (upd R x (.ins L.aO f (vx a g j y)))):=λh=>bQ D h;have u6:∀d o,R d=some o->d≠x->(upd R x (.ins L.aO f (vx a g j y))) d=some o:=λd o e hd=>by rw[ae hd];exact e
 have u4:∀d o,X d=some o->d≠x->(upd R x (.ins L.aO f (vx a g j y))) d=some o:=λd o e hd=>u6 _ _ (s6 _ _ (s5 _ _ e hd)) hd
 have UK:a7 (aM H5 R) (aM H R):=λd o e=>by
  unfold aM at e ⊢
  cases q:H d with
  |none=>
   cases M:H5 d with
   |none=>rw[M]at e;exact e
   |some z=>rw[M]at e;cases e
  |some z=>
   by_cases hd:d=x
   .rw[hd,x5]at e;cases e
   .rw[k5 _ _ q hd]at e;cases e
 exact k a g j y _ a6 I (u4 _ _ a4 B.symm) (bM.same (up u4) _ _ r4) (jz (bX Zv (u6 _ _ (s6 _ _ c5) C.symm))) (S6.same (UK.trans (up u6))) λd o e hd=>u6 _ _ (s6 _ _ (k5 _ _ e hd)) hd
theorem wX(L:Lk K mg):aS P w K mg base cP 5 L.pL L.pZ ["self"] (Fa K L.aO L.aE):=by
 refine L.qp.F.d7 (N:=["self"]) (λe A outer s H u Q E nd v h=>?_);obtain⟨x,m,f,B,g,i,d,rfl,⟨j,a,b,c,z,l,ha,C,hc,S⟩,n1,n,o,p,k⟩:=h;refine{_,(a9 (aw (au (lP L) L.iD (aK (az (pv 0) rfl))))),?_}
 ac_rfl
 exact{_,rfl,x,L.aO,j,_,_,rfl,l,L.dG.cl,L.dG.Ib,CC a b c z,z,g,i,d,rfl,S,n1,n,o,p,λy q r t=>k y q r t}
theorem CL(L:Lk K mg):aS P w K mg base (Bh P w) 9 L.yc L.yg ["band","many","wide"] (HY K L.aA L.aO L.aE L.cF L.oI):=by
 have T:=L.T;refine L.nr.F.Ex (N:=["band","many","wide","weights","sheet","splits","kept","part"]) (λgG A outer s H vs Q E nd hr h=>?_);obtain⟨x,many,n,g,bw,ss,ls,rfl,B,Il,QI,DP,J,U,D,k,kS,kO⟩:=h
 refine{_,(a5 (b8 (au (gD L) L.fT (a8 (pv 0) (a8 (pv 1) (aK (pv 2))))))
  (a5 (b8 (jY (nA L) (hr.mono ⋯) rfl L.dF.g L.dF.F.kp L.dF.b .nil (xM cX) (a8 (pv 0) (a8 (pv 1) (aK (pv 2))))))
  (a5 (ai (i:=3) (au (qw L) L.jL (a8 (pv 0) (a8 (pv 1) (a8 (pv 2) (aK (jY (ji L) (hr.mono ⋯) rfl L.cz.g L.cz.F.kp L.cz.b .nil (xM cX) (a8 (pv 0) (a8 (pv 1) (aK (pv 2)))))))))))
  (a5 (ai (i:=4) (au (n8 L) L.jg (a8 (pv 0) (a8 (pv 1) (a8 (pv 2) (aK (pv 3)))))))
  (a5 (ai (i:=5) (cA eC))
  (a5 (ai (i:=6) (au (o9 L) L.kK (a8 (pv 4) (aK (pv 1)))))
  (a5 (jo whz (cu rJ (zD T.len (pv 6)) aq) (a5 (ai (i:=7) (au (wW L) L.ql (a8 (pv 4) (aK (pv 1)))))
  (a5 (ai (i:=4) (jY (Im L) (hr.mono ⋯) rfl L.ua.g L.ua.F.kp L.ua.b .nil (xM cX) (a8 (pv 4) (a8 (pv 1) (a8 (bc fG (pv 7) aq (λ_ _=>rfl)) (a8 (bc fG (pv 7) aq (λ_ _=>rfl)) (aK (bc fG (pv 7) aq (λ_ _=>rfl)))))))))
  (a5 (b8 (hF waN waU waY cL (pv 5) (aK (pv 7))))
  (a9 (ai (i:=6) (au (o9 L) L.kK (a8 (pv 4) (aK (pv 1))))))))))
  (a9 (aw (nh L.KB (ry L) (hr.mono ⋯) rfl L.Nx L.lK.b .nil p5 (a8 (pv 3) (a8 (pv 5) (a8 (pv 6) (aK (pv 4))))))))))))))),?_}
 ac_rfl
 obtain⟨ra,rb,rc,rd,re⟩:=id D
 have Jd:g.length^n<=64:=by
  rw[waA]at re;have:((g.length^n:Nat):Int)<=64:=by rw[wdO];exact re
  lia
 have nd:ls.Nodup:=B.nd.sublist B.lv.sub;refine{_,rfl,_,rfl,_,rfl,x,many,n,g,bw,ss,ls,rfl,B,J,D,?_};refine{_,rfl,_,rfl,_,rfl,x,many,n,g,bw,ss,ls,rfl,B,J,U,D,λQK H1 s1=>?_,kS};refine{_,rfl,_,rfl,_,rfl,_,rfl,_,rfl,_,rfl,x,many,n,g,bw,ss,ls,rfl,B.same s1,DP,J,U,D,λd f0 H2 s2 fd h2 hL=>?_,λZx H2 s2=>kO QK Zx H2 (s1.trans s2)};obtain⟨most,YG,Z5,hG,_⟩:=id hL.gr;refine{x,d,many,n,f0,g,bw,ss,ls,rfl,B.same (s1.trans s2),Il,QI,DP,J,U,D,h2,hG.nn,hG.fit,hL.ps,λdl f H3 k3 UH h3 X1 EL Sa hle UL=>?_};have s3:a7 H H3:=λc o e=>k3 c o (s2 _ _ (s1 _ _ e)) (af (s1 _ _ e) fd);have X:(ls.map f).sum<=40:=we4 UL hL.le;refine{_,rfl,_,rfl,_,rfl,_,rfl,x,dl,many,n,cE f ls,f,g,bw,ss,ls,rfl,B.same s3,DP,J,U,D,.inl h3,kq f ls,λy H4 s4 S4=>?_};have S4:=S4.same (cf _ _);have L0:fh g bw ss ls many n f [] _ _ _:=fh.start QI B.pm Il (λp hp=>B.lv.sub.subset hp) nd X1 EL;refine{waz _,λb hb=>?_};have s5:a7 H4 (upd H4 b (.lst [])):=a7.upd hb;have h5:(upd H4 b (.lst [])) b=some (.lst []):=a6;have o5:a7 H4 (fE (upd H4 b (.lst [])) b):=Az s5 hb;generalize upd H4 b (.lst [])=H5 at s5 h5 o5;have W0:=L0.whole X Jd;generalize av ls f=v at S4 L0 W0;generalize v.map f=C at S4 L0 W0;generalize bG g bw ss ls n v=a at S4 L0 W0;have LD:a.length<=1000:=by rw[W0.l];exact W0.n
 refine{_,rfl,_,rfl,y,many,v,C,a,rfl,S4.same s5,LD,λl hl=>by have:=W0.m l hl;lia,λu G H6 s6 I Y hK=>?_};have UM:u≠b:=λz=>by rw[z,h5]at I;cases I
 refine{λq σ M=>∃(y u:Addr) (v:List Str) (C:List Int) (a:List (List (Str×Nat))) (j:List z9) (r:List V) (G:List Nat) (v7:Option V),q=40-v.length/\σ=[some (.ref x),some (.int many),some (.int (n:Int)),some (.ref dl),some (.ref y),some (.ref b),some (.ref u),v7]/\a7 H M/\M dl=some (.dK (bJ (cE f ls)))/\cj K L.aE (fE M b) y v C a/\fh g bw ss ls many n f j v C a/\M b=some (.lst r)/\bA K (fE M b) (j.map za) r/\u≠b/\M u=some (.lst ((nI G).map V.int))/\oB a many G,
  {_,y,u,v,C,a,[],[],G,none,rfl,rfl,s3.trans (s4.trans (s5.trans s6)),s6 _ _ (s5 _ _ (s4 _ _ h3)),S4.same (o5.trans (pA s6)),L0,s6 _ _ h5,rfl,UM,Y,hK},?_}
 clear hK Y UM I s6 LD W0 L0 o5 h5 s5 S4;have U4:H b=none:=none_of (s3.trans s4) hb;have Qq:dl≠b:=af (s4 _ _ h3) hb;rintro q σ M ⟨y,u,v,C,a,j,r,G,v7,rfl,rfl,s7,X2,S7,O,Z,r7,UM,UN,hK⟩;have W7:=O.whole X Jd;have hlen:=O.len;have A5:=O.b.w;have LD:a.length<=1000:=by rw[W7.l];exact W7.n
 have LK:r.length=j.length:=by rw[r7.len,wa0]
 have Zy:=O.sl
 by_cases QL:G=[]
 .subst QL
  have BA:v≠[]:=λz=>by
   have h1:=O.sm;rw[z]at A5;rw[wbB A5]at h1;have:(0:Int)=(ls.map f).sum:=h1
   lia
  refine{_,rfl,u,_,rfl,.inl (aL.of UN),rfl,true,Hd _,eD ?_};refine{λσ' H'=>∃(y u:Addr) (R:List Str) (C:List Int) (a:List (List (Str×Nat))) (j:List z9) (r:List V) (G:List Nat) (v7:Option V),R.length=v.length+1/\σ'=[some (.ref x),some (.int many),some (.int (n:Int)),some (.ref dl),some (.ref y),some (.ref b),some (.ref u),v7]/\a7 H H'/\H' dl=some (.dK (bJ (cE f ls)))/\cj K L.aE (fE H' b) y R C a/\fh g bw ss ls many n f j R C a/\H' b=some (.lst r)/\bA K (fE H' b) (j.map za) r/\u≠b/\H' u=some (.lst ((nI G).map V.int))/\oB a many G,?_,?_}
  .rintro σ' H' ⟨y,u,R,C,a,j,r,G,v7,e1,rfl,s',Jc,S',L',HA,r',Zz,Ja,UO⟩;have:=L'.len;exact{_,by lia,y,u,R,C,a,j,r,G,v7,rfl,rfl,s',Jc,S',L',HA,r',Zz,Ja,UO}
  refine{_,rfl,_,rfl,y,many,v,C,a,rfl,S7.same vy,O.b,hK,BA,by lia,λl hl=>by have:=W7.m l hl;lia,by lia,by lia,λt l d ns w H8 s8 fl ft X3 X4 ok Ij KC=>?_};have hT:=gA.of (K:=K) X3;have S8:=(S7.same vy).same s8;refine{_,rfl,_,rfl,_,rfl,t,_,_,_,rfl,rfl,hT,rfl,_,rfl,t,_,_,_,rfl,rfl,hT,rfl,_,rfl,t,_,_,_,rfl,rfl,hT,rfl,y,l,many,(d:Int),w,nI ns,v,C,a,rfl,S8,aL.of X4,by rw[bL];lia,W7,by lia,by lia,.inl {ok,λy' H9 s9 S9=>?_}};rw[waA]at S9;have X5:=s8 _ _ Z;have X6:=s9 _ _ X5;have L9:=O.step ok;have W9:=L9.whole X Jd;have UP:(dD a d (nI ns)).length<=1000:=by rw[W9.l];exact W9.n
  have ZA:l≠b:=λz=>by rw[z,Z]at fl;cases fl
  have ZB:t≠b:=λz=>by rw[z,Z]at ft;cases ft
  have r9:bA K (fE H9 b) ((j++[(d,ns,w)]).map za) (r++[.ref t]):=by
   rw[wai];exact i9 (bA.same (pA (s8.trans s9)) _ _ r7) (DC (gv (s9 _ _ X3) ZB) (gv (s9 _ _ X4) ZA))
  have Sb:cj K L.aE (fE H9 b) y' _ _ _:=S9.same (DB X5);refine{_,rfl,.inl {rfl,_,aL.of X6},_,rfl,b,_,_,rfl,rfl,X6,bE (by lia),?_};have eo:fE (upd H9 b (.lst (r++[.ref t]))) b=fE H9 b:=Kv;rw[<-eo]at r9 Sb;have Fp:a7 H (upd H9 b (.lst (r++[.ref t]))):=λc o e=>by rw[ae (af e U4)];exact s9 _ _ (s8 _ _ (s7 _ _ e))
  have X7:(upd H9 b (.lst (r++[.ref t]))) dl=some (.dK (bJ (cE f ls))):=by rw[ae Qq];exact s9 _ _ (s8 _ _ X2)
  have UQ:(upd H9 b (.lst (r++[.ref t]))) b=some (.lst (r++[.ref t])):=a6;generalize upd H9 b (.lst (r++[.ref t]))=Ov at Fp X7 UQ r9 Sb;refine{_,rfl,_,rfl,y',many,_,_,_,rfl,Sb.same vy,UP,λl hl=>by have:=W9.m l hl;lia,λZC ZD FU S I Y UO=>?_};refine{y',ZC,_,_,_,j++[(d,ns,w)],r++[.ref t],ZD,_,?_,rfl,Fp.trans S,S _ _ X7,Sb.same (pA S),L9,S _ _ UQ,bA.same (pA S) _ _ r9,(λz=>by rw[z,UQ]at I;cases I),Y,UO};unfold cT;rw[wa5];rfl
 .refine{_,rfl,u,_,rfl,.inl (aL.of UN),rfl,false,congrArg V.bl (decide_eq_false λz=>QL (wbB (by have:=V.int.inj z;rw[wa0,bL]at this;lia))),bx ?_};refine{_,rfl,_,rfl,_,rfl,_,rfl,?_};intro z dz nz Sd X8;have sm:a7 M (upd (upd M dz (.own z)) z (.ins L.aO dz [])):=fo nz Sd;refine{z,dz,dl,y,.ref b,.ref u,cE f ls,j,G,v,C,a,rfl,a6,.inl (sm _ _ X2),{b,r,rfl,.inl (sm _ _ Z),bA.same (vy.trans sm) _ _ r7},jz (sm _ _ UN),(S7.same vy).same sm,by lia,by lia,by lia,λl hl=>by have:=W7.m l hl;lia,by lia,λa' b' c' y' H8 h8 fa ZE r8 ZF S8 ZG=>{rfl,?_}};have s8:a7 M H8:=λc o e=>ZG _ _ (sm _ _ e) (af e nz);have nw:a7 (aM (upd (upd M dz (.own z)) z (.ins L.aO dz [])) H8) (aM H H8):=eM (s7.trans sm);refine k QK z f0 f j G v C a H8 (s7.trans s8) {dz,a',b',c',y',bX (none_of s7 nz) h8,bX (none_of (s7.trans sm) fa) ZE,bM.same nw _ _ r8,bM.same nw _ _ ZF,S8.same nw} hL hle {X1,λp hp=>?_,EL,Sa,X,O.rn,O.b,O.cv,by lia,hK,QL,by lia,O.sb};have h1:=hle p hp;have h2:=hG.le p hp
  lia
end
end K52
namespace Bs
open PySem L2 Sx
theorem fD:∀{fs:List (Str×V)},n∉fs.map (·.1)->cO n v fs=fs++[(n,v)]
 |[],_=>rfl
 |(a,u)::fs,h=>by
  have b:¬a=n:=λz=>h (by grind);show (if a=n then _ else _)=_;rw[if_neg b,fD (fs:=fs) λz=>h (by grind)];rfl
theorem dM:∀{fs:List (Str×V)},n∉fs.map (·.1)->(fs++(n,v)::g).lookup n=some v:=by grind [wgb,wae,wac]
theorem di:∀{fs:List (Str×V)},n∉fs.map (·.1)->fs.lookup n=none:=by grind [wae,wac]
noncomputable def NP(p:Addr):List (Str×V):=[("scheme",.ref p)]
noncomputable def Ox(p b:Addr):List (Str×V):=[("scheme",.ref p),("band",.ref b)]
noncomputable def NQ(p b:Addr)(many:Int):List (Str×V):=[("scheme",.ref p),("band",.ref b),("many",.int many)]
noncomputable def LR(p b:Addr)(many wide:Int):List (Str×V):=[("scheme",.ref p),("band",.ref b),("many",.int many),("wide",.int wide)]
noncomputable def LU(p b:Addr)(many wide:Int)(h:Addr):List (Str×V):=[("scheme",.ref p),("band",.ref b),("many",.int many),("wide",.int wide),("homes",.ref h)]
noncomputable def Iz(p b:Addr)(many wide:Int)(h l:Addr):List (Str×V):=[("scheme",.ref p),("band",.ref b),("many",.int many),("wide",.int wide),("homes",.ref h),("lines",.ref l)]
noncomputable def Oy(p b:Addr)(many wide:Int)(h l:Addr)(o:Str):List (Str×V):=[("scheme",.ref p),("band",.ref b),("many",.int many),("wide",.int wide),("homes",.ref h),("lines",.ref l),("opening",.str o)]
noncomputable def n9(p b:Addr)(many wide:Int)(h l:Addr)(o:Str)(i:Int):List (Str×V):=[("scheme",.ref p),("band",.ref b),("many",.int many),("wide",.int wide),("homes",.ref h),("lines",.ref l),("opening",.str o),("first",.int i)]
section
variable(p b h l:Addr)(many wide i:Int)(o:Str)
theorem QM:cO "scheme" (.ref p) []=NP p:=rfl
theorem QN:cO "band" (.ref b) (NP p)=Ox p b:=fD (by show ("band":Str)∉[("scheme":Str)];decide+kernel)
theorem QO:cO "many" (.int many) (Ox p b)=NQ p b many:=fD (by show ("many":Str)∉[("scheme":Str),"band"];decide+kernel)
theorem QP:cO "wide" (.int wide) (NQ p b many)=LR p b many wide:=fD (by show ("wide":Str)∉[("scheme":Str),"band","many"];decide+kernel)
theorem QQ:cO "homes" (.ref h) (LR p b many wide)=LU p b many wide h:=fD (by show ("homes":Str)∉[("scheme":Str),"band","many","wide"];decide+kernel)
theorem QR:cO "lines" (.ref l) (LU p b many wide h)=Iz p b many wide h l:=fD (by show ("lines":Str)∉[("scheme":Str),"band","many","wide","homes"];decide+kernel)
theorem QS:cO "opening" (.str o) (Iz p b many wide h l)=Oy p b many wide h l o:=fD (by show ("opening":Str)∉[("scheme":Str),"band","many","wide","homes","lines"];decide+kernel)
theorem QT:cO "first" (.int i) (Oy p b many wide h l o)=n9 p b many wide h l o i:=fD (by show ("first":Str)∉[("scheme":Str),"band","many","wide","homes","lines","opening"];decide+kernel)
theorem qx:(LR p b many wide).lookup ("scheme":Str)=some (.ref p):=dM (fs:=[]) ∅
theorem CM:(Iz p b many wide h l).lookup ("band":Str)=some (.ref b):=dM (fs:=NP p) (by show ("band":Str)∉[("scheme":Str)];decide+kernel)
theorem CQ:(Iz p b many wide h l).lookup ("wide":Str)=some (.int wide):=dM (fs:=NQ p b many) (by show ("wide":Str)∉[("scheme":Str),"band","many"];decide+kernel)
theorem AZ:(Iz p b many wide h l).lookup ("lines":Str)=some (.ref l):=dM (fs:=LU p b many wide h) (by show ("lines":Str)∉[("scheme":Str),"band","many","wide","homes"];decide+kernel)
theorem zm:(Iz p b many wide h l).lookup ("behind":Str)=none:=di (by show ("behind":Str)∉[("scheme":Str),"band","many","wide","homes","lines"];decide+kernel)
theorem zo:(n9 p b many wide h l o i).lookup ("scheme":Str)=some (.ref p):=dM (fs:=[]) ∅
theorem iI:(n9 p b many wide h l o i).lookup ("band":Str)=some (.ref b):=dM (fs:=NP p) (by show ("band":Str)∉[("scheme":Str)];decide+kernel)
theorem CT:(n9 p b many wide h l o i).lookup ("many":Str)=some (.int many):=dM (fs:=Ox p b) (by show ("many":Str)∉[("scheme":Str),"band"];decide+kernel)
theorem dH:(n9 p b many wide h l o i).lookup ("wide":Str)=some (.int wide):=dM (fs:=NQ p b many) (by show ("wide":Str)∉[("scheme":Str),"band","many"];decide+kernel)
theorem tq:(n9 p b many wide h l o i).lookup ("homes":Str)=some (.ref h):=dM (fs:=LR p b many wide) (by show ("homes":Str)∉[("scheme":Str),"band","many","wide"];decide+kernel)
theorem tu:(n9 p b many wide h l o i).lookup ("lines":Str)=some (.ref l):=dM (fs:=LU p b many wide h) (by show ("lines":Str)∉[("scheme":Str),"band","many","wide","homes"];decide+kernel)
theorem oa:(n9 p b many wide h l o i).lookup ("opening":Str)=some (.str o):=dM (fs:=Iz p b many wide h l) (by show ("opening":Str)∉[("scheme":Str),"band","many","wide","homes","lines"];decide+kernel)
theorem B1:(n9 p b many wide h l o i).lookup ("first":Str)=some (.int i):=dM (fs:=Oy p b many wide h l o) (by show ("first":Str)∉[("scheme":Str),"band","many","wide","homes","lines","opening"];decide+kernel)
theorem b4(hn:n∉[("scheme":Str),"band","many","wide","homes","lines","opening","first"]):(n9 p b many wide h l o i).lookup n=none:=di hn
end
structure B4(K:wa2)(C CP CS:Addr)(H:Hp)(x xb:Addr)(many:Int)(n:Nat)(m:List (Str×Int))(qF:List z9)(ks:List Nat)(hs:List Str)(ws:List Int)(lns:List (List (Str×Nat)))(b:Nat):Prop where
 ex:∃dx p a l,H x=some (.ins C dx (n9 p xb many (n:Int) a l (cJ (fj lns ks many.toNat) 0 (waj b 0)).1 ((cJ (fj lns ks many.toNat) 0 (waj b 0)).2:Int)))/\oF K CP CS H p m qF ks hs ws lns/\bM K H (se (ks.map λd=>hs.getD d "")) (.ref a)/\bM K H (kz (fj lns ks many.toNat)) (.ref l)
end Bs
namespace Sx
open PySem L2 Bs
inductive IA(C CB:Addr)(vs:List V)(H:Hp)(Q:VK)(dA:XK):Prop
 |mk (x xb dx:Addr) (fs:List (Str×V)) (n:Nat) (g:Str) (bw ss ls:List Str) (_:vs=[.ref x]) (_:H x=some (.ins C dx fs)) (_:fs.lookup ("band":Str)=some (.ref xb)) (_:fs.lookup ("wide":Str)=some (.int (n:Int))) (_:aZ CB H xb g bw ss ls) (_:1<=n) (_:n<=10) (_:(∀w∈bw,w.length<=900)) (_:bw.length<=1000) (_:∀(b:Nat) (H':Hp),a7 H H'->n6 bw n b->Q (.int (b:Int)) H')
inductive Fq(K:wa2)(C CB CP CS CX CO:Addr)(vs:List V)(H:Hp)(Q:VK)(E:XK):Prop
 |mk (x dx xb:Addr) (many:Int) (n:Nat) (g:Str) (bw ss ls:List Str) (_:vs=[.ref x,.ref xb,.int many,.int (n:Int)]) (_:H x=some (.ins C dx [])) (_:aZ CB H xb g bw ss ls) (_:(∀w∈bw,1<=w.length/\w.length<=900)) (_:bw.length<=1000) (_:("":Str)∈ss) (_:(ch g).Nodup) (_:2<=g.length) (_:g.length<=10) (_:ss.length<=900) (_:gq g.length many n) (_:(Fb g bw ss many n->∀(p a l:Addr) (f0 f:Str->Int) (qF:List z9) (ks:List Nat) (hs:List Str) (ws:List Int) (lns:List (List (Str×Nat))) (b:Nat) (H':Hp),(∀c o,H c=some o->c≠x->H' c=some o)->H' x=some (.ins C dx (n9 p xb many (n:Int) a l (cJ (fj lns ks many.toNat) 0 (waj b 0)).1 ((cJ (fj lns ks many.toNat) 0 (waj b 0)).2:Int)))->oF K CP CS (aM H H') p (cE f ls) qF ks hs ws lns->bM K (aM H H') (se (ks.map λd=>hs.getD d "")) (.ref a)->bM K (aM H H') (kz (fj lns ks many.toNat)) (.ref l)->u9 g bw ss ls many n f0->(∀p∈ls,f p<=f0 p)->gT g bw ss ls many n f qF ks hs ws lns->FV many n (fj lns ks many.toNat)->n6 bw n b->Q .non H')) (_:TL CX g bw ss many n H E) (_:(Fb g bw ss many n->z8 g bw ss ls many n->∀H',a7 H H'->E (.ref CO) none H'))
end Sx
namespace Bs
open PySem L2 Sx
theorem IB(B:aZ C H j g bw ss ls)(I:H x=some (.ins J T fs))(hn:j≠x):aZ C (fE H x) j g bw ss ls:=by
 obtain⟨⟨f,b,d,q,t,u,h,i,v,k,r⟩,p,o,l⟩:=B;have ne:∀{c:Addr} {o:HO},H c=some o->(∀a b e,o≠.ins a b e)->c≠x:=λe n z=>by grind
 exact{{f,b,d,q,t,gv u hn,gv h (ne h λ_ _ _ z=>by cases z),gv i (ne i λ_ _ _ z=>by cases z),v,λm s=>gv (k m s) (ne (k m s) λ_ _ _ z=>by cases z),gv r (ne r λ_ _ _ z=>by cases z)},p,o,l}
theorem w5:∀b:Nat,(waj b [V.int 0]).flatten=(nI (waj b 0)).map V.int
 |0=>rfl
 |b+1=>by
  rw[wcE,wc6,w5 b,wcE];rfl
theorem CU(h:∀c o,H c=some o->∃g,j c=some g):a7 (aM j l) (aM H l):=by grind [a7,aM]
end Bs
namespace K52
open PySem L2 Bs Sx
section
variable{P:waq}{w:World}{K:wa2}{mg:Str->Option Value}{base:Heap}
local macro_rules|`(tactic|ac_rfl)=>`(tactic|try dsimp only[cZ,cY,aX,aY])
theorem bq(L:Lk K mg):aS P w K mg base cP 3 L.lj L.lE ["self"] (IA L.aj L.aA):=by
 refine L.bf.F.d7 (N:=["self"]) (λe A outer s H l Q E nd m h=>?_);obtain⟨x,f,c,fs,n,g,bw,ss,ls,rfl,d,i,j,B,n1,lO,a,b,k⟩:=h;refine{_,(a9 (aw (au (rx L) L.lH (a8 (az (pv 0) rfl) (aK (az (pv 0) rfl)))))),?_}
 ac_rfl
 exact{_,rfl,x,L.aj,c,_,_,rfl,d,L.ag.cl,L.ag.rj,i,_,rfl,x,L.aj,c,_,_,rfl,d,L.ag.cl,L.ag.je,j,f,n,g,bw,ss,ls,rfl,B,n1,lO,a,b,k}
theorem oM(L:Lk K mg):aS P w K mg base (Bh P w) 10 L.fP L.iY ["self","band","many","wide"] (Fq K L.aj L.aA L.aO L.aE L.cF L.oI):=by
 refine L.j7.F.Ex (N:=["self","band","many","wide","sheet","kept","found"]) (λgG A outer s H vs Q E nd hr h=>?_);obtain⟨x,a,j,many,n,g,bw,ss,ls,rfl,hx,B,Il,NK,ZH,QI,DP,DM,wQ,Iw,k,kS,kO⟩:=h
 refine{_,(a5 (d1 (pv 0) (jY (CL L) (hr.mono ⋯) rfl L.nr.g L.nr.F.kp L.nr.b .nil (xM cX) (a8 (pv 1) (a8 (pv 2) (aK (pv 3))))) rfl)
  (a5 (d1 (pv 0) (pv 1) rfl)
  (a5 (d1 (pv 0) (pv 2) rfl)
  (a5 (d1 (pv 0) (pv 3) rfl)
  (a5 (ai (i:=4) (eV (az (pv 0) rfl) L.dG.cl L.qp (wX L)))
  (a5 (ai (i:=5) (az (az (pv 0) rfl) rfl))
  (a5 (d1 (pv 0) (cG rfl (ay ["sheet"] [4]) (aQ (pv 5)) (λ_ _ _ _ _ _=>bj) (λ_ _ _ _ _ _=>(bc (gH (K:=K) rfl) (nj (K:=K) rfl (pv 1) rfl) (pv 0) (λ_ _=>rfl)))) rfl)
  (a5 (d1 (pv 0) (cG rfl (ay ["sheet","kept","many"] [4,5,2]) (aQ (pv 5)) (λ_ _ _ _ _ _=>bj) (λ_ _ _ _ _ _=>(au (jP L) L.fU (a8 (bc (gH (K:=K) rfl) (nj (K:=K) rfl (pv 1) rfl) (pv 0) (λ_ _=>rfl)) (a8 (pv 2) (aK (pv 3))))))) rfl)
  (a5 (ai (i:=6) (au (yn L) L.vS (a8 (az (pv 0) rfl) (a8 aq (aK (aC Gm (cA (aK aq)) (eV (pv 0) L.ag.cl L.bf (bq L))))))))
  (a5 (d1 (pv 0) (bc fG (pv 6) aq (λ_ _=>rfl)) rfl)
  (a9 (d1 (pv 0) (bc fG (pv 6) aq (λ_ _=>rfl)) rfl)))))))))))),?_}
 ac_rfl
 obtain⟨ra,rb,rc,rd,re⟩:=id Iw
 have ZI:j≠x:=λz=>by
  obtain⟨dx',b,d,q,mv,h1,_⟩:=id B.ex;rw[z,hx]at h1;have:=wad h1;injection this with _ _ q2
  cases q2
 refine{_,rfl,_,rfl,_,rfl,j,many,n,g,bw,ss,ls,rfl,B,λw hw=>(Il w hw).1,QI,DP,DM,wQ,Iw,λQK p f0 f qF C S ws r H1 s1 P1 hL hle D=>?_,kS,kO};have W0:=QE (n:=n) D.ko D.ne (show 0<=many by lia) (D.cv.word D.b.l (λq J=>B.lv.sub.subset (D.sb q J)) ZH);have P1':=P1.same (cf _ _);have ZJ:=D.ln;have hwL:=D.b.w;have T6:=D.b.l
 have Jd:g.length^n<=64:=by
  rw[waA]at re;have:((g.length^n:Nat):Int)<=64:=by rw[wdO];exact re
  lia
 have Qy:∀l∈r,l.length<=10000:=λl hm=>by
  have h1:=D.cv.line D.b.l (b:=64) (λp=>wak (gu g bw ss ls n p) Jd) l hm;have h2:64*S.length<=64*40:=wcb _ (by lia)
  lia
 have Wa:C.length<=40:=by have:=D.ko.ab.sub.length_le;rw[waC]at this;lia
 have X9:∀d∈C,d<r.length:=λd hd=>(D.ko.st d hd).1;refine{_,rfl,x,L.aj,a,[],rfl,s1 _ _ hx,L.ag.cl,L.ag.pC,(show 0<1000 by decide),?_};rw[QM];refine{_,rfl,_,rfl,x,L.aj,a,_,rfl,a6,L.ag.cl,L.ag.rj,(show 1<1000 by decide),?_};rw[QN];refine{_,rfl,_,rfl,x,L.aj,a,_,rfl,a6,L.ag.cl,L.ag.Ic,(show 2<1000 by decide),?_};rw[QO];refine{_,rfl,_,rfl,x,L.aj,a,_,rfl,a6,L.ag.cl,L.ag.je,(show 3<1000 by decide),?_};rw[QP];have x2:(upd (upd (upd (upd H1 x (.ins L.aj a (NP p))) x (.ins L.aj a (Ox p j))) x (.ins L.aj a (NQ p j many))) x (.ins L.aj a (LR p j many (n:Int)))) x=some (.ins L.aj a (LR p j many (n:Int))):=a6;have k2:∀c o,H1 c=some o->c≠x->(upd (upd (upd (upd H1 x (.ins L.aj a (NP p))) x (.ins L.aj a (Ox p j))) x (.ins L.aj a (NQ p j many))) x (.ins L.aj a (LR p j many (n:Int)))) c=some o:=λc o e hc=>by rw[ae hc,ae hc,ae hc,ae hc];exact e
 generalize upd (upd (upd (upd H1 x (.ins L.aj a (NP p))) x (.ins L.aj a (Ox p j))) x (.ins L.aj a (NQ p j many))) x (.ins L.aj a (LR p j many (n:Int)))=H2 at x2 k2;have UR:∀c o,H c=some o->c≠x->H2 c=some o:=λc o e hc=>k2 c o (s1 _ _ e) hc;have n2:a7 (aM H H1) (aM H H2):=bQ hx k2;have P2:=P1.same (n2.trans (cf _ _));obtain⟨dp,wa,wb,T,wz,QU,_,_,ZK,_⟩:=id P2;refine{_,rfl,x,L.aj,a,_,_,rfl,x2,L.ag.cl,L.ag.pC,qx p j many n,p,dp,_,rfl,QU,di (by show ("sheet":Str)∉[("weights":Str),"splits","kept","last"];decide+kernel),p,cE f ls,qF,C,S,ws,r,rfl,P2,by lia,by lia,by lia,Qy,λy H3 s3 S3=>?_};have x3:=s3 _ _ x2;refine{_,rfl,x,L.aj,a,_,_,rfl,x3,L.ag.cl,L.ag.pC,qx p j many n,p,L.aO,dp,_,_,rfl,s3 _ _ QU,L.dG.cl,L.dG.Ia,CD wa wb T wz,?_}
 have UT:aL K H3 T ((nI C).map V.int):=by
  obtain⟨c',e,h⟩:=iq (bM.same s3 _ _ ZK);cases e;exact h
 have ZL:=S3.same (cf _ _);obtain⟨dy,ah,Xa,cl,hy,rh,rwt,rl⟩:=id ZL;have hh:=u5 rh;obtain⟨Qs,xs,ec,hc,wB⟩:=id rl;cases ec;refine{_,rfl,T,rfl,{_,UT},λm UU=>?_};refine dN (λ_=>true) (λv=>match v with |.int d=>.str (S.getD d.toNat "") |_=>.non) (aR K T _) UU (ao (by rw[wa0,bL];lia)) (λH' s'=>s'.seq UT) (λv H8 Q' hy s8 qq=>qq H8 (a7.refl _)) (λv H4 Q' hv _ M qq=>?_) (λH4 M h4=>?_)
 .obtain⟨n',Bg,rfl⟩:=rg hv;have U:n'<S.length:=by rw[<-T6];exact X9 n' Bg
  exact{_,rfl,y,L.aE,dy,_,_,rfl,M _ _ hy,L.aB.cl,L.aB.fM,fq ah Xa cl,_,rfl,ah,_,_,_,rfl,rfl,M.seq (.inl hh),bC (v:=.str (S.getD n' "")) (by rw[wa4,wa1 U,wa3,wa1 U];rfl),qq H4 (a7.refl _)}
 have e4:(((nI C).map V.int).filter λ_=>true).map (λv=>match v with |.int d=>V.str (S.getD d.toNat "") |_=>.non)=(C.map λd=>S.getD d "").map V.str:=by
  rw[wba.mpr (λ_ _=>rfl)];unfold nI;rw[waf,waf,waf];rfl
 rw[e4]at h4;have X:m≠x:=wbu (af x3 UU);refine{_,rfl,x,L.aj,a,_,rfl,M _ _ x3,L.ag.cl,L.ag.fM,(show 4<1000 by decide),?_};rw[QQ];have x5:(upd H4 x (.ins L.aj a (LU p j many (n:Int) m))) x=some (.ins L.aj a (LU p j many (n:Int) m)):=a6;have k5:∀c o,H4 c=some o->c≠x->(upd H4 x (.ins L.aj a (LU p j many (n:Int) m))) c=some o:=λc o e hc=>by rw[ae hc];exact e
 generalize upd H4 x (.ins L.aj a (LU p j many (n:Int) m))=H5 at x5 k5;have x4:=M _ _ x3
 have ZM:y≠x:=λz=>by
  obtain⟨_,_,_,_,h,_⟩:=id S3;rw[z]at h;unfold aM at h;rw[x2]at h;cases h
 have NN:aL K H5 T ((nI C).map V.int):=(f7 k5).seq (yT x4 (M.seq UT));have Ux:=k5 _ _ (M _ _ hy) ZM;have ZN:bM K H5 (kz r) (.ref cl):=bM.same (f7 k5) _ _ (bM.off x4 _ _ (bM.same M _ _ rl));obtain⟨Wm,ZO,ZP,ZQ,UW⟩:=id ZN;cases ZP;refine{_,rfl,T,rfl,{_,NN},λu z4=>?_};refine vc (K:=K) ((fj r C many.toNat).map bY) (aR K T _) z4 (ao (by rw[wa0,bL];lia)) (by unfold fj;rw[wa0,wa0,wa0,bL]) (λH' s'=>s'.seq NN) (λi v dd H6 Q' hv Oo Y qq=>?_) (λH6 Y r6=>?_)
 .have hi:i<C.length:=by have:=(wa6.mp hv).1;rwa[wa0,bL]at this
  rw[vp (wa1 hi)]at hv;cases hv;unfold fj at Oo;rw[wa4,wa4,wa1 hi]at Oo;cases Oo;have Ij:=X9 _ (waL hi);generalize C[i]=d at qq Ij;have J:=cM Ij;obtain⟨v',NF,ZR⟩:=UW.at (i:=d) (d:=bY (r.getD d [])) (by rw[wa4,J];rfl);exact{_,rfl,y,L.aE,dy,_,_,rfl,Y _ _ Ux,L.aB.cl,L.aB.cR,bS ah Xa cl,_,rfl,cl,ZO,_,_,rfl,rfl,Y.seq (.inl ZQ),bC NF,_,rfl,_,rfl,v',T,many,C,r.getD d [],rfl,bM.same Y _ _ ZR,Y.seq NN,by lia,Qy _ (wa8 J),by lia,λz O s7 r7=>qq z O s7 r7}
 have x6:=Y _ _ x5;refine{_,rfl,x,L.aj,a,_,rfl,x6,L.ag.cl,L.ag.cR,(show 5<1000 by decide),?_};rw[QR];have x7:(upd H6 x (.ins L.aj a (Iz p j many (n:Int) m u))) x=some (.ins L.aj a (Iz p j many (n:Int) m u)):=a6;have k7:∀c o,H6 c=some o->c≠x->(upd H6 x (.ins L.aj a (Iz p j many (n:Int) m u))) c=some o:=λc o e hc=>by rw[ae hc];exact e
 generalize upd H6 x (.ins L.aj a (Iz p j many (n:Int) m u))=O at x7 k7;have Xb:∀c o,H c=some o->c≠x->H5 c=some o:=λc o e hc=>k5 _ _ (M _ _ (s3 _ _ (UR c o e hc))) hc;have ZS:∀c o,H c=some o->c≠x->O c=some o:=λc o e hc=>k7 _ _ (Y _ _ (Xb c o e hc)) hc;have r7:bM K O (kz (fj r C many.toNat)) (.ref u):=bM.same ((DB x5).trans (f7 k7)) _ _ r6;have B7:aZ L.aA O j g bw ss ls:=(IB B hx ZI).same (f7 ZS);refine{_,rfl,x,L.aj,a,_,_,rfl,x7,L.ag.cl,L.ag.cR,AZ p j m u many n,by show 1<=sizeLine;decide,λl0 LO=>?_};have s8:=a7.upd (H:=O) (o:=.lst [V.int 0]) LO;have h8:(upd O l0 (.lst [V.int 0])) l0=some (.lst [V.int 0]):=a6;generalize upd O l0 (.lst [V.int 0])=H8 at s8 h8;have x8:=s8 _ _ x7;refine{_,rfl,x,a,_,rfl,x8,zm p j m u many n,x,j,a,_,n,g,bw,ss,ls,rfl,x8,CM p j m u many n,CQ p j m u many n,B7.same s8,by lia,by lia,λw hw=>(Il w hw).2,NK,λb H9 s9 hb=>?_};have hb1:=hb.le;refine{l0,(b:Int),[V.int 0],rfl,rfl,s9 _ _ h8,by lia,by lia,ao (by show 1*((b:Int)).toNat<=_;lia),λpr UX=>?_};rw[waA,w5];have Fp:=a7.upd (H:=H9) (o:=.lst ((nI (waj b 0)).map V.int)) UX;have Iy:(upd H9 pr (.lst ((nI (waj b 0)).map V.int))) pr=some (.lst ((nI (waj b 0)).map V.int)):=a6;generalize upd H9 pr (.lst ((nI (waj b 0)).map V.int))=Ov at Fp Iy;have Z:=s8.trans (s9.trans Fp);refine{.ref u,0,pr,many,n,fj r C many.toNat,waj b 0,rfl,bM.same Z _ _ r7,aL.of Iy,W0,wcd.mpr W0.ne,λt ht=>by rw[(wdm.mp ht).2];lia,by rw[waP];lia,by lia,λq R Je J=>?_};have QV:=Z.trans Je;have Xc:=QV _ _ x7;have TU:q≠x:=λz=>by rw[z,Xc]at J;cases J
 generalize ZT:cJ (fj r C many.toNat) 0 (waj b 0)=G at J;refine{_,rfl,q,_,_,_,rfl,rfl,gA.of J,rfl,_,rfl,x,L.aj,a,_,rfl,Xc,L.ag.cl,L.ag.rk,(show 6<1000 by decide),?_};rw[QS];refine{_,rfl,q,_,_,_,rfl,rfl,gA.of (by rw[ae TU];exact J),rfl,_,rfl,x,L.aj,a,_,rfl,a6,L.ag.cl,L.ag.DF,(show 7<1000 by decide),?_};rw[QT];have UY:(upd (upd R x (.ins L.aj a (Oy p j many (n:Int) m u G.1))) x (.ins L.aj a (n9 p j many (n:Int) m u G.1 (G.2:Int)))) x=some (.ins L.aj a (n9 p j many (n:Int) m u G.1 (G.2:Int))):=a6;have Xd:∀c o,R c=some o->c≠x->(upd (upd R x (.ins L.aj a (Oy p j many (n:Int) m u G.1))) x (.ins L.aj a (n9 p j many (n:Int) m u G.1 (G.2:Int)))) c=some o:=λc o e hc=>by rw[ae hc,ae hc];exact e
 generalize upd (upd R x (.ins L.aj a (Oy p j many (n:Int) m u G.1))) x (.ins L.aj a (n9 p j many (n:Int) m u G.1 (G.2:Int)))=I at UY Xd;have QW:∀c o,O c=some o->c≠x->I c=some o:=λc o e hc=>Xd _ _ (QV _ _ e) hc;have UZ:∀c o,H5 c=some o->c≠x->I c=some o:=λc o e hc=>QW _ _ (k7 _ _ (Y _ _ e) hc) hc;have QX:∀c o,H4 c=some o->c≠x->I c=some o:=λc o e hc=>UZ _ _ (k5 _ _ e hc) hc;have QY:∀c o,H2 c=some o->c≠x->I c=some o:=λc o e hc=>QX _ _ (M _ _ (s3 _ _ e)) hc
 have fla:H m=none:=by
  cases e:H m with
  |none=>rfl
  |some o=>have:=s3 _ _ (UR m o e X);rw[UU]at this;cases this
 have m5:∀c o,H c=some o->∃o',H5 c=some o':=λc o e=>by
  by_cases z:c=x
  .rw[z];exact{_,x5}
  .exact{o,Xb c o e z}
 rw[<-ZT]at UY;refine k QK p m u f0 f qF C S ws r b I (λc o e hc=>QY _ _ (UR c o e hc) hc) UY (P1.same (n2.trans (bQ hx QY))) (pj (bX fla (QX _ _ h4 X))) (bM.same ((CU m5).trans (bQ hx λc o e hc=>QW _ _ (k7 _ _ e hc) hc)) _ _ r6) hL hle D W0 hb
end
end K52
namespace L2
open PySem PySem.Spec PyProof.Rows Sx
section
variable{X:Cx}{e:Expr}{es:List Expr}{te:TE}{t:TJ}{pos:Pos}
end
end L2
namespace Sx
open PySem L2 Bs
noncomputable def KN(wl:List (List (Str×Nat)))(b c:Nat)(ts:List Nat):Str:=(cJ wl 0 (waj b 0)).1++(cJ wl (cJ wl 0 (waj b 0)).2 (ts++waj c 0)).1
end Sx
namespace L2
open PySem PySem.Spec PyProof.Rows
section
variable{M:Model}{A:Around}{E:Value->Shared->Prop}{e C C1 CB:Addr}{nm q:Str}{N:Addr}{bs:List Value}{hdct:Bool}{sn:List Str}{sub:List Value}{ab:Bool}{col:Option Bool}{dd:Option Addr}{k0 k1 k2 k3 k5:Option Value}
 {Q4 q':Str} {N':Addr} {ZU:List Value} {QZ:Bool} {ZV:List Str} {V0:List Value} {ZW:Bool} {V1:Option Bool} {ZX:Option Addr} {ZY ZZ k2' k3' k5':Option Value}
theorem zp{h:Heap}{g:Array wdx}{d:Drawn}{t:Nat}{os:wbV}{I:Obj}{Q:Bool->Shared->Prop}(j:h.get? C1=some (wbJ Q4 q' C1 N' ZU (oS CB) QZ ZV V0 ZW V1 ZX ZY ZZ k2' k3' k5' "ValueError.__new__"))
 (J:h.get? C=some (wbJ nm q C N bs (oS CB) hdct sn sub ab col dd k0 k1 k2 k3 k5 "ValueError.__new__"))
 (he:h.get? e=some I) (l:I.cls=.ref C) (p:C1≠C) (r:C1≠CB) (T:Q false ⟨h,g,d,t,os⟩) :
 wpAny M A (wgN (.ref e) (.ref C1)) Q E ⟨h,g,d,t,os⟩:=by
 have a:(wam C1::oS CB).contains (.type "BaseException")=true:=by simp[whj,oS]
 have b:(wam C::oS CB).contains (.ref C1)=false:=by simp[whj,oS,p,r]
 have f:=tc_notTuple;unfold wgN
 repeat (first |(with_reducible refine wbe he ?_;rw[l]) |with_reducible refine wbe j ?_ |with_reducible refine wbe J ?_ |(with_reducible refine wbT J ?_;rw[b]) |(with_reducible refine wbT j ?_;rw[a]) |wp_step)
 exact T
end
def Ra(C1 C2:Addr)(tb:FQ)(i:Nat):TS:=λD σ H=>tb (λσ' cv od H'=>(cv=.ref C1\/cv=.ref C2)/\D.nx (σ'.set i (some .non)) H') D σ H
section
variable{X:Cx}{CB C1 C2:Addr}{Qc Se x nm Q4:Str}{body:List Stmt}{tb:FQ}{i jj jk:Nat}{p1 p2 p3 p4 MY q1 q2 q3 q4 V2 pos:Pos}
theorem KO(l:X.stack=X.env::X.outer/\X.env.frame=some X.env.locals)(g:JU X body tb)(hg:Gl X Qc)(hm:X.mg Qc=some (.ref C1))(hg':Gl X Se)(Tg:X.mg Se=some (.ref C2))(U:fg X.K C1 CB nm)(U':fg X.K C2 CB Q4)(BA:C1≠C2)(hnb:C1≠CB)(hN:X.N.Nodup)(hi:X.N[i]?=some x)
 (hx:Loc X.env.scope x) (J:(Qc==("__debug__":Str))=false:=by decide) (T:(Se==("__debug__":Str))=false:=by decide)
 (hf:X.fn x=true\/X.env.scope.names.lookup x=some .local:=by first |exact .inl rfl |exact .inr rfl |assumption) (T8:wc7 (.Constant .none jj p3) (some (.Name x p2)) p4.line X.env=pure false:=by rfl) (V3:wc7 (.Constant .none jk q3) (some (.Name x q2)) q4.line X.env=pure false:=by rfl) :
 PS X (.Try body [.ExceptHandler (some (.Name Qc p1)) none [.Assign [.Name x p2] (.Constant .none jj p3) p4] MY,.ExceptHandler (some (.Name Se q1)) none [.Assign [.Name x q2] (.Constant .none jk q3) q4] V2] [] [] pos) (Ra C1 C2 tb i):=by
 refine{?_};intro a s σ H D I h;refine wpAny_Try_except (wbb (g a s σ H D _ I h) (λf s1 q=>?_) λY s1 q=>?_)
 .cases f with
  |next=>exact wcw q
  |ret v=>exact q
  |brk=>exact q
  |cont=>exact q
 obtain⟨r,H0,G,d,e,C',od,m,rfl,k,bare,un,b7,F,c,hD⟩:=q;have I1:Inv X a r m s1:=d.xh k un b7 bare λb z=>absurd z (by simp);have hfs:(X.env::X.outer).filterMap (·.frame)=rH X.stack:=by rw[l.1];rfl
 have t:=I1.tQ
 have L:G.heap.objs.size<=s1.heap.objs.size:=wfz λz=>by
  obtain⟨PY,_,vs,sl,he,_⟩:=F;exact absurd (wav (wbi PY (wah he)) (wfr z)) (wbm _)
 refine A6 (lo:=G.heap.objs.size) (H:=m) (base:=X.base) (outer:=X.outer) (by rw[<-l.1];exact d.ok.frames) (by rw[<-l.1];exact I1.stack) l.2 L (λb g=>b7.fresh g) F λZ F2 p=>?_;rw[hfs]at p;obtain⟨M,n,J2⟩:=d.BQ k bare un b7 p t;have u:=J2 s1.toks;obtain⟨qC,NC,bsC,snC,za6,abC,za7,ddC,c0,c1,c2,c3,c5,O⟩:=U.lk;obtain⟨qD,ND,bsD,snD,za8,abD,za9,ddD,e0,e1,e2,e3,e5,Q⟩:=U'.lk;obtain⟨Zt,sl2,w,_⟩:=id F2.ob;rcases c with c |c
 .cases c;refine weR (wez (gz (X:=X.marked e) (u.marked (e:=e)) hg hm ?_ J)) (by intro z;cases z);refine rZ (u.hU _ _ O) w rfl ?_;refine wgl ?_;refine uI F2 λR F3 S=>?_;have A:Er G.heap.objs.size m (rH X.stack) Z R:={λb o q g _=>S b o q g,λb o q g=>{o.slots,S b o q (.inl ?_)}}
  rotate_left
  .have:∃o,G.heap.get? b=some o:=by
    obtain⟨_,o,B,_⟩:=d.stack.mem g;exact⟨o,B⟩
   obtain⟨o,B⟩:=this;exact wah B
  obtain⟨un3,V,J3⟩:=d.BQ (s1:={s1 with heap:=Z}) k bare M n A t;have I3:=J3 s1.toks;have Y:=dn (X:=(X.marked e).L7) (j:=jj) (pos:=p3) a {s1 with heap:=R} r m (λv C=>v=.non/\C=m) ((I3.marked (e:=e)).og _) ⟨rfl,rfl⟩;refine wcY (we9 (MU (bO Y λv s5 ⟨y,H5,E,r5,ey,eH⟩=>?_)) T8);subst ey;subst eH;have E:=(E.gj).unmarked d.ok;refine jn E hN hi hx r5 (λs6 I6=>wcw ?_) hf;exact{_,_,I6,hD}
 .cases c;refine weR (wez (gz (X:=X.marked e) (u.marked (e:=e)) hg hm ?_ J)) (by intro z;cases z);refine zp (u.hU _ _ O) (u.hU _ _ Q) w rfl BA hnb ?_;refine weR (wez (gz (X:=X.marked e) (u.marked (e:=e)) hg' Tg ?_ T)) (by intro z;cases z);refine rZ (u.hU _ _ Q) w rfl ?_;refine wgl ?_;refine uI F2 λR F3 S=>?_;have A:Er G.heap.objs.size m (rH X.stack) Z R:={λb o q g _=>S b o q g,λb o q g=>{o.slots,S b o q (.inl ?_)}}
  rotate_left
  .have:∃o,G.heap.get? b=some o:=by
    obtain⟨_,o,B,_⟩:=d.stack.mem g;exact⟨o,B⟩
   obtain⟨o,B⟩:=this;exact wah B
  obtain⟨un3,V,J3⟩:=d.BQ (s1:={s1 with heap:=Z}) k bare M n A t;have I3:=J3 s1.toks;have Y:=dn (X:=(X.marked e).L7) (j:=jk) (pos:=q3) a {s1 with heap:=R} r m (λv C=>v=.non/\C=m) ((I3.marked (e:=e)).og _) ⟨rfl,rfl⟩;refine wcY (we9 (MU (bO Y λv s5 ⟨y,H5,E,r5,ey,eH⟩=>?_)) V3);subst ey;subst eH;have E:=(E.gj).unmarked d.ok;refine jn E hN hi hx r5 (λs6 I6=>wcw ?_) hf;exact{_,_,I6,hD}
end
end L2
namespace Bs
open PySem L2 Sx
structure NR(K:wa2)(C CB CP CS:Addr)(H:Hp)(x:Addr)(g:Str)(bw:List Str)(many:Int)(n:Nat):Prop where
 ex:∃(xb:Addr) (ss ls:List Str) (f0 f:Str->Int) (qF:List z9) (ks:List Nat) (hs:List Str) (ws:List Int) (lns:List (List (Str×Nat))) (b:Nat),aZ CB H xb g bw ss ls/\B4 K C CP CS H x xb many n (cE f ls) qF ks hs ws lns b/\Fb g bw ss many n/\u9 g bw ss ls many n f0/\(∀p∈ls,f p<=f0 p)/\gT g bw ss ls many n f qF ks hs ws lns/\FV many n (fj lns ks many.toNat)/\n6 bw n b
end Bs
namespace Sx
open PySem L2 Bs
inductive KP(K:wa2)(C CB CP CS:Addr)(vs:List V)(H:Hp)(Q:VK)(dA:XK):Prop
 |mk (g:Str) (a:Addr) (many:Int) (n:Nat) (bw:List Str) (_:vs=[.str g,.ref a,.int many,.int (n:Int)]) (_:aL K H a (bw.map V.str)) (_:A2 g) (_:bw.length<=6) (_:(∀w∈bw,yO g w)) (_:gq g.length many n) (_:∀(v:V) (H':Hp),a7 H H'->(v=.non\/∃x,v=.ref x/\NR K C CB CP CS H' x g bw many n)->Q v H')
end Sx
namespace Bs
open PySem L2 Sx AC
section
variable{ws ss:List Str}{r:Str}
theorem B5(g:ss.Perm (bP ws "" ws))(hw:∀w∈ws,1<=w.length)(l:bears ws r=false)(w:Str):∀i,i<=w.length->bears ws (lend ss r++df w i)=bears ws (r++df w i)/\(bears ws (r++df w i)=false->lend ss (lend ss r++df w i)=lend ss (r++df w i))
 |0,_=>by
  have n:("":Str)∈ss:=g.mem_iff.mpr (cp ws);rw[take_zero,kr,kr];obtain⟨o,p⟩:=oy g hw (p9 n r);exact{by rw[o,l],λ_=>p}
 |i+1,hi=>by
  obtain⟨f,j⟩:=B5 g hw l w i ();have hc:(ch w)[i]?=some ((ch w)[i]'(by rw[aN];omega)):=wa1 _;generalize (ch w)[i]'(by rw[aN];omega)=c at hc;rw[take_snoc hc,<-eL,<-eL]
  cases d:bears ws (r++df w i) with
  |true=>
   have up:∀q:Str,bears ws q=true->bears ws (q++{#[c]})=true:=λq s=>by
    cases e:bears ws (q++⟨#[c]⟩) with
    |true=>rfl
    |false=>
     have:=ju (a:=q) (b:=q++({#[c]}:Str)) (by rw[aT];exact(we1 _ _).isInfix) e;rw[s]at this;cases this
   rw[up _ d,up _ (f.trans d)];exact{rfl,λz=>by cases z}
  |false=>
   have hl:=j d;have h:=f.trans d;have t:=kj (c:=c) g d hw;have k:=kj (c:=c) g h hw;have u:=nk (c:=c) g d;have m:=nk (c:=c) g h;rw[hl]at k m;exact{k.symm.trans t,λ_=>m.symm.trans u}
theorem NS(g:ss.Perm (bP ws "" ws))(hw:∀w∈ws,1<=w.length)(j:bears ws r=false){w:Str}(h:bears ws (lend ss r++w)=false):bears ws (r++w)=false/\lend ss (r++w)=lend ss (lend ss r++w):=by
 obtain⟨a,b⟩:=B5 g hw j w w.length (waa _);rw[take_all]at a b;rw[h]at a;exact{a.symm,(b a.symm).symm}
end
theorem snoc_ind{α:Type}{P:List α->Prop}(h0:P [])(g:∀l a,P l->P (l++[a]))(l:List α):P l:=by
 have h:∀m:List α,P m.reverse:=λm=>by
  induction m with
  |nil=>exact h0
  |cons a m b=>rw[List.reverse_cons];exact g _ _ b
 rw[<-List.reverse_reverse l];exact h _
theorem IC(wl:List (List (Str×Nat))):∀(b:List Nat) (r:Str) (e:Nat),b.foldl (lN wl) (r,e)=(r++(b.foldl (lN wl) ("",e)).1,(b.foldl (lN wl) ("",e)).2):=by intro b;induction b<;>grind [kr,wdL,lN,wl,tZ,eL]
def IE(bw ss hk:List Str)(wl:List (List (Str×Nat))):Prop:=∀d,d<wl.length->∀q∈wl.getD d [],bears bw (hk.getD d ""++q.1)=false/\lend ss (hk.getD d ""++q.1)=hk.getD q.2 ""
theorem Fs{many:Int}{n:Nat}{bw ss hk:List Str}{wl:List (List (Str×Nat))}(g:FV many n wl)(j:ss.Perm (bP bw "" bw))(hw:∀w∈bw,1<=w.length)(G:IE bw ss hk wl){d:Nat}(hd:d<wl.length)(p:hk.getD d ""∈ss):∀ts:List Nat,(∀t∈ts,(t:Int)<many)->bears bw (hk.getD d ""++(cJ wl d ts).1)=false/\lend ss (hk.getD d ""++(cJ wl d ts).1)=hk.getD (cJ wl d ts).2 "":=by
 intro ts;refine snoc_ind (P:=λ(ts:List Nat)=>(∀t∈ts,(t:Int)<many)->bears bw (hk.getD d ""++(cJ wl d ts).1)=false/\lend ss (hk.getD d ""++(cJ wl d ts).1)=hk.getD (cJ wl d ts).2 "") ?_ ?_ ts
 .intro _;obtain⟨c,e⟩:=oy j hw p;show bears bw (hk.getD d ""++("":Str))=false/\lend ss (hk.getD d ""++("":Str))=hk.getD d "";rw[kr];exact⟨c,e⟩
 .intro ts t f h;obtain⟨i,k⟩:=f λx a=>h x (waV _ a);have r:=h t (waJ _ (wap.mpr rfl));obtain⟨b,_⟩:=qu g hd (ts:=ts) λx a=>h x (waV _ a);rw[ym];unfold lN;have hl:=wa8 (cM b);have m:=g.ln _ hl;have o:=wa8 (rq (l:=wl.getD (cJ wl d ts).2 []) (t:=t) (by lia));obtain⟨g1,g2⟩:=G _ b _ o;rw[<-k]at g1 g2;obtain⟨c1,q⟩:=NS j hw i g1;dsimp only;rw[<-eL];exact{c1,q.trans g2}
theorem wK.Em{g:Str}{bw ss ls:List Str}{n:Nat}{hs:List Str}{lns:List (List (Str×Nat))}(h:wK (aV g bw ss ls n) hs lns)(hl:lns.length=hs.length)(j:∀p∈hs,p∈ss)(l:ss.Perm (bP bw "" bw))(hw:∀w∈bw,1<=w.length){i:Nat}(hi:i<hs.length){q:Str×Nat}(r:q∈lns.getD i []):bears bw (hs.getD i ""++q.1)=false/\lend ss (hs.getD i ""++q.1)=hs.getD q.2 ""/\q.1∈J9 g n:=by
 have k:hs.getD i ""=hs[i]:=by rw[wa3,wa1 hi];rfl
 have m:hs[i]?=some hs[i]:=wa1 hi;have o:lns[i]?=some (lns.getD i []):=by rw[wa3,wa1 (by lia)];rfl
 have a:0<gL hs[i] (q.1,q.2) hs lns:=by
  have:=kC (z:=(q.1,q.2)) m o;have hc:0<(lns.getD i []).count (q.1,q.2):=wc2.mpr r
  lia
 rw[h hs[i] q.1 q.2]at a
 by_cases c:q.2<hs.length/\hs[i]∈hs/\(q.1,hs.getD q.2 "")∈aV g bw ss ls n hs[i]
 .have e:=(war.mp c.2.2).1;rw[uZ l hw (j _ (waL hi))]at e;obtain⟨z,s,d⟩:=wdR.mp e;unfold ky at d;rw[k]
  by_cases b:bears bw (hs[i]++z)=true
  .rw[if_pos b]at d;cases d
  .rw[if_neg b]at d;have f:=wad d;have t:z=q.1:=congrArg Prod.fst f;have u:lend ss (hs[i]++z)=hs.getD q.2 "":=congrArg Prod.snd f;subst t;exact{by simpa using b,u,s}
 .rw[if_neg c]at a
  lia
noncomputable def oN(hs:List Str)(ks:List Nat):List Str:=ks.map λd=>hs.getD d ""
theorem jQ{hs:List Str}{g:List Nat}{i:Nat}(hi:i<g.length):(oN hs g).getD i ""=hs.getD g[i] "":=by
 unfold oN;rw[wa3,wa4,wa1 hi];rfl
theorem gT.steps{g:Str}{bw ss ls:List Str}{many:Int}{n:Nat}{f:Str->Int}{r:List z9}{j:List Nat}{hs:List Str}{ws:List Int}{lns:List (List (Str×Nat))}(P:gT g bw ss ls many n f r j hs ws lns)(C:ss.Perm (bP bw "" bw))(hw:∀w∈bw,1<=w.length)(t:∀p∈ls,p∈ss)(m:Nat){d:Nat}(hd:d<j.length):j[d]<hs.length/\∀q∈(fj lns j m).getD d [],∃e,(q.1,e)∈lns.getD j[d] []/\e∈j/\q.2=j.idxOf e/\bears bw (hs.getD j[d] ""++q.1)=false/\lend ss (hs.getD j[d] ""++q.1)=hs.getD e ""/\q.1∈J9 g n:=by
 have hk:=(P.ko.st j[d] (waL hd)).1;rw[P.b.l]at hk;refine{hk,λq c=>?_}
 have i:(fj lns j m).getD d []=g7 j m (lns.getD j[d] []):=by
  unfold fj;rw[wa3,wa4,wa1 hd];rfl
 rw[i]at c;unfold g7 at c;obtain⟨z,k,rfl⟩:=wab.mp c;have a:=war.mp ((wbn _ _).subset k);obtain⟨c1,o,s⟩:=P.cv.Em P.b.l (λp h=>t p (P.sb p h)) C hw hk a.1;exact{z.2,a.1,of_decide_eq_true a.2,rfl,c1,o,s}
theorem gT.Em{g:Str}{bw ss ls:List Str}{many:Int}{n:Nat}{f:Str->Int}{l:List z9}{j:List Nat}{hs:List Str}{ws:List Int}{lns:List (List (Str×Nat))}(P:gT g bw ss ls many n f l j hs ws lns)(t:ss.Perm (bP bw "" bw))(hw:∀w∈bw,1<=w.length)(r:∀p∈ls,p∈ss)(m:Nat):IE bw ss (oN hs j) (fj lns j m):=by
 intro d hd q i
 have a:d<j.length:=by
  unfold fj at hd;rwa[wa0]at hd
 obtain⟨hk,h⟩:=P.steps t hw r m a;obtain⟨e,o,b,c,c1,k,_⟩:=h q i;have hi:=wc3.mpr b;rw[jQ a,c,jQ hi,we5 hi];exact⟨c1,k⟩
end Bs
namespace Bs
open PySem L2 Sx
theorem w6{p:Str}{z:Str×Nat}:∀{hs:List Str} {lns:List (List (Str×Nat))} {i j:Nat} {l m:List (Str×Nat)},i<j->hs[i]?=some p->hs[j]?=some p->lns[i]?=some l->lns[j]?=some m->l.count z+m.count z<=gL p z hs lns
 |[],_,_,_,_,_,_,h,_,_,_=>nomatch h
 |_,[],_,_,_,_,_,_,_,h,_=>nomatch h
 |h::hs,k::lns,0,j+1,l,m,_,a,b,c,d=>by
  cases a;cases c;have:=kC (z:=z) (p:=p) (hs:=hs) (lns:=lns) (i:=j) (by simpa using b) (by simpa using d);show _<=(if p=p then k.count z else 0)+_;rw[if_pos rfl]
  lia
 |h::hs,k::lns,i+1,j+1,l,m,q,a,b,c,d=>by
  have:=w6 (z:=z) (hs:=hs) (lns:=lns) (i:=i) (j:=j) (l:=l) (m:=m) (by lia) (by simpa using a) (by simpa using b) (by simpa using c) (by simpa using d);show _<=(if h=p then k.count z else 0)+_
  lia
theorem getD_some{α:Type}{l:List α}{i:Nat}(x:α)(h:i<l.length):l[i]?=some (l.getD i x):=by
 rw[wa3,wa1 h];rfl
theorem wK.most{B:Str->List (Str×Str)}{hs:List Str}{lns:List (List (Str×Nat))}(h:wK B hs lns)(p:Str)(z:Str×Nat):gL p z hs lns<=1:=by
 have:=h p z.1 z.2;rw[show (z.1,z.2)=z from rfl]at this;rw[this];split<;>lia
theorem wK.one{B:Str->List (Str×Str)}{hs:List Str}{lns:List (List (Str×Nat))}(h:wK B hs lns)(hl:lns.length=hs.length){d d':Nat}(hd:d<hs.length)(g:d'<hs.length)(e:hs.getD d ""=hs.getD d' ""){q:Str×Nat}(j:q∈lns.getD d [])(l:q∈lns.getD d' []):d=d':=by
 have c1:=wc2.mpr j;have f:=wc2.mpr l;have a:=getD_some ("":Str) hd;have b:=getD_some ("":Str) g;rw[<-e]at b;have m:=h.most (hs.getD d "") q;have l1:=getD_some [] (show d<lns.length by lia);have c:=getD_some [] (show d'<lns.length by lia);rcases wed d d' with z |z |z
 .have:=w6 (z:=q) z a b l1 c;lia
 .exact z
 .have:=w6 (z:=q) z b a c l1;lia
theorem wK.cnt{B:Str->List (Str×Str)}{hs:List Str}{lns:List (List (Str×Nat))}(h:wK B hs lns)(hl:lns.length=hs.length){d:Nat}(hd:d<hs.length)(q:Str×Nat):(lns.getD d []).count q<=1:=
 wak (kC (getD_some ("":Str) hd) (getD_some [] (show d<lns.length by lia))) (h.most _ q)
def jR(lns:List (List (Str×Nat))):Nat->List Str->Prop
 |_,[]=>True
 |d,w::ws=>∃e,(w,e)∈lns.getD d []/\jR lns e ws
def Ft(hs:List Str)(lns:List (List (Str×Nat)))(s:Nat):Prop:=∀d d' ws,d<lns.length->d'<lns.length->hs.getD d ""=hs.getD d' ""->ws.length=s->jR lns d ws->jR lns d' ws->d=d'
noncomputable def tN(d t e:Nat):Nat:=if e=t then d else e
theorem w9{l:List (Str×Nat)}{w:Str}{d t e:Nat}(hl:∀q∈l,q.2<t)(h:(w,e)∈eP d t l):(w,tN d t e)∈l:=by
 unfold eP at h;obtain⟨q,a,h⟩:=wcG.mp h;have:=hl q a;unfold tN
 by_cases c:q.2=d
 .rw[if_pos c]at h;rcases waK.mp h with z |z
  .rw[<-z]at a this;rw[if_neg (show ¬e=t from waw this)];exact a
  .have z:=wap.mp z;obtain⟨rfl,rfl⟩:=wce z;rw[if_pos rfl,<-c];exact a
 .rw[if_neg c]at h;have z:=wap.mp h;rw[<-z]at a this;rw[if_neg (show ¬e=t from waw this)];exact a
theorem Fu{lns:List (List (Str×Nat))}{d i:Nat}{ns:List Int}(hd:d<lns.length)(hi:i<lns.length+1):(dD lns d ns).getD i []=eP d lns.length (if i=d then b0 ns (lns.getD d []) else if i=lns.length then aW ns (lns.getD d []) else lns.getD i []):=by
 unfold dD;rw[wa3,wa4,List.getElem?_set]
 by_cases a:i=d
 .subst a;rw[if_pos rfl,if_pos rfl,if_pos (by rw[wa5];omega)];rfl
 .rw[if_neg (λz=>a z.symm),if_neg a]
  by_cases b:i=lns.length
  .subst b;rw[if_pos rfl,waE (waa _),wbE];rfl
  .rw[if_neg b,waF (),getD_some [] (show i<lns.length by omega)];rfl
theorem nu{lns:List (List (Str×Nat))}{d i e:Nat}{ns:List Int}{w:Str}(hd:d<lns.length)(hi:i<lns.length+1)(he:∀l∈lns,∀q∈l,q.2<lns.length)(h:(w,e)∈(dD lns d ns).getD i []) :
 (w,tN d lns.length e)∈lns.getD (tN d lns.length i) []/\(i=d->(w,tN d lns.length e)∈b0 ns (lns.getD d []))/\(i=lns.length->(w,tN d lns.length e)∈aW ns (lns.getD d [])):=by
 have g:∀j,∀q∈lns.getD j [],q.2<lns.length:=λj q f=>by
  by_cases z:j<lns.length
  .exact he _ (wa8 (getD_some [] z)) q f
  .rw[wa3,wco ()]at f;cases f
 rw[Fu hd hi]at h
 by_cases a:i=d
 .rw[if_pos a]at h;have c:=w9 (λq f=>g d q (dP f)) h;refine{?_,λ_=>c,λz=>absurd z ()};have:tN d lns.length i=d:=by unfold tN;rw[if_neg ()];exact a
  rw[this];exact dP c
 .rw[if_neg a]at h
  by_cases b:i=lns.length
  .rw[if_pos b]at h;have c:=w9 (λq f=>g d q (dP f)) h;refine{?_,λz=>absurd z a,λ_=>c};have:tN d lns.length i=d:=by unfold tN;rw[if_pos b]
   rw[this];exact dP c
  .rw[if_neg b]at h;refine{?_,λz=>absurd z a,λz=>absurd z b};have:tN d lns.length i=i:=by unfold tN;rw[if_neg b]
   rw[this];exact w9 (g i) h
theorem rz{lns:List (List (Str×Nat))}{d i e:Nat}{ns:List Int}{w:Str}(hd:d<lns.length)(hi:i<lns.length+1)(he:∀l∈lns,∀q∈l,q.2<lns.length)(h:(w,e)∈(dD lns d ns).getD i []):e<lns.length+1:=by
 have a:=(nu hd hi he h).1
 by_cases z:e=lns.length
 .lia
 .have:tN d lns.length e=e:=by unfold tN;rw[if_neg z]
  rw[this]at a;have b:tN d lns.length i<lns.length:=by unfold tN;split<;>lia
  have:=he _ (wa8 (getD_some [] b)) _ a;have:e<lns.length:=this
  lia
theorem zq{lns:List (List (Str×Nat))}{d:Nat}{ns:List Int}(hd:d<lns.length)(he:∀l∈lns,∀q∈l,q.2<lns.length):∀(ws:List Str) (i:Nat),i<lns.length+1->jR (dD lns d ns) i ws->jR lns (tN d lns.length i) ws
 |[],_,_,_=>trivial
 |w::ws,i,hi,⟨e,h,r⟩=>{tN d lns.length e,(nu hd hi he h).1,zq hd he ws e (rz hd hi he h) r}
theorem Fv{hs:List Str}{d i:Nat}(hi:i<hs.length+1):(cT hs d).getD i ""=hs.getD (tN d hs.length i) "":=by
 unfold cT tN;rw[wa3]
 by_cases z:i=hs.length
 .rw[if_pos z,z,waE (waa _),wbE];rfl
 .rw[if_neg z,waF (by lia),getD_some ("":Str) (show i<hs.length by lia)];rfl
theorem Ft.split{B:Str->List (Str×Str)}{hs:List Str}{lns:List (List (Str×Nat))}{m d:Nat}{F:Str->Str->Str}(D:Ft hs lns m)(C:wK B hs lns)(hl:lns.length=hs.length)(he:∀l∈lns,∀q∈l,q.2<hs.length)(hd:d<hs.length)(I:∀i,i<hs.length->∀q∈lns.getD i [],hs.getD q.2 ""=F (hs.getD i "") q.1)(ns:List Int):Ft (cT hs d) (dD lns d ns) (m+1):=by
 intro i j f hi b n a r s;have sl:(dD lns d ns).length=lns.length+1:=by unfold dD;rw[wa0,wc8,wa5];rfl
 rw[sl]at hi b;rw[<-hl]at he hd;have H:=λk (hk:k<lns.length+1)=>Fv (hs:=hs) (d:=d) (i:=k) (by lia)
 cases f with
 |nil=>cases a
 |cons w f=>
  obtain⟨e,u,o⟩:=r;obtain⟨v,z,p⟩:=s;obtain⟨a1,a2,a3⟩:=nu hd hi he u;obtain⟨b1,A,E⟩:=nu hd b he z;have o:=zq hd he f e (rz hd hi he u) o;have p:=zq hd he f v (rz hd b he z) p;rw[H i hi,H j b,<-hl]at n;have lt:∀k,k<lns.length+1->tN d lns.length k<lns.length:=λk hk=>by unfold tN;split<;>lia
  have G:=I _ (by have:=lt i hi;lia) _ a1;have J:=I _ (by have:=lt j b;lia) _ b1;have L:=he _ (wa8 (getD_some [] (lt i hi))) _ a1;have M:=he _ (wa8 (getD_some [] (lt j b))) _ b1;have t:=D _ _ f L M (by rw[G,J,n]) (whd a) o p;have t:tN d lns.length e=tN d lns.length v:=t;rw[<-t]at b1 A E;have c:=C.one hl (by have:=lt i hi;lia) (by have:=lt j b;lia) n a1 b1
  have hc:∀{q},q∈b0 ns (lns.getD d [])->q∈aW ns (lns.getD d [])->False:=λ{q} x y=>by
   have c1:=wc2.mpr x;have N:=wc2.mpr y;have:=C.cnt hl (by lia:d<hs.length) q;have:=oA (λi=>decide ((i:Int)∈ns)) q 0 (lns.getD d []);unfold b0 at c1;unfold aW at N
   lia
  unfold tN at c
  by_cases h:i=lns.length
  .by_cases g:j=lns.length
   .lia
   .rw[if_pos h,if_neg g]at c;exact(hc (A c.symm) (a3 h)).elim
  .by_cases g:j=lns.length
   .rw[if_neg h,if_pos g]at c;exact(hc (a2 c) (E g)).elim
   .rw[if_neg h,if_neg g]at c;exact c
theorem gT.det{g:Str}{bw ss ls:List Str}{many:Int}{n:Nat}{f:Str->Int}{j:List z9}{I:List Nat}{hs:List Str}{ws:List Int}{lns:List (List (Str×Nat))}(P:gT g bw ss ls many n f j I hs ws lns)(nd:(ch g).Nodup)(C:ss.Perm (bP bw "" bw))(hw:∀w∈bw,1<=w.length)(t:∀p∈ls,p∈ss)(hl:ls.Nodup):Ft hs lns j.length:=by
 have key:∀{j hs ws lns},Runs many (av ls f) ((av ls f).map f) (bG g bw ss ls n (av ls f)) j hs ws lns->fh g bw ss ls many n f j hs ws lns/\Ft hs lns j.length:=by
  intro j hs ws lns h
  induction h with
  |nil=>
   refine{fh.start nd C hw t hl P.nn P.fit,λd o ws a b e _ _ _=>?_};have hn:(av ls f).Nodup:=hl.filter _;have c:(bG g bw ss ls n (av ls f)).length=(av ls f).length:=by unfold bG;rw[wa0]
   rw[c]at a b;rw[wa3,wa3,wa1 a,wa1 b]at e;exact(wcl hn).mp e
  |@snoc l hs ws lns d ns w r ok k=>
   obtain⟨L,D⟩:=k;refine{L.step ok,?_};rw[wa5];exact D.split L.cv L.b.l L.b.e (L.b.split ok).2 (F:=λp w=>lend ss (p++w)) (λi hi q m=>((L.cv.Em L.b.l (λp h=>t p (L.sb p h)) C hw hi m).2.1).symm) _
 exact(key P.rn).2
theorem LV{lns:List (List (Str×Nat))}{g:List Nat}{m d:Nat}(hd:d<g.length):(fj lns g m).getD d []=g7 g m (lns.getD (g.getD d 0) []):=by
 unfold fj;rw[wa3,wa4,getD_some 0 hd];rfl
theorem we(lns:List (List (Str×Nat)))(g:List Nat)(m:Nat):(fj lns g m).length=g.length:=wa0 ..
theorem IG{lns:List (List (Str×Nat))}{g:List Nat}{m d:Nat}{q:Str×Nat}(h:q∈(fj lns g m).getD d []):d<g.length:=by
 refine wcq λz=>?_;rw[wa3,wco (by rw[we];omega)]at h;cases h
theorem zr{lns:List (List (Str×Nat))}{g:List Nat}{m d e:Nat}{w:Str}(h:(w,e)∈(fj lns g m).getD d []):e<g.length/\(w,g.getD e 0)∈lns.getD (g.getD d 0) []:=by
 rw[LV (IG h)]at h;unfold g7 at h;obtain⟨q,b,c⟩:=wab.mp h;obtain⟨f,a⟩:=war.mp (wbh b);have a:=of_decide_eq_true a;obtain⟨rfl,rfl⟩:=wce c;have hl:=wc3.mpr a;refine{hl,?_};have:g.getD (g.idxOf q.2) 0=q.2:=by rw[wa3,wa1 hl];exact we5 hl
 rw[this];exact f
theorem zt{lns:List (List (Str×Nat))}{g:List Nat}{m:Nat}:∀(ws:List Str) (d:Nat),jR (fj lns g m) d ws->jR lns (g.getD d 0) ws
 |[],_,_=>trivial
 |_::ws,_,⟨e,h,r⟩=>{g.getD e 0,(zr h).2,zt ws e r}
theorem yo:∀{l:List (Str×Nat)},(∀q,l.count q<=1)->l.Nodup
 |[],_=>wdt
 |a::l,h=>by
  refine wbH.mpr {λz=>?_,yo λq=>wak (List.count_le_count_cons ..) (h q)};have b:=h a;rw[List.count_cons_self]at b;have:=wc2.mpr z
  lia
structure yp(bw ss hk:List Str)(wl:List (List (Str×Nat)))(s:Nat):Prop where
 det:Ft hk wl s
 go:IE bw ss hk wl
 inj:∀(d i j:Nat) (z:Str×Nat),(wl.getD d [])[i]?=some z->(wl.getD d [])[j]?=some z->i=j
 e:∀(d:Nat),∀q∈wl.getD d [],q.2<wl.length
theorem gT.read{g:Str}{bw ss ls:List Str}{many:Int}{n:Nat}{f:Str->Int}{I:List z9}{t:List Nat}{hs:List Str}{ws:List Int}{lns:List (List (Str×Nat))}(P:gT g bw ss ls many n f I t hs ws lns)(nd:(ch g).Nodup)(J:ss.Perm (bP bw "" bw))(hw:∀w∈bw,1<=w.length)(C:∀p∈ls,p∈ss)(hl:ls.Nodup)(m:Nat):yp bw ss (oN hs t) (fj lns t m) I.length:=by
 have D:=P.det nd J hw C hl;have E:t.Nodup:=P.ko.ab.sub.nodup wfM;have s:∀{d},d<t.length->t.getD d 0<lns.length:=λ{d} hd=>(P.ko.st _ (wa8 (getD_some 0 hd))).1;refine{λd R G a b e l r H=>?_,P.Em J hw C m,λd i j z c k=>?_,λd q u=>?_}
 .rw[we]at a b
  have h:=D _ _ G (s a) (s b) (by
   have v:=jQ (hs:=hs) a;have A:=jQ (hs:=hs) b;rw[v,A]at e;rw[wa3 (l:=t),wa1 a,wa3 (l:=t),wa1 b]
   exact e) l (zt _ _ r) (zt _ _ H)
  rw[wa3,wa1 a,wa3,wa1 b]at h;exact(wcl E).mp h
 .have hd:=IG (wa8 c);rw[LV hd]at c k;have o:(lns.getD (t.getD d 0) []).Nodup:=yo λq=>P.cv.cnt P.b.l (by have:=s hd;have:=P.b.l;lia) q;generalize lns.getD (t.getD d 0) []=B at c k o;have nt:((cU t B).take m).Nodup:=(o.filter _).sublist (wbn _ _);have mem:∀q∈(cU t B).take m,q.2∈t:=λq u=>of_decide_eq_true (war.mp (wbh u)).2;unfold g7 at c k;generalize (cU t B).take m=l at c k nt mem;rw[wa4]at c k;obtain⟨p,c,v⟩:=wdn.mp c;obtain⟨q,k,A⟩:=wdn.mp k;have L:=v.trans A.symm;obtain⟨a,b⟩:=wce L;have lp:=wc3.mpr (mem p (wa8 c));have M:=wc3.mpr (mem q (wa8 k))
  have b:p.2=q.2:=by
   have x:=we5 lp;have y:=we5 M;rw[<-x,<-y];congr 1
  have N:p=q:=wen a b;rw[<-N]at k;obtain⟨S,O⟩:=wa6.mp c;obtain⟨T,Q⟩:=wa6.mp k;exact(wcl nt).mp (O.trans Q.symm)
 .rw[we];exact(zr (w:=q.1) (e:=q.2) u).1
theorem nv{wl:List (List (Str×Nat))}:∀(k:Nat) (ws:List Str) (d:Nat),jR wl d ws->jR wl d (ws.take k)
 |0,_,_,_=>trivial
 |_+1,[],_,_=>trivial
 |k+1,_::ws,_,⟨e,h,r⟩=>{e,h,nv k ws e r}
theorem yp.one{bw ss hk:List Str}{wl:List (List (Str×Nat))}{s:Nat}(R:yp bw ss hk wl s){d d' i l e g:Nat}{w:Str}{us:List Str}(hd:d<wl.length)(j:d'<wl.length)(r:hk.getD d ""=hk.getD d' "")(t:(wl.getD d [])[i]?=some (w,e))(p:(wl.getD d' [])[l]?=some (w,g))(hl:us.length=s)(C:jR wl e us)(I:jR wl g us):i=l:=by
 have m1:=wa8 t;have c:=wa8 p;have a:=(R.go d hd _ m1).2;have b:=(R.go d' j _ c).2
 have f:e=g:=R.det e g us (R.e d _ m1) (R.e d' _ c) (by
  show hk.getD (w,e).2 ""=hk.getD (w,g).2 ""
  rw[<-a,<-b,r]) hl C I
 have h:=nv s (w::us) d ⟨e,m1,C⟩;have k:=nv s (w::us) d' ⟨g,c,I⟩;have m:=R.det d d' _ hd j r (by rw[wag,waH];lia) h k;rw[<-f,<-m]at p;exact R.inj d i l _ t p
end Bs
namespace L2
open PySem PySem.Spec PyProof.Rows
inductive V4(a:Addr)(y z:V)(H:Hp)(Q:VK):Prop
 |mk (kvs k) (_:H a=some (.dK kvs)) (_:y=kV k) (_:(putK kvs k z).length<=sizeLine) (_:∀v,bF kvs k=some v->Q v H) (_:bF kvs k=none->Q z (upd H a (.dK (putK kvs k z))))
def Rb(td ty tx:TE):TE:=λσ H Q=>td σ H λx H1=>∃a,x=.ref a/\T4 H1 a/\ty σ H1 λy H2=>tx σ H2 λz H3=>V4 a y z H3 Q
section
variable{X:Cx}{o e f:Expr}{apos eS:Pos}{td ty tx:TE}
theorem CV(t:PE X o td)(he:PE X e ty)(C:PE X f tx)(m:M2 X o "setdefault" apos e f eS):PE X (.Call (.Attribute o "setdefault" apos) [e,f] [] eS) (Rb td ty tx):=by
 refine{?_};intro b s σ H Q I h;refine wpAny_Call_method m.base m.few m.line wd5 weX PySem.F.type_dict_setdefault (bO (t b s σ H _ I h) λu A ⟨x,B,j,D,a,ex,d,E⟩=>?_);subst ex;obtain rfl:u=wam a:=D;obtain⟨G,J,_⟩:=Gp j d;refine{G,J,?_};rw[m.trees]
 refine wdp rfl (weE (wde (bO (he b A σ B _ j E) λiv L ⟨y,M,N,O,R⟩=>
  wde (bO (C b L σ M _ N R) λS s3 ⟨z,T,i,l,U⟩=>wfd ?_))))
 obtain⟨c,k,n,V,Y,Z,qb⟩:=U;subst V;obtain⟨z0,hd,vs,rel,p⟩:=rN i.b7 n;refine wfy weX p.typeIs PySem.F.entry_dict_setdefault (PySem.F.args_dict_setdefault_3 _ _ _) (kt_meets_setdefault (bB X.prog X.w) a (rM O) hd S) {vs,p,by rw[<-rel.length];exact z0,λv hv=>?_,λhn h' g hs=>?_}
 .have r:=rel.val k;rw[hv]at r
  cases q:bF c k with
  |none=>rw[q]at r;exact(show False from r).elim
  |some x=>rw[q]at r;exact{x,T,i.tok _,r,Z x q}
 .have r:=rel.val k;rw[hn]at r
  have q:bF c k=none:=by
   cases q:bF c k with
   |none=>rfl
   |some x=>rw[q]at r;exact(show False from r).elim
  have hx:∃q,h'.get? a=some q:=let ⟨q,_,_,hq,_⟩:=g;⟨q,hq⟩
  exact{z,_,tV i (by rw[n];exact wbw) hs hx (Bv Y hd (rel.put k l) g),l,qb q}
end
noncomputable def NT(K:wa2)(a:Addr)(n:Nat):It:=
 {λi H=>∃xs x,aL K H a xs/\xs.length=n/\i<n/\xs[n-1-i]?=some x,λi H x H'=>H'=H/\∀xs,aL K H a xs->xs[n-1-i]?=some x,λi _=>i=n}
theorem IH(K:wa2)(a:Addr)(xs:List V):lS (NT K a xs.length) (λH=>aL K H a xs) xs.reverse:=
 {λi H q hi=>{xs,xs[xs.length-1-i]'(by rw[wcF]at hi;omega),q,rfl,by rwa[wcF]at hi,wa1 _},λi H x b q hi y=>{y.1,by rw[wgA (by rwa[wcF]at hi)];exact y.2 xs q},λH _=>wcF ..}
theorem II{P:waq}{w:World}{K:wa2}{J:Expr}(a it:Addr)(n:Nat):Turn P w K J (NT K a n) [it] it (λi h=>h.IsRevIter it a ((n:Int)-1-(i:Int))) where
 mem:=by simp
 obj:=λi h st b j=>by
  have e:b=it:=by simpa using j
  subst e;obtain⟨o,e,c,d⟩:=st;exact{o,e,λv z=>by rw[d]at z;cases z}
 keep:=λi h l st k=>st.at λo e=>k it (by simp) o e
 item:=by
  intro X r hw t hc i g s σ H E I m st q;subst r hw t;obtain⟨V,x,D,hn,hi,G⟩:=q;obtain⟨L,M,p,Y⟩:=I.list D;obtain⟨u,N,O⟩:=M.get G;obtain⟨y,f1,f2,A,B,C⟩:=m it (by simp);have Q:(n:Int)-1-(i:Int)=((n-1-i:Nat):Int):=by lia
  have f:s.heap.IsRevIter it a ((n-1-i:Nat):Int):=by rw[<-Q];exact st
  refine wpAny_pyNext_rev_item f p.isList (x:=u) (by simpa using N) λl f sb=>?_;have R:((n-1-i:Nat):Int)-1=(n:Int)-1-((i+1:Nat):Int):=by lia
  rw[R]at f;have S:Inv X g σ H {s with heap:=l}:=I.turned (t':=s.toks) (λb o j e=>(sb.2 b j).trans e) y f1 A B C;obtain⟨o,e,c,d⟩:=id f;exact{u,rfl,xi (s:={s with heap:=l}) e c d ⋯ {x,H,S,O,{rfl,λZ T=>by rw[I.oW T D];exact G},f,λb j=>(m b j).1}}
 done:=by
   intro X r hw t hc i g s σ H E I m st q;subst r hw t;have q:i=n:=q;obtain⟨y,f1,f2,A,B,C⟩:=m it (by simp);have f:s.heap.IsRevIter it a (-1):=by rw[show (-1:Int)=(n:Int)-1-(i:Int) by lia];exact st
   exact wpAny_pyNext_rev_end (I.ok.hd hc) f λl U=>{rfl,I.turned (t':=s.toks) (λb o j e=>U b o j e) y f1 A B C}
 self:=λ_ _ _ _ _ st h=>wgQ st h
inductive V5(K:wa2)(vs:List V)(H:Hp)(R:It->Hp->Prop):Prop
 |mk (a xs) (_:vs=[.ref a]) (_:aL K H a xs) (_:R (NT K a xs.length) H)
def V6(K:wa2)(ta:TA):TI:=λσ H R=>ta σ H λvs H1=>V5 K vs H1 R
theorem NU{X:Cx}{tg l:Expr}{ta:TA}{p pos:Pos}(hg:Gl X "reversed")(hm:X.mg "reversed"=none)(ha:PA X [l] ta)(hs:starEach [l] X.env=[(false,eval l X.env)]:=by rfl) :
 PI X tg (.Call (.Name "reversed" p) [l] [] pos) (V6 X.K ta):=by
 refine{?_};intro pins s σ H R I h;refine Call_ (gi I hg hm PyProof.Rows.boot_reversed (wbs (bO (ha pos pins s σ H _ I h) λus s1 ⟨vs,H1,I1,r1,q1⟩=>?_) hs rfl));obtain⟨a,xs,e,hq,q⟩:=q1;subst e;obtain⟨u,rfl,ru⟩:=vals1 r1;cases ru;obtain⟨its,rv,pl,hz⟩:=I1.list hq;have hl:its.toArray.size=xs.length:=by rw[waB];exact rv.length.symm
 refine call_reversed_list pl.isList ?_
 have hit:(s1.heap.push (revObj a ((its.toArray.size:Int)-1))).IsRevIter s1.heap.objs.size a ((xs.length:Int)-1-((0:Nat):Int)):=by
  refine{_,wat _ rfl,rfl,?_};show wee _=_;rw[hl];rw[show (xs.length:Int)-1-((0:Nat):Int)=(xs.length:Int)-1 by lia]
 refine wgQ hit ?_;refine{s1.heap.objs.size,[s1.heap.objs.size],_,_,H1,rfl,I1.kept (t':=s1.toks) λb o e=>wa9 _ e,II a _ _,hit,λb hb=>?_,q};have e:b=s1.heap.objs.size:=by simpa using hb
 subst e;exact I1.yw (waa _) (I1.b7.fresh (waa _))
end L2
namespace Bs
open PySem L2 Sx
noncomputable def cat:List Str->Str
 |[]=>""
 |w::ws=>w++cat ws
theorem CW:∀ws:List Str,ch (cat ws)=(ws.map ch).flatten
 |[]=>rfl
 |w::ws=>by
  show ch (w++cat ws)=_;rw[aT,CW ws,wau,wc6]
theorem eO{n:Nat}:∀{ws:List Str},(∀w∈ws,w.length=n)->(cat ws).length=n*ws.length
 |[],_=>rfl
 |w::ws,h=>by
  show (w++cat ws).length=_;rw[len_app,eO λx a=>h x (wac _ a),h w (wae ..),waH,wcV,whI,whc]
theorem qy:∀a b:List Str,cat (a++b)=cat a++cat b
 |[],b=>(tZ _).symm
 |w::a,b=>by
  show w++cat (a++b)=w++cat a++cat b;rw[qy a b,eL]
theorem wg{n:Nat}{ws:List Str}(h:∀w∈ws,w.length=n)(i:Nat):(ch (cat ws)).drop (n*i)=ch (cat (ws.drop i)):=by
 by_cases c:i<=ws.length
 .have e:ch (cat ws)=ch (cat (ws.take i))++ch (cat (ws.drop i)):=by rw[<-aT,<-qy,wbr]
  have hl:(ch (cat (ws.take i))).length=n*i:=by rw[aN,eO λw hw=>h w (wbh hw),wag,wdM c]
  rw[e,wcB (by lia),<-hl,whR,wdN]
 .rw[wbA (show ws.length<=i by lia),wbA]
  .rfl
  .rw[aN,eO h];exact wcb _ (by lia)
theorem wh{n:Nat}{ws:List Str}(h:∀w∈ws,w.length=n)(i:Nat):(ch (cat ws)).take (n*i)=ch (cat (ws.take i)):=by
 by_cases c:i<=ws.length
 .have e:ch (cat ws)=ch (cat (ws.take i))++ch (cat (ws.drop i)):=by rw[<-aT,<-qy,wbr]
  have hl:(ch (cat (ws.take i))).length=n*i:=by rw[aN,eO λw hw=>h w (wbh hw),wag,wdM c]
  rw[e,List.take_append_of_le_length (),<-hl,waG]
 .rw[wbg (show ws.length<=i by omega),wbg];rw[aN,eO h];exact wcb _ ()
theorem Fw(x:Str){i j:Nat}(h:i<=j)(g:j<=x.length):ch (waI x (some (i:Int)) (some (j:Int)))=((ch x).take j).drop i:=by
 rw[m4,StrLaws.sliceText_nat x h g,wgy]
theorem ub{n:Nat}{ws:List Str}(h:∀w∈ws,w.length=n){i j:Nat}(g:i<=j)(l:j<=ws.length):waI (cat ws) (some ((n*i:Nat):Int)) (some ((n*j:Nat):Int))=cat ((ws.take j).drop i):=by
 refine cb ?_;rw[Fw _ (wcb _ g) (by rw[eO h];exact wcb _ l),wh h,wg λw hw=>h w (wbh hw)]
theorem NV{n:Nat}{ws:List Str}(h:∀w∈ws,w.length=n)(j:Nat):waI (cat ws) none (some ((n*j:Nat):Int))=cat (ws.take j):=by
 refine cb ?_;rw[m6,wh h]
theorem IJ{n:Nat}{ws:List Str}(h:∀w∈ws,w.length=n)(j:Nat):waI (cat ws) (some ((n*j:Nat):Int)) none=cat (ws.drop j):=by
 refine cb ?_;rw[gm,wg h]
theorem DQ(w:Str):cat [w]=w:=kr w
noncomputable def g8(wl:List (List (Str×Nat)))(d t:Nat):Str×Nat:=(wl.getD d []).getD t ("",0)
noncomputable def eG(wl:List (List (Str×Nat))):Nat->List Nat->List Str
 |_,[]=>[]
 |d,t::ts=>(g8 wl d t).1::eG wl (g8 wl d t).2 ts
noncomputable def qz(wl:List (List (Str×Nat))):Nat->List Nat->Nat
 |d,[]=>d
 |d,t::ts=>qz wl (g8 wl d t).2 ts
theorem kM(wl:List (List (Str×Nat))):∀(ts:List Nat) (d:Nat),cJ wl d ts=(cat (eG wl d ts),qz wl d ts)
 |[],_=>rfl
 |t::ts,d=>by
  have h:=kM wl ts (g8 wl d t).2;unfold cJ at h ⊢;rw[wdL,show lN wl ("",d) t=(("":Str)++(g8 wl d t).1,(g8 wl d t).2) from rfl,tZ,IC,h];rfl
theorem jS(wl:List (List (Str×Nat))):∀(ts:List Nat) (d:Nat),(eG wl d ts).length=ts.length
 |[],_=>rfl
 |_::ts,_=>congrArg (· + 1) (jS wl ts _)
theorem step_at{many:Int}{n:Nat}{wl:List (List (Str×Nat))}(g:FV many n wl){d t:Nat}(hd:d<wl.length)(j:(t:Int)<many):(wl.getD d [])[t]?=some (g8 wl d t):=by
 have:=g.ln _ (wa8 (cM hd));exact rq (by lia)
theorem wj{many:Int}{n:Nat}{wl:List (List (Str×Nat))}(g:FV many n wl):∀(ts:List Nat) (d:Nat),d<wl.length->(∀t∈ts,(t:Int)<many)->(∀w∈eG wl d ts,w.length=n)/\jR wl d (eG wl d ts)/\qz wl d ts<wl.length
 |[],d,hd,_=>{(λw h=>nomatch h),trivial,hd}
 |t::ts,d,hd,h=>by
  have f:=wa8 (step_at g hd (h t (wae ..)));have hl:=wa8 (cM hd);obtain⟨a,b,c⟩:=wj g ts (g8 wl d t).2 (g.e _ hl _ f) λx i=>h x (wac _ i);refine{λw hw=>?_,{_,f,b},c};rcases waK.mp hw with rfl |hw
  .exact g.wd _ hl _ f
  .exact a w hw
theorem Fx{ss:List Str}{a p:Str}(he:("":Str)∈ss)(h:∀s∈ss,s.length<=p.length):lend ss (a++p)=lend ss p:=by
 have key:∀r:Str,∃k,k<=r.length/\lend ss r=d5 r k/\d5 r k∈ss/\∀m,m<k->d5 r m∉ss:=by
  intro r
  have i:∃k,k<=r.length/\d5 r k∈ss/\∀m,m<k->d5 r m∉ss:=by
   have:∀j,j<=r.length->(∃k,k<=j/\d5 r k∈ss)->∃k,k<=j/\d5 r k∈ss/\∀m,m<k->d5 r m∉ss:=by
    intro j
    induction j with
    |zero=>rintro _ ⟨k,hk,f⟩;exact{k,hk,f,λm d=>absurd d (by lia)}
    |succ j l=>
     rintro v ⟨k,hk,f⟩
     by_cases c:∃k,k<=j/\d5 r k∈ss
     .obtain⟨k,a,b⟩:=l (by lia) c;exact{k,by lia,b}
     .exact{k,hk,f,λm d z=>c {m,by lia,z}}
   obtain⟨k,a,b⟩:=this r.length (waa _) {r.length,waa _,by
    have:d5 r r.length="":=cb (by rw[kg];exact wef (wdS (aN r)))
    rw[this];exact he}
   exact⟨k,a,b⟩
  obtain⟨k,a,b,c⟩:=i;exact{k,a,by unfold lend;rw[uG b c a],b,c}
 obtain⟨k,w,n,g,o⟩:=key (a++p);obtain⟨m,m1,q,t,u⟩:=key p;rw[n,q];have hd:∀j,d5 (a++p) (a.length+j)=d5 p j:=λj=>cb (by rw[kg,kg,aT,<-aN a,whS];simp)
 have hk:a.length<=k:=by
  have:=h _ g;rw[<-aN,kg,wb3,aN,len_app]at this
  lia
 have e:a.length+m=k:=by
  rcases wed (a.length+m) k with z |z |z
  .exact absurd (by rw[hd];exact t) (o _ z)
  .exact z
  .have:=hd (k-a.length);rw[show a.length+(k-a.length)=k by lia]at this;exact absurd (by rw[<-this];exact g) (u (k-a.length) (by lia))
 rw[<-e,hd]
theorem jT(wl:List (List (Str×Nat)))(b:List Nat):∀(a:List Nat) (d:Nat),eG wl d (a++b)=eG wl d a++eG wl (qz wl d a) b/\qz wl d (a++b)=qz wl (qz wl d a) b
 |[],_=>⟨rfl,rfl⟩
 |_::a,_=>{congrArg (_ :: ·) (jT wl b a _).1,(jT wl b a _).2}
def gO(ss hk:List Str)(wl:List (List (Str×Nat)))(p w:Str)(as:List Str)(i:Nat):Prop:=∃d e,d<wl.length/\hk.getD d ""=lend ss p/\(wl.getD d [])[i]?=some (w,e)/\jR wl e as
theorem gO.one{bw ss hk:List Str}{wl:List (List (Str×Nat))}{c:Nat}{p w:Str}{as:List Str}{i j:Nat}(R:yp bw ss hk wl c)(hl:as.length=c)(g:gO ss hk wl p w as i)(l:gO ss hk wl p w as j):i=j:=by
 obtain⟨d,e,a1,a2,a3,a⟩:=g;obtain⟨k,m,b1,b,f,h⟩:=l;exact R.one a1 b1 (a2.trans b.symm) a3 f hl a h
noncomputable def gY(b c:Nat)(ts:List Nat):List Nat:=waj b 0++(ts++waj c 0)
theorem Fy(wl:List (List (Str×Nat)))(b c:Nat)(ts:List Nat):KN wl b c ts=cat (eG wl 0 (gY b c ts)):=by
 unfold KN gY;rw[(jT wl _ _ 0).1,qy,kM,kM]
theorem rA{many:Int}(m1:1<=many){ts:List Nat}(h:∀t∈ts,(t:Int)<many)(b c:Nat):∀t∈gY b c ts,(t:Int)<many:=λt a=>by
 unfold gY at a;rcases waD.mp a with z |z
 .rw[(wdm.mp z).2];omega
 .rcases waD.mp z with z |z
  .exact h t z
  .rw[(wdm.mp z).2];omega
theorem CY{bw ss hk:List Str}{wl:List (List (Str×Nat))}{many:Int}{n b c:Nat}(R:yp bw ss hk wl c)(j:FV many n wl)(m1:1<=many)(I:ss.Perm (bP bw "" bw))(hw:∀w∈bw,1<=w.length)(h0:hk.getD 0 ""∈ss)(hs:∀s∈ss,s.length<=n*b){ts:List Nat}(J:∀t∈ts,(t:Int)<many){k:Nat}(p:k<ts.length) :
 ∃bs w as,((eG wl 0 (gY b c ts)).take (k+(b+1+c))).drop k=bs++w::as/\bs.length=b/\as.length=c/\bears bw (cat bs)=false/\gO ss hk wl (cat bs) w as ts[k]:=by
 have g:=rA m1 J b c
 have E:(gY b c ts).drop (k+b)=ts[k]::(ts.drop (k+1)++waj c 0):=by
  unfold gY;rw[whS,wbA (by rw[waP];lia),wdN,waP,show k+b-b=k by lia,wcB (by lia),wcr p];rfl
 have m:(gY b c ts).length=b+(ts.length+c):=by unfold gY;rw[wa5,wa5,waP,waP]
 generalize gY b c ts=l at g E m;have i:l=l.take k++((l.drop k).take b++l.drop (k+b)):=by rw[<-List.drop_drop,wbr,wbr]
 generalize H:l.take k=d at i;generalize L:(l.drop k).take b=f at i;have M:d.length=k:=by rw[<-H,wag];lia
 have N:f.length=b:=by rw[<-L,wag,wb3];lia
 rw[E]at i;generalize O:ts.drop (k+1)++waj c 0=rest at i;have U:c<=rest.length:=by rw[<-O,wa5,waP];lia
 have o:0<wl.length:=wcd.mpr j.ne;have q:∀t∈d++f,(t:Int)<many:=λt h=>g t (by rw[i,<-waM];exact waV _ h);have v:∀t∈rest,(t:Int)<many:=λt h=>g t (by rw[i,<-waM];exact waJ _ (wac _ h));obtain⟨a1,a2⟩:=jT wl (ts[k]::rest) (d++f) 0;obtain⟨b1,V⟩:=jT wl f d 0;obtain⟨G,_,u⟩:=wj j (d++f) 0 o q;obtain⟨g1,g2⟩:=Fs j I hw R.go o h0 (d++f) q;rw[kM]at g1 g2;generalize X:qz wl 0 (d++f)=D at a1 u g2;have x:=J _ (waL p);have a:=step_at j u x;have y:=wa8 (cM u);have z:=j.e _ y _ (wa8 a);obtain⟨v1,Q,_⟩:=wj j rest (g8 wl D ts[k]).2 z v;rw[b1]at g1 g2 a1 G;generalize A:eG wl 0 d=S at *;generalize B:eG wl (qz wl 0 d) f=bs at *;have T:S.length=k:=by rw[<-A,jS,M]
 have r:bs.length=b:=by rw[<-B,jS,N]
 have C:(cat bs).length=n*b:=by rw[eO λw h=>G w (waJ _ h),r]
 rw[qy,<-eL]at g1 g2;refine{bs,(g8 wl D ts[k]).1,(eG wl (g8 wl D ts[k]).2 rest).take c,?_,r,by rw[wag,jS];lia,ju (by rw[aT];exact{_,[],by rw[waS]}) g1,D,(g8 wl D ts[k]).2,u,?_,a,nv c _ _ Q}
 .rw[i,<-waM,a1,show eG wl D (ts[k]::rest)=(g8 wl D ts[k]).1::eG wl (g8 wl D ts[k]).2 rest from rfl,wgy,waM,wcB (by lia),wbA (by lia),wdN,show k+(b+1+c)-k=bs.length+(c+1) by lia,List.take_length_add_append,List.take_succ_cons]
 .rw[<-g2];exact(Fx (I.mem_iff.mpr (cp bw)) (λs h=>by rw[C];exact hs s h))
structure Wr where
 g:Str
 bw:List Str
 ss:List Str
 ls:List Str
 hk:List Str
 many:Int
 n:Nat
 b:Nat
 c:Nat
 wl:List (List (Str×Nat))
noncomputable def Wr.o(R:Wr):Str×Nat:=cJ R.wl 0 (waj R.b 0)
structure wY(R:Wr):Prop where
 w:FV R.many R.n R.wl
 m1:1<=R.many
 m8:R.many<=8
 n1:1<=R.n
 lO:R.n<=10
 b1:R.b<=1000
 c1:R.c<=1000
 hl:R.hk.length=R.wl.length
 l1:R.wl.length<=40
 bh:n6 R.bw R.n R.b
 hw:∀w∈R.bw,1<=w.length/\w.length<=900
 bl:R.bw.length<=1000
 gl:R.g.length<=10
 rd:yp R.bw R.ss R.hk R.wl R.c
 gd:∀(d:Nat),∀q∈R.wl.getD d [],∀c∈ch q.1,c∈ch R.g
 h0:R.hk.getD 0 ""∈R.ss
 sh:∀s∈R.ss,s.length<=R.n*R.b
 pm:R.ss.Perm (bP R.bw "" R.bw)
structure nB(K:wa2)(C CB CP:Addr)(H:Hp)(x:Addr)(R:Wr):Prop where
 ex:∃dx p xb a l dp wa wb wc wz ys,H x=some (.ins C dx (n9 p xb R.many (R.n:Int) a l R.o.1 (R.o.2:Int)))/\H p=some (.ins CP dp (vx wa wb wc wz))/\aL K H wb ys/\ys.length=R.c/\bM K H (kz R.wl) (.ref l)/\aL K H a (R.hk.map V.str)/\aZ CB H xb R.g R.bw R.ss R.ls
 ok:wY R
theorem nB.same(h:nB K C CB g H x R)(s:a7 H j):nB K C CB g j x R:=by
 obtain⟨⟨b,p,c,a,l,dp,d,e,f,i,k,m,n,o,q,r,t,u⟩,v⟩:=h;exact{{b,p,c,a,l,dp,d,e,f,i,k,s _ _ m,s _ _ n,s.seq o,q,bM.same s _ _ r,s.seq t,u.same s},v}
theorem n6.one(h:n6 bw n b)(h':n6 bw n g):b=g:=by
 obtain⟨_,M,⟨u,a⟩,e⟩:=h;obtain⟨_,N,⟨v,c⟩,f⟩:=h'
 have:M=N:=by
  rcases a with⟨a1,a2⟩ |⟨w,hw,a⟩<;>rcases c with⟨c1,i⟩ |⟨j,d,c⟩
  .lia
  .rw[a2]at d;cases d
  .rw[i]at hw;cases hw
  .have:=u j d;have:=v w hw;lia
 rw[this]at e
 lia
theorem Fz{ss:List Str}(h:n6 bw n b)(hn:1<=n)(g:ss.Perm (bP bw "" bw)):∀s∈ss,s.length<=n*b:=by
 intro s a;obtain⟨_,M,⟨u,_⟩,e⟩:=h;rcases(jc _).mp (g.mem_iff.mp a) with rfl |⟨w,hw,i,hi,rfl,_⟩
 .exact waz _
 .have d:=u w hw;have f:(df w (1+i)).length=min (1+i) w.length:=by rw[<-aN,iQ,wag,aN]
  have j:M-1<=(n:Int)*(b:Int):=by
   rw[if_neg ()]at e;have c:=wgz (M-1+(n:Int)-1) (n:Int);have k:=wb4 (M-1+(n:Int)-1) (show 0<(n:Int) by omega);rw[<-e]at c;omega
  have l:((n*b:Nat):Int)=(n:Int)*(b:Int):=waT ..;omega
noncomputable def jU(p:Nat×Nat):List V:=[.int (p.1:Int),.int (p.2:Int)]
structure i5(H:Hp)(a:Addr)(wl:List (List (Str×Nat))):Prop where
 ex:∃kvs:List (Key×V),H a=some (.dK kvs)/\∀w:Str,(bF kvs (wal w:Key)=none/\∀(i e:Nat),(w,e)∉wl.getD i [])\/∃(l:Addr) (rs:List Addr) (ps:List (Nat×Nat)),bF kvs (wal w:Key)=some (.ref l)/\H l=some (.lst (rs.map V.ref))/\b9 H rs (ps.map jU)/\ps.length<=1000/\∀i e:Nat,(i,e)∈ps↔(w,e)∈wl.getD i []
theorem b9.same(h:b9 H rs g)(s:a7 H j):b9 j rs g:={h.1,λi r c a b=>s _ _ (h.2 i r c a b)}
theorem i5.same{wl:List (List (Str×Nat))}(h:i5 H a wl)(s:a7 H g):i5 g a wl:=by
 obtain⟨e,f,i⟩:=h;refine{e,s _ _ f,λw=>?_};rcases i w with z |⟨l,j,ps,a,b,c,d⟩
 .exact .inl z
 .exact .inr {l,j,ps,a,s _ _ b,c.same s,d}
theorem i5.put{wl:List (List (Str×Nat))}(h:i5 H a wl)(j:H z=some (.ins C d f))(o:HO):i5 (upd H z o) a wl:=by
 obtain⟨g,k,m⟩:=h;have n:∀{c u},H c=some u->(∀x y q,u≠.ins x y q)->(upd H z o) c=some u:=λ{c u} e q=>by rw[ae (λy=>by rw[y,j]at e;cases e;exact q _ _ _ rfl)];exact e
 refine{g,n k (λ_ _ _ z=>nomatch z),λw=>?_};rcases m w with z |⟨l,p,ps,a,b,c,d⟩
 .exact .inl z
 .exact .inr {l,p,ps,a,n b (λ_ _ _ z=>nomatch z),{c.1,λi r s x y=>n (c.2 i r s x y) (λ_ _ _ z=>nomatch z)},d}
noncomputable abbrev wZ:=Nat×Str×Nat
noncomputable def pairsOf(done:List wZ)(w:Str):List (Nat×Nat):=(done.filter λt=>decide (t.2.1=w)).map λt=>(t.1,t.2.2)
theorem B6(done:List wZ)(w:Str)(i e:Nat):(i,e)∈pairsOf done w↔(i,w,e)∈done:=by
 unfold pairsOf;constructor
 .intro h;obtain⟨⟨a,b,c⟩,f,g⟩:=wab.mp h;obtain⟨j,d⟩:=war.mp f;have d:b=w:=of_decide_eq_true d;obtain⟨rfl,rfl⟩:=wce g;rw[<-d];exact j
 .intro h;exact wab.mpr {(i,w,e),war.mpr {h,decide_eq_true rfl},rfl}
theorem zu(done:List wZ)(i e:Nat)(w v:Str):pairsOf (done++[(i,w,e)]) v=if v=w then pairsOf done v++[(i,e)] else pairsOf done v:=by
 unfold pairsOf;rw[wbj,wai]
 by_cases h:v=w
 .subst h;rw[if_pos rfl,waW (by exact decide_eq_true rfl)];rfl
 .rw[if_neg h,wb1 (by exact λz=>h (of_decide_eq_true z).symm)];exact waS _
structure eu(H0 H:Hp)(a:Addr)(done:List wZ):Prop where
 s:a7 H0 H
 fa:H0 a=none
 ex:∃kvs:List (Key×V),H a=some (.dK kvs)/\kvs.length<=done.length /\
  (∀w:Str,(bF kvs (wal w:Key)=none/\pairsOf done w=[])\/∃(l:Addr) (rs:List Addr),bF kvs (wal w:Key)=some (.ref l)/\H0 l=none/\H l=some (.lst (rs.map V.ref))/\b9 H rs ((pairsOf done w).map jU)) /\
  ∀(w v:Str) (l:Addr),bF kvs (wal w:Key)=some (.ref l)->bF kvs (wal v:Key)=some (.ref l)->w=v
theorem eu.start{H:Hp}(h:H a=none):eu H (upd H a (.dK [])) a []:=
 {a7.upd h,h,[],a6,waa _,λ_=>.inl ⟨rfl,rfl⟩,λ_ _ _ h=>nomatch h}
theorem eu.same{g H j:Hp}{done:List wZ}(h:eu g H a done)(s:a7 H j):eu g j a done:=by
 obtain⟨h0,fa,e,f,i,k,m⟩:=h;refine{h0.trans s,fa,e,s _ _ f,i,λw=>?_,m};rcases k w with z |⟨l,n,a,b,c,d⟩
 .exact .inl z
 .exact .inr {l,n,a,b,s _ _ c,d.same s}
theorem b9.app{H:Hp}{rs:List Addr}{g:List (List V)}(h:b9 H rs g)(j:H r=some (.tup xs)):b9 H (rs++[r]) (g++[xs]):=by
 refine{by rw[wa5,wa5,h.1];rfl,λi q c a b=>?_}
 by_cases z:i<rs.length
 .rw[waF z]at a;rw[waF (by rw[<-h.1];exact z)]at b;exact h.2 i q c a b
 .rw[waE ()]at a;rw[waE (by rw[<-h.1];omega)]at b
  have e:i-rs.length=0:=by
   have:=(wa6.mp a).1;rw[wcn]at this;omega
  rw[<-h.1]at b;rw[e]at a b;cases a;cases b;exact j
theorem eu.add{p H:Hp}{done:List wZ}{w:Str}{i e:Nat}{l:Addr}{rs:List Addr}{g:List (Key×V)}(s:a7 p H)(fa:p a=none)(hk:H a=some (.dK g))(hl:g.length<=done.length+1)
 (hw:bF g (wal w:Key)=some (.ref l)) (fl:p l=none) (t:H l=some (.lst (rs.map V.ref))) (C:b9 H rs ((pairsOf done w).map jU))
 (I:∀v:Str,v≠w->(bF g (wal v:Key)=none/\pairsOf done v=[])\/∃(l:Addr) (rs:List Addr),bF g (wal v:Key)=some (.ref l)/\p l=none/\H l=some (.lst (rs.map V.ref))/\b9 H rs ((pairsOf done v).map jU))
 (hi:∀(w v:Str) (l:Addr),bF g (wal w:Key)=some (.ref l)->bF g (wal v:Key)=some (.ref l)->w=v) (j:H r=none) :
 eu p (upd (upd H r (.tup (jU (i,e)))) l (.lst (rs.map V.ref++[.ref r]))) a (done++[(i,w,e)]):=by
 have k:r≠l:=λz=>by rw[z,t]at j;cases j
 have m:a≠l:=λz=>by rw[z,t]at hk;cases hk
 have n:a≠r:=λz=>by rw[z,j]at hk;cases hk
 have c:∀{q:Addr} {d:List V},H q=some (.tup d)->(upd (upd H r (.tup (jU (i,e)))) l (.lst (rs.map V.ref++[.ref r]))) q=some (.tup d):=λ{q d} h=>by
  have n1:q≠l:=λz=>by rw[z,t]at h;cases h
  have f:q≠r:=λz=>by rw[z,j]at h;cases h
  rw[ae n1,ae f];exact h
 refine{λb o h=>?_,fa,g,by rw[ae m,ae n];exact hk,by rw[wa5];exact hl,λv=>?_,hi}
 .have n1:b≠l:=λz=>by rw[z,fl]at h;cases h
  have f:b≠r:=λz=>by have:=s _ _ h;rw[z,j]at this;cases this
  rw[ae n1,ae f];exact s _ _ h
 rw[zu]
 by_cases z:v=w
 .subst z;rw[if_pos rfl];refine .inr {l,rs++[r],hw,fl,by rw[a6,wai];rfl,?_};rw[wai];have B:b9 (upd (upd H r (.tup (jU (i,e)))) l (.lst (rs.map V.ref++[.ref r]))) rs ((pairsOf done v).map jU):={C.1,λi q d a b=>c (C.2 i q d a b)};exact b9.app B (by rw[ae k,a6])
 .rw[if_neg z];rcases I v z with y |⟨u,x,a1,a2,a3,A⟩
  .exact .inl y
  .have n1:u≠l:=λy=>z (hi v w l (by rw[<-y];exact a1) hw);have f:u≠r:=λy=>by rw[y,j]at a3;cases a3
   exact .inr {u,x,a1,a2,by rw[ae n1,ae f];exact a3,{A.1,λi q d a b=>c (A.2 i q d a b)}}
theorem eu.step{B H:Hp}{done:List wZ}{g:Addr}(M:eu B H a done)(h0:H g=none)(w:Str)(i e:Nat):∃kvs:List (Key×V),(upd H g (.lst [])) a=some (.dK kvs)/\kvs.length<=done.length /\
 (∀v,bF kvs (wal w:Key)=some v->∃(l:Addr) (rs:List Addr),v=.ref l/\(upd H g (.lst [])) l=some (.lst (rs.map V.ref))/\rs.length<=done.length/\∀r,(upd H g (.lst [])) r=none->eu B (upd (upd (upd H g (.lst [])) r (.tup (jU (i,e)))) l (.lst (rs.map V.ref++[.ref r]))) a (done++[(i,w,e)])) /\
 (bF kvs (wal w:Key)=none->(upd (upd H g (.lst [])) a (.dK (putK kvs (wal w:Key) (.ref g)))) g=some (.lst (([]:List Addr).map V.ref))/\∀r,(upd (upd H g (.lst [])) a (.dK (putK kvs (wal w:Key) (.ref g)))) r=none->eu B (upd (upd (upd (upd H g (.lst [])) a (.dK (putK kvs (wal w:Key) (.ref g)))) r (.tup (jU (i,e)))) g (.lst (([]:List Addr).map V.ref++[.ref r]))) a (done++[(i,w,e)])):=by
 have t:a7 H (upd H g (.lst [])):=a7.upd h0;have I:(upd H g (.lst [])) g=some (.lst []):=a6;have M1:=M.same t;have J:B g=none:=none_of M.s h0;have nl:∀{c o},H c=some o->c≠g:=λh z=>by rw[z,h0]at h;cases h
 obtain⟨_,_,b,A,_,L,_⟩:=id M;generalize upd H g (.lst [])=G at *;obtain⟨s,fa,kvs,j,C,m,D⟩:=M1;have N:b=kvs:=by have:=t _ _ A;rw[j]at this;cases this;rfl
 subst N;refine{b,j,C,λv d=>?_,λhn=>?_}
 .rcases m w with⟨z,_⟩ |⟨l,rs,a1,a2,a3,f⟩
  .rw[z]at d;cases d
  .rw[a1]at d;cases d;refine{l,rs,rfl,a3,?_,λr n=>eu.add s fa j (whv C) a1 a2 a3 f (λv _=>m v) D n};have:=f.1;rw[wa0]at this;rw[this];unfold pairsOf;rw[wa0];exact wb2 ..
 .have na:a≠g:=nl A;have E:(upd G a (.dK (putK b (wal w:Key) (.ref g)))) g=some (.lst []):=by rw[ae na.symm];exact I
  have O:a7 B (upd G a (.dK (putK b (wal w:Key) (.ref g)))):=λc o h=>by rw[ae (af h fa)];exact s _ _ h
  refine{E,λr n=>eu.add (rs:=[]) O fa a6 ?_ (by rw[ur,if_pos rfl]) J E ?_ (λv d=>?_) (λu v l x y=>?_) n}
  .have:=gF b (wal w:Key) (.ref g);lia
  .rcases m w with⟨_,z⟩ |⟨l,rs,a1,_⟩
   .rw[z];exact b9.nil _
   .rw[hn]at a1;cases a1
  .rw[ur,if_neg (λz=>d (wcf z))];rcases m v with z |⟨l,rs,a1,a2,a3,f⟩
   .exact .inl z
   .have n1:l≠a:=λz=>by rw[z,j]at a3;cases a3
    exact .inr {l,rs,a1,a2,by rw[ae n1];exact a3,f.1,λi q Q x y=>by
     have h:=f.2 i q Q x y
     rw[ae (λz=>by rw[z,j]at h;cases h)];exact h}
  .rw[ur]at x y
   have old:∀{v:Str} {l:Addr},bF b (wal v:Key)=some (.ref l)->l≠g:=λ{v l} h=>by
    rcases L v with⟨z,_⟩ |⟨R,rs,a1,a2,a3,f⟩
    .rw[z]at h;cases h
    .rw[a1]at h;cases h;exact nl a3
   by_cases p:u=w
   .by_cases k:v=w
    .rw[p,k]
    .rw[if_pos (congrArg wal p)]at x;rw[if_neg (λz=>k (wcf z))]at y;cases x;exact absurd rfl (old y)
   .rw[if_neg (λz=>p (wcf z))]at x
    by_cases k:v=w
    .rw[if_pos (congrArg wal k)]at y;cases y;exact absurd rfl (old x)
    .rw[if_neg (λz=>k (wcf z))]at y;exact D u v l x y
noncomputable def nc(H0 H2 H3:Hp):Hp:=λc=>match H2 c with
 |none=>H3 c
 |some _=>H0 c
theorem IK{g j l:Hp}(s:a7 g j):a7 g (nc g j l):=λc o h=>by
 unfold nc;rw[s _ _ h];exact h
theorem IL{l g j:Hp}:a7 (aM g j) (nc l g j):=λc o h=>by
 unfold aM at h;unfold nc
 cases e:g c with
 |none=>rw[e]at h;exact h
 |some u=>rw[e]at h;cases h
theorem eu.over{p g j:Hp}{done:List wZ}(M:eu p g a done)(s:a7 g j):eu (nc p g j) j a done:=by
 obtain⟨h0,fa,b,d,i,k,m⟩:=id M;obtain⟨_,_,f,g1,_,g3,_⟩:=M.same s;have n:f=b:=by have:=s _ _ d;rw[g1]at this;cases this;rfl
 subst n;refine{λc o h=>?_,by unfold nc;rw[d];exact fa,f,g1,i,λw=>?_,m}
 .unfold nc at h
  cases e:g c with
  |none=>rw[e]at h;exact h
  |some u=>rw[e]at h;exact s _ _ (h0 _ _ h)
 .rcases k w with z |⟨l,q,a1,a2,a3,r⟩
  .exact .inl z
  .exact .inr {l,q,a1,by unfold nc;rw[a3];exact a2,s _ _ a3,r.same s}
theorem eu.back{g B H:Hp}{done:List wZ}(M:eu B H a done)(s:a7 g B):eu g H a done:=by
 obtain⟨h0,fa,b,c,d,e,f⟩:=M;refine{s.trans h0,none_of s fa,b,c,d,λw=>?_,f};rcases e w with z |⟨l,h,a1,a2,a3⟩
 .exact .inl z
 .exact .inr {l,h,a1,none_of s a2,a3}
noncomputable def dI(wl:List (List (Str×Nat)))(k:Nat):List wZ:=(wao k).flatMap λd=>(wl.getD d []).map λq=>(d,q.1,q.2)
theorem wk(wl:List (List (Str×Nat)))(k:Nat):dI wl (k+1)=dI wl k++(wl.getD k []).map λq=>(k,q.1,q.2):=by
 unfold dI;rw[wc9,weP];simp
theorem FA{wl:List (List (Str×Nat))}{i e:Nat}{w:Str}:(i,w,e)∈dI wl wl.length↔(w,e)∈wl.getD i []:=by
 unfold dI;constructor
 .intro h;obtain⟨d,_,h⟩:=wcG.mp h;obtain⟨q,a,b⟩:=wab.mp h;obtain⟨rfl,c⟩:=wce b;obtain⟨rfl,rfl⟩:=wce c;exact a
 .intro h;refine wcG.mpr {i,wb0.mpr ?_,wab.mpr {(w,e),h,rfl}};refine wcq λz=>?_;rw[wa3,wco ()]at h;cases h
theorem eu.done{g H:Hp}{wl:List (List (Str×Nat))}(h:eu g H a (dI wl wl.length))(hl:(dI wl wl.length).length<=1000):i5 H a wl:=by
 obtain⟨_,_,b,d,m,f,n⟩:=h;refine{b,d,λw=>?_};have c:=λi e=>(B6 (dI wl wl.length) w i e).trans FA;rcases f w with⟨z,y⟩ |⟨l,j,a1,a2,a3,k⟩
 .refine .inl {z,λi e q=>?_};have:=(c i e).mpr q;rw[y]at this;cases this
 .refine .inr {l,j,_,a1,a3,k,?_,c};unfold pairsOf;rw[wa0];exact wak (wb2 ..) hl
end Bs
namespace L2
open PySem PySem.Spec PyProof.Rows
section
variable{X:Cx}{tg:Expr}
theorem DR{c:Int}(hc:0<c)(m:Nat):wd3 0 (c*(m:Int)) c=(m:Int):=by
 unfold wd3;rw[if_pos hc]
 cases m with
 |zero=>rw[if_neg (by simp)];rfl
 |succ m=>
  have a:0<c*((m+1:Nat):Int):=whH hc (by lia);rw[if_pos a,show c*((m+1:Nat):Int)-0-1=(c-1)+c*(m:Int) by rw[wbz,Int.mul_add];lia,wgB _ _ (by lia),Int.ediv_eq_zero_of_lt (by lia) (by lia)]
  lia
theorem IM{g:List (Addr×Obj)}{σ:St}{H:Hp}{s:Shared}{R:It->Hp->Prop}{E:Value->Shared->Prop}{c:Int}{m:Nat}{t u v:Tok}(I:Inv X g σ H s)(j:1<=c)(l:c<=1000)(p:c*(m:Int)<=1000000)(r:m<=1000000)
 (q:R (Kb 0 c m) H):wpAny (model X.prog X.w) X.A (pyIter (.ref s.heap.objs.size)) (Oa X g σ tg R) E {s with heap:=s.heap.push {cls:=.type "range",data:=.fields #[.int 0 t,.int (c*(m:Int)) u,.int c v]}}:=by
 have h0:0<=c*(m:Int):=Int.mul_nonneg (by lia) (by lia)
 have a:wh3 0 (c*(m:Int)) c=true:=by
  unfold wh3;rw[DR (by lia)];simp only[Builtin.Range.rangeFitsLong,wbX,whY,decide_eq_true_eq,beq_iff_eq,show c>0 by lia,if_true]
  lia
 refine wpAny_pyIter_range (wi9 ..) a ?_;have d:Inv X g σ H {s with heap:=s.heap.push {cls:=.type "range",data:=.fields #[.int 0 t,.int (c*(m:Int)) u,.int c v]}}:=I.kept (t':=s.toks) λb o e=>wa9 _ e
 refine{(s.heap.push {cls:=.type "range",data:=.fields #[.int 0 t,.int (c*(m:Int)) u,.int c v]}).objs.size,[(s.heap.push {cls:=.type "range",data:=.fields #[.int 0 t,.int (c*(m:Int)) u,.int c v]}).objs.size],_,_,H,rfl,
  d.kept (t':=s.toks) λb o e=>wa9 _ e,An _ 0 c m,?_,λb f=>?_,q}
 .have h:(0:Int)+((0:Nat):Int)*c=0:=by simp
  have i:((m:Nat):Int)-((0:Nat):Int)=wd3 0 (c*(m:Int)) c:=by rw[DR (by lia)];simp
  show wg7 _ _ ((0:Int)+((0:Nat):Int)*c) (((m:Nat):Int)-((0:Nat):Int)) c;rw[h,i];exact wat _ rfl
 .have e:b=(s.heap.push {cls:=.type "range",data:=.fields #[.int 0 t,.int (c*(m:Int)) u,.int c v]}).objs.size:=by simpa using f
  subst e;exact d.yw (waa _) (d.b7.fresh (waa _))
inductive V7(vs:List V)(H:Hp)(R:It->Hp->Prop):Prop
 |mk (c:Int) (m:Nat) (_:vs=[.int 0,.int (c*(m:Int)),.int c]) (_:1<=c) (_:c<=1000) (_:c*(m:Int)<=1000000) (_:m<=1000000) (_:R (Kb 0 c m) H)
def Rc(ta:TA):TI:=λσ H R=>ta σ H λvs H1=>V7 vs H1 R
theorem FC(l:Gl X "range")(C:X.mg "range"=none)(ha:PA X [a,b,c] J)(hs:starEach [a,b,c] X.env=[(false,eval a X.env),(false,eval b X.env),(false,eval c X.env)]:=by rfl)(g:starEach [b,c] X.env=[(false,eval b X.env),(false,eval c X.env)]:=by rfl) :
 PI X tg (.Call (.Name "range" p) [a,b,c] [] pos) (Rc J):=by
 refine{?_};intro d s σ H R I h;refine Call_ (gi I l C boot_range (wbs (bO (ha pos d s σ H _ I h) λy z ⟨A,B,k,n,i⟩=>?_) (by rw[hs,g]) (by rw[g];rfl)));obtain⟨c,m,e,i,o,u,v,q⟩:=i;subst e
 cases n with
 |cons r f=>
  cases f with
  |cons w f=>
   cases f with
   |cons j f=>
    cases f;obtain⟨t,rfl⟩:=r;obtain⟨D,rfl⟩:=w;obtain⟨x,rfl⟩:=j;exact call_range_3 () (IM k i o u v q) (.inl (wga ()))
end
end L2
namespace L2
open PySem Bs
theorem IP(e:Nat)(rs:List Nat):∃g,putK (dB rs) (wb8 (e:Int):Key) (.bl true)=dB g/\(∀x,x∈g↔x∈rs\/x=e)/\g.length<=rs.length+1:=by
 by_cases h:e∈rs
 .refine{rs,?_,λx=>{.inl,λz=>z.elim id λz=>z ▸ h},wc5 _};unfold putK;rw[if_pos (show ((dB rs).any λb=>decide (b.1=(wb8 (e:Int):Key)))=true from wcm.mpr {((wb8 (e:Int):Key),V.bl true),wab.mpr ⟨e,h,rfl⟩,decide_eq_true rfl})];refine(waZ λb a=>?_).trans (List.map_id _);obtain⟨n,_,rfl⟩:=wab.mp a;show (if _ then _ else _)=_;split<;>rfl
 .exact{rs++[e],HM h,λx=>by rw[waD,wap],by rw[wa5];exact waa _}
end L2
namespace L2
open PySem
noncomputable def yq(a:Addr):List (Str×V):=[("writer",.ref a)]
noncomputable def FD(a b:Addr):List (Str×V):=[("writer",.ref a),("pairs",.ref b)]
theorem LW(a:Addr):cO "writer" (.ref a) []=yq a:=rfl
theorem IQ(a b:Addr):cO "pairs" (.ref b) (yq a)=FD a b:=by
 show (if ("writer":Str)="pairs" then _ else(("writer":Str),V.ref a)::cO "pairs" (.ref b) [])=_;rw[if_neg ∅];rfl
theorem B8(a b:Addr):(FD a b).lookup ("pairs":Str)=some (.ref b):=by
 rw[<-IQ,aF,if_pos rfl]
theorem aI(a b:Addr):(FD a b).lookup ("writer":Str)=some (.ref a):=by
 rw[<-IQ,aF,if_neg ∅,<-LW,aF,if_pos rfl]
end L2
namespace Bs
open PySem L2 Sx
structure rB(K:wa2)(C CB CP CR:Addr)(H:Hp)(z:Addr)(R:Wr):Prop where
 ex:∃dz x a,H z=some (.ins CR dz (FD x a))/\i5 H a R.wl/\nB K C CB CP H x R
theorem rB.same{CR:Addr}(h:rB K C CB g CR H z R)(s:a7 H j):rB K C CB g CR j z R:=by
 obtain⟨b,x,a,c,d,e⟩:=h;exact{b,x,a,s _ _ c,d.same s,e.same s}
end Bs
namespace K52
open PySem L2 Bs Sx
section
variable{P:waq}{w:World}{K:wa2}{mg:Str->Option Value}{base:Heap}
inductive IU(vs:List V)(H:Hp)(Q:VK)(dA:XK):Prop
 |mk (a ts many) (_:vs=[.ref a,.int many]) (_:H a=some (.lst ((nI ts).map V.int))) (_:(∀t∈ts,(t:Int)<many)) (_:∀H',a7 H H'->Q .non H')
local macro_rules|`(tactic|ac_rfl)=>`(tactic|try dsimp only[cZ,cY,aX,aY])
theorem x9(L:Lk K mg):aS P w K mg base cP 2 L.pO L.qa ["data","many"] IU:=by
 have T:=L.T;refine L.qm.F.d7 (N:=["data","many","number","thing"]) (λg A outer s H t Q E nd u h=>?_);obtain⟨a,j,many,rfl,ha,c,k⟩:=h
 refine{_,(a5 (b6 (cS (bT (aU bR (by rfl) T.FT tG (a8 (pv 0) (aK (eY (v:=.ty "list") (by rfl) T.list fJ rfl)))))) cK aG)
  (a9 (forA (kc (by rfl) T.enum (aK (pv 0))) (dU rfl (aP (ax (i:=2)) (aP (ax (i:=3)) cQ))) (a9 (b6 (PW.pt (fk (cS (bT (au (j9 L) L.iA (aK (pv 3))))) (fk (cu iO (pv 3) aq) (fF (cu D5 (pv 3) (pv 1)))))) cK aG))))),?_}
 ac_rfl
 refine{_,rfl,_,_,_,true,rfl,gE.lst ha,rfl,true,rfl,bx ?_};refine{_,rfl,a,_,rfl,aL.of ha,m3 (K:=K) (a:=a) (xs:=(nI j).map V.int) (λi σ b=>a7 H b/\∃d e,σ=[some (.ref a),some (.int many),d,e]) {a7.refl _,none,none,rfl} (λi σ b _ p=>p.1.seq (aL.of ha)) ?_ (λσ b p=>k b p.1)};rintro i x σ b T l ⟨m,d,e,rfl⟩ q;obtain⟨n,hn,rfl⟩:=rg (wa8 l);have r:=c n hn;refine{T,_,rfl,gA.of a6,rfl,_,_,rfl,_,_,rfl,rfl,?_};have f:=m.trans (a7.upd (o:=.tup [.int (i:Nat),.int (n:Int)]) q);generalize upd b T (.tup [.int (i:Nat),.int (n:Int)])=y at f;refine{_,rfl,(n:Int),rfl,true,rfl,bx ?_};refine{_,rfl,_,_,rfl,rfl,false,congrArg V.bl (decide_eq_false (by lia)),bx ?_};refine{_,rfl,_,rfl,_,_,rfl,rfl,false,congrArg V.bl (decide_eq_false (by lia)),bx ?_};exact{f,_,_,rfl}
inductive CZ(K:wa2)(C CB CP:Addr)(u:Wr->V)(vs:List V)(H:Hp)(Q:VK)(dA:XK):Prop
 |mk (x R) (_:vs=[.ref x]) (_:nB K C CB CP H x R) (_:Q (u R) H)
theorem cC(L:Lk K mg):aS P w K mg base cP 1 L.mB L.mO ["self"] (CZ K L.aj L.aA L.aO (λR=>.int (R.c:Int))):=by
 have T:=L.T;refine L.cq.F.d7 (N:=["self"]) (λd A outer s H r Q E nd t h=>?_);obtain⟨x,R,rfl,⟨⟨e,p,u,a,l,dp,f,b,g,i,j,m,n,o,q,_⟩,_⟩,k⟩:=h;refine{_,(a9 (aw (zD T.len (az (az (pv 0) rfl) rfl)))),?_}
 ac_rfl
 refine{_,rfl,x,L.aj,e,_,_,rfl,m,L.ag.cl,L.ag.pC,zo ..,p,L.aO,dp,_,_,rfl,n,L.dG.cl,L.dG.AA,zb f b g i,b,j,rfl,.inl o,?_};rw[q];exact k
theorem eI(L:Lk K mg):aS P w K mg base cP 1 L.nP L.nY ["self"] (CZ K L.aj L.aA L.aO (λR=>.str R.o.1)):=by
 refine L.dS.F.d7 (N:=["self"]) (λb A outer s H e Q E nd f h=>?_);obtain⟨x,R,rfl,⟨⟨c,p,g,a,l,dp,i,j,m,n,q,d,_⟩,_⟩,k⟩:=h;refine{_,(a9 (aw (az (pv 0) rfl))),?_}
 ac_rfl
 exact{_,rfl,x,L.aj,c,_,_,rfl,d,L.ag.cl,L.ag.rk,oa ..,k}
theorem gZ(L:Lk K mg):aS P w K mg base cP 1 L.mC L.mP ["self"] (CZ K L.aj L.aA L.aO (λR=>.int (R.wl.length:Int))):=by
 have T:=L.T;refine L.fW.F.d7 (N:=["self"]) (λb A outer s H f Q E nd g h=>?_);obtain⟨x,R,rfl,⟨⟨c,p,i,a,l,dp,j,m,n,o,q,d,_,_,_,_,e,_⟩,ok⟩,k⟩:=h;refine{_,(a9 (aw (zD T.len (az (pv 0) rfl)))),?_}
 ac_rfl
 refine{_,rfl,x,L.aj,c,_,_,rfl,d,L.ag.cl,L.ag.fM,tq ..,a,_,rfl,.inl e,?_};rw[wa0,ok.hl];exact k
inductive IV(K:wa2)(C CB CP:Addr)(vs:List V)(H:Hp)(Q:VK)(dA:XK):Prop
 |mk (x:Addr) (R:Wr) (d:Nat) (_:vs=[.ref x,.int (d:Int)]) (_:nB K C CB CP H x R) (_:d<R.wl.length) (_:Q (.str (R.hk.getD d "")) H)
theorem oO(L:Lk K mg):aS P w K mg base cP 1 L.iU L.iZ ["self","desk"] (IV K L.aj L.aA L.aO):=by
 refine L.j8.F.d7 (N:=["self","desk"]) (λb A outer s H i Q E nd j h=>?_);obtain⟨x,R,d,rfl,⟨⟨c,p,m,a,l,dp,n,o,q,r,t,f,_,_,_,_,g,_⟩,ok⟩,hd,k⟩:=h;refine{_,(a9 (aw (bc bD (az (pv 0) rfl) (pv 1) (λ_ _=>rfl)))),?_}
 ac_rfl
 have e:=getD_some ("":Str) (show d<R.hk.length by rw[ok.hl];exact hd);exact{_,rfl,x,L.aj,c,_,_,rfl,f,L.ag.cl,L.ag.fM,tq ..,_,rfl,a,_,_,_,rfl,rfl,g,bC (v:=.str (R.hk.getD d "")) (by rw[wa4,e];rfl),k}
inductive IW(K:wa2)(C CB CP:Addr)(vs:List V)(H:Hp)(Q:VK)(dA:XK):Prop
 |mk (x:Addr) (R:Wr) (d:Nat) (_:vs=[.ref x,.int (d:Int)]) (_:nB K C CB CP H x R) (_:d<R.wl.length) (_:∀y H',a7 H H'->bM K (aM H H') (bY (R.wl.getD d [])) y->Q y H')
theorem lQ(L:Lk K mg):aS P w K mg base cP 1 L.mD L.mQ ["self","desk"] (IW K L.aj L.aA L.aO):=by
 refine L.iF.F.d7 (N:=["self","desk"]) (λD A outer s H Y Q E nd e h=>?_);obtain⟨x,R,d,rfl,⟨⟨G,p,Z,a,l,dp,wa,wb,wc,wz,ys,I,_,_,_,hl,_⟩,ok⟩,hd,k⟩:=h;refine{_,(a9 (aw (fK rfl (ay [] []) (ay [] []) ⋯ (aQ (bc bD (az (pv 0) rfl) (pv 1) (λ_ _=>rfl))) (λ_ _ _ _ _ _=>bj) (λ_ _ _ _ _ _=>(dX (a8 (pv 0) (aK (pv 1)))))))),?_}
 ac_rfl
 obtain⟨l',J,M,f,g⟩:=id hl;cases M;have c:=cM hd;obtain⟨v,j,rd⟩:=g.at (i:=d) (d:=bY (R.wl.getD d [])) (by rw[wa4,c];rfl);have O:=ok.w.ln _ (wa8 c);have m8:=ok.m8;obtain⟨u,S,rfl,y,b,T⟩:=kA rd;have m:=b;rw[wa0]at m;refine{_,rfl,x,L.aj,G,_,_,rfl,I,L.ag.cl,L.ag.cR,tu ..,_,rfl,l,J,_,_,rfl,rfl,.inl f,bC j,u,rfl,{_,y},λlc n=>?_};refine jy (prs:=(R.wl.getD d []).map eF) (λ_=>true) (λq=>.tup [.at q.1,.at q.2]) (aR K u S) b (λi q c=>let ⟨r,U,V⟩:=T i q c;{r,U,gA.of V}) n (ao (by lia)) (λB o=>o.seq y) (λq C X _ _ t=>t C (a7.refl _)) (λq C X c _ s3 t=>?_) (λB o r=>?_)
 .obtain⟨z,hz,rfl⟩:=wab.mp c;exact{_,rfl,_,rfl,by show 2<=sizeLine;decide,λr e=>t _ _ (a7.upd e) (mi e z)}
 .rw[wba.mpr (λ_ _=>rfl),waf]at r;exact k _ B o r
inductive NW(K:wa2)(C CB CP:Addr)(vs:List V)(H:Hp)(Q:VK)(dA:XK):Prop
 |mk (x a R ts) (_:vs=[.ref x,.ref a]) (_:nB K C CB CP H x R) (_:H a=some (.lst ((nI ts).map V.int))) (_:(∀t∈ts,(t:Int)<R.many)) (_:ts.length<=10000) (_:∀H',a7 H H'->Q (.str (KN R.wl R.b R.c ts)) H')
theorem tO(L:Lk K mg):aS P w K mg base cP 3 L.mE L.mR ["self","data"] (NW K L.aj L.aA L.aO):=by
 refine L.n0.F.d7 (N:=["self","data","found"]) (λgG A outer s H vs Q E nd hr h=>?_);obtain⟨x,a,R,ts,rfl,S,ha,e,htl,k⟩:=h
 refine{_,(a5 (b8 (au (x9 L) L.qm (a8 (pv 1) (aK (az (pv 0) rfl)))))
  (a5 (ai (i:=2) (au (yn L) L.vS (a8 (az (pv 0) rfl) (a8 (az (pv 0) rfl) (aK (aC Bu (pv 1) (aC Gm (cA (aK aq)) (eV (pv 0) L.ag.cl L.cq (cC L)))))))))
  (a9 (aw (aC ia (az (pv 0) rfl) (bc fG (pv 2) aq (λ_ _=>rfl))))))),?_}
 ac_rfl
 obtain⟨⟨f,p,xb,aa,ll,dp,wa,wb,wc,wz,ys,r,_,_,_,rl,_⟩,ok⟩:=id S;have m1:=ok.m1;have hb:=ok.b1;have wQ:=ok.c1;have u:=qu ok.w (wcd.mpr ok.w.ne) (ts:=waj R.b 0) λt B=>by rw[(wdm.mp B).2];lia
 rw[waP]at u;refine{_,rfl,_,rfl,x,L.aj,f,_,_,rfl,r,L.ag.cl,L.ag.Ic,CT ..,a,ts,R.many,rfl,ha,e,λC T=>?_};have U:=T _ _ r;refine{_,rfl,x,L.aj,f,_,_,rfl,U,L.ag.cl,L.ag.cR,tu ..,_,rfl,x,L.aj,f,_,_,rfl,U,L.ag.cl,L.ag.DF,B1 ..,_,rfl,by show 1<=sizeLine;decide,λv D=>?_};have X:=a7.upd (H:=C) (o:=.lst [V.int 0]) D;have G:(upd C v (.lst [V.int 0])) v=some (.lst [V.int 0]):=a6;generalize upd C v (.lst [V.int 0])=I at X G;have d:=T.trans X;refine{_,rfl,x,f,_,rfl,d _ _ r,b4 _ _ _ _ _ _ _ _ ∅,x,R,rfl,S.same d,?_};refine{v,(R.c:Int),[V.int 0],rfl,rfl,G,by lia,by lia,ao (by show 1*((R.c:Int)).toNat<=_;lia),λy J=>?_};rw[waA,w5];have Y:=a7.upd (H:=I) (o:=.lst ((nI (waj R.c 0)).map V.int)) J;have Z:(upd I y (.lst ((nI (waj R.c 0)).map V.int))) y=some (.lst ((nI (waj R.c 0)).map V.int)):=a6;generalize upd I y (.lst ((nI (waj R.c 0)).map V.int))=M at Y Z;have g:=d.trans Y;refine{a,y,_,_,rfl,rfl,g _ _ ha,Z,ao ?_,λz O=>?_}
 .rw[wa0,wa0,bL,bL,waP]
  lia
 rw[<-wai,<-jA];have s4:=a7.upd (H:=M) (o:=.lst ((nI (ts++waj R.c 0)).map V.int)) O;have h4:(upd M z (.lst ((nI (ts++waj R.c 0)).map V.int))) z=some (.lst ((nI (ts++waj R.c 0)).map V.int)):=a6;generalize upd M z (.lst ((nI (ts++waj R.c 0)).map V.int))=H4 at s4 h4;have j:=g.trans s4;have l:∀t:Nat,t∈ts++waj R.c 0->(t:Int)<R.many:=λt B=>rA m1 e R.b R.c t (waJ _ B);have w1:=qu ok.w u.1 l;rw[wa5,waP]at w1;refine{.ref ll,_,z,R.many,R.n,R.wl,ts++waj R.c 0,rfl,bM.same j _ _ rl,aL.of h4,ok.w,u.1,l,by rw[wa5,waP];lia,ok.lO,λq H5 s5 hq=>?_};have m:=j.trans s5;refine{_,rfl,x,L.aj,f,_,_,rfl,m _ _ r,L.ag.cl,L.ag.rk,oa ..,_,rfl,q,_,_,_,rfl,rfl,gA.of hq,rfl,_,_,rfl,rfl,ao ?_,k H5 m};show R.o.1.length+_<=_;unfold Wr.o;rw[u.2,w1.2];have h1:R.n*R.b<=10*1000:=wbd ok.lO hb;have G:R.n*(ts.length+R.c)<=10*11000:=wbd ok.lO (by lia)
 lia
theorem kP{H:Hp}{x:Addr}{R:Wr}{Q:VK}{E:XK}(W:nB K C CB l H x R)(k:∀j,a7 H j->Q (.int (R.b:Int)) j):IA C CB [.ref x] H Q E:=by
 obtain⟨⟨a,p,c,h,i,dp,m,o,q,r,s,d,_,_,_,t,_,B⟩,ok⟩:=W;exact{x,c,a,_,R.n,R.g,R.bw,R.ss,R.ls,rfl,d,iI ..,dH ..,B,ok.n1,ok.lO,λw hw=>(ok.hw w hw).2,ok.bl,λb j e f=>by rw[Bs.n6.one f ok.bh];exact k j e}
inductive FE(K:wa2)(C CB CP:Addr)(vs:List V)(H:Hp)(Q:VK)(dA:XK):Prop
 |mk (x R) (_:vs=[.ref x]) (_:nB K C CB CP H x R) (_:∀a H',a7 H H'->i5 H' a R.wl->Q (.ref a) H')
theorem rD{R:Wr}(ok:wY R):∀k,k<=R.wl.length->(dI R.wl k).length<=k*8
 |0,_=>waz _
 |k+1,h=>by
  have a:=rD ok k (by lia);have:=ok.w.ln _ (wa8 (cM (show k<R.wl.length by lia)));have:=ok.m8;rw[wk,wa5,wa0]
  lia
theorem rE(L:Lk K mg):aS P w K mg base cP 2 L.kW L.lq ["writer"] (FE K L.aj L.aA L.aO):=by
 have T:=L.T;refine L.lF.F.d7 (N:=["writer","steps","desk","word","end"]) (λgG A outer s H vs Q E nd m h=>?_);obtain⟨x,R,rfl,I,k⟩:=h
 refine{_,(a5 (ai (i:=1) da)
  (a5 (forA (bZ rfl T.range (aK (eV (pv 0) L.ag.cl L.fW (gZ L)))) (ax (i:=2)) (a9 (forA (aQ (sD (pv 0) L.ag.cl L.iF (lQ L) (aK (pv 2)))) (dU rfl (aP (ax (i:=3)) (aP (ax (i:=4)) cQ))) (a9 (b8 (hF waN waU waY cL (CV (pv 1) (pv 3) (cA eC) ⟨rfl,rfl,rfl,rfl⟩) (aK (dX (a8 (pv 2) (aK (pv 4)))))))))))
  (a9 (aw (pv 1))))),?_}
 ac_rfl
 refine λa ha=>?_;have s0:a7 H (upd H a (.dK [])):=a7.upd ha;obtain⟨⟨dx,p,xb,aa,ll,dp,wa,wb,wc,wz,ys,hx,_⟩,ok⟩:=id I;have Nz:=ok.l1;have m8:=ok.m8;refine{_,rfl,x,dx,_,rfl,s0 _ _ hx,b4 _ _ _ _ _ _ _ _ ∅,x,R,rfl,I.same s0,?_};refine{(R.wl.length:Int),rfl,by lia,by lia,?_};rw[waA];refine cw (lo:=0) (n:=R.wl.length) (λi σ d=>i<=R.wl.length/\eu H d a (dI R.wl i)/\∃J f v4,σ=[some (.ref x),some (.ref a),J,f,v4]) {waz _,eu.start ha,none,none,none,rfl} ?_ ?_
 .rintro i σ d hi ⟨_,M,J,f,v4,rfl⟩;show bN 2 (V.int (0+(i:Int))) _ _ _;rw[wbN];refine{_,rfl,x,dx,_,rfl,M.s _ _ hx,b4 _ _ _ _ _ _ _ _ ∅,_,rfl,x,R,i,rfl,I.same M.s,hi,λy t s3 r3=>?_};obtain⟨yb,o,rfl,hS,O⟩:=dQ r3;have S:=ok.w.ln _ (wa8 (cM hi));have U:=rD ok i (by lia);have u:o.length=(R.wl.getD i []).length:=by rw[O.1,wa0,wa0]
  have MB:=M.over s3;have X:a7 (aM d t) (nc H d t):=IL;have sO:a7 H (nc H d t):=IK M.s;have c:=wk R.wl i;generalize nc H d t=B at MB X sO;generalize R.wl.getD i []=b at O S u c;refine{yb,rfl,{_,(cf _ _).seq hS},d9 (K:=K) (a:=yb) (xs:=o.map V.ref) (λj σ G=>eu B G a (dI R.wl i++(b.take j).map λq=>(i,q.1,q.2))/\∃f v4,σ=[some (.ref x),some (.ref a),some (.int (i:Int)),f,v4]) {by rw[wdu,wdV,waS];exact MB,f,v4,rfl} (λj σ G _ q=>(X.trans q.1.s).seq hS) ?_ ?_}
  .rintro j y σ G Y ⟨g,f,v4,rfl⟩;have hj:j<o.length:=by have:=(wa6.mp Y).1;rwa[wa0]at this
   have z:j<b.length:=by lia
   rw[wa4,wa1 hj]at Y;cases Y;have C:(aM d t) o[j]=some (.tup [.str b[j].1,.int (b[j].2:Int)]):=O.2 j o[j] (jx (eF b[j])) (wa1 hj) (by rw[wa4,wa4,wa1 z];rfl);have e:dI R.wl i++(b.take (j+1)).map (λq=>(i,q.1,q.2))=(dI R.wl i++(b.take j).map λq=>(i,q.1,q.2))++[(i,b[j].1,b[j].2)]:=by rw[waO,wa1 z,wai,waM];rfl
   have Z:(dI R.wl i++(b.take j).map λq=>(i,q.1,q.2)).length<=400:=by rw[wa5,wa0,wag];lia
   generalize b[j]=q at C e;generalize dI R.wl i++(b.take j).map (λq=>(i,q.1,q.2))=done at g e Z;refine{o[j],_,rfl,gA.of (X.trans g.s _ _ C),rfl,_,_,rfl,_,_,rfl,rfl,?_};obtain⟨_,_,kv0,QL,_⟩:=id g;refine{_,rfl,a,rfl,.inl {_,.inl QL},_,rfl,waz _,λl0 LO=>?_};obtain⟨D,k1,k2,k3,k4⟩:=g.step LO q.1 i q.2;refine{D,wal q.1,k1,rfl,?_,λv hv=>?_,λhn=>?_}
   .have:=gF D (wal q.1:Key) (.ref l0);exact ao (by lia)
   .obtain⟨l,RH,rfl,a1,a2,a3⟩:=k3 v hv;refine{.inl {rfl,_,aL.of a1},_,rfl,_,rfl,by show 2<=sizeLine;decide,λr m=>{l,_,_,rfl,rfl,a7.upd m _ _ a1,by rw[wa0];exact bE (by lia),?_}};rw[e];exact{a3 r m,_,_,rfl}
   .obtain⟨a1,a3⟩:=k4 hn;refine{.inl {rfl,_,aL.of a1},_,rfl,_,rfl,by show 2<=sizeLine;decide,λr m=>{l0,_,_,rfl,rfl,a7.upd m _ _ a1,by show 0<sizeLine;decide,?_}};rw[e];exact{a3 r m,_,_,rfl}
  .rintro σ G ⟨g,f,v4,rfl⟩;rw[wa0,u,waG,<-c]at g;exact{hi,g.back sO,_,_,_,rfl}
 .rintro σ d ⟨_,M,J,f,v4,rfl⟩;have U:=rD ok _ (waa _);exact{_,rfl,k a d M.s (M.done (by lia))}
inductive KQ(K:wa2)(vs:List V)(H:Hp)(Q:VK)(dA:XK):Prop
 |mk (l b:Addr) (rs:List Addr) (ps:List (Nat×Nat)) (es:List Nat) (_:vs=[.ref l,.ref b]) (_:aL K H l (rs.map V.ref)) (_:b9 H rs (ps.map jU)) (_:aL K H b ((nI es).map V.int)) (_:ps.length<=1000) (_:es.length<=1000) (_:∀y ds H',a7 H H'->H' y=some (.lst ((nI ds).map V.int))->(∀i:Nat,i∈ds↔∃e∈es,(i,e)∈ps)->ds.length<=ps.length->Q (.ref y) H')
theorem xa(L:Lk K mg):aS P w K mg base cP 1 L.pD L.pP ["pairs","ends"] (KQ K):=by
 have T:=L.T;refine L.qe.F.d7 (N:=["pairs","ends","wanted","end","found","desk"]) (λgG A outer s H vs Q E nd hr h=>?_);obtain⟨l,b,x,ps,B,rfl,hL,hT,hE,pl,el,k⟩:=h;have f:=eW hr
 refine{_,(a5 (ai (i:=2) da)
  (a5 (forA (aQ (pv 1)) (ax (i:=3)) (a9 (ee f (pv 2) (pv 3) dZ rfl)))
  (a5 (ai (i:=4) da)
  (a5 (forA (aQ (pv 0)) (dU rfl (aP (ax (i:=5)) (aP (ax (i:=3)) cQ))) (a9 (b6 (yt (Go f (pv 3) (pv 2))) (a9 (ee f (pv 4) (pv 5) dZ rfl)) aG)))
  (a9 (aw (bp (k9 rfl) (by rfl) T.list fJ (aK (pv 4))))))))),?_}
 ac_rfl
 refine λm hw=>?_;have X:x.length=ps.length:=by rw[hT.1,wa0]
 refine{_,rfl,b,rfl,{_,(a7.upd hw).seq hE},d9 (K:=K) (a:=b) (xs:=(nI B).map V.int) (λi σ t=>a7 H t/\(∃n,t m=some (.dK (dB n))/\(∀e,e∈n↔e∈B.take i)/\n.length<=i)/\∃u,σ=[some (.ref l),some (.ref b),some (.ref m),u,none,none]) {a7.upd hw,{[],a6,λe=>by rw[wdu],waa _},none,rfl} (λi σ t _ q=>q.1.seq hE) ?_ ?_}
 .rintro i y σ t j ⟨J,⟨n,M,f,ul⟩,u,rfl⟩;have hi:i<B.length:=by have:=(wa6.mp j).1;rwa[wa0,bL]at this
  rw[vp (wa1 hi)]at j;cases j;obtain⟨Y,Z,e2,e3⟩:=IP B[i] n;refine{_,rfl,_,rfl,m,_,rfl,jZ.k (k:=wb8 (B[i]:Int)) M (bE (by unfold dB;rw[wa0];lia)),?_};rw[Z];refine{λc o e=>by rw[ae (af e hw)];exact J _ _ e,{Y,a6,λe=>?_,by lia},_,rfl};rw[e2,f,waO,wa1 hi,waD];simp
 .rintro σ t ⟨J,⟨n,M,f,ul⟩,u,rfl⟩;rw[wa0,bL,waG]at f;refine λfd O=>?_;have nwf:m≠fd:=af M O;have s3:=J.trans (a7.upd (o:=.dK []) O);have h3:=a7.upd (o:=.dK []) O _ _ M;have g3:(upd t fd (.dK [])) fd=some (.dK (dB [])):=a6;have ff:=none_of J O;generalize upd t fd (.dK [])=H3 at s3 h3 g3;refine{_,rfl,l,rfl,{_,s3.seq hL},d9 (K:=K) (a:=l) (xs:=x.map V.ref) (λi σ C=>a7 H C/\C m=some (.dK (dB n))/\(∃r,C fd=some (.dK (dB r))/\(∀d,d∈r↔∃e∈B,(d,e)∈ps.take i)/\r.length<=i)/\∃u v5,σ=[some (.ref l),some (.ref b),some (.ref m),u,some (.ref fd),v5]) {s3,h3,{[],g3,λd=>{(λz=>nomatch z),λ⟨e,_,z⟩=>by rw[wdu]at z;cases z},waa _},_,none,rfl} (λi σ C _ q=>q.1.seq hL) ?_ ?_}
  .rintro i y σ C j ⟨D,R,⟨r,S,hd,dl⟩,u,v5,rfl⟩;have hi:i<x.length:=by have:=(wa6.mp j).1;rwa[wa0]at this
   have G:i<ps.length:=by lia
   rw[wa4,wa1 hi]at j;cases j;have I:H x[i]=some (.tup (jU ps[i])):=hT.2 i x[i] _ (wa1 hi) (by rw[wa4,wa1 G];rfl);have v:ps.take (i+1)=ps.take i++[ps[i]]:=by rw[waO,wa1 G];rfl
   generalize ps[i]=p at I v;refine{x[i],_,rfl,gA.of (D _ _ I),rfl,_,_,rfl,_,_,rfl,rfl,?_};have g:=eA.k (k:=(wb8 (p.2:Int):Key)) R;rw[z6]at g
   by_cases U:p.2∈n
   .rw[if_pos U]at g;obtain⟨ds',Z,e2,e3⟩:=IP p.1 r;refine{_,rfl,_,rfl,m,_,rfl,g,true,rfl,eD ?_};refine{_,rfl,_,rfl,fd,_,rfl,jZ.k (k:=wb8 (p.1:Int)) S (bE (by unfold dB;rw[wa0];lia)),?_};rw[Z];refine{λc o e=>by rw[ae (af e ff)];exact D _ _ e,by rw[ae nwf];exact R,{ds',a6,λd=>?_,by lia},_,_,rfl};rw[e2,hd,v];constructor
    .rintro(⟨e,a,c⟩ |rfl)
     .exact{e,a,waV _ c}
     .exact{p.2,(f _).mp U,waJ _ (wap.mpr rfl)}
    .rintro⟨e,a,c⟩;rcases waD.mp c with c |c
     .exact .inl ⟨e,a,c⟩
     .exact .inr (congrArg Prod.fst (wap.mp c))
   .rw[if_neg U]at g;refine{_,rfl,_,rfl,m,_,rfl,g,false,rfl,bx {D,R,{r,S,λd=>?_,by lia},_,_,rfl}};rw[hd,v];constructor
    .rintro⟨e,a,c⟩;exact{e,a,waV _ c}
    .rintro⟨e,a,c⟩;rcases waD.mp c with c |c
     .exact⟨e,a,c⟩
     .have:=congrArg Prod.snd (wap.mp c);exact absurd ((f _).mpr (this ▸ a)) U
  .rintro σ C ⟨D,R,⟨r,S,hd,dl⟩,u,v5,rfl⟩;rw[wa0,X]at hd dl;rw[waG]at hd;refine{_,rfl,fd,_,rfl,S,λy j=>?_};rw[Dy];exact k y r _ (D.trans (a7.upd j)) a6 hd dl
theorem ez(L:Lk K mg):aS P w K mg base cP 1 L.jE L.jI ["self","row"] (BZ L.aA):=by
 have T:=L.T;refine L.dh.F.d7 (N:=["self","row","number","sign"]) (λm A outer s H z Q E nd C h=>?_);obtain⟨x,r,g,D,ss,ls,rfl,B,n,k⟩:=h;obtain⟨⟨t,b,d,q,G,u,I,J,M,O,R⟩,_,_,_⟩:=id B;refine{_,(a9 (forA (A9 (by rfl) T.enum (aK (pv 1))) (dU rfl (aP (ax (i:=2)) (aP (ax (i:=3)) cQ))) (a9 (b6 (eZ yE (pv 3) (az (pv 0) rfl) rfl) cK aG)))),?_}
 ac_rfl
 refine{_,rfl,r,rfl,xO (λi σ a=>a7 H a/\∃f j,σ=[some (.ref x),some (.str r),f,j]) {a7.refl _,none,none,rfl} ?_ (λσ a p=>k a p.1)};rintro i c σ a T hc ⟨v,f,j,rfl⟩ y;have l:=v.trans (a7.upd (o:=.tup [.int (i:Nat),.str {#[c]}]) y);refine{T,_,rfl,gA.of a6,rfl,_,_,rfl,_,_,rfl,rfl,?_};refine{_,rfl,_,rfl,x,L.aA,t,_,_,rfl,l _ _ u,L.aJ.cl,L.aJ.pB,kl g b d q,_,_,rfl,rfl,_,rfl,?_}
 have e:(!(wd4 g {#[c]} 0 g.length 1).isEmpty)=true:=by
  have:=Dh g c;rw[decide_eq_true (n c (wa8 hc))]at this;exact this
 rw[e];exact bx {l,_,_,rfl}
theorem rF(L:Lk K mg):aS P w K mg base cP 2 L.kY L.lB ["self","row"] (Ew L.aA):=by
 have T:=L.T;refine L.lJ.F.d7 (N:=["self","row","place","number","sign"]) (λI A outer s H X Q E nd J h=>?_);obtain⟨x,r,g,p,ss,ls,rfl,B,t,u,hw,k⟩:=h;obtain⟨⟨v,b,d,q,mv,y,Y,M,O,R,Z⟩,pm,_,_⟩:=id B;have z:("":Str)∈ss:=pm.mem_iff.mpr (cp p);have C:=eW J
 refine{_,(a5 (b8 (sD (pv 0) L.aJ.cl L.dh (ez L) (aK (pv 1))))
  (a5 (ai (i:=2) eB)
  (a5 (forA (A9 (by rfl) T.enum (aK (pv 1))) (dU rfl (aP (ax (i:=3)) (aP (ax (i:=4)) cQ))) (a5 (ai (i:=2) (d8 C (d8 C (az (pv 0) rfl) (pv 2) (λ_ _=>rfl)) (pv 4) (λ_ _=>rfl)))
  (a9 (b6 (cu yx (pv 2) dn) cK aG))))
  (a9 (aw (pv 2)))))),?_}
 ac_rfl
 refine{_,rfl,x,v,_,rfl,y,Bf _ _ _ _ ∅ ∅ ∅ ∅,_,rfl,x,r,g,p,ss,ls,rfl,B,t,λH1 S=>?_};refine{_,rfl,r,rfl,xO (λi σ f=>a7 H f/\∃l v4,σ=[some (.ref x),some (.str r),some (.str (lend ss (df r i))),l,v4]) {S,none,none,?_} ?_ ?_}
 .rw[take_zero,GZ z];rfl
 .rintro i c σ f T hc ⟨m,l,v4,rfl⟩ U;have j:=m.trans (a7.upd (o:=.tup [.int (i:Nat),.str {#[c]}]) U);have n:=t c (wa8 hc);obtain⟨a,ha,V⟩:=i7 (mv:=mv) (k:=lend ss (df r i)) (by rw[O];exact p9 z _);have D:=eA.k (k:=(wal (lend ss (df r i)):Key)) (j _ _ M);rw[V]at D;have e:=R _ ha;dsimp only at e;have G:=eA.k (k:=(wal ({#[c]}:Str):Key)) (j _ _ e);rw[Dk n,JZ pm hw (ju (Aa r i) u),<-take_snoc hc,ju (Aa r (i+1)) u,if_neg (by simp)]at G;refine{T,_,rfl,gA.of a6,rfl,_,_,rfl,_,_,rfl,rfl,?_};refine{_,rfl,x,L.aA,v,_,_,rfl,j _ _ y,L.aJ.cl,L.aJ.kE,kd g b d q,_,rfl,d,_,rfl,D,_,rfl,a,_,rfl,G,?_};exact{_,rfl,rfl,_,rfl,bx {j,_,_,rfl}}
 .rintro σ f ⟨m,l,v4,rfl⟩;have:=k f m;rw[<-take_all r]at this;exact{_,rfl,by rw[take_all]at this ⊢;exact this}
inductive KR(C:Addr)(vs:List V)(H:Hp)(Q:VK)(dA:XK):Prop
 |mk (x r g ws ss ls) (_:vs=[.ref x,.str r]) (_:aZ C H x g ws ss ls) (_:(∀c∈ch r,c∈ch g)) (_:ws.length<=1000) (_:∀H',a7 H H'->Q (.bl (!bears ws r)) H')
theorem tP(L:Lk K mg):aS P w K mg base cP 2 L.mn L.mH ["self","row"] (KR L.aA):=by
 refine L.mY.F.d7 (N:=["self","row"]) (λi A outer s H o Q E nd p h=>?_);obtain⟨x,r,g,c,ss,ls,rfl,B,j,hw,k⟩:=h
 refine{_,(a5 (b8 (sD (pv 0) L.aJ.cl L.dh (ez L) (aK (pv 1))))
  (a9 (aw (G1 (au (gX L) L.fS (a8 (pv 1) (aK (az (pv 0) rfl)))))))),?_}
 ac_rfl
 obtain⟨⟨e,b,d,q,t,f,l,u,v,y,z⟩,_,_,_⟩:=id B;refine{_,rfl,x,e,_,rfl,f,Bf _ _ _ _ ∅ ∅ ∅ ∅,_,rfl,x,r,g,c,ss,ls,rfl,B,j,λC a=>?_};exact{_,rfl,_,rfl,x,L.aA,e,_,_,rfl,a _ _ f,L.aJ.cl,L.aJ.vB,rW g b d q,r,b,c,rfl,aL.of (a _ _ l),hw,λm n=>{_,rfl,k m (a.trans n)}}
inductive FG(K:wa2)(C CB CP CE:Addr)(vs:List V)(H:Hp)(Q:VK)(dA:XK):Prop
 |mk (z dz x R) (_:vs=[.ref z,.ref x]) (_:H z=some (.ins CE dz [])) (_:nB K C CB CP (fE H z) x R) (_:∀H',(∀c o,H c=some o->c≠z->H' c=some o)->rB K C CB CP CE H' z R->Q .non H')
theorem oP(L:Lk K mg):aS P w K mg base cP 3 L.fN L.iV ["self","writer"] (FG K L.aj L.aA L.aO L.aD):=by
 refine L.j4.F.d7 (N:=["self","writer"]) (λj A outer s H n Q E nd p h=>?_);obtain⟨z,b,x,R,rfl,l,g,k⟩:=h
 refine{_,(a5 (d1 (pv 0) (pv 1) rfl)
  (a9 (d1 (pv 0) (au (rE L) L.lF (aK (pv 1))) rfl))),?_}
 ac_rfl
 refine{_,rfl,_,rfl,z,L.aD,b,[],rfl,l,L.ak.cl,L.ak.b5,(show 0<1000 by decide),?_};rw[LW];have g2:(upd H z (.ins L.aD b (yq x))) z=some (.ins L.aD b (yq x)):=a6;have d:∀c o,H c=some o->c≠z->(upd H z (.ins L.aD b (yq x))) c=some o:=λc o e hc=>by rw[ae hc];exact e
 generalize upd H z (.ins L.aD b (yq x))=q at g2 d;refine{_,rfl,x,R,rfl,g.same (f7 d),λa m f P3=>?_};refine{_,rfl,z,L.aD,b,_,rfl,f _ _ g2,L.ak.cl,L.ak.DE,(show 1<1000 by decide),?_};rw[IQ];have i:∀c o,H c=some o->c≠z->(upd m z (.ins L.aD b (FD x a))) c=some o:=λc o e hc=>by rw[ae hc];exact f _ _ (d c o e hc)
 exact k _ i {b,x,a,a6,P3.put (f _ _ g2) _,g.same (f7 i)}
inductive KS(K:wa2)(C CB CP CE:Addr)(u:Wr->V)(vs:List V)(H:Hp)(Q:VK)(dA:XK):Prop
 |mk (z R) (_:vs=[.ref z]) (_:rB K C CB CP CE H z R) (_:∀H',a7 H H'->Q (u R) H')
theorem eJ(L:Lk K mg):aS P w K mg base cP 4 L.eQ L.eR ["self"] (KS K L.aj L.aA L.aO L.aD (λR=>.int ((R.b:Int)+1+(R.c:Int)))):=by
 refine L.cV.F.d7 (N:=["self"]) (λl A outer s H n Q E nd o h=>?_);obtain⟨z,R,rfl,⟨f,x,a,g,q,e⟩,k⟩:=h;refine{_,(a9 (aw (aC bu (aC bu (eV (az (pv 0) rfl) L.ag.cl L.bf (bq L)) aq) (eV (az (pv 0) rfl) L.ag.cl L.cq (cC L))))),?_}
 ac_rfl
 obtain⟨⟨i,p,r,t,u,dp,v,y,B,C,D,j,_⟩,ok⟩:=id e;refine{_,rfl,z,L.aD,f,_,_,rfl,g,L.ak.cl,L.ak.b5,aI x a,x,i,_,rfl,j,b4 _ _ _ _ _ _ _ _ ∅,kP e λm d=>?_};exact{_,_,rfl,rfl,_,rfl,z,L.aD,f,_,_,rfl,d _ _ g,L.ak.cl,L.ak.b5,aI x a,x,i,_,rfl,d _ _ j,b4 _ _ _ _ _ _ _ _ ∅,x,R,rfl,e.same d,_,_,rfl,rfl,k m d}
inductive FH(K:wa2)(C CB CP CE:Addr)(vs:List V)(H:Hp)(Q:VK)(dA:XK):Prop
 |mk (z R us) (_:vs=[.ref z,.str (cat us)]) (_:rB K C CB CP CE H z R) (_:(∀u∈us,u.length=R.n)) (_:us.length<=2000) (_:∀l ds H',a7 H H'->H' l=some (.lst ((nI ds).map V.int))->(∀e:Nat,e∈ds↔e<R.wl.length/\jR R.wl e us)->Q (.ref l) H')
theorem jl(L:Lk K mg):aS P w K mg base cP 2 L.fu L.fz ["self","row"] (FH K L.aj L.aA L.aO L.aD):=by
 have T:=L.T;refine L.fB.F.d7 (N:=["self","row","wide","blocks","desks","block"]) (λgG A outer s H vs Q E nd hr h=>?_);obtain⟨z,R,b,rfl,⟨dz,x,a,hz,hP,Wv⟩,O,ul,k⟩:=h;have hu:=eW hr
 refine{_,(a5 (ai (i:=2) (az (az (pv 0) rfl) rfl))
  (a5 (du (i:=3) rfl (ay ["row","wide"] [1,2]) nd rfl rfl (FC rfl T.range (a8 aq (a8 (sC T.len (pv 1)) (aK (pv 2))))) (λ_ _ _ _ _ _=>bj) (λ_ _ _ _ _ _=>(bK gP (pv 1) (bg (pv 0)) (bg (aC bu (pv 0) (pv 2))))))
  (a5 (ai (i:=4) (bp (uK rfl) (by rfl) T.list fJ (aK (bp rV (by rfl) T.range yS (aK (eV (az (pv 0) rfl) L.ag.cl L.fW (gZ L)))))))
  (a5 (forA (NU (by rfl) T.reversed (aK (pv 3))) (ax (i:=5)) (a9 (ai (i:=4) (au (xa L) L.qe (a8 (Gq hu (az (pv 0) rfl) (pv 5) (cA eC) ⟨rfl,rfl,rfl,rfl⟩) (aK (pv 4)))))))
  (a9 (aw (pv 4))))))),?_}
 ac_rfl
 obtain⟨⟨dx,p,xb,aa,ll,dp,wa,wb,wc,wz,ys,hx,_⟩,ok⟩:=id Wv;have n1:=ok.n1;have lO:=ok.lO;have l1:=ok.l1;have wB:(cat b).length=R.n*b.length:=eO O;have KC:R.n*b.length<=10*2000:=wbd lO ul;refine{_,rfl,z,L.aD,dz,_,_,rfl,hz,L.ak.cl,L.ak.b5,aI x a,x,L.aj,dx,_,_,rfl,hx,L.ag.cl,L.ag.je,dH ..,?_};refine{_,rfl,cat b,rfl,ao (),?_};rw[wB,waT];refine{_,rfl,(R.n:Int),b.length,rfl,(),(),by rw[<-waT];omega,(),λlb hlb=>?_};refine comp_map (λv=>match v with |.int i=>.str (waI (cat b) (some i) (some (i+(R.n:Int)))) |_=>.non) (Am 0 (R.n:Int) b.length) hlb (by rw[wa0,waC];exact ao ()) (λ_ _=>trivial) (λv D Q' hv S q=>?_) (λD S G=>?_)
 .obtain⟨i,hi,rfl⟩:=wab.mp hv;exact{_,rfl,_,rfl,_,rfl,_,rfl,_,rfl,_,_,rfl,rfl,_,rfl,cat b,rfl,ao (),q D (a7.refl _)}
 have em:((wao b.length).map λ(i:Nat)=>V.int (0+(i:Int)*(R.n:Int))).map (λv=>match v with |.int i=>V.str (waI (cat b) (some i) (some (i+(R.n:Int)))) |_=>.non)=b.map V.str:=by
  rw[waf];refine wfP (by rw[wa0,wa0,waC]) λi h1 G=>?_;rw[wa0]at G;rw[wd1,wd1,wf4];show V.str (waI (cat b) (some (0+(i:Int)*(R.n:Int))) (some (0+(i:Int)*(R.n:Int)+(R.n:Int))))=_;rw[show (0:Int)+(i:Int)*(R.n:Int)=((R.n*i:Nat):Int) by rw[wbN,waT,wd0],show ((R.n*i:Nat):Int)+(R.n:Int)=((R.n*(i+1):Nat):Int) by rw[wcV];omega,ub O (wc5 i) G];rw[show (b.take (i+1)).drop i=[b[i]] by rw[waO,wa1 G,wcB (by rw[wag];omega),wbA (by rw[wag];omega)];rfl,DQ]
 rw[em]at G;refine{_,rfl,z,L.aD,dz,_,_,rfl,S _ _ hz,L.ak.cl,L.ak.b5,aI x a,x,dx,_,rfl,S _ _ hx,b4 _ _ _ _ _ _ _ _ ∅,x,R,rfl,Wv.same S,?_};refine{_,rfl,λpg hpg=>{pg,R.wl.length,rfl,a6,ao (),λU LO=>?_}};have s3:a7 D (upd (upd D pg (.rng 0 (R.wl.length:Int))) U (.lst ((wao R.wl.length).map λi=>V.int (i:Nat)))):=(a7.upd hpg).trans (a7.upd LO);have h3:(upd (upd D pg (.rng 0 (R.wl.length:Int))) U (.lst ((wao R.wl.length).map λi=>V.int (i:Nat)))) U=some (.lst ((nI (wao R.wl.length)).map V.int)):=by rw[a6,vv]
 generalize upd (upd D pg (.rng 0 (R.wl.length:Int))) U (.lst ((wao R.wl.length).map λi=>V.int (i:Nat)))=H3 at s3 h3;have X:=S.trans s3;have Y:=s3 _ _ G;refine{_,rfl,lb,_,rfl,aL.of Y,lY (IH K lb (b.map V.str)) (λi σ f=>i<=b.length/\a7 H3 f/\∃l j v5,σ=[some (.ref z),some (.str (cat b)),some (.int (R.n:Int)),some (.ref lb),some (.ref l),v5]/\f l=some (.lst ((nI j).map V.int))/\(∀e:Nat,e∈j↔e<R.wl.length/\jR R.wl e (b.drop (b.length-i)))/\j.length<=1000) {waz _,a7.refl _,U,_,none,rfl,h3,λe=>?_,by rw[waC];omega} (λi σ f _ q=>aL.of (q.2.1 _ _ Y)) ?_ ?_}
 .rw[wb0,Nat.sub_zero,whR];exact{λh=>⟨h,trivial⟩,λh=>h.1}
 .rintro i y σ f hy ⟨_,Z,l,j,v5,rfl,h4,hd,dl⟩;have hi:i<b.length:=by have:=(wa6.mp hy).1;rwa[wcF,wa0]at this
  rw[wgA (by rw[wa0];exact hi),wa0,wa4,wa1 (show b.length-1-i<b.length by omega)]at hy;cases hy
  have B:b.drop (b.length-(i+1))=b[b.length-1-i]::b.drop (b.length-i):=by
   refine(congrArg (b.drop ·) (show b.length-(i+1)=b.length-1-i by omega)).trans ?_;rw[wcr (show b.length-1-i<b.length by omega),show b.length-1-i+1=b.length-i by omega]
  generalize b[b.length-1-i]'()=w at B;generalize b.drop (b.length-i)=rest at hd B;have C:=X.trans Z;obtain⟨kvs,p1,p2⟩:=id hP
  have fin:∀(lp:Addr) (I:List Addr) (ps:List (Nat×Nat)) (m:Hp),a7 f m->m lp=some (.lst (I.map V.ref))->b9 m I (ps.map jU)->ps.length<=1000->(∀i e:Nat,(i,e)∈ps↔(w,e)∈R.wl.getD i [])->∀(y:Addr) (c:List Nat) (H':Hp),a7 m H'->(∀i:Nat,i∈c↔∃e∈j,(i,e)∈ps)->∀e:Nat,e∈c↔e<R.wl.length/\jR R.wl e (b.drop (b.length-(i+1))):=by
   intro lp I ps m _ _ _ _ J y c H' _ Jc e;rw[Jc,B];constructor
   .rintro⟨e',r,t⟩;have M:=(J _ _).mp t;refine{wcq λq=>?_,e',M,((hd _).mp r).2};rw[wa3,wco ()]at M;cases M
   .rintro⟨_,e',r,t⟩;exact{e',(hd _).mpr {ok.rd.e _ _ r,t},(J _ _).mpr r}
  refine{_,rfl,z,L.aD,dz,_,_,rfl,C _ _ hz,L.ak.cl,L.ak.DE,B8 x a,a,rfl,.inl {_,.inl (C _ _ p1)},_,rfl,waz _,λle hle=>?_};have u:=a7.upd (H:=f) (o:=.lst []) hle;have h5:(upd f le (.lst [])) le=some (.lst (([]:List Addr).map V.ref)):=a6;generalize upd f le (.lst [])=m at u h5;have d:=C.trans u;have g:=eA.k (k:=(wal w:Key)) (d _ _ p1);rcases p2 w with⟨r,t⟩ |⟨lp,I,ps,r,t,M,q4,q5⟩
  .rw[r]at g;refine{none,g,_,rfl,le,l,[],[],j,rfl,aL.of h5,b9.nil _,aL.of (u _ _ h4),waz _,dl,λy c H6 s6 h6 J hl=>?_};exact{hi,Z.trans (u.trans s6),y,c,_,rfl,h6,fin le [] [] m u h5 (b9.nil _) (waz _) (λi e=>{(λh=>nomatch h),λh=>absurd h (t i e)}) y c H6 s6 J,wak hl (waz _)}
  .rw[r]at g;refine{some (.ref lp),g,_,rfl,lp,l,I,ps,j,rfl,aL.of (d _ _ t),M.same d,aL.of (u _ _ h4),q4,dl,λy c H6 s6 h6 J hl=>?_};exact{hi,Z.trans (u.trans s6),y,c,_,rfl,h6,fin lp I ps m u (d _ _ t) (M.same d) q4 q5 y c H6 s6 J,wak hl q4}
 .rintro σ f ⟨_,Z,l,j,v5,rfl,h4,hd,dl⟩;rw[wcF,wa0,wbE,weV]at hd;exact{_,rfl,k l j f (X.trans Z) h4 hd}
inductive FI(K:wa2)(C CB CP CE:Addr)(vs:List V)(H:Hp)(Q:VK)(dA:XK):Prop
 |mk (z R bs w us) (_:vs=[.ref z,.str (cat (bs++w::us))]) (_:rB K C CB CP CE H z R) (_:(∀u∈bs++w::us,u.length=R.n/\∀c∈ch u,c∈ch R.g)) (_:bs.length=R.b) (_:us.length=R.c) (_:(bears R.bw (cat bs)=true->∀H',a7 H H'->Q .non H')) (_:(∀i:Nat,bears R.bw (cat bs)=false->gO R.ss R.hk R.wl (cat bs) w us i->∀H',a7 H H'->Q (.int (i:Int)) H')) (_:(bears R.bw (cat bs)=false->(∀i,¬gO R.ss R.hk R.wl (cat bs) w us i)->∀H',a7 H H'->Q .non H'))
theorem zv{ws:List Str}{g:Str}(h:∀u∈ws,∀c∈ch u,c∈ch g):∀c∈ch (cat ws),c∈ch g:=λc hc=>by
 rw[CW]at hc;obtain⟨l,a,b⟩:=whT.mp hc;obtain⟨u,d,rfl⟩:=wab.mp a;exact h u d c b
noncomputable abbrev Xe(R:Wr)(pl win:Str)(z ld:Addr)(v6 v7 v8:Option V):St:=[some (.ref z),some (.str win),some (.int ((R.n*R.b:Nat):Int)),some (.int ((R.n*(R.b+1):Nat):Int)),some (.str pl),some (.ref ld),v6,v7,v8]
inductive wfA(R:Wr)(H4:Hp)(pl w win:Str)(us:List Str)(z ld:Addr)(i:Nat)(σ:St)(H5:Hp):Prop
 |mk (_:i<=R.wl.length) (_:a7 H4 H5) (_:∀d j e:Nat,d<i->R.hk.getD d ""=pl->(R.wl.getD d [])[j]?=some (w,e)->¬jR R.wl e us) (v6 v7 v8) (_:σ=Xe R pl win z ld v6 v7 v8)
inductive V8(R:Wr)(H6:Hp)(pl w win:Str)(us:List Str)(z ld:Addr)(i j:Nat)(σ:St)(H7:Hp):Prop
 |mk (_:a7 H6 H7) (_:∀j' e:Nat,j'<j->(R.wl.getD i [])[j']?=some (w,e)->¬jR R.wl e us) (v7 v8) (_:σ=Xe R pl win z ld (some (.int (i:Int))) v7 v8)
theorem V8.s{w:Str}(q:V8 R g pl w l us z ld i j σ p):a7 g p:=by
 obtain⟨h,_⟩:=q;exact h
theorem g9(L:Lk K mg):aS P w K mg base cP 4 L.gf L.gg ["self","window"] (FI K L.aj L.aA L.aO L.aD):=by
 have T:=L.T;refine L.dY.F.d7 (N:=["self","window","start","end","place","desks","desk","number","step"]) (λgG A outer s H vs Q E nd hr h=>?_);obtain⟨z,R,bs,w,k,rfl,D,hw,hb,hc,kB,kI,kN⟩:=h
 refine{_,(a5 (ai (i:=2) (aC dW (eV (az (pv 0) rfl) L.ag.cl L.bf (bq L)) (az (az (pv 0) rfl) rfl)))
  (a5 (ai (i:=3) (aC bu (pv 2) (az (az (pv 0) rfl) rfl)))
  (a5 (b6 (cS (bT (sD (az (az (pv 0) rfl) rfl) L.aJ.cl L.mY (tP L) (aK (bK gP (pv 1) f5 (bg (pv 2))))))) (a9 (aw dn)) aG)
  (a5 (ai (i:=4) (sD (az (az (pv 0) rfl) rfl) L.aJ.cl L.lJ (rF L) (aK (bK gP (pv 1) f5 (bg (pv 2))))))
  (a5 (ai (i:=5) (sD (pv 0) L.ak.cl L.fB (jl L) (aK (bK gP (pv 1) (bg (pv 3)) f5))))
  (a5 (forA (bZ rfl T.range (aK (eV (az (pv 0) rfl) L.ag.cl L.fW (gZ L)))) (ax (i:=6)) (a9 (b6 (cu rJ (sD (az (pv 0) rfl) L.ag.cl L.j8 (oO L) (aK (pv 6))) (pv 4)) (a9 (forA (kc (by rfl) T.enum (aK (sD (az (pv 0) rfl) L.ag.cl L.iF (lQ L) (aK (pv 6))))) (dU rfl (aP (ax (i:=7)) (aP (ax (i:=8)) cQ))) (a9 (b6 (PW.pt (uf (cu rJ (bc fG (pv 8) aq (λ_ _=>rfl)) (bK gP (pv 1) (bg (pv 2)) (bg (pv 3)))) (oV (eZ qK (bc fG (pv 8) aq (λ_ _=>rfl)) (pv 5) rfl)))) (a9 (aw (pv 7))) aG)))) aG)))
  (a9 (aw dn)))))))),?_}
 ac_rfl
 obtain⟨J,x,a,M,hP,Wv⟩:=id D;obtain⟨⟨Z,p,xb,aa,ll,dp,wa,wb,wc,wz,ys,hx,_,_,_,_,_,B⟩,ok⟩:=id Wv;obtain⟨⟨Sf,bb,db,qb,mv,Sg,_⟩,_,_,_⟩:=id B;have n1:=ok.n1;have lO:=ok.lO;have l1:=ok.l1;have b1:=ok.b1;have c1:=ok.c1;have f:∀u∈bs++w::k,u.length=R.n:=λu h=>(hw u h).1;have A5:(cat (bs++w::k)).length=R.n*(R.b+(R.c+1)):=by rw[eO f,wa5,waH,hb,hc]
 have Up:R.n*(R.b+(R.c+1))<=10*3000:=wbd lO (by lia);have e1:waI (cat (bs++w::k)) none (some ((R.n*R.b:Nat):Int))=cat bs:=by rw[NV f,<-hb,wgv]
 have e2:waI (cat (bs++w::k)) (some ((R.n*(R.b+1):Nat):Int)) none=cat k:=by
  rw[IJ f,<-hb,show bs++w::k=(bs++[w])++k by rw[waM];rfl,show bs.length+1=(bs++[w]).length by rw[wa5];rfl,wgu]
 have e3:waI (cat (bs++w::k)) (some ((R.n*R.b:Nat):Int)) (some ((R.n*(R.b+1):Nat):Int))=w:=by
  rw[ub f (show R.b<=R.b+1 by lia) (by rw[wa5,waH];lia),<-hb,show bs++w::k=(bs++[w])++k by rw[waM];rfl,show bs.length+1=(bs++[w]).length by rw[wa5];rfl,wgv,wgu,DQ]
 have Xf:∀c∈ch (cat bs),c∈ch R.g:=zv λu h=>(hw u (waV _ h)).2;have RP:∀u∈k,u.length=R.n:=λu h=>f u (waJ _ (wac _ h));generalize V9:cat (bs++w::k)=t at A5 e1 e2 e3;clear f hw V9;refine vA λR1 q1=>?_;refine{_,rfl,z,L.aD,J,_,_,rfl,M,L.ak.cl,L.ak.b5,aI x a,x,Z,_,rfl,hx,b4 _ _ _ _ _ _ _ _ ∅,kP Wv λH1 O=>?_};refine{_,rfl,z,L.aD,J,_,_,rfl,O _ _ M,L.ak.cl,L.ak.b5,aI x a,x,L.aj,Z,_,_,rfl,O _ _ hx,L.ag.cl,L.ag.je,dH ..,_,_,rfl,rfl,.inl {by lia,by lia},?_};show bN 2 (V.int ((R.b:Int)*(R.n:Int))) _ _ _;rw[show (R.b:Int)*(R.n:Int)=((R.n*R.b:Nat):Int) by rw[waT,wd0]];refine q1 _ _ (vA λR2 q2=>?_);refine{_,rfl,_,rfl,z,L.aD,J,_,_,rfl,O _ _ M,L.ak.cl,L.ak.b5,aI x a,x,L.aj,Z,_,_,rfl,O _ _ hx,L.ag.cl,L.ag.je,dH ..,_,_,rfl,rfl,?_};show bN 3 (V.int (((R.n*R.b:Nat):Int)+(R.n:Int))) _ _ _;rw[show ((R.n*R.b:Nat):Int)+(R.n:Int)=((R.n*(R.b+1):Nat):Int) by rw[wcV];lia];refine q2 _ _ (vA λR3 q3=>?_);refine{_,rfl,z,L.aD,J,_,_,rfl,O _ _ M,L.ak.cl,L.ak.b5,aI x a,x,L.aj,Z,_,_,rfl,O _ _ hx,L.ag.cl,L.ag.rj,iI ..,xb,Sf,_,rfl,O _ _ Sg,Bf _ _ _ _ ∅ ∅ ∅ ∅,_,rfl,_,rfl,_,rfl,t,rfl,ao (by lia),?_};rw[e1];refine{xb,cat bs,R.g,R.bw,R.ss,R.ls,rfl,B.same O,Xf,ok.bl,λH2 s2=>?_};have v:=O.trans s2
 cases S:bears R.bw (cat bs) with
 |true=>exact{false,rfl,eD (kB S H2 v)}
 |false=>
  refine{true,rfl,bx ?_};refine q3 _ _ (vA λR4 q4=>?_);refine{_,rfl,z,L.aD,J,_,_,rfl,v _ _ M,L.ak.cl,L.ak.b5,aI x a,x,L.aj,Z,_,_,rfl,v _ _ hx,L.ag.cl,L.ag.rj,iI ..,xb,Sf,_,rfl,v _ _ Sg,Bf _ _ _ _ ∅ ∅ ∅ ∅,_,rfl,_,rfl,_,rfl,t,rfl,ao (by lia),?_};rw[e1];refine{xb,cat bs,R.g,R.bw,R.ss,R.ls,rfl,B.same v,Xf,S,λw hw=>(ok.hw w hw).1,λH3 s3=>?_};have zi:=v.trans s3;refine q4 _ _ (vA λR5 q5=>?_);refine{_,rfl,z,J,_,rfl,zi _ _ M,di (by show ("desks_ahead_of":Str)∉[("writer":Str),"pairs"];decide+kernel),_,rfl,_,rfl,_,rfl,t,rfl,ao (by lia),?_};rw[e2];refine{z,R,k,rfl,D.same zi,RP,by lia,λld ds H4 s4 h4 hd=>?_};have I:=zi.trans s4;generalize hpl:lend R.ss (cat bs)=pl;refine q5 _ _ ?_;clear q1 q2 q3 q4 q5;refine{_,rfl,z,L.aD,J,_,_,rfl,I _ _ M,L.ak.cl,L.ak.b5,aI x a,x,Z,_,rfl,I _ _ hx,b4 _ _ _ _ _ _ _ _ ∅,x,R,rfl,Wv.same I,(R.wl.length:Int),rfl,by lia,by lia,?_};rw[waA];refine cw (lo:=0) (n:=R.wl.length) (wfA R H4 pl w t k z ld) {waz _,a7.refl _,λd j e h=>absurd h (wcN _),none,none,none,rfl} ?_ ?_
  .rintro i σ H5 hi ⟨_,s5,U,v6,v7,v8,rfl⟩;show bN 6 (V.int (0+(i:Int))) _ _ _;rw[wbN];have l:=I.trans s5;refine{_,rfl,z,L.aD,J,_,_,rfl,l _ _ M,L.ak.cl,L.ak.b5,aI x a,x,Z,_,rfl,l _ _ hx,b4 _ _ _ _ _ _ _ _ ∅,_,rfl,x,R,i,rfl,Wv.same l,hi,_,rfl,rfl,_,rfl,uz (λh1=>?_) (λh1=>?_)}
   .have Ny:R.hk.getD i ""=pl:=V.str.inj (of_decide_eq_true h1);refine{_,rfl,z,L.aD,J,_,_,rfl,l _ _ M,L.ak.cl,L.ak.b5,aI x a,x,Z,_,rfl,l _ _ hx,b4 _ _ _ _ _ _ _ _ ∅,_,rfl,x,R,i,rfl,Wv.same l,hi,λy H6 s6 r6=>?_};obtain⟨yb,X,rfl,hS,hT⟩:=dQ (bM.same (cf _ _) _ _ r6);have yk:X.length=(R.wl.getD i []).length:=by rw[hT.1,wa0,wa0]
    refine{yb,_,rfl,hS,m3 (K:=K) (a:=yb) (xs:=X.map V.ref) (V8 R H6 pl w t k z ld i) {a7.refl _,λj e h=>absurd h (wcN _),v7,v8,rfl} (λj σ H7 _ q=>q.s.seq hS) ?_ (λσ H7 q=>?_)}
    .rintro j y σ H7 T hy ⟨s7,r,v7,v8,rfl⟩ hT';have hj:j<X.length:=by have:=(wa6.mp hy).1;rwa[wa0]at this
     have Xg:j<(R.wl.getD i []).length:=by lia
     rw[wa4,wa1 hj]at hy;cases hy;have Va:H6 X[j]=some (.tup [.str (R.wl.getD i [])[j].1,.int ((R.wl.getD i [])[j].2:Int)]):=hT.2 j X[j] (jx (eF (R.wl.getD i [])[j])) (wa1 hj) (by rw[wa4,wa4,wa1 Xg];rfl);have Y:(R.wl.getD i [])[j]?=some (R.wl.getD i [])[j]:=wa1 Xg;generalize (R.wl.getD i [])[j]=q at Va Y;have s8:=a7.upd (H:=H7) (o:=.tup [.int (j:Nat),.ref X[j]]) hT';refine{T,_,rfl,gA.of a6,rfl,_,_,rfl,_,_,rfl,rfl,?_};generalize upd H7 T (.tup [.int (j:Nat),.ref X[j]])=H8 at s8;have C:=s7.trans s8;have Ot:=l.trans (s6.trans C)
     have next:¬(q.1=w/\jR R.wl q.2 k)->∀j' e:Nat,j'<j+1->(R.wl.getD i [])[j']?=some (w,e)->¬jR R.wl e k:=λhn j' e h1 G m=>by
      by_cases c:j'<j
      .exact r j' e c G m
      .obtain rfl:j'=j:=by lia
       rw[Y]at G;have G:=wad G;exact hn {congrArg Prod.fst G,by rw[show q.2=e from congrArg Prod.snd G];exact m}
     refine{_,rfl,X[j],_,_,_,rfl,rfl,gA.of (C _ _ Va),rfl,_,rfl,_,rfl,_,rfl,_,rfl,_,rfl,t,rfl,ao (by lia),?_};rw[e3];refine{rfl,_,rfl,uz (λG=>?_) (λG=>?_)}
     .have hqw:q.1=w:=V.str.inj (of_decide_eq_true G);refine{_,rfl,X[j],_,_,_,rfl,rfl,gA.of (C _ _ Va),rfl,_,rfl,ld,_,rfl,.inl (aL.of ((s5.trans (s6.trans C)) _ _ h4)),rfl,cy _,_,rfl,?_};rw[vo];refine uz (λm=>?_) (λm=>?_)
      .have m:=(hd _).mp (of_decide_eq_true m);exact{_,rfl,kI j S {i,q.2,hi,by rw[hpl];exact Ny,by rw[Y,<-hqw],m.2} H8 Ot}
      .exact{C,next λh=>m (decide_eq_true ((hd _).mpr ⟨ok.rd.e _ _ (wa8 Y),h.2⟩)),_,_,rfl}
     .exact{C,next λh=>G (decide_eq_true (congrArg V.str h.1)),_,_,rfl}
    .obtain⟨s7,r,v7',v8',rfl⟩:=q;rw[wa0]at r;refine{hi,s5.trans (s6.trans s7),λd j e h1 G m=>?_,_,_,_,rfl}
     by_cases c:d<i
     .exact U d j e c G m
     .obtain rfl:d=i:=by lia
      exact r j e (by have:=(wa6.mp m).1;lia) m
   .refine{hi,s5,λd j e G m h4=>?_,_,_,_,rfl}
    by_cases c:d<i
    .exact U d j e c m h4
    .obtain rfl:d=i:=by lia
     exact absurd (decide_eq_true (congrArg V.str m)) h1
  .rintro σ H5 ⟨_,s5,U,v6,v7,v8,rfl⟩;refine kN S (λi h=>?_) H5 (I.trans s5);obtain⟨d,e,q1,q2,q3,q4⟩:=h;exact U d i e q1 (by rw[q2,hpl]) q3 q4
inductive FJ(K:wa2)(C CB CP CE:Addr)(vs:List V)(H:Hp)(Q:VK)(dA:XK):Prop
 |mk (z R m) (_:vs=[.ref z,.int ((R.n*(R.b+m+R.c):Nat):Int)]) (_:rB K C CB CP CE H z R) (_:∀H',a7 H H'->Q (.int (m:Int)) H')
theorem B9{R:Wr}(ok:wY R):R.o.1.length=R.n*R.b:=by
 have m1:=ok.m1;have a:=qu ok.w (wcd.mpr ok.w.ne) (ts:=waj R.b 0) λt c=>by rw[(wdm.mp c).2];lia
 rw[waP]at a;exact a.2
theorem iJ(L:Lk K mg):aS P w K mg base cP 2 L.iS L.iW ["self","length"] (FJ K L.aj L.aA L.aO L.aD):=by
 have T:=L.T;refine L.fV.F.d7 (N:=["self","length","signs","words"]) (λl A outer s H r Q E nd t h=>?_);obtain⟨z,R,m,rfl,D,k⟩:=h
 refine{_,(a5 (ai (i:=2) (aC gk (pv 1) (sC T.len (eV (az (pv 0) rfl) L.ag.cl L.dS (eI L)))))
  (a5 (ai (i:=3) (aC gk (aC iN (pv 2) (az (az (pv 0) rfl) rfl)) (eV (az (pv 0) rfl) L.ag.cl L.cq (cC L))))
  (a5 (b6 (PW.pt (fk (cu zJ (aC cN (pv 2) (az (az (pv 0) rfl) rfl)) aq) (fF (cu iO (pv 3) aq)))) cK aG)
  (a9 (aw (pv 3)))))),?_}
 ac_rfl
 obtain⟨d,x,a,e,u,W⟩:=id D;obtain⟨⟨f,p,v,y,B,dp,C,G,I,J,M,g,_⟩,ok⟩:=id W;have n1:=ok.n1;have lO:=ok.lO;have b1:=ok.b1;have c1:=ok.c1;have j:=B9 ok;have q:R.n*R.b<=10*1000:=wbd lO b1;refine{_,rfl,_,rfl,z,L.aD,d,_,_,rfl,e,L.ak.cl,L.ak.b5,aI x a,x,f,_,rfl,g,b4 _ _ _ _ _ _ _ _ ∅,x,R,rfl,W,R.o.1,rfl,ao (by lia),_,_,rfl,rfl,?_};show bN 2 (V.int (((R.n*(R.b+m+R.c):Nat):Int)-(R.o.1.length:Int))) _ _ _
 have em:((R.n*(R.b+m+R.c):Nat):Int)-(R.o.1.length:Int)=(R.n:Int)*((m:Int)+(R.c:Int)):=by
  rw[j,Nat.add_assoc,wcV,<-wbz,<-waT]
  lia
 rw[em];refine{_,rfl,_,rfl,z,L.aD,d,_,_,rfl,e,L.ak.cl,L.ak.b5,aI x a,x,L.aj,f,_,_,rfl,g,L.ag.cl,L.ag.je,dH ..,_,_,rfl,rfl,{by lia,by lia},_,rfl,z,L.aD,d,_,_,rfl,e,L.ak.cl,L.ak.b5,aI x a,x,f,_,rfl,g,b4 _ _ _ _ _ _ _ _ ∅,x,R,rfl,W,_,_,rfl,rfl,?_};show bN 3 (V.int ((R.n:Int)*((m:Int)+(R.c:Int))/(R.n:Int)-(R.c:Int))) _ _ _;rw[Int.mul_ediv_cancel_left _ (show (R.n:Int)≠0 by lia),show (m:Int)+(R.c:Int)-(R.c:Int)=(m:Int) by lia];refine{_,rfl,_,rfl,z,L.aD,d,_,_,rfl,e,L.ak.cl,L.ak.b5,aI x a,x,L.aj,f,_,_,rfl,g,L.ag.cl,L.ag.je,dH ..,_,_,rfl,rfl,(show (0:Int)<(R.n:Int) by lia),rfl,false,?_,bx ?_}
 .show V.bl (!decide (V.int ((R.n:Int)*((m:Int)+(R.c:Int))%(R.n:Int))=V.int 0))=_;rw[Int.mul_emod_right];exact BX _
 refine{_,rfl,_,_,rfl,rfl,false,congrArg V.bl (decide_eq_false (by lia)),bx ?_};exact{_,rfl,k H (a7.refl _)}
inductive NX(K:wa2)(C CB CP CE:Addr)(vs:List V)(H:Hp)(Q:VK)(dA:XK):Prop
 |mk (z R all m res) (_:vs=[.ref z,.str (cat all)]) (_:rB K C CB CP CE H z R) (_:(∀u∈all,u.length=R.n/\∀c∈ch u,c∈ch R.g)) (_:all.length=R.b+m+R.c) (_:m<=1000) (_:(∀k,k<m->∃bs w us,(all.take (k+(R.b+1+R.c))).drop k=bs++w::us/\bs.length=R.b/\us.length=R.c/\(bears R.bw (cat bs)=true->res k=.non)/\(∀i:Nat,bears R.bw (cat bs)=false->gO R.ss R.hk R.wl (cat bs) w us i->res k=.int (i:Int))/\(bears R.bw (cat bs)=false->(∀i,¬gO R.ss R.hk R.wl (cat bs) w us i)->res k=.non))) (_:∀l H',a7 H H'->H l=none->H' l=some (.lst ((wao m).map res))->Q (.ref l) H')
theorem iK(L:Lk K mg):aS P w K mg base cP 5 L.nJ L.nR ["self","row"] (NX K L.aj L.aA L.aO L.aD):=by
 have T:=L.T;refine L.gC.F.d7 (N:=["self","row","wide","signs","first","starts"]) (λgG A outer s H vs Q E nd hr h=>?_);obtain⟨z,R,all,m,res,rfl,D,hw,RV,m1,C,k⟩:=h
 refine{_,(a5 (b8 (sD (az (az (pv 0) rfl) rfl) L.aJ.cl L.dh (ez L) (aK (pv 1))))
  (a5 (ai (i:=2) (az (az (pv 0) rfl) rfl))
  (a5 (ai (i:=3) (aC dW (eV (pv 0) L.ak.cl L.cV (eJ L)) (pv 2)))
  (a5 (ai (i:=4) (aC gk (sC T.len (eV (az (pv 0) rfl) L.ag.cl L.dS (eI L))) (aC dW (eV (az (pv 0) rfl) L.ag.cl L.bf (bq L)) (pv 2))))
  (a5 (du (i:=5) rfl (ay ["first","wide"] [4,2]) nd rfl rfl (bZ rfl T.range (aK (sD (pv 0) L.ak.cl L.fV (iJ L) (aK (sC T.len (pv 1)))))) (λ_ _ _ _ _ _=>bj) (λ_ _ _ _ _ _=>(aC bu (pv 1) (aC dW (pv 0) (pv 2)))))
  (a9 (aw (cG rfl (ay ["self","row","signs"] [0,1,3]) (aQ (pv 5)) (λ_ _ _ _ _ _=>bj) (λ_ _ _ _ _ _=>(sD (pv 1) L.ak.cl L.dY (g9 L) (aK (bK gP (pv 2) (bg (pv 0)) (bg (aC bu (pv 0) (pv 3))))))))))))))),?_}
 ac_rfl
 obtain⟨f,x,a,l,hP,Wv⟩:=id D;obtain⟨⟨Z,p,xb,aa,ll,dp,wa,wb,wc,wz,ys,hx,_,_,_,_,_,B⟩,ok⟩:=id Wv;obtain⟨⟨Sf,bb,db,qb,mv,Sg,_⟩,_,_,_⟩:=id B;have n1:=ok.n1;have lO:=ok.lO;have b1:=ok.b1;have c1:=ok.c1;have hol:=B9 ok;have hob:R.n*R.b<=10*1000:=wbd lO b1;have e:∀u∈all,u.length=R.n:=λu h=>(hw u h).1;have wB:(cat all).length=R.n*(R.b+m+R.c):=by rw[eO e,RV]
 have hcb:R.n*(R.b+m+R.c)<=10*3000:=wbd lO (by lia);refine{_,rfl,z,L.aD,f,_,_,rfl,l,L.ak.cl,L.ak.b5,aI x a,x,L.aj,Z,_,_,rfl,hx,L.ag.cl,L.ag.rj,iI ..,xb,Sf,_,rfl,Sg,Bf _ _ _ _ ∅ ∅ ∅ ∅,_,rfl,xb,cat all,R.g,R.bw,R.ss,R.ls,rfl,B,zv λu h=>(hw u h).2,λH1 G=>?_};refine{_,rfl,z,L.aD,f,_,_,rfl,G _ _ l,L.ak.cl,L.ak.b5,aI x a,x,L.aj,Z,_,_,rfl,G _ _ hx,L.ag.cl,L.ag.je,dH ..,?_};refine{_,rfl,z,f,_,rfl,G _ _ l,di (by show ("blocks_in_window":Str)∉[("writer":Str),"pairs"];decide+kernel),z,R,rfl,D.same G,λH2 s2=>?_};have d:=G.trans s2;refine{_,rfl,_,_,rfl,rfl,.inl {by lia,by lia},?_};show bN 3 (V.int (((R.b:Int)+1+(R.c:Int))*(R.n:Int))) _ _ _;rw[show ((R.b:Int)+1+(R.c:Int))*(R.n:Int)=((R.n*(R.b+1+R.c):Nat):Int) by rw[waT,wd0];rfl];refine{_,rfl,z,L.aD,f,_,_,rfl,d _ _ l,L.ak.cl,L.ak.b5,aI x a,x,Z,_,rfl,d _ _ hx,b4 _ _ _ _ _ _ _ _ ∅,x,R,rfl,Wv.same d,R.o.1,rfl,ao (by lia),?_};refine{_,rfl,z,L.aD,f,_,_,rfl,d _ _ l,L.ak.cl,L.ak.b5,aI x a,x,Z,_,rfl,d _ _ hx,b4 _ _ _ _ _ _ _ _ ∅,kP (Wv.same d) λH3 s3=>?_};have r:=d.trans s3;refine{_,rfl,_,_,rfl,rfl,.inl {by lia,by lia},_,_,rfl,rfl,?_};show bN 4 (V.int ((R.o.1.length:Int)-(R.b:Int)*(R.n:Int))) _ _ _;rw[show (R.o.1.length:Int)-(R.b:Int)*(R.n:Int)=0 by rw[hol,waT,wd0];lia];refine{_,rfl,z,f,_,rfl,r _ _ l,di (by show ("words_in":Str)∉[("writer":Str),"pairs"];decide+kernel),_,rfl,cat all,rfl,ao (by lia),?_};rw[wB];refine{z,R,m,rfl,D.same r,λH4 s4=>?_};have Sh:=r.trans s4;refine{(m:Int),rfl,by lia,by lia,λls UA=>?_};rw[waA];refine comp_map (λv=>match v with |.int i=>.int (0+i*(R.n:Int)) |_=>.non) (k8 0 m) UA (by rw[wa0,waC];exact ao (by lia)) (λ_ _=>trivial) (λv H5 Q' I s5 q=>?_) (λH5 s5 h5=>?_)
 .obtain⟨i,hi,rfl⟩:=wab.mp I;have:=wb0.mp hi;exact{_,rfl,_,rfl,_,rfl,_,_,rfl,rfl,.inl {by lia,by lia},_,_,rfl,rfl,q H5 (a7.refl _)}
 have em:((wao m).map λ(i:Nat)=>V.int (0+(i:Int))).map (λv=>match v with |.int i=>V.int (0+i*(R.n:Int)) |_=>.non)=(wao m).map λ(i:Nat)=>V.int ((R.n*i:Nat):Int):=by
  rw[waf];refine waZ λi _=>?_;show V.int (0+(0+(i:Int))*(R.n:Int))=_;rw[wbN,wbN,waT,wd0]
 rw[em]at h5;have t:=Sh.trans s5;refine{_,rfl,ls,rfl,{_,aL.of h5},λlr J=>?_};refine va (λi y _=>y=res i) (λ_ _ _ _ _ h _ _=>h) (aR K ls _) J (by rw[wa0,waC];exact ao (by lia)) (λH' s'=>aL.of (s' _ _ h5)) (λi v H6 M Q' I s6 _ q=>?_) (λM H6 s6 h6 O hy=>?_)
 .have hi:i<m:=by have:=(wa6.mp I).1;rwa[wa0,waC]at this
  rw[wa4,wdK hi]at I;cases I;obtain⟨bs,w,us,e1,e2,e3,r1,r2,r3⟩:=C i hi;have S:=t.trans s6
  have esl:waI (cat all) (some ((R.n*i:Nat):Int)) (some (((R.n*i:Nat):Int)+((R.n*(R.b+1+R.c):Nat):Int)))=cat (bs++w::us):=by
   rw[<-wbz,<-wcV,ub e (by lia) (by lia),e1]
  refine{_,rfl,z,f,_,rfl,S _ _ l,di (by show ("word_fitting":Str)∉[("writer":Str),"pairs"];decide+kernel),_,rfl,_,rfl,_,rfl,_,rfl,_,rfl,_,_,rfl,rfl,_,rfl,cat all,rfl,ao (by lia),?_};rw[esl];refine{z,R,bs,w,us,rfl,D.same S,λu h=>hw u (wbh (wdE (by rw[e1];exact h))),e2,e3,λU X Y=>?_,λj U hf X Y=>?_,λU hf X Y=>?_}
  .exact q _ X Y (r1 U).symm
  .exact q _ X Y (r2 j U hf).symm
  .exact q _ X Y (r3 U hf).symm
 .have ey:M=(wao m).map res:=by
   rw[wa0,waC]at O;refine wfP (by rw[O,wa0,waC]) λi h1 h2=>?_;rw[wd1,wf4];exact hy i _ (wa1 h1)
  rw[ey]at h6;exact k lr H6 (t.trans s6) (none_of t J) h6
end
end K52
namespace Bs
open PySem L2 Sx
theorem IX{g:Str}:∀(n:Nat) (r:Str),r∈J9 g n->∀c∈ch r,c∈ch g
 |0,r,h,c,hc=>by
  rw[wap.mp h]at hc;exact nomatch hc
 |n+1,r,h,c,hc=>by
  obtain⟨p,a,h⟩:=wcG.mp h;obtain⟨d,hd,rfl⟩:=wab.mp h;rw[aT]at hc;rcases waD.mp hc with z |z
  .exact IX n p a c z
  .rw[wap.mp z];exact hd
theorem KU{K:wa2}{C CB J T:Addr}{H:Hp}{x t:Addr}{g:Str}{bw ss ls:List Str}{many:Int}{n:Nat}{f:Str->Int}{r:List z9}{j:List Nat}{hs:List Str}{ws:List Int}{lns:List (List (Str×Nat))}{b:Nat}(B:aZ CB H t g bw ss ls)(W:B4 K C J T H x t many n (cE f ls) r j hs ws lns b)(P:gT g bw ss ls many n f r j hs ws lns)(U:FV many n (fj lns j many.toNat))(I:n6 bw n b)(nd:(ch g).Nodup)(hw:∀w∈bw,1<=w.length/\w.length<=900)(bl:bw.length<=1000)(gl:g.length<=10)(m1:1<=many)(m8:many<=8)(n1:1<=n)(lO:n<=10):nB K C CB J H x {g,bw,ss,ls,oN hs j,many,n,b,r.length,fj lns j many.toNat}:=by
 obtain⟨u,p,a,l,v,⟨dp,y,z,A,D,E,_,G,_,_⟩,L,M⟩:=W;obtain⟨S,N,O,Q,k⟩:=id G;cases O;have c:∀p∈ls,p∈ss:=λp h=>B.lv.sub.subset h;have i:∀w∈bw,1<=w.length:=λw h=>(hw w h).1
 have R:j.length<=40:=by
  have m:=P.ko.ab.sub.length_le;have o:=P.b.l;have V:=P.ln;rw[waC]at m
  lia
 have sl:=P.sl;have kp:0<j.length:=wcd.mpr P.ne;refine{{u,p,t,a,l,dp,y,z,A,D,N,v,E,.inl Q,by rw[k.len,wa0],M,.inl (u5 L),B},U,m1,m8,n1,lO,I.le,by show r.length<=1000;lia,?_,?_,I,hw,bl,gl,P.read nd B.pm i c (B.nd.sublist B.lv.sub) _,λd q s=>?_,?_,Fz I n1 B.pm,B.pm}
 .show (oN hs j).length=_;rw[we];exact wa0 ..
 .show (fj lns j many.toNat).length<=40;rw[we];exact R
 .have hd:=IG s;have m:=(zr (w:=q.1) (e:=q.2) s).2;have o:j.getD d 0<hs.length:=by have:=(P.ko.st _ (wa8 (getD_some 0 hd))).1;have:=P.b.l;lia
  exact IX n _ (P.cv.Em P.b.l (λp h=>c p (P.sb p h)) B.pm i o m).2.2
 .show (oN hs j).getD 0 ""∈ss;rw[jQ kp];have hk:=(P.steps B.pm i c many.toNat kp).1;rw[wa3,wa1 hk];exact c _ (P.sb _ (waL hk))
theorem DS{R:Wr}(ok:wY R):∀(ts:List Nat) (d:Nat),d<R.wl.length->(∀t∈ts,(t:Int)<R.many)->∀u∈eG R.wl d ts,u.length=R.n/\∀c∈ch u,c∈ch R.g
 |[],_,_,_,_,h=>nomatch h
 |t::ts,d,hd,b,u,h=>by
  have a:=wa8 (step_at ok.w hd (b t (wae ..)));have hl:=wa8 (cM hd);rcases waK.mp h with rfl |h
  .exact{ok.w.wd _ hl _ a,ok.gd d _ a}
  .exact DS ok ts _ (ok.w.e _ hl _ a) (λx f=>b x (wac _ f)) u h
structure IY(R:Wr)(ts:List Nat)(all:List Str):Prop where
 row:KN R.wl R.b R.c ts=cat all
 u:∀u∈all,u.length=R.n/\∀c∈ch u,c∈ch R.g
 l:all.length=R.b+ts.length+R.c
 r:∀k,k<ts.length->∃bs w us,(all.take (k+(R.b+1+R.c))).drop k=bs++w::us/\bs.length=R.b/\us.length=R.c/\bears R.bw (cat bs)=false/\gO R.ss R.hk R.wl (cat bs) w us (ts.getD k 0)
theorem Vb{R:Wr}(ok:wY R){ts:List Nat}(g:∀t∈ts,(t:Int)<R.many):∃all,IY R ts all:=by
 refine{eG R.wl 0 (gY R.b R.c ts),Fy ..,DS ok _ 0 (wcd.mpr ok.w.ne) (rA ok.m1 g _ _),?_,λk hk=>?_}
 .rw[jS];unfold gY;rw[wa5,wa5,waP,waP]
  lia
 .obtain⟨bs,w,a,d,e,f,i,j⟩:=CY ok.rd ok.w ok.m1 ok.pm (λw h=>(ok.hw w h).1) ok.h0 ok.sh g hk;refine{bs,w,a,d,e,f,i,?_};rw[wa3,wa1 hk];exact j
theorem DT{n:Nat}:∀{a b:List Str},a.length=b.length->(∀w∈a,w.length=n)->(∀w∈b,w.length=n)->cat a=cat b->a=b
 |[],[],_,_,_,_=>rfl
 |x::a,y::b,hl,ha,c,e=>by
  have e:ch (x++cat a)=ch (y++cat b):=congrArg ch e;rw[aT,aT]at e;obtain⟨d,f⟩:=wi5 e (by rw[aN,aN,ha x (wae ..),c y (wae ..)]);rw[cb d,DT (whd hl) (λw h=>ha w (wac _ h)) (λw h=>c w (wac _ h)) (cb f)]
theorem IY.res{R:Wr}(ok:wY R){ts:List Nat}{all:List Str}(h:IY R ts all):∀k,k<ts.length->∃bs w us,(all.take (k+(R.b+1+R.c))).drop k=bs++w::us/\bs.length=R.b/\us.length=R.c/\(bears R.bw (cat bs)=true->V.int ((ts.getD k 0:Nat):Int)=.non)/\(∀i:Nat,bears R.bw (cat bs)=false->gO R.ss R.hk R.wl (cat bs) w us i->V.int ((ts.getD k 0:Nat):Int)=.int (i:Int))/\(bears R.bw (cat bs)=false->(∀i,¬gO R.ss R.hk R.wl (cat bs) w us i)->V.int ((ts.getD k 0:Nat):Int)=.non):=λk hk=>by
 obtain⟨bs,w,us,a1,a2,a3,d,a⟩:=h.r k hk;exact{bs,w,us,a1,a2,a3,(λz=>by rw[d]at z;cases z),λi _ hi=>by rw[a.one ok.rd a3 hi],λ_ hn=>absurd a (hn _)}
theorem FK(ts:List Nat):(wao ts.length).map (λk=>V.int ((ts.getD k 0:Nat):Int))=(nI ts).map V.int:=by
 refine wfP (by rw[wa0,waC,wa0,bL]) λi b a=>?_;rw[wa0,bL]at a;rw[wd1,wf4,wd1];unfold nI;rw[wd1,wa3,wa1 a];rfl
end Bs
namespace L2
open PySem PySem.Spec PyProof.Rows
section
variable{X:Cx}
theorem Ba:dj X (.type "range") (λxs H Q=>∃i j:Int,xs=[.int i,.int j]/\∀p,H p=none->Q (.ref p) (upd H p (.rng i j))):=by
 intro c s σ H xs e Q I r h;obtain⟨i,j,rfl,q⟩:=h
 cases r with
 |cons r a=>
  cases a with
  |cons d a=>
   cases a;obtain⟨t,rfl⟩:=r;obtain⟨f,rfl⟩:=d;exact call_range_2 {.ref s.heap.objs.size,_,I.laid (λb ob q=>wa9 _ q) (waa _) (show bW X.prog X.w _ _ _ (.rng i j) from {_,_,_,wat _ rfl}),rfl,q _ (I.b7.fresh (waa _))}
theorem Bb(hc:X.calm=true):dj X (.type "list") (λxs H Q=>∃(p:Addr) (i j:Int),xs=[.ref p]/\H p=some (.rng i j)/\0<=i/\i<=1000000/\-1000000<=j/\j<=1000000/\∀l,H l=none->Q (.ref l) (upd H l (.lst ((wao (j-i).toNat).map λk=>V.int (i+(k:Nat)))))):=by
 intro g s σ H xs b Q I r h;obtain⟨p,i,j,rfl,x,E,G,J,L,q⟩:=h;obtain⟨u,rfl,y⟩:=vals1 r;cases y;obtain⟨t,u,v,e⟩:=I.b7 p _ x;have hn:(j-i).toNat<=2^24:=by lia
 refine call_list_range (I.ok.hd hc) (n:=(j-i).toNat) (show IsRange s.heap p i j 1 t u v from e) (small_one (by lia) (by lia) (by lia) (by lia)) (by rw[wgT];split<;>lia) hn λf z d c kp A a=>?_
 have B:∀(b:List Value) (k:Nat),(∀(m:Nat) (u:Value),b[m]?=some u->∃t,u=.int (i+((k+m:Nat):Int)) t)->Vals ((weY k b.length).map λm=>V.int (i+(m:Nat))) b:=by
  intro b
  induction b with
  |nil=>intro k _;exact .nil
  |cons u b C=>
   intro k h;obtain⟨t,e⟩:=h 0 u rfl;rw[waH,wfH,wau];refine .cons ⟨t,e⟩ (C (k+1) λj u f=>?_);obtain⟨t,e⟩:=h (j+1) u (by simpa using f);exact{t,by rw[e];congr 1;lia}
 have hl:d.toList.length=(j-i).toNat:=by rw[wca];exact a.1
 have o:=B d.toList 0 λm u e=>by
  obtain⟨t,D⟩:=a.2 m u (by rw[<-wbW];exact e);exact{t,by rw[D,wfL,Int.mul_one]}
 rw[hl,<-wgM]at o;refine{.ref s.heap.objs.size,_,I.laid (t':=z) kp (waa _) (show bW X.prog X.w _ f _ (.lst ((wao (j-i).toNat).map λk=>V.int (i+(k:Nat)))) from {?_,d.toList,c,o,?_}),rfl,q _ (I.b7.fresh (waa _))}
 .rw[wa0,waC,wc4]
  lia
 .rw[wcT];exact A
end
end L2
namespace Bs
open PySem L2 Sx
theorem rG{n:Nat}:∀(m:Nat) (x:Str),x.length=n*m->∃all,x=cat all/\all.length=m/\∀u∈all,u.length=n
 |0,x,h=>{[],cb (by rw[oq h];rfl),rfl,λu h=>nomatch h}
 |m+1,x,h=>by
  have h:x.length=n*m+n:=by rw[h,wcV,whI]
  have b:=m6 x n;have c:=gm x n;have d:(waI x (some (n:Int)) none).length=n*m:=by rw[<-aN,c,wb3,aN];lia
  obtain⟨all,a1,a2,a3⟩:=rG m _ d;refine{waI x none (some (n:Int))::all,cb ?_,by rw[waH,a2],λu a=>?_}
  .show _=ch (_++cat all);rw[aT,<-a1,b,c,wbr]
  .rcases waK.mp a with rfl |a
   .rw[<-aN,b,wag,aN];lia
   .exact a3 u a
theorem DU{all:List Str}{u:Str}(h:u∈all):∀c∈ch u,c∈ch (cat all):=λc hc=>by
 rw[CW];exact whT.mpr {ch u,wab.mpr ⟨u,h,rfl⟩,hc}
open Classical in
noncomputable def wm(R:Wr)(bs:List Str)(w:Str)(us:List Str):V:=if bears R.bw (cat bs)=true then .non else if h:∃i,gO R.ss R.hk R.wl (cat bs) w us i then .int ((whQ h:Nat):Int) else .non
theorem zx{R:Wr}(ok:wY R){bs:List Str}{w:Str}{us:List Str}(hl:us.length=R.c):(bears R.bw (cat bs)=true->wm R bs w us=.non)/\(∀i:Nat,bears R.bw (cat bs)=false->gO R.ss R.hk R.wl (cat bs) w us i->wm R bs w us=.int (i:Int))/\(bears R.bw (cat bs)=false->(∀i,¬gO R.ss R.hk R.wl (cat bs) w us i)->wm R bs w us=.non):=by
 refine{λh=>?_,λi h a=>?_,λh hn=>?_}
 .unfold wm;rw[if_pos h]
 .unfold wm;have b:∃i,gO R.ss R.hk R.wl (cat bs) w us i:=⟨i,a⟩;rw[if_neg (by rw[h];exact wan),dif_pos b,(wey b).one ok.rd hl a]
 .unfold wm;rw[if_neg (by rw[h];exact wan),dif_neg (λ⟨i,hi⟩=>hn i hi)]
theorem zy{R:Wr}(ok:wY R)(bs:List Str)(w:Str)(us:List Str):wm R bs w us=.non\/∃i:Nat,wm R bs w us=.int (i:Int)/\(i:Int)<R.many:=by
 unfold wm;split
 .exact .inl rfl
 .split
  .rename_i a;refine .inr {_,rfl,?_};obtain⟨d,e,b,_,c,_⟩:=wey a;have:=(wa6.mp c).1;have:=ok.w.ln _ (wa8 (cM b))
   lia
  .exact .inl rfl
noncomputable def gb(R:Wr)(all:List Str)(k:Nat):List Str:=(all.take (k+(R.b+1+R.c))).drop k
noncomputable def nC(R:Wr)(all:List Str)(k:Nat):V:=wm R ((gb R all k).take R.b) ((gb R all k).getD R.b "") ((gb R all k).drop (R.b+1))
theorem zz{R:Wr}{all:List Str}{m k:Nat}(hl:all.length=R.b+m+R.c)(hk:k<m):gb R all k=(gb R all k).take R.b++(gb R all k).getD R.b "" :: (gb R all k).drop (R.b+1)/\((gb R all k).take R.b).length=R.b/\((gb R all k).drop (R.b+1)).length=R.c:=by
 have e:(gb R all k).length=R.b+1+R.c:=by unfold gb;rw[wb3,wag];lia
 generalize gb R all k=a at e;refine{?_,by rw[wag];lia,by rw[wb3];lia};have d:R.b<a.length:=by lia
 rw[wa3,wa1 d];show a=a.take R.b++a[R.b]::a.drop (R.b+1);rw[<-wcr d,wbr]
theorem DV{R:Wr}(ok:wY R){all:List Str}{m:Nat}(hl:all.length=R.b+m+R.c):∀k,k<m->∃bs w us,(all.take (k+(R.b+1+R.c))).drop k=bs++w::us/\bs.length=R.b/\us.length=R.c/\(bears R.bw (cat bs)=true->nC R all k=.non)/\(∀i:Nat,bears R.bw (cat bs)=false->gO R.ss R.hk R.wl (cat bs) w us i->nC R all k=.int (i:Int))/\(bears R.bw (cat bs)=false->(∀i,¬gO R.ss R.hk R.wl (cat bs) w us i)->nC R all k=.non):=λk hk=>by
 obtain⟨d,e,a⟩:=zz hl hk;exact{_,_,_,d,e,a,zx ok a}
theorem IY.nC{R:Wr}(ok:wY R){ts:List Nat}{all:List Str}(h:IY R ts all){k:Nat}(hk:k<ts.length):Bs.nC R all k=.int ((ts.getD k 0:Nat):Int):=by
 obtain⟨bs,w,a,a1,a2,a3,b,c⟩:=h.r k hk;have e:gb R all k=bs++w::a:=a1;obtain⟨b1,d,m⟩:=zz h.l hk;rw[b1]at e;obtain⟨f,g⟩:=wi5 e (by rw[a2,d]);obtain⟨i,j⟩:=wem g;unfold Bs.nC;rw[f,i,j];exact(zx ok a3).2.1 _ b c
noncomputable def wo(R:Wr)(x:Str)(k:Nat):List Nat:=((ch x).take (R.n*(k+(R.b+1+R.c)))).drop (R.n*k)
theorem Bc{R:Wr}{all:List Str}(h:∀u∈all,u.length=R.n)(k:Nat):wo R (cat all) k=ch (cat (gb R all k)):=by
 unfold wo gb;rw[wh h,wg λw hw=>h w (wbh hw)]
theorem KW{R:Wr}{a b:List Str}(ha:∀u∈a,u.length=R.n)(g:∀u∈b,u.length=R.n)(hl:a.length=b.length){k:Nat}(e:wo R (cat a) k=wo R (cat b) k):gb R a k=gb R b k:=by
 rw[Bc ha,Bc g]at e;refine DT (n:=R.n) ?_ (λw h=>ha w (wbh (wdE h))) (λw h=>g w (wbh (wdE h))) (cb e);unfold gb;rw[wb3,wag,wb3,wag,hl]
theorem KY{R:Wr}{a b:List Str}{k:Nat}(e:gb R a k=gb R b k):nC R a k=nC R b k:=by
 unfold nC;rw[e]
theorem IZ{R:Wr}{x:Str}{j c k:Nat}(g:j<x.length)(h:j<R.n*k\/R.n*(k+(R.b+1+R.c))<=j):wo R ((waI x none (some (j:Int))++{#[c]})++waI x (some ((j:Int)+1)) none) k=wo R x k:=by
 have e:ch ((waI x none (some (j:Int))++{#[c]})++waI x (some ((j:Int)+1)) none)=(ch x).set j c:=by
  rw[aT,aT,m6,show ((j:Int)+1)=((j+1:Nat):Int) from rfl,gm,wei,if_pos (by rw[aN];exact g),waM];rfl
 unfold wo;rw[e];rcases h with h |h
 .refine wfj λi=>?_;rw[whk,whk,whl,whl,wcv (by lia)]
 .rw[List.take_set_of_le h]
theorem wq(lo hi:Nat):∀M,(wao M).filter (λk=>decide (lo<=k/\k<hi))=(wao (min hi M-lo)).map λk=>lo+k
 |0=>by rw[show min hi 0-lo=0 by lia];rfl
 |M+1=>by
  rw[wc9,wbj,wq lo hi M]
  by_cases h:lo<=M/\M<hi
  .rw[waW (by exact decide_eq_true h),show min hi (M+1)-lo=(min hi M-lo)+1 by lia,wc9,wai];show _++[M]=_++[lo+(min hi M-lo)];rw[show lo+(min hi M-lo)=M by lia]
  .rw[wb1 (by exact λz=>h (of_decide_eq_true z)),show min hi (M+1)-lo=min hi M-lo by lia];exact waS _
noncomputable def iL(R:Wr)(M j:Nat):List Nat:=(wao M).filter λk=>decide (R.n*k<=j/\j<R.n*(k+(R.b+1+R.c)))
theorem J0{R:Wr}(n1:1<=R.n)(M j:Nat):iL R M j=(wao (min (j/R.n+1) M-(j/R.n-(R.b+R.c)))).map λk=>(j/R.n-(R.b+R.c))+k:=by
 rw[<-wq];unfold iL;refine wfl λk _=>?_;have a:R.n*k<=j↔k<=j/R.n:=by rw[Nat.le_div_iff_mul_le (),wfx]
 have d:j<R.n*(k+(R.b+1+R.c))↔j/R.n<k+(R.b+1+R.c):=by rw[wgC (),wfx]
 exact decide_eq_decide.mpr {λ⟨x,y⟩=>by have:=a.mp x;have:=d.mp y;omega,λh=>{a.mpr (),d.mpr ()}}
theorem KZ{R:Wr}{M j k:Nat}:k∈iL R M j↔k<M/\R.n*k<=j/\j<R.n*(k+(R.b+1+R.c)):=by
 unfold iL;rw[war,wb0,decide_eq_true_eq]
theorem DW{R:Wr}(n1:1<=R.n)(M j:Nat):(iL R M j).length<=R.b+1+R.c:=by
 rw[J0 n1,wa0,waC];omega
end Bs
namespace K52
open PySem L2 Bs Sx
section
variable{P:waq}{w:World}{K:wa2}{mg:Str->Option Value}{base:Heap}
inductive J1(K:wa2)(C CB CP CE:Addr)(vs:List V)(H:Hp)(Q:VK)(dA:XK):Prop
 |mk (z R bs w us) (_:vs=[.ref z,.str (cat (bs++w::us))]) (_:rB K C CB CP CE H z R) (_:(∀u∈bs++w::us,u.length=R.n/\∀c∈ch u,c∈ch R.g)) (_:bs.length=R.b) (_:us.length=R.c) (_:∀H',a7 H H'->Q (wm R bs w us) H')
local macro_rules|`(tactic|ac_rfl)=>`(tactic|try dsimp only[cZ,cY,aX,aY])
theorem qA(L:Lk K mg):aS P w K mg base cP 5 L.jC L.jG ["self","window"] (J1 K L.aj L.aA L.aO L.aD):=by
 have T:=L.T;refine L.jM.F.d7 (N:=["self","window"]) (λI A outer s H Y Q E nd Z h=>?_);obtain⟨z,R,bs,w,m,rfl,D,hw,v,hc,k⟩:=h
 refine{_,(a5 (b8 (sD (az (az (pv 0) rfl) rfl) L.aJ.cl L.dh (ez L) (aK (pv 1))))
  (a5 (b6 (cu zJ (sC T.len (pv 1)) (aC dW (eV (pv 0) L.ak.cl L.cV (eJ L)) (az (az (pv 0) rfl) rfl))) cK aG)
  (a9 (aw (sD (pv 0) L.ak.cl L.dY (g9 L) (aK (pv 1))))))),?_}
 ac_rfl
 obtain⟨j,x,a,l,hP,W⟩:=id D;obtain⟨⟨y,p,C,aa,ll,dp,wa,wb,wc,wz,ys,G,_,_,_,_,_,B⟩,ok⟩:=id W;obtain⟨⟨o,bb,db,qb,mv,q,_⟩,_,_,_⟩:=id B;have lO:=ok.lO;have b1:=ok.b1;have c1:=ok.c1;have r:(cat (bs++w::m)).length=R.n*(R.b+1+R.c):=by rw[eO λu h=>(hw u h).1,wa5,waH,v,hc,show R.b+(R.c+1)=R.b+1+R.c by lia]
 have J:R.n*(R.b+1+R.c)<=10*3000:=wbd lO (by lia);refine{_,rfl,z,L.aD,j,_,_,rfl,l,L.ak.cl,L.ak.b5,aI x a,x,L.aj,y,_,_,rfl,G,L.ag.cl,L.ag.rj,iI ..,C,o,_,rfl,q,Bf _ _ _ _ ∅ ∅ ∅ ∅,_,rfl,C,_,R.g,R.bw,R.ss,R.ls,rfl,B,zv λu h=>(hw u h).2,λH1 t=>?_};refine{_,rfl,_,rfl,ao (by lia),_,rfl,z,j,_,rfl,t _ _ l,di (by show ("blocks_in_window":Str)∉[("writer":Str),"pairs"];decide+kernel),z,R,rfl,D.same t,λH2 M=>?_};have d:=t.trans M;refine{_,rfl,z,L.aD,j,_,_,rfl,d _ _ l,L.ak.cl,L.ak.b5,aI x a,x,L.aj,y,_,_,rfl,d _ _ G,L.ag.cl,L.ag.je,dH ..,_,_,rfl,rfl,.inl {by lia,by lia},rfl,false,?_,bx ?_}
 .show V.bl (!decide (V.int ((cat (bs++w::m)).length:Int)=V.int (((R.b:Int)+1+(R.c:Int))*(R.n:Int))))=_;rw[r,show ((R.b:Int)+1+(R.c:Int))*(R.n:Int)=((R.n*(R.b+1+R.c):Nat):Int) by rw[waT,wd0];rfl];exact BX _
 obtain⟨O,S,U⟩:=zx ok (bs:=bs) (w:=w) hc;refine{_,rfl,z,j,_,rfl,d _ _ l,di (by show ("word_fitting":Str)∉[("writer":Str),"pairs"];decide+kernel),_,rfl,z,R,bs,w,m,rfl,D.same d,hw,v,hc,λh e f=>?_,λi h X e f=>?_,λh hn e f=>?_}
 .rw[<-O h];exact k e (d.trans f)
 .rw[<-S i h X];exact k e (d.trans f)
 .rw[<-U h hn];exact k e (d.trans f)
inductive FL(K:wa2)(C CB CP CE:Addr)(vs:List V)(H:Hp)(Q:VK)(dA:XK):Prop
 |mk (z:Addr) (R:Wr) (m j:Nat) (_:vs=[.ref z,.int ((R.n*(R.b+m+R.c):Nat):Int),.int (j:Int)]) (_:rB K C CB CP CE H z R) (_:j<R.n*(R.b+m+R.c)) (_:m<=1000) (_:∀l H',a7 H H'->H l=none->H' l=some (.lst ((nI (iL R m j)).map V.int))->Q (.ref l) H')
theorem ja(L:Lk K mg):aS P w K mg base cP 4 L.jD L.jH ["self","length","number"] (FL K L.aj L.aA L.aO L.aD):=by
 have T:=L.T;refine L.gy.F.d7 (N:=["self","length","number","words","block"]) (λO A outer s H vs Q E nd hr h=>?_);obtain⟨z,R,m,j,rfl,D,S,m1,k⟩:=h
 refine{_,(a5 (ai (i:=3) (sD (pv 0) L.ak.cl L.fV (iJ L) (aK (pv 1))))
  (a5 (b6 (PW.pt (fk (cS (bT (au (j9 L) L.iA (aK (pv 2))))) (fk (cu iO (pv 2) aq) (fF (cu D5 (pv 2) (pv 1)))))) cK aG)
  (a5 (ai (i:=4) (aC iN (aC gk (pv 2) (sC T.len (eV (az (pv 0) rfl) L.ag.cl L.dS (eI L)))) (az (az (pv 0) rfl) rfl)))
  (a9 (aw (bp (Bb rfl) (by rfl) T.list fJ (aK (bp Ba (by rfl) T.range yS (a8 (aU (xk rfl) (by rfl) T.max Ds (a8 (aC gk (pv 4) (eV (az (pv 0) rfl) L.ag.cl L.cq (cC L))) (aK aq))) (aK (aU (qH rfl) (by rfl) T.min JW (a8 (aC bu (aC bu (pv 4) (eV (az (pv 0) rfl) L.ag.cl L.bf (bq L))) aq) (aK (pv 3)))))))))))))),?_}
 ac_rfl
 obtain⟨f,x,a,g,hP,u⟩:=id D;obtain⟨⟨v,p,xb,aa,ll,dp,wa,wb,wc,wz,ys,y,_⟩,ok⟩:=id u;have n1:=ok.n1;have lO:=ok.lO;have b1:=ok.b1;have c1:=ok.c1;have G:=B9 ok;have U:R.n*R.b<=10*1000:=wbd lO b1;refine{_,rfl,z,f,_,rfl,g,di (by show ("words_in":Str)∉[("writer":Str),"pairs"];decide+kernel),_,rfl,z,R,m,rfl,D,λH1 d=>?_};refine{_,rfl,(j:Int),rfl,true,rfl,bx ?_};refine{_,rfl,_,_,rfl,rfl,false,congrArg V.bl (decide_eq_false (by lia)),bx ?_};refine{_,rfl,_,rfl,_,_,rfl,rfl,false,congrArg V.bl (decide_eq_false (by lia)),bx ?_};refine{_,rfl,_,rfl,z,L.aD,f,_,_,rfl,d _ _ g,L.ak.cl,L.ak.b5,aI x a,x,v,_,rfl,d _ _ y,b4 _ _ _ _ _ _ _ _ ∅,x,R,rfl,u.same d,R.o.1,rfl,ao (by lia),_,_,rfl,rfl,_,rfl,z,L.aD,f,_,_,rfl,d _ _ g,L.ak.cl,L.ak.b5,aI x a,x,L.aj,v,_,_,rfl,d _ _ y,L.ag.cl,L.ag.je,dH ..,_,_,rfl,rfl,{by lia,by lia},?_};show bN 4 (V.int (((j:Int)-(R.o.1.length:Int))/(R.n:Int))) _ _ _
 have X:((j:Int)-(R.o.1.length:Int))/(R.n:Int)=((j/R.n:Nat):Int)-(R.b:Int):=by
  rw[G,waT,show (j:Int)-(R.n:Int)*(R.b:Int)=(j:Int)+(R.n:Int)*(-(R.b:Int)) by rw[Int.mul_neg];lia,wgB _ _ (by lia),Int.natCast_ediv]
  lia
 rw[X]
 have Y:j/R.n<=3000:=by
  have h1:j/R.n<R.b+m+R.c:=by rw[wgC (by lia),wfx];exact S
  lia
 have e:=J0 n1 m j;generalize j/R.n=q at Y e;refine{_,rfl,_,rfl,z,L.aD,f,_,_,rfl,d _ _ g,L.ak.cl,L.ak.b5,aI x a,x,v,_,rfl,d _ _ y,b4 _ _ _ _ _ _ _ _ ∅,x,R,rfl,u.same d,_,_,rfl,rfl,_,_,rfl,?_};refine{_,rfl,_,rfl,z,L.aD,f,_,_,rfl,d _ _ g,L.ak.cl,L.ak.b5,aI x a,x,v,_,rfl,d _ _ y,b4 _ _ _ _ _ _ _ _ ∅,kP (u.same d) λH2 Z=>?_};refine{_,_,rfl,rfl,_,_,rfl,rfl,_,rfl,_,_,rfl,_,_,rfl,λpg r=>?_};have t:=d.trans Z;obtain⟨I,B⟩:∃I:Int,(if (0:Int)>(q:Int)-(R.b:Int)-(R.c:Int) then 0 else(q:Int)-(R.b:Int)-(R.c:Int))=I:={_,rfl};obtain⟨J,C⟩:∃J:Int,(if (m:Int)<(q:Int)-(R.b:Int)+(R.b:Int)+1 then(m:Int) else(q:Int)-(R.b:Int)+(R.b:Int)+1)=J:={_,rfl};refine{pg,I,J,rfl,by rw[a6,<-B,<-C],?_,?_,?_,?_,λl hl=>?_}
 .rw[<-B];split<;>lia
 .rw[<-B];split<;>lia
 .rw[<-C];split<;>lia
 .rw[<-C];split<;>lia
 have M:I=((q-(R.b+R.c):Nat):Int):=by rw[<-B];split<;>lia
 have e2:(J-I).toNat=min (q+1) m-(q-(R.b+R.c)):=by rw[M,<-C];split<;>lia
 have e3:((wao (J-I).toNat).map λk=>V.int (I+(k:Nat)))=(nI (iL R m j)).map V.int:=by
  rw[e,e2,M];unfold nI;rw[waf,waf];refine waZ λk _=>?_;show V.int (_+_)=V.int (((q-(R.b+R.c)+k:Nat)):Int);rw[wbz]
 rw[e3];exact k l _ (t.trans ((a7.upd r).trans (a7.upd hl))) (none_of (t.trans (a7.upd r)) hl) a6
inductive Rf(K:wa2)(C CB CP:Addr)(vs:List V)(H:Hp)(Q:VK)(dA:XK):Prop
 |mk (x:Addr) (R:Wr) (m j:Nat) (_:vs=[.ref x,.int (R.n:Int),.int (m:Int),.int (j:Int)]) (_:nB K C CB CP H x R) (_:m<=1001) (_:∀l H',a7 H H'->H' l=some (.lst ((nI (iL R m j)).map V.int))->Q (.ref l) H')
theorem Bd(L:Lk K mg):aS P w K mg base cP 4 L.vH L.vO ["_law_told_here","_law_wide","_law_many_words","_law_at"] (Rf K L.aj L.aA L.aO):=by
 have T:=L.T;refine L.vT.F.d7 (N:=["_law_told_here","_law_wide","_law_many_words","_law_at","_law_found","_law_k","_law_start"]) (λO A outer s H X Q E nd Y h=>?_);obtain⟨x,R,m,j,rfl,q,m1,k⟩:=h
 refine{_,(a5 (ai (i:=4) (cA eC))
  (a5 (forA (bZ rfl T.range (aK (pv 2))) (ax (i:=5)) (a5 (ai (i:=6) (aC bu (sC T.len (eV (pv 0) L.ag.cl L.dS (eI L))) (aC dW (pv 1) (aC gk (pv 5) (eV (pv 0) L.ag.cl L.bf (bq L))))))
  (a9 (b6 (zK G9 iO (pv 6) (pv 3) (aC bu (pv 6) (aC dW (pv 1) (aC bu (aC bu (eV (pv 0) L.ag.cl L.bf (bq L)) aq) (eV (pv 0) L.ag.cl L.cq (cC L)))))) (a9 (b8 (hF waN waU waY cL (pv 4) (aK (pv 5))))) aG))))
  (a9 (aw (pv 4))))),?_}
 ac_rfl
 obtain⟨⟨t,p,Z,aa,ll,dp,wa,wb,wc,wz,ys,u,_⟩,ok⟩:=id q;have n1:=ok.n1;have lO:=ok.lO;have b1:=ok.b1;have c1:=ok.c1;have v:=B9 ok;have S:R.n*R.b<=10*1000:=wbd lO b1;refine{waz _,λl hl=>?_};refine{_,rfl,(m:Int),rfl,by lia,by lia,?_};rw[waA];refine cw (lo:=0) (n:=m) (λi σ r=>i<=m/\a7 H r/\r l=some (.lst ((nI (iL R i j)).map V.int))/\∃y v6,σ=[some (.ref x),some (.int (R.n:Int)),some (.int (m:Int)),some (.int (j:Int)),some (.ref l),y,v6]) {waz _,a7.upd hl,a6,none,none,rfl} ?_ ?_
 .rintro i σ r hi ⟨_,f,B,y,v6,rfl⟩;show bN 5 (V.int (0+(i:Int))) _ _ _;rw[wbN];have U:(iL R i j).length<=i:=by unfold iL;exact wak (wb2 ..) (by rw[waC];exact waa _)
  have g:iL R (i+1) j=iL R i j++if R.n*i<=j/\j<R.n*(i+(R.b+1+R.c)) then[i] else[]:=by
   unfold iL;rw[wc9,wbj];congr 1
   by_cases c:R.n*i<=j/\j<R.n*(i+(R.b+1+R.c))
   .rw[if_pos c,waW (by exact decide_eq_true c)];rfl
   .rw[if_neg c,wb1 (by exact λz=>c (of_decide_eq_true z))];rfl
  refine{_,rfl,x,t,_,rfl,f _ _ u,b4 _ _ _ _ _ _ _ _ ∅,x,R,rfl,q.same f,R.o.1,rfl,ao (by lia),_,rfl,_,rfl,_,rfl,x,t,_,rfl,f _ _ u,b4 _ _ _ _ _ _ _ _ ∅,kP (q.same f) λH3 D=>?_};refine{_,_,rfl,rfl,_,_,rfl,rfl,.inl {by lia,by lia},_,_,rfl,rfl,?_};show bN 6 (V.int ((R.o.1.length:Int)+(R.n:Int)*((i:Int)-(R.b:Int)))) _ _ _;rw[show (R.o.1.length:Int)+(R.n:Int)*((i:Int)-(R.b:Int))=((R.n*i:Nat):Int) by rw[v,whG,waT,waT];lia];have a:=f.trans D;have G:=D _ _ B
  by_cases c1:R.n*i<=j
  .refine{_,rfl,_,rfl,_,_,rfl,rfl,true,congrArg V.bl (decide_eq_true (by lia)),eD ?_};refine{_,rfl,_,rfl,_,rfl,x,t,_,rfl,a _ _ u,b4 _ _ _ _ _ _ _ _ ∅,kP (q.same a) λH4 I=>?_};have d:=a.trans I;refine{_,_,rfl,rfl,_,rfl,x,t,_,rfl,d _ _ u,b4 _ _ _ _ _ _ _ _ ∅,x,R,rfl,q.same d,_,_,rfl,rfl,_,_,rfl,rfl,.inl {by lia,by lia},_,_,rfl,rfl,_,_,rfl,rfl,?_};have J:((R.n*i:Nat):Int)+(R.n:Int)*((R.b:Int)+1+(R.c:Int))=((R.n*(i+(R.b+1+R.c)):Nat):Int):=by rw[wcV,wbz,waT R.n (R.b+1+R.c)];rfl
   have C:=I _ _ G
   by_cases M:j<R.n*(i+(R.b+1+R.c))
   .refine{true,congrArg V.bl (decide_eq_true (by rw[J];lia)),eD ?_};refine{_,rfl,.inl {rfl,_,aL.of C},_,rfl,l,_,_,rfl,rfl,C,by rw[wa0,bL];exact ao (by lia),?_};refine{hi,λb o e=>by rw[ae (af e hl)];exact d _ _ e,?_,_,_,rfl};rw[a6,g,if_pos ⟨c1,M⟩,jA,wai];rfl
   .refine{false,congrArg V.bl (decide_eq_false (by rw[J];lia)),bx {hi,d,?_,_,_,rfl}};rw[g,if_neg (λz=>M z.2),waS];exact C
  .refine{_,rfl,_,rfl,_,_,rfl,rfl,false,congrArg V.bl (decide_eq_false (by lia)),bx {false,rfl,bx {hi,a,?_,_,_,rfl}}};rw[g,if_neg (λz=>c1 z.1),waS];exact G
 .rintro σ r ⟨_,f,B,y,v6,rfl⟩;exact{_,rfl,k l r f B}
inductive J4(K:wa2)(C CB CP CE:Addr)(vs:List V)(H:Hp)(Q:VK)(dA:XK):Prop
 |mk (z x:Addr) (R:Wr) (m j:Nat) (_:vs=[.ref z,.ref x,.int (R.n:Int),.int ((R.n*(R.b+m+R.c):Nat):Int),.int (m:Int),.int (j:Int)]) (_:rB K C CB CP CE H z R) (_:nB K C CB CP H x R) (_:j<R.n*(R.b+m+R.c)) (_:m<=1000) (_:∀l H',a7 H H'->H l=none->H' l=some (.lst ((nI (iL R m j)).map V.int))->Q (.ref l) H')
theorem lR(L:Lk K mg):aS P w K mg base cP 5 L.iw L.mS ["_law_reader","_law_told_here","_law_wide","_law_length","_law_many_words","_law_at"] (J4 K L.aj L.aA L.aO L.aD):=by
 have T:=L.T;refine L.iE.F.d7 (N:=["_law_reader","_law_told_here","_law_wide","_law_length","_law_many_words","_law_at","_law_found"]) (λg A outer s H vs Q E nd M h=>?_);obtain⟨z,x,R,m,j,rfl,D,e,O,m1,k⟩:=h;have n:(A.deeper (wcc "_law_touched" (aH (top 92)) s.heap.objs.size L.iw g)).units<wcp:=M.oj
 refine{_,(a5 (ai (i:=6) (sD (pv 0) L.ak.cl L.gy (ja L) (a8 (pv 3) (aK (pv 5)))))
  (a5 (b6 (PW.pt (fk (cS (bT (aU bR (by rfl) T.FT tG (a8 (pv 6) (aK (eY (v:=.ty "list") (by rfl) T.list fJ rfl)))))) (fF (cu (N2 n) (pv 6) (au (Bd L) L.vT (a8 (pv 1) (a8 (pv 2) (a8 (pv 4) (aK (pv 5)))))))))) (a9 (aw dn)) aG)
  (a5 (b6 (PW.pt (fk (bT (aU (uC rfl) (by rfl) T.any MH (aK (cG rfl (ay [] []) (aQ (pv 6)) (λ_ _ _ _ _ _=>bj) (λ_ _ _ _ _ _=>(aU (yU (K:=K) rfl) (by rfl) T.FT tG (a8 (pv 0) (aK (eY (v:=.ty "bool") (by rfl) T.bool GW rfl))))))))) (fF (cu lV (zD T.len (pv 6)) (aC bu (aC bu (eV (pv 1) L.ag.cl L.bf (bq L)) aq) (eV (pv 1) L.ag.cl L.cq (cC L))))))) (a9 (aw dn)) aG)
  (a9 (aw (pv 6)))))),?_}
 ac_rfl
 obtain⟨S,x',a,U,_⟩:=id D;obtain⟨⟨B,p,xb,aa,ll,dp,wa,wb,wc,wz,ys,C,_⟩,ok⟩:=id e;have X:=DW ok.n1 m j;refine{_,rfl,z,S,_,rfl,U,di (by show ("touched":Str)∉[("writer":Str),"pairs"];decide+kernel),_,rfl,_,rfl,z,R,m,j,rfl,D,O,m1,λl H1 G fl o=>?_};refine{_,rfl,_,_,_,true,rfl,gE.lst o,rfl,true,rfl,bx ?_};refine{_,rfl,_,rfl,_,rfl,_,rfl,_,rfl,x,R,m,j,rfl,e.same G,by lia,λY H2 r Z=>?_};have u:=G.trans r;refine{l,Y,_,_,rfl,rfl,aL.of (r _ _ o),aL.of Z,cy _,cy _,false,by rw[jB,decide_eq_true rfl];rfl,bx ?_};have b:=r _ _ o;refine{_,rfl,l,rfl,{_,aL.of b},λlc y=>?_};have b1:=ok.b1;have c1:=ok.c1;refine comp_map (λ_=>.bl false) (aR K l _) y (by rw[wa0,bL];exact ao (by lia)) (λH' s'=>aL.of (s' _ _ b)) (λv I Q' hv f q=>?_) (λI f h3=>?_)
 .obtain⟨t,_,rfl⟩:=rg hv;exact{_,rfl,_,_,_,false,rfl,gE.int _,rfl,q I (a7.refl _)}
 have c:=u.trans f;refine{lc,waj (iL R m j).length false,rfl,aL.of (by rw[h3,waf,List.map_replicate];congr 2;show wcZ (λ_=>V.bl false) (nI (iL R m j))=_;rw[List.map_const',bL]),?_};rw[show (waj (iL R m j).length false).any id=false by rw[List.any_replicate];simp];refine{false,rfl,bx ?_};refine{_,rfl,l,_,rfl,.inl (aL.of (f _ _ b)),_,rfl,x,B,_,rfl,c _ _ C,b4 _ _ _ _ _ _ _ _ ∅,kP (e.same c) λH4 J=>?_};have d:=c.trans J;refine{_,_,rfl,rfl,_,rfl,x,B,_,rfl,d _ _ C,b4 _ _ _ _ _ _ _ _ ∅,x,R,rfl,e.same d,_,_,rfl,rfl,_,_,rfl,rfl,false,congrArg V.bl (decide_eq_false (by rw[wa0,bL];lia)),bx ?_};exact{_,rfl,k l H4 d fl (J _ _ (f _ _ b))}
inductive FN(K:wa2)(vs:List V)(H:Hp)(Q:VK)(dA:XK):Prop
 |mk (a b c many xs ts tl) (_:vs=[.ref a,.ref b,.ref c,.int many]) (_:H a=some (.lst xs)) (_:H b=some (.lst ((nI ts).map V.int))) (_:H c=some (.lst ((nI tl).map V.int))) (_:xs.length=ts.length) (_:ts.length<=1000) (_:(∀(i:Nat) (v:V),xs[i]?=some v->v=.non\/∃t:Nat,v=.int (t:Int)/\(t:Int)<many)) (_:(∀i,i<ts.length->i∉tl->xs[i]?=some (.int ((ts.getD i 0:Nat):Int)))) (_:Q (.bl true) H)
theorem xc(L:Lk K mg):aS P w K mg base cP 1 L.kH L.qc ["_law_found","_law_data","_law_touched_here","_law_many"] (FN K):=by
 have T:=L.T;refine L.qo.F.d7 (N:=["_law_found","_law_data","_law_touched_here","_law_many","_law_k","_law_thing"]) (λl A outer s H G Q E nd B h=>?_);obtain⟨a,b,c,many,m,d,o,rfl,ha,p,hc,hl,l1,C,hk,k⟩:=h;have q:(A.deeper (wcc "_law_alike" (aH (top 90)) s.heap.objs.size L.kH l)).units<wcp:=B.oj
 refine{_,(a5 (b6 (PW.pt (fk (cS (bT (aU bR (by rfl) T.FT tG (a8 (pv 0) (aK (eY (v:=.ty "list") (by rfl) T.list fJ rfl)))))) (fF (cu zJ (zD T.len (pv 0)) (zD T.len (pv 1)))))) (a9 (aw dZ)) aG)
  (a5 (forA (bZ rfl T.range (aK (zD T.len (pv 1)))) (ax (i:=4)) (a5 (ai (i:=5) (bc bD (pv 0) (pv 4) (λ_ _=>rfl)))
  (a5 (b6 (PW.pt (uf (cu oY (pv 5) dn) (oV (PW.pt (fk (cS (bT (aU bR (by rfl) T.FT tG (a8 (pv 5) (aK (eY (v:=.ty "int") (by rfl) T.int Q6 rfl)))))) (fF (bT (aU bR (by rfl) T.FT tG (a8 (pv 5) (aK (eY (v:=.ty "bool") (by rfl) T.bool GW rfl))))))))))) (a9 (aw dZ)) aG)
  (a5 (b6 (PW.pt (uf (cu oY (pv 5) dn) (oV (cS (zK G9 iO aq (pv 5) (pv 3)))))) (a9 (aw dZ)) aG)
  (a9 (b6 (PW.pt (uf (eZ hZ (pv 4) (pv 2) rfl) (oV (cu (Hs q) (pv 5) (bc bD (pv 1) (pv 4) (λ_ _=>rfl)))))) (a9 (aw dZ)) aG))))))
  (a9 (aw dZ)))),?_}
 ac_rfl
 have f:((nI d).map V.int).length=d.length:=by rw[wa0,bL]
 refine{_,rfl,_,_,_,true,rfl,gE.lst ha,rfl,true,rfl,bx ?_};refine{_,rfl,a,_,rfl,.inl (aL.of ha),_,rfl,b,_,rfl,.inl (aL.of p),rfl,false,by rw[hl,f];exact BX _,bx ?_};refine{_,rfl,b,_,rfl,.inl (aL.of p),?_};rw[f];refine{(d.length:Int),rfl,(),(),?_};rw[waA];refine cw (lo:=0) (n:=d.length) (λi σ r=>r=H/\∃v4 u,σ=[some (.ref a),some (.ref b),some (.ref c),some (.int many),v4,u]) ⟨rfl,none,none,rfl⟩ ?_ ?_
 .rintro i σ r hi ⟨x,v4,u,rfl⟩;rw[x];show bN 4 (V.int (0+(i:Int))) _ _ _;rw[wbN];have g:m[i]?=some (m[i]'()):=wa1 _;generalize m[i]'()=v at g;refine{_,rfl,_,rfl,a,_,_,v,rfl,rfl,aL.of ha,bC g,?_};have j:oR (.int (i:Int)) ((nI o).map V.int)=decide (i∈o):=vo i o;have y:((nI d).map V.int)[i]?=some (.int ((d.getD i 0:Nat):Int)):=by rw[vp (getD_some 0 hi)]
  rcases C i v g with rfl |⟨t,rfl,D⟩
  .refine{_,rfl,rfl,false,rfl,bx ?_};refine{_,rfl,rfl,false,rfl,bx ?_};refine{_,rfl,_,rfl,c,_,rfl,.inl (aL.of hc),rfl,cy _,_,rfl,?_};rw[j];refine uz (λh=>?_) (λh=>{rfl,_,_,rfl});have:=hk i hi λz=>by simp[z]at h
   rw[g]at this;cases this
  .refine{_,rfl,rfl,true,rfl,eD {_,rfl,_,_,_,true,rfl,gE.int _,rfl,true,rfl,bx {_,rfl,_,_,_,false,rfl,gE.int _,rfl,false,rfl,bx ?_}}};refine{_,rfl,rfl,true,rfl,eD {_,rfl,_,_,rfl,rfl,true,congrArg V.bl (decide_eq_true ()),eD {_,rfl,_,_,rfl,rfl,true,congrArg V.bl (decide_eq_true D),bx ?_}}};refine{_,rfl,_,rfl,c,_,rfl,.inl (aL.of hc),rfl,cy _,_,rfl,?_};rw[j];refine uz (λh=>?_) (λh=>{rfl,_,_,rfl});have e:=hk i hi λz=>by simp[z]at h
   rw[g]at e;exact{_,rfl,_,rfl,_,rfl,b,_,_,_,rfl,rfl,aL.of p,bC y,wad e,.flat rfl,(λa h=>nomatch h),false,rfl,bx {rfl,_,_,rfl}}
 .rintro σ r ⟨x,v4,u,rfl⟩;rw[x];exact k
inductive L1(K:wa2)(C CB CP CE:Addr)(vs:List V)(H:Hp)(Q:VK)(dA:XK):Prop
 |mk (z x a R all m) (_:vs=[.ref z,.ref x,.int (R.n:Int),.str (cat all),.ref a]) (_:rB K C CB CP CE H z R) (_:nB K C CB CP H x R) (_:(∀u∈all,u.length=R.n/\∀c∈ch u,c∈ch R.g)) (_:all.length=R.b+m+R.c) (_:m<=1000) (_:H a=some (.lst ((wao m).map (nC R all)))) (_:∀H',a7 H H'->Q (.bl true) H')
theorem oQ(L:Lk K mg):aS P w K mg base cP 6 L.fQ L.j2 ["_law_reader","_law_told_here","_law_wide","_law_row","_law_found"] (L1 K L.aj L.aA L.aO L.aD):=by
 have T:=L.T;refine L.j3.F.d7 (N:=["_law_reader","_law_told_here","_law_wide","_law_row","_law_found","_law_room","_law_k","_law_start","_law_window"]) (λI A outer s H vs Q E nd hr h=>?_);obtain⟨z,x,a,R,all,m,rfl,D,j,hw,l,m1,ha,k⟩:=h;have J:(A.deeper (wcc "_law_by_windows" (aH (top 91)) s.heap.objs.size L.fQ I)).units<wcp:=hr.oj
 refine{_,(a5 (ai (i:=5) (aC dW (pv 2) (aC bu (aC bu (eV (pv 1) L.ag.cl L.bf (bq L)) aq) (eV (pv 1) L.ag.cl L.cq (cC L)))))
  (a5 (forA (bZ rfl T.range (aK (zD T.len (pv 4)))) (ax (i:=6)) (a5 (ai (i:=7) (aC bu (sC T.len (eV (pv 1) L.ag.cl L.dS (eI L))) (aC dW (pv 2) (aC gk (pv 6) (eV (pv 1) L.ag.cl L.bf (bq L))))))
  (a5 (ai (i:=8) (bK gP (pv 3) (bg (pv 7)) (bg (aC bu (pv 7) (pv 5)))))
  (a9 (b6 (cu (Hs J) (sD (pv 0) L.ak.cl L.jM (qA L) (aK (pv 8))) (bc bD (pv 4) (pv 6) (λ_ _=>rfl))) (a9 (aw dZ)) aG)))))
  (a9 (aw dZ)))),?_}
 ac_rfl
 obtain⟨dz,x',a',hz,_⟩:=id D;obtain⟨⟨y,p,xb,aa,ll,dp,wa,wb,wc,wz,ys,B,_⟩,ok⟩:=id j;have n1:=ok.n1;have lO:=ok.lO;have b1:=ok.b1;have c1:=ok.c1;have M:=B9 ok;have hob:R.n*R.b<=10*1000:=wbd lO b1;have d:∀u∈all,u.length=R.n:=λu h=>(hw u h).1;have wB:(cat all).length=R.n*(R.b+m+R.c):=by rw[eO d,l]
 have hcb:R.n*(R.b+m+R.c)<=10*3000:=wbd lO (by lia);have O:((wao m).map (nC R all)).length=m:=by rw[wa0,waC]
 refine{_,rfl,_,rfl,x,y,_,rfl,B,b4 _ _ _ _ _ _ _ _ ∅,kP j λH1 C=>?_};refine{_,_,rfl,rfl,_,rfl,x,y,_,rfl,C _ _ B,b4 _ _ _ _ _ _ _ _ ∅,x,R,rfl,j.same C,_,_,rfl,rfl,_,_,rfl,rfl,.inl {by lia,by lia},?_};show bN 5 (V.int ((R.n:Int)*((R.b:Int)+1+(R.c:Int)))) _ _ _;rw[show (R.n:Int)*((R.b:Int)+1+(R.c:Int))=((R.n*(R.b+1+R.c):Nat):Int) by rw[waT];rfl];refine{_,rfl,a,_,rfl,.inl (aL.of (C _ _ ha)),?_};rw[O];refine{(m:Int),rfl,by lia,by lia,?_};rw[waA];refine cw (lo:=0) (n:=m) (λi σ G=>a7 H G/\∃v6 S U,σ=[some (.ref z),some (.ref x),some (.int (R.n:Int)),some (.str (cat all)),some (.ref a),some (.int ((R.n*(R.b+1+R.c):Nat):Int)),v6,S,U]) ⟨C,none,none,none,rfl⟩ ?_ ?_
 .rintro i σ G hi ⟨f,v6,S,U,rfl⟩;show bN 6 (V.int (0+(i:Int))) _ _ _;rw[wbN];refine{_,rfl,x,y,_,rfl,f _ _ B,b4 _ _ _ _ _ _ _ _ ∅,x,R,rfl,j.same f,R.o.1,rfl,ao (by lia),_,rfl,_,rfl,_,rfl,x,y,_,rfl,f _ _ B,b4 _ _ _ _ _ _ _ _ ∅,kP (j.same f) λH3 s3=>?_};refine{_,_,rfl,rfl,_,_,rfl,rfl,.inl {by lia,by lia},_,_,rfl,rfl,?_};show bN 7 (V.int ((R.o.1.length:Int)+(R.n:Int)*((i:Int)-(R.b:Int)))) _ _ _;rw[show (R.o.1.length:Int)+(R.n:Int)*((i:Int)-(R.b:Int))=((R.n*i:Nat):Int) by rw[M,whG,waT,waT];lia];have g:=f.trans s3;obtain⟨Y,w2,w3⟩:=zz l hi
  have X:waI (cat all) (some ((R.n*i:Nat):Int)) (some (((R.n*i:Nat):Int)+((R.n*(R.b+1+R.c):Nat):Int)))=cat ((gb R all i).take R.b++(gb R all i).getD R.b "" :: (gb R all i).drop (R.b+1)):=by
   rw[<-wbz,<-wcV,ub d (by lia) (by lia),<-Y];rfl
  refine{_,rfl,_,rfl,_,rfl,_,rfl,_,rfl,_,_,rfl,rfl,_,rfl,cat all,rfl,ao (by lia),?_};show bN 8 (V.str (waI (cat all) (some ((R.n*i:Nat):Int)) (some (((R.n*i:Nat):Int)+((R.n*(R.b+1+R.c):Nat):Int))))) _ _ _;rw[X];refine{_,rfl,z,dz,_,rfl,g _ _ hz,di (by show ("word_of":Str)∉[("writer":Str),"pairs"];decide+kernel),_,rfl,z,R,_,_,_,rfl,D.same g,λu h=>hw u (by rw[<-Y]at h;exact wbh (wdE h)),w2,w3,λH4 s4=>?_};have r:=g.trans s4;refine{_,rfl,_,rfl,a,_,_,_,rfl,rfl,aL.of (r _ _ ha),bC (v:=nC R all i) (by rw[wa4,wdK hi];rfl),rfl,.flat ?_,?_,false,rfl,bx {r,_,_,_,rfl}}
  .rcases zy ok ((gb R all i).take R.b) ((gb R all i).getD R.b "") ((gb R all i).drop (R.b+1)) with e |⟨t,e,_⟩<;>rw[e]<;>rfl
  .intro q e;rcases zy ok ((gb R all i).take R.b) ((gb R all i).getD R.b "") ((gb R all i).drop (R.b+1)) with Z |⟨t,Z,_⟩<;>rw[Z]at e<;>cases e
 .rintro σ G ⟨f,v6,S,U,rfl⟩;exact k G f
theorem zA(L:Lk K mg):aS P w K mg base cP 12 L.sP L.sZ ["_law_signs","_law_words","_law_many","_law_wide"] (KP K L.aj L.aA L.aO L.aE):=by
 refine L.tj.F.d7 (N:=["_law_signs","_law_words","_law_many","_law_wide","_law_told_here"]) (λY A outer s H vs Q E nd T h=>?_);obtain⟨g,a,many,n,bw,rfl,Z,q,m,d,v,k⟩:=h
 refine{_,(a5 (ai (i:=4) dn)
  (a5 (KO ⟨rfl,rfl⟩ (GV (JV (i:=4) nd rfl (wdW rfl) (GU L.Ff (oM L) (T.mono ⋯) rfl L.Ig L.j7.b (a8 (nh L.KA (ro L) (T.mono ⋯) rfl L.Nw L.lI.b .nil p5 (a8 (pv 0) (aK (pv 1)))) (a8 (pv 2) (aK (pv 3))))))) rfl L.AQ rfl L.CF L.iH L.zf (L.iH.ne L.zf ∅) (L.iH.neT L.XT ∅) nd (i:=4) rfl (wdW rfl))
  (a9 (aw (pv 4))))),?_}
 ac_rfl
 have g2:=q.lo;have g4:=q.hi;have w1:∀w∈bw,1<=w.length/\w.length<=900:=λw h=>{(d w h).lo,by have:=(d w h).hi;lia};refine{_,rfl,_,rfl,λy z l j U=>?_};refine{y,z,g,a,bw,rfl,a6,(fo l j).seq Z,q,m,d,λss ls r t B=>{rfl,?_}};have C:a7 H r:=λb o e=>B b o (fo l j _ _ e) (af e l);have wQ:ss.length<=25:=t.few m d;have D:("":Str)∈ss:=t.pm.mem_iff.mpr ((jc _).mpr (.inl rfl));refine{_,rfl,_,rfl,λx u nx G nex=>?_};have sm:a7 r (upd (upd r u (.own x)) x (.ins L.aj u [])):=fo nx G;refine{x,u,y,many,n,g,bw,ss,ls,rfl,a6,t.same sm,w1,by lia,D,q.nd,g2,by lia,by lia,v,λI p la ll f0 f J ks hs ws M b V k2 x2 P2 r2 l2 hL O hP W0 hB=>{rfl,?_},?_,?_}
 .have X:a7 r V:=λc o e=>k2 _ _ (sm _ _ e) (af e nx);refine{_,rfl,k _ V (C.trans X) (.inr {x,rfl,y,ss,ls,f0,f,J,ks,hs,ws,M,b,t.same X,{u,p,la,ll,x2,P2.same (cf _ _),bM.same (cf _ _) _ _ r2,bM.same (cf _ _) _ _ l2},I,hL,O,hP,W0,hB})}
 .exact λk' d' R _ S _ _=>{.inl rfl,_,rfl,k .non R (C.trans (sm.trans S)) (.inl rfl)}
 .exact λ_ _ R S=>{.inr rfl,_,rfl,k .non R (C.trans (sm.trans S)) (.inl rfl)}
theorem i6(L:Lk K mg):aS P w K mg base cP 1 L.sL L.sW ["_law_script","_law_place"] (Qa K):=by
 have T:=L.T;refine L.gN.F.d7 (N:=["_law_script","_law_place"]) (λb A outer s H e Q E nd f h=>?_);obtain⟨a,ns,p,rfl,c,k⟩:=h;refine{_,(a9 (aw (aU (mc rfl) (by rfl) T.sum Es (aK (bK hX (pv 0) (bg (pv 1)) (bg (aC bu (pv 1) aq))))))),?_}
 ac_rfl
 refine{_,rfl,_,rfl,_,rfl,_,rfl,_,_,rfl,rfl,_,rfl,a,_,rfl,c,λl hl=>?_};obtain⟨d,em,_⟩:=uM ns (some p) (some (p+1));rw[em];exact{l,d,rfl,aL.of a6,k _ _ (a7.upd hl)}
theorem ng(L:Lk K mg):aS P w K mg base cP 1 L.nQ L.nZ ["_law_cell","_law_many"] Hq:=by
 have T:=L.T;refine L.jh.F.d7 (N:=["_law_cell","_law_many","_law_found","_law_one","_law_turn","_law_two","_law_more"]) (λx A outer s H C Q E nd D h=>?_);obtain⟨c,m,rfl,G,k⟩:=h
 refine{_,(a5 (ai (i:=2) (cA eC))
  (a5 (ai (i:=3) (aC uW (pv 0) aq))
  (a5 (b6 (cu rJ (aC cN (pv 0) aq) aq) (a5 (forA (bZ rfl T.range (aK (pv 1))) (ax (i:=4)) (a5 (b8 (hF waN waU waY cL (pv 2) (aK (aC cN (pv 3) aq))))
  (a9 (ai (i:=3) (aC uW (pv 3) aq)))))
  (a9 (aw (pv 2)))) aG)
  (a5 (ai (i:=5) (aC cN (aC uW (pv 3) aq) aq))
  (a5 (ai (i:=3) (aC cN (pv 3) aq))
  (a5 (forA (bZ rfl T.range (aK (aC bu (pv 1) aq))) (ax (i:=4)) (a5 (ai (i:=6) (aC bu (aC bu (aC bu (aC dW (pv 3) aq) (aC dW (pv 5) (pv 5))) (aC dW aq (pv 4))) aq))
  (a5 (ai (i:=3) (pv 5))
  (a5 (ai (i:=5) (aC cN (pv 6) aq))
  (a9 (b8 (hF waN waU waY cL (pv 2) (aK (pv 5)))))))))
  (a9 (aw (bK hX (pv 2) (bg aq) f5))))))))),?_}
 ac_rfl
 refine{waz _,λl hl=>?_};have t:a7 H (upd H l (.lst [])):=a7.upd hl;have app:∀{f:Hp} {d:List Int} {v:Int},a7 H f->f l=some (.lst (d.map V.int))->a7 H (upd f l (.lst (d.map V.int++[.int v])))/\(upd f l (.lst (d.map V.int++[.int v]))) l=some (.lst ((d++[v]).map V.int)):=λ{f d v} j g=>{λb I e=>by rw[ae (af e hl)];exact j _ _ e,by rw[a6,wai];rfl};refine{_,rfl,_,_,rfl,rfl,{⋯,∅},?_};refine{_,rfl,_,_,rfl,rfl,(by show (0:Int)<2;decide),rfl,_,rfl,uz (λ_=>?_) (λ_=>?_)}
 .refine{_,rfl,(m:Int),rfl,by lia,by lia,?_};rw[waA];refine cw (lo:=0) (n:=m) (λi σ f=>∃(one:Int) (d:List Int) (v4:Option V),σ=[some (.int c),some (.int (m:Int)),some (.ref l),some (.int one),v4,none,none]/\a7 H f/\f l=some (.lst (d.map V.int))/\d.length=i) {_,[],none,rfl,t,a6,rfl} ?_ ?_
  .rintro i σ f hi ⟨one,d,v4,rfl,j,g,o⟩;refine{_,rfl,.inl {rfl,_,aL.of g},_,rfl,_,_,rfl,rfl,(by show (0:Int)<1999999973;decide),l,_,_,rfl,rfl,g,by rw[wa0];exact bE (by lia),?_};exact{_,rfl,_,_,rfl,rfl,{⋯,∅},_,d++[one%1999999973],_,rfl,(app j g).1,(app j g).2,by rw[wa5,o];rfl}
  .rintro σ f ⟨one,d,v4,rfl,j,g,o⟩;exact{_,rfl,k l d f j hl g o}
 .refine{_,rfl,_,_,rfl,rfl,{⋯,∅},_,_,rfl,rfl,(by show (0:Int)<1999999943;decide),?_};have q:=wb9 (c/2/1999999973) (show (1999999943:Int)≠0 by decide);have u:=wb4 (c/2/1999999973) (show (0:Int)<1999999943 by decide);refine{_,rfl,_,_,rfl,rfl,(by show (0:Int)<1999999973;decide),?_};refine{_,rfl,_,_,rfl,rfl,_,rfl,by lia,by lia,?_};rw[show ((m:Int)+2).toNat=m+2 by lia];refine cw (lo:=0) (n:=m+2) (λi σ f=>∃(one a:Int) (d:List Int) (v4 v6:Option V),σ=[some (.int c),some (.int (m:Int)),some (.ref l),some (.int one),v4,some (.int a),v6]/\0<=a/\a<2000000000/\a7 H f/\f l=some (.lst (d.map V.int))/\d.length=i) {c/2%1999999973,c/2/1999999973%1999999943,[],none,none,rfl,q,by lia,t,a6,rfl} ?_ ?_
  .rintro i σ f hi ⟨one,a,d,v4,v6,rfl,q,u,j,g,o⟩;refine{_,rfl,_,_,rfl,rfl,.inr {⋯,⋯},_,rfl,_,rfl,_,_,rfl,rfl,.inl {by lia,by lia},_,_,rfl,rfl,_,rfl,_,_,rfl,rfl,.inl {⋯,⋯},_,_,rfl,rfl,_,_,rfl,rfl,?_};refine{_,rfl,?_};refine{_,rfl,_,_,rfl,rfl,(by show (0:Int)<1999999973;decide),?_};have y:=wb9 (one*1664525+a*a+97*(0+(i:Int))+40503) (show (1999999973:Int)≠0 by decide);have J:=wb4 (one*1664525+a*a+97*(0+(i:Int))+40503) (show (0:Int)<1999999973 by decide);refine{_,rfl,.inl {rfl,_,aL.of g},_,rfl,l,_,_,rfl,rfl,g,by rw[wa0];exact wbi (m:=2000) (by lia) (by rw[wc4];decide),?_};exact{_,_,d++[(one*1664525+a*a+97*(0+(i:Int))+40503)%1999999973],_,_,rfl,y,by lia,(app j g).1,(app j g).2,by rw[wa5,o];rfl}
  .rintro σ f ⟨one,a,d,v4,v6,rfl,q,u,j,g,o⟩;refine{_,rfl,_,rfl,l,_,rfl,aL.of g,λz p=>?_};have B:=Al (d.map V.int) 2;have r:lW (d.map V.int) (some 2) none=(d.drop 2).map V.int:=by rw[wek];exact B
   rw[r];exact k z (d.drop 2) _ (j.trans (a7.upd p)) (none_of j p) a6 (by rw[wb3];lia)
theorem Rg:∀st:Fin 36,∀sp∈[1,5,7,11,13,35],∀n∈[2,3,4],((md st sp n).Nodup/\∀c∈md st sp n,c∈ch fI):=∅
theorem Be{st sp n:Nat}{x:Str}(j:st<36)(hs:sp∈[1,5,7,11,13,35])(hn:n∈[2,3,4])(g:ch x=md st sp n):A2 x:=by
 obtain⟨a,b⟩:=Rg ⟨st,j⟩ sp hs n hn;have hl:x.length=n:=by grind [aN,md,wa0]
 have c:n=2\/n=3\/n=4:=by simpa using hn
 exact{by lia,by lia,by rw[g];exact a,by rw[g];exact b}
theorem NY:∀d:Int,0<=d->d<8->∃n:Nat,uq ([.int 2,.int 2,.int 2,.int 3,.int 2,.int 4,.int 2,.int 3]:List V) d=some (.int (n:Int))/\n∈[2,3,4]:=under 8 λk=>{[2,2,2,3,2,4,2,3].getD k.val 0,by revert k;decide,by revert k;decide}
theorem NZ:∀d:Int,0<=d->d<6->∃n:Nat,uq ([.int 1,.int 5,.int 7,.int 11,.int 13,.int 35]:List V) d=some (.int (n:Int))/\n∈[1,5,7,11,13,35]:=under 6 λk=>{[1,5,7,11,13,35].getD k.val 0,by revert k;decide,by revert k;decide}
theorem O0:∀d:Int,0<=d->d<8->∃n:Nat,uq ([.int 0,.int 1,.int 2,.int 3,.int 1,.int 2,.int 3,.int 6]:List V) d=some (.int (n:Int))/\n<=6:=under 8 λk=>{[0,1,2,3,1,2,3,6].getD k.val 0,by revert k;decide,by revert k;decide}
theorem O1:∀d:Int,0<=d->d<8->∃n:Nat,uq ([.int 2,.int 3,.int 4,.int 2,.int 3,.int 4,.int 1,.int 5]:List V) d=some (.int (n:Int))/\1<=n/\n<=5:=under 8 λk=>{[2,3,4,2,3,4,1,5].getD k.val 0,by revert k;decide,by revert k;decide}
theorem L4{xs:List Int}(h:xs.length=4):∃a b c d,xs=[a,b,c,d]:=by
 match xs,h with
 |[a,b,c,d],_=>exact⟨a,b,c,d,rfl⟩
theorem zB(L:Lk K mg):aS P w K mg base cP 2 L.sM L.sX ["_law_script"] (K9 K):=by
 have T:=L.T;refine L.t9.F.d7 (N:=["_law_script","_law_known","_law_xs","_law_size","_law_step","_law_signs","_law_words","_law_k","_law_ys","_law_long"]) (λgG A outer s H vs Q E nd hr h=>?_);obtain⟨a,ns,rfl,hS,k⟩:=h
 refine{_,(a5 (ai (i:=1) eB)
  (a5 (ai (i:=2) (au (ng L) L.jh (a8 (au (i6 L) L.gN (a8 (pv 0) (aK aq))) (aK aq))))
  (a5 (ai (i:=3) (bc bD (cA (pf (is:=[2,2,2,3,2,4,2,3]) ∅)) (aC cN (bc bD (pv 2) aq (λ_ _=>rfl)) aq) (λ_ _=>rfl)))
  (a5 (ai (i:=4) (bc bD (cA (pf (is:=[1,5,7,11,13,35]) ∅)) (aC cN (bc bD (pv 2) aq (λ_ _=>rfl)) aq) (λ_ _=>rfl)))
  (a5 (ai (i:=5) (hF wej wgD wgE Dg eB (aK (cG rfl (ay ["_law_known","_law_xs","_law_step"] [1,2,4]) (bZ rfl T.range (aK (pv 3))) (λ_ _ _ _ _ _=>bj) (λ_ _ _ _ _ _=>(bc yB (pv 1) (aC cN (aC bu (bc (gH (K:=K) rfl) (pv 2) aq (λ_ _=>rfl)) (aC dW (pv 3) (pv 0))) aq) (λ_ _=>rfl)))))))
  (a5 (ai (i:=6) (cA eC))
  (a5 (forA (bZ rfl T.range (aK (bc bD (cA (pf (is:=[0,1,2,3,1,2,3,6]) ∅)) (aC cN (bc bD (pv 2) aq (λ_ _=>rfl)) aq) (λ_ _=>rfl)))) (ax (i:=7)) (a5 (ai (i:=8) (bK hX (au (ng L) L.jh (a8 (au (i6 L) L.gN (a8 (pv 0) (aK (aC bu aq (aC cN (pv 7) aq))))) (aK aq))) (bg (aC dW (aC iN (pv 7) aq) aq)) f5))
  (a5 (ai (i:=9) (bc bD (cA (pf (is:=[2,3,4,2,3,4,1,5]) ∅)) (aC cN (bc bD (pv 8) aq (λ_ _=>rfl)) aq) (λ_ _=>rfl)))
  (a9 (b8 (hF waN waU waY cL (pv 6) (aK (hF wej wgD wgE Dg eB (aK (cG rfl (ay ["_law_signs","_law_size"] [5,3]) (aQ (bK hX (pv 8) (bg aq) (bg (aC bu aq (pv 9))))) (λ_ _ _ _ _ _=>bj) (λ_ _ _ _ _ _=>(bc yB (pv 1) (aC cN (pv 0) (pv 2)) (λ_ _=>rfl)))))))))))))
  (a9 (aw (dX (a8 (pv 5) (aK (pv 6))))))))))))),?_}
 ac_rfl
 refine{_,rfl,a,ns,0,rfl,hS,λc1 H1 s1=>?_};refine{c1,4,rfl,⋯,λlx xs H2 s2 fx h2 hx=>?_};obtain⟨x0,x1,x2,x3,rfl⟩:=L4 hx;clear hx;have Ow:=s1.trans s2;obtain⟨n,hn,n1⟩:=NY _ (wb9 x0 (show (8:Int)≠0 by decide)) (wb4 x0 (show (0:Int)<8 by decide));refine{⋯,λp hp=>?_};have G:=a7.upd (o:=.lst [.int 2,.int 2,.int 2,.int 3,.int 2,.int 4,.int 2,.int 3]) hp _ _ h2;have zi:=Ow.trans (a7.upd (o:=.lst [.int 2,.int 2,.int 2,.int 3,.int 2,.int 4,.int 2,.int 3]) hp);refine{_,rfl,lx,_,0,_,rfl,rfl,aL.of G,rfl,_,_,rfl,rfl,(by show (0:Int)<8;decide),p,_,_,_,rfl,rfl,aL.of a6,hn,?_};generalize upd H2 p _=H3 at G zi;obtain⟨sp,WY,Xh⟩:=NZ _ (wb9 x2 (show (6:Int)≠0 by decide)) (wb4 x2 (show (0:Int)<6 by decide));refine{⋯,λp2 QU=>?_};have f:=a7.upd (o:=.lst [.int 1,.int 5,.int 7,.int 11,.int 13,.int 35]) QU _ _ G;have Sh:=zi.trans (a7.upd (o:=.lst [.int 1,.int 5,.int 7,.int 11,.int 13,.int 35]) QU);refine{_,rfl,lx,_,2,_,rfl,rfl,aL.of f,rfl,_,_,rfl,rfl,(by show (0:Int)<6;decide),p2,_,_,_,rfl,rfl,aL.of a6,WY,?_};generalize upd H3 p2 _=H4 at f Sh
 have Xi:sp<=35:=by
  simp only[waK,wc0,or_false]at Xh
  lia
 have hn4:n<=4:=by
  simp only[waK,wc0,or_false]at n1
  lia
 obtain⟨st,est⟩:∃st:Nat,x1%36=(st:Int):={(x1%36).toNat,by lia};have hst:st<36:=by lia
 refine{rfl,_,rfl,(n:Int),rfl,by lia,by lia,λl hl=>?_};rw[waA];refine comp_map (K4 st sp) (k8 0 n) hl (by rw[wa0,waC];exact ao (by lia)) (λ_ _=>trivial) (λx H5 Q' hx s5 q=>?_) (λH5 s5 m=>?_)
 .obtain⟨i,hi,rfl⟩:=wab.mp hx;have hi':i<n:=wb0.mp hi;have hd:(st+i*sp)%36<(ch fI).length:=by rw[aN,A3];exact Nat.mod_lt _ ⋯
  have e1:(ch fI)[(st+i*sp)%36]?=some ((ch fI).getD ((st+i*sp)%36) 0):=by rw[wa3,wa1 hd];rfl
  have e2:=bC e1
  have e3:(((st+i*sp)%36:Nat):Int)=(x1+(sp:Int)*(0+(i:Int)))%36:=by
   rw[wbN,wd0 (sp:Int),Int.natCast_emod,wbz,waT,<-est];show (x1%36+(i:Int)*(sp:Int))%36=_;rw[Int.emod_add_emod]
  rw[e3]at e2
  have e4:K4 st sp (.int (0+(i:Int)))=.str {#[(ch fI).getD ((st+i*sp)%36) 0]}:=by
   rw[wbN];rfl
  have q':=q H5 (a7.refl _);rw[e4]at q';exact{_,rfl,_,rfl,lx,_,1,_,rfl,rfl,aL.of (s5 _ _ f),rfl,_,rfl,_,rfl,_,_,rfl,rfl,.inl {by lia,by lia},_,_,rfl,rfl,_,_,rfl,rfl,(by show (0:Int)<36;decide),fI,_,_,rfl,rfl,ao (by rw[A3];decide),e2,q'}
 have Xj:((wao n).map λ(i:Nat)=>V.int (0+(i:Int))).map (K4 st sp)=((md st sp n).map λc=>({#[c]}:Str)).map V.str:=by
  unfold md;rw[waf,waf,waf];refine waZ λi _=>?_;show K4 st sp (.int (0+(i:Int)))=_;rw[wbN];rfl
 have d:(md st sp n).length=n:=by unfold md;rw[wa0,waC]
 rw[Xj]at m;refine{_,l,_,rfl,rfl,aL.of m,?_,?_}
 .have u:∀r:List Nat,((r.map λc=>({#[c]}:Str)).map (·.length)).sum=r.length:=by
   intro r
   induction r with
   |nil=>rfl
   |cons c r ih=>rw[wau,wau,wbv,ih,waH];show 1+r.length=_;lia
  rw[u,wa0,d];show n+n*0<=16777216
  lia
 have I:∀r:List Nat,((r.map λc=>({#[c]}:Str)).map ch).flatten=r:=by
  intro r
  induction r with
  |nil=>rfl
  |cons c r ih=>rw[wau,wau,wc6,ih];rfl
 have Xk:=Be hst Xh n1 (x:=wdB "" ((md st sp n).map λc=>({#[c]}:Str))) (by rw[qM ∅,I]);have DM:(wdB "" ((md st sp n).map λc=>({#[c]}:Str))).length=n:=by rw[<-aN,qM ∅,I,d]
 generalize wdB "" ((md st sp n).map λc=>({#[c]}:Str))=g at Xk DM ⊢;clear m Xj d I;have Rh:=Sh.trans s5;have h5x:=s5 _ _ f;obtain⟨nw,hnw,nw6⟩:=O0 _ (wb9 x3 (show (8:Int)≠0 by decide)) (wb4 x3 (show (0:Int)<8 by decide));refine{waz _,λJ M=>?_};have fw:H J=none:=none_of Rh M;have h6x:=a7.upd (o:=.lst []) M _ _ h5x;have Qu:=Rh.trans (a7.upd (o:=.lst []) M);refine{⋯,λp3 O=>?_};have Xl:=a7.upd (o:=.lst [.int 0,.int 1,.int 2,.int 3,.int 1,.int 2,.int 3,.int 6]) O _ _ h6x;have Xm:=a7.upd (o:=.lst [.int 0,.int 1,.int 2,.int 3,.int 1,.int 2,.int 3,.int 6]) O _ _ (a6 (H:=H5) (a:=J) (o:=.lst []));have Xn:=Qu.trans (a7.upd (o:=.lst [.int 0,.int 1,.int 2,.int 3,.int 1,.int 2,.int 3,.int 6]) O);refine{_,rfl,lx,_,3,_,rfl,rfl,aL.of Xl,rfl,_,_,rfl,rfl,(by show (0:Int)<8;decide),p3,_,_,_,rfl,rfl,aL.of a6,hnw,?_};generalize upd (upd H5 J _) p3 _=H7 at Xl Xm Xn;refine{_,rfl,by lia,by lia,?_};rw[waA]
 refine cw (lo:=0) (n:=nw) (λi σ H8=>∃(R:List Str) (v7 v8 v9:Option V),σ=[some (.ref a),some (.str fI),some (.ref lx),some (.int (n:Int)),some (.int (sp:Int)),some (.str g),some (.ref J),v7,v8,v9]/\a7 H H8/\H8 J=some (.lst (R.map V.str))/\R.length=i/\∀w∈R,yO g w)
  {[],none,none,none,rfl,Xn,Xm,rfl,(λw h=>nomatch h)} ?_ ?_
 .rintro i σ H8 hi ⟨R,v7,v8,v9,rfl,s8,h8,A5,S⟩;refine{_,rfl,_,rfl,_,_,rfl,rfl,(by show (0:Int)<3;decide),_,_,rfl,rfl,a,ns,_,rfl,s8.seq hS,λcc H9 s9=>?_};refine{cc,12,rfl,⋯,λly ys Ov Fp fy Iy hy=>?_};have hq:(0+(i:Int))/3*6=((i/3*6:Nat):Int):=by lia
  have hq6:i/3*6<=6:=by lia
  refine{_,rfl,_,_,rfl,rfl,{⋯,⋯},_,_,rfl,rfl,.inr {⋯,⋯},_,rfl,ly,_,rfl,aL.of Iy,λl2 m=>?_}
  have ec:lW (ys.map V.int) (some ((0+(i:Int))/3*6)) none=(ys.drop (i/3*6)).map V.int:=by
   rw[wek,hq];exact Al _ _
  rw[ec];have U:(ys.drop (i/3*6)).length ≥ 6:=by rw[wb3];lia
  generalize ys.drop (i/3*6)=zs at U;have B:(upd Ov l2 (.lst (zs.map V.int))) l2=some (.lst (zs.map V.int)):=a6;have Je:=((s8.trans s9).trans Fp).trans (a7.upd (o:=.lst (zs.map V.int)) m);have QH:=a7.upd (o:=.lst (zs.map V.int)) m _ _ (Fp _ _ (s9 _ _ h8));generalize upd Ov l2 _=FU at B Je QH
  obtain⟨C,D,rfl⟩:∃C D,zs=C::D:=by
   cases zs with
   |nil=>exact absurd U ⋯
   |cons C D=>exact⟨C,D,rfl⟩
  obtain⟨lg,hlg,lg1,lg5⟩:=O1 _ (wb9 C (show (8:Int)≠0 by decide)) (wb4 C (show (0:Int)<8 by decide));refine{⋯,λp4 X=>?_};have v:=a7.upd (o:=.lst [.int 2,.int 3,.int 4,.int 2,.int 3,.int 4,.int 1,.int 5]) X _ _ B;have KG:=Je.trans (a7.upd (o:=.lst [.int 2,.int 3,.int 4,.int 2,.int 3,.int 4,.int 1,.int 5]) X);have Y:=a7.upd (o:=.lst [.int 2,.int 3,.int 4,.int 2,.int 3,.int 4,.int 1,.int 5]) X _ _ QH;refine{_,rfl,l2,_,0,_,rfl,rfl,aL.of v,(bC (xs:=(C::D).map V.int) (j:=0) rfl),_,_,rfl,rfl,(by show (0:Int)<8;decide),p4,_,_,_,rfl,rfl,aL.of a6,hlg,?_};generalize upd FU p4 _=Io at v KG Y;refine{_,rfl,.inl {rfl,_,aL.of Y},rfl,_,rfl,?_};refine{_,rfl,_,rfl,_,_,rfl,rfl,_,rfl,l2,_,rfl,aL.of v,λl3 JD=>?_}
  obtain⟨ms,em,Uu⟩:∃ms:List Int,lW ((C::D).map V.int) (some 1) (some (1+(lg:Int)))=ms.map V.int/\ms.length=lg:=by
   refine{D.take lg,?_,by rw[wag];rw[waH]at U;lia};rw[show (1+(lg:Int))=((1+lg:Nat):Int) by lia,show (1:Int)=((1:Nat):Int) from rfl,K8 _ (by lia),wdH];show (((D.map V.int).take (1+lg-1)))=_;rw[wcC]
  rw[em];have s13:=KG.trans (a7.upd (o:=.lst (ms.map V.int)) JD);have LQ:=a7.upd (o:=.lst (ms.map V.int)) JD _ _ Y;refine{l3,rfl,{_,aL.of a6},λlc KD=>?_}
  have Xo:0<(n:Int):=by
   simp only[waK,wc0,or_false]at n1
   lia
  refine GL (λy=>∃t,y=.str t/\∃cc,t={#[cc]}/\cc∈ch g) (aR K l3 (ms.map V.int)) KD (by rw[wa0];exact ao (by lia)) (λH' s'=>s'.seq (aL.of a6)) (λx LX Q' hx Z q=>?_) (λus LX Z d hR h14=>?_)
  .obtain⟨y,hy,rfl⟩:=wab.mp hx;have y0:=wb9 y (show (n:Int)≠0 by lia);have y1:=wb4 y Xo;obtain⟨dd,edd⟩:∃dd:Nat,y%(n:Int)=(dd:Int):={(y%(n:Int)).toNat,by lia};have hd:dd<(ch g).length:=by rw[aN];lia
   have e1:(ch g)[dd]?=some (ch g)[dd]:=by simp[hd]
   have e2:=bC e1;rw[<-edd]at e2;exact{_,rfl,_,rfl,_,rfl,_,_,rfl,rfl,Xo,g,_,_,rfl,rfl,ao (by lia),e2,q _ LX {_,rfl,_,rfl,waL hd} (a7.refl _)}
  obtain⟨ts,rfl,Ri⟩:=Dj hR;rw[wa0,wa0]at d;have u:=Ae Ri;refine{_,lc,ts,rfl,rfl,aL.of h14,?_,?_}
  .rw[u];show ts.length+ts.length*0<=16777216
   lia
  have Xp:yO g (wdB "" ts):=Eg ∅ (by lia) (by lia) Ri;generalize wdB "" ts=wd at Xp;have s15:=s13.trans Z;have Oz:=Z _ _ LQ;refine{J,_,_,rfl,rfl,Oz,by rw[wa0];exact bE (by lia),?_};refine{R++[wd],_,_,_,rfl,λb o e=>?_,?_,by simp[A5],λw hw=>?_}
  .rw[ae (af e fw)];exact s15 _ _ e
  .rw[a6,wai];rfl
  .rcases waD.mp hw with z |z
   .exact S w z
   .rw[wap.mp z];exact Xp
 .rintro σ H8 ⟨R,v7,v8,v9,rfl,s8,h8,A5,S⟩;refine{_,rfl,_,rfl,by show 2<=sizeLine;decide,λq hq=>?_};exact k q J g R _ (s8.trans (a7.upd hq)) (none_of s8 hq) fw a6 (a7.upd hq _ _ h8) Xk (by lia) S
theorem J5{n:Nat}{many wide:Int}(r:2<=n)(l:n<=4)(p:2<=many)(m8:many<=8)(g:1<=wide)(j:wide<=6)(h:2<n->wide<=3):gq n many wide:=by
 have key:∀(m:Fin 5) (k:Fin 7),(2<m.val->k.val<=3)->(m.val:Int)^k.val<=64:=⋯;obtain⟨k,rfl⟩:=wfU (we4 ⋯ g);exact{p,m8,g,j,key {n,whA l} {k,whA (Int.ofNat_le.mp j)} λz=>Int.ofNat_le.mp (h z)}
noncomputable def Vc:List (Int×Int):=[(2,2),(2,3),(4,3),(3,3),(2,4),(3,2),(5,3),(8,5),(2,1),(6,4),(7,5),(7,6)]
theorem O2:∀d:Int,0<=d->d<12->∃p,Vc[d.toNat]?=some p/\2<=p.1/\p.1<=8/\1<=p.2/\p.2<=6:=under 12 λk=>{Vc.getD k.val (0,0),by revert k;decide}
theorem J6{X:Cx}{x:Str}{i:Nat}{g:List Expr}{ps:List (Int×Int)}{rest:List Stmt}{b:TS}{j l p:Pos}(r:X.N.Nodup)(hi:X.N[i]?=some x)(t:Loc X.env.scope x)(C:∀X,PA X g (uX ps))(I:tR X rest b)
 (hs:wc7 (.List g l) (some (.Name x j)) p.line X.env=pure false:=by rfl) (J:X.fn x=true\/X.env.scope.names.lookup x=some .local:=by first |exact .inl rfl |exact .inr rfl |assumption) :
 tR X (.Assign [.Name x j] (.List g l) p::rest) (Ml (Jk (P8 (uX ps)) (bN i)) b):=a5 (G5 (i:=i) r hi t (cA (C _)) hs J) I
theorem zC(L:Lk K mg):aS P w K mg base cP 2 L.sN L.sY ["_law_script","_law_signs"] (Ka K):=by
 have T:=L.T;refine L.tf.F.d7 (N:=["_law_script","_law_signs","_law_some","_law_many","_law_wide"]) (λV A outer s H vs Q E nd hr h=>?_);obtain⟨a,ns,g,rfl,Y,u,v,k⟩:=h;obtain⟨x,l,y,B,Z,C,D⟩:∃(x:Pos) (l:List Expr) (y B:Pos),cg (top 87)=.Assign [.Name "_law_some" x] (.List l y) B::(cg (top 87)).tail/\(∀X,PA X l (uX Vc))/\∀env,wc7 (.List l y) (some (.Name "_law_some" x)) B.line env=pure false:={_,_,_,_,rfl,λ_=>by repeat first |exact eC |refine Kc ?_,λ_=>rfl};rw[Z]
 refine{_,(J6 (i:=2) nd rfl (wdW rfl) C (a5 (ug (bc bD (pv 2) (aC cN (au (i6 L) L.gN (a8 (pv 0) (aK aq))) aq) (λ_ _=>rfl)) (dU rfl (aP (ax (i:=3)) (aP (ax (i:=4)) cQ))))
  (Dm (b6 (cu lV (sC T.len (pv 1)) aq) (a9 (ai (i:=4) (aU (qH rfl) (by rfl) T.min JW (a8 (pv 4) (aK aq))))) aG)
  (a9 (aw (dX (a8 (pv 3) (aK (pv 4)))))))) (D _)),?_}
 ac_rfl
 refine Du λe G I hl hI=>{hl ▸ (by show 12<=sizeLine;decide),λb f=>?_};have d:=I.trans (a7.upd (o:=.lst G) f);have M:=a6 (H:=e) (a:=b) (o:=.lst G);have O:=a7.upd (o:=.lst G) f;generalize upd e b _=G12 at d M O;refine{_,rfl,_,rfl,a,ns,4,rfl,d.seq Y,λc H2 J=>?_};have R:=wb9 c (show (12:Int)≠0 by decide);obtain⟨⟨many,wide⟩,m,m2,m8,n,r⟩:=O2 _ R (wb4 c (show (0:Int)<12 by decide));obtain⟨q,t,hm⟩:=hI _ _ m;have t:=bC t;rw[wh4 R]at t;have j:=d.trans J;refine{_,_,rfl,rfl,(by show (0:Int)<12;decide),b,_,_,_,rfl,rfl,aL.of (J _ _ M),t,q,_,rfl,gA.of (J _ _ (O _ _ hm)),rfl,_,_,rfl,_,_,rfl,rfl,?_};refine{λσ S=>S=H2/\∃(wd:Int),σ=[some (.ref a),some (.str g),some (.ref b),some (.int many),some (.int wd)]/\1<=wd/\wd<=6/\(2<g.length->wd<=3),?_,?_}
 .refine{_,rfl,g,rfl,ao (by lia),_,_,rfl,rfl,_,rfl,uz (λU=>?_) (λU=>?_)}
  .refine{_,rfl,wide,3,rfl,?_}
   by_cases z:(3:Int)<wide
   .rw[if_pos z];exact{rfl,3,rfl,⋯,⋯,λ_=>weZ _}
   .rw[if_neg z];exact{rfl,wide,rfl,n,r,λ_=>by lia}
  .exact{rfl,wide,rfl,n,r,λz=>absurd (decide_eq_true (by lia)) U}
 .rintro σ S ⟨rfl,wd,rfl,n,r,w3⟩;refine{_,rfl,_,rfl,by show 2<=sizeLine;decide,λp m=>?_};exact k p many wd _ (j.trans (a7.upd m)) (none_of j m) a6 (J5 u v m2 m8 n r w3)
theorem O3{g x:Str}{j c:Nat}(l:j<x.length)(p:∀d∈ch x,d∈ch g)(hc:c∈ch g):((waI x none (some (j:Int))++{#[c]})++waI x (some ((j:Int)+1)) none).length=x.length/\∀d∈ch ((waI x none (some (j:Int))++{#[c]})++waI x (some ((j:Int)+1)) none),d∈ch g:=by
 have e:ch ((waI x none (some (j:Int))++{#[c]})++waI x (some ((j:Int)+1)) none)=(ch x).set j c:=by
  rw[aT,aT,m6,show ((j:Int)+1)=((j+1:Nat):Int) from rfl,gm,wei,if_pos (by rw[aN];exact l),waM];rfl
 refine{by rw[<-aN,e,wc8,aN],λd hd=>?_};rw[e]at hd;rcases wcs hd with h |h
 .exact p d h
 .rw[h];exact hc
noncomputable abbrev J7(R:Wr)(a lw x ld z:Addr)(row:Str)(v9 v10 v11 LY LZ M0 M3 M4 M5:Option V):St:=[some (.ref a),some (.str R.g),some (.ref lw),some (.int R.many),some (.int (R.n:Int)),some (.ref x),some (.ref ld),some (.ref z),some (.str row),v9,v10,v11,LY,LZ,M0,M3,M4,M5,none,none]
inductive Rj(R:Wr)(row:Str)(m n:Nat)(H:Hp)(tl:List Nat)(lt:Addr)(sp:Str):Prop
 |mk (_:H lt=some (.lst ((nI tl).map V.int))) (_:tl.length<=n*3000) (_:sp.length=row.length) (_:∀d∈ch sp,d∈ch R.g) (_:∀k,k<m->k∉tl->wo R sp k=wo R row k)
inductive O4(R:Wr)(a lw x ld z:Addr)(row:Str)(m n:Nat)(KM:Hp)(i:Nat)(σ:St)(LX:Hp):Prop
 |mk (_:i<=n) (_:a7 KM LX) (tl lt sp v11 LY LZ M0 M3 M4 M5) (_:σ=J7 R a lw x ld z row (some (.ref lt)) (some (.str sp)) v11 LY LZ M0 M3 M4 M5) (_:Rj R row m i LX tl lt sp)
theorem O4.s(q:O4 R a l x ld z row m n g i σ j):a7 g j:=by
 obtain⟨_,h,_⟩:=q;exact h
inductive Vd(R:Wr)(a lw x ld z:Addr)(row:Str)(m i:Nat)(cc:Int)(M5:Option V)(KM:Hp)(σ:St)(Rk:Hp):Prop
 |mk (tl lt sp LY LZ M0 M3 M4) (_:σ=J7 R a lw x ld z row (some (.ref lt)) (some (.str sp)) (some (.int cc)) LY LZ M0 M3 M4 M5) (_:a7 KM Rk) (_:Rj R row m (i+1) Rk tl lt sp)
theorem O5{f:Addr}{fd:wb6}(L:Lk K mg)(F:zV K "law" "law" (top 93) f fd):aS P w K mg base cP 13 f fd ["_law_script"] (Dl K):=by
 have T:=L.T;refine F.d7 (N:=["_law_script","_law_signs","_law_words","_law_many","_law_wide","_law_told_here","_law_data","_law_reader","_law_row","_law_touched_here","_law_spoilt","_law_cell","_law_number","_law_at","_law_step","_law_sign","_law_some","_law_found","_law_first","_law_held"]) (λgG A outer s H vs Q E nd hr h=>?_);obtain⟨a,ns,rfl,hS,hlen,k⟩:=h;have Oj:(A.deeper (wcc "law" (aH (top 93)) s.heap.objs.size f gG)).units<wcp:=hr.oj
 refine{_,(a5 (ug (au (zB L) L.t9 (aK (pv 0))) (dU rfl (aP (ax (i:=1)) (aP (ax (i:=2)) cQ))))
  (a5 (ug (au (zC L) L.tf (a8 (pv 0) (aK (pv 1)))) (dU rfl (aP (ax (i:=3)) (aP (ax (i:=4)) cQ))))
  (a5 (ai (i:=5) (au (zA L) L.tj (a8 (pv 1) (a8 (pv 2) (a8 (pv 3) (aK (pv 4)))))))
  (a5 (b6 (cu yx (pv 5) dn) (a9 (aw dZ)) aG)
  (a5 (du (i:=6) rfl (ay ["_law_many"] [3]) nd rfl rfl (aQ (bK hX (pv 0) (bg aq) (bg aq))) (λ_ _ _ _ _ _=>bj) (λ_ _ _ _ _ _=>(aC cN (pv 0) (pv 1))))
  (a5 (ai (i:=7) (nh L.Fe (oP L) (hr.mono ⋯) rfl L.Ie L.j4.b .nil p5 (aK (pv 5))))
  (a5 (ai (i:=8) (sD (pv 5) L.ag.cl L.n0 (tO L) (aK (bp cW (by rfl) T.list fJ (aK (pv 6))))))
  (a5 (ai (i:=9) (cA eC))
  (a5 (ai (i:=10) (pv 8))
  (a5 (forA (aQ (bK hX (pv 0) (bg aq) (bg aq))) (ax (i:=11)) (Dm (b6 (cu zJ (pv 8) eB) (a5 (ai (i:=12) (aC cN (pv 11) aq))
  (a5 (ai (i:=13) (aC cN (pv 12) (sC T.len (pv 8))))
  (a5 (ai (i:=14) (aC bu aq (aC cN (aC iN (pv 12) (sC T.len (pv 8))) (aC gk (sC T.len (pv 1)) aq))))
  (a5 (ai (i:=15) (bc yB (pv 1) (aC cN (aC bu (hF wej wh1 PySem.F.type_str_index Ho (pv 1) (aK (bc yB (pv 10) (pv 13) (λ_ _=>rfl)))) (pv 14)) (sC T.len (pv 1))) (λ_ _=>rfl)))
  (a5 (ai (i:=10) (aC ia (aC ia (bK gP (pv 10) f5 (bg (pv 13))) (pv 15)) (bK gP (pv 10) (bg (aC bu (pv 13) aq)) f5)))
  (a5 (ai (i:=16) (au (lR L) L.iE (a8 (pv 7) (a8 (pv 5) (a8 (pv 4) (a8 (sC T.len (pv 8)) (a8 (zD T.len (pv 6)) (aK (pv 13)))))))))
  (a5 (b6 (cu yx (pv 16) dn) (a9 (aw dZ)) aG)
  (a9 (ai (i:=9) (aC Bu (pv 9) (pv 16))))))))))) aG)
  (a5 (ai (i:=17) (sD (pv 7) L.ak.cl L.gC (iK L) (aK (pv 10))))
  (a9 (b6 (PW.pt (fk (cS (bT (au (xc L) L.qo (a8 (pv 17) (a8 (pv 6) (a8 (pv 9) (aK (pv 3)))))))) (fF (cS (bT (au (oQ L) L.j3 (a8 (pv 7) (a8 (pv 5) (a8 (pv 4) (a8 (pv 10) (aK (pv 17)))))))))))) (a9 (aw dZ)) aG)))))
  (a5 (ai (i:=18) (sD (pv 7) L.ak.cl L.gC (iK L) (aK (pv 8))))
  (a5 (ai (i:=13) (aC cN (aC iN (au (i6 L) L.gN (a8 (pv 0) (aK aq))) aq) (aC bu (sC T.len (pv 8)) (pv 4))))
  (a5 (ai (i:=16) (au (lR L) L.iE (a8 (pv 7) (a8 (pv 5) (a8 (pv 4) (a8 (aC bu (sC T.len (pv 8)) (pv 4)) (a8 (aC bu (zD T.len (pv 6)) aq) (aK (pv 13)))))))))
  (a5 (b6 (cu yx (pv 16) dn) (a9 (aw dZ)) aG)
  (a5 (ai (i:=19) (bp cW (by rfl) T.list fJ (aK (pv 16))))
  (a5 (b8 (sD (pv 7) L.ak.cl L.gy (ja L) (a8 (aC bu (sC T.len (pv 8)) (pv 4)) (aK (aC gk (aC bu (sC T.len (pv 8)) (pv 4)) aq)))))
  (a5 (b8 (sD (pv 7) L.ak.cl L.gC (iK L) (aK (pv 10))))
  (a9 (aw (yv (hV (yK Oj) (pv 18) (pv 6) (oh _)) (yu (hV (yK Oj) (pv 16) (pv 19) (oh _))))))))))))))))))))))),?_}
 ac_rfl
 refine vA λR1 c1=>?_;refine{_,rfl,a,ns,rfl,hS,λpt lw g ws H1 s1 fpt flw hpt NA sg RP Ve=>?_};have g2:=sg.lo;have g4:=sg.hi;refine{pt,_,rfl,gA.of hpt,rfl,_,_,rfl,_,_,rfl,rfl,?_};refine c1 _ _ (vA λR2 c2=>?_);refine{_,rfl,_,rfl,a,ns,g,rfl,s1.seq hS,g2,g4,λpr many wide H2 s2 fpr UX Iw=>?_};refine{pr,_,rfl,gA.of UX,rfl,_,_,rfl,_,_,rfl,rfl,?_};refine c2 _ _ (vA λR3 c3=>?_);obtain⟨ra,rb,rc,rd,re⟩:=id Iw;obtain⟨wd,rfl⟩:∃w:Nat,wide=(w:Int):={wide.toNat,by lia};have Ow:=s1.trans s2;refine{_,rfl,_,rfl,_,rfl,_,rfl,g,lw,many,wd,ws,rfl,aL.of (s2 _ _ NA),sg,RP,Ve,Iw,λv H3 s3 hv=>?_};have zi:=Ow.trans s3;refine c3 _ _ (vA λR4 c4=>?_);rcases hv with rfl |⟨x,rfl,hT⟩
 .exact{_,rfl,rfl,true,rfl,eD (k H3)}
 refine{_,rfl,rfl,false,rfl,bx ?_};refine c4 _ _ (vA λR5 c5=>?_)
 obtain⟨R,Wv,rfl,rfl,rfl⟩:∃R:Wr,nB K L.aj L.aA L.aO H3 x R/\many=R.many/\wd=R.n/\g=R.g:=by
  obtain⟨xb,ss,ls,f0,f,qF,ks,hs,wss,lns,b,B,Wv,QK,hL,hle,hP,W0,hB⟩:=hT;exact{_,KU B Wv hP W0 hB sg.nd (λw h=>{(Ve w h).lo,by have:=(Ve w h).hi;lia}) (by lia) (by lia) (by lia) rb (by lia) (by lia),rfl,rfl,rfl}
 have ok:=Wv.ok;refine{_,rfl,_,rfl,_,rfl,a,_,rfl,zi.seq hS,λlc KD=>?_};obtain⟨ms,em,eml⟩:=uM ns (some 7) (some 67);rw[em];refine{lc,rfl,{_,aL.of a6},λld Qt=>?_};have t1:=a7.upd (H:=H3) (o:=.lst (ms.map V.int)) KD;have g1:(upd H3 lc (.lst (ms.map V.int))) lc=some (.lst (ms.map V.int)):=a6;generalize upd H3 lc (.lst (ms.map V.int))=H4 at Qt t1 g1;refine comp_map (λv=>match v with |.int c=>.int (c%R.many) |_=>.non) (aR K lc _) Qt (by rw[wa0];exact ao (by lia)) (λH' s'=>aL.of (s' _ _ g1)) (λz H5 Q' hz s5 q=>?_) (λH5 s5 h5=>?_)
 .obtain⟨c,hc,rfl⟩:=wab.mp hz;exact{_,rfl,_,rfl,_,_,rfl,rfl,by lia,q H5 (a7.refl _)}
 obtain⟨m,Ri,htl,Xq⟩:∃m:List Nat,(ms.map V.int).map (λv=>match v with |.int c=>V.int (c%R.many) |_=>.non)=(nI m).map V.int/\m.length<=100/\∀t∈m,(t:Int)<R.many:=by
  refine{ms.map λc=>(c%R.many).toNat,?_,by rw[wa0];lia,λt ht=>?_}
  .unfold nI;rw[waf,waf,waf];refine waZ λc hc=>?_;have:=wb9 c (show R.many≠0 by lia);show V.int (c%R.many)=V.int (((c%R.many).toNat:Nat):Int);rw[wh4 this]
  .obtain⟨c,_,rfl⟩:=wab.mp ht;have:=wb9 c (show R.many≠0 by lia);have:=wb4 c (show 0<R.many by lia)
   lia
 rw[Ri]at h5;have Rh:=zi.trans (t1.trans s5);have W5:=Wv.same (t1.trans s5);clear Ri hT Wv g1 t1;refine c5 [some (.ref a),some (.str R.g),some (.ref lw),some (.int R.many),some (.int (R.n:Int)),some (.ref x),some (.ref ld),none,none,none,none,none,none,none,none,none,none,none,none,none] _ (vA λR6 c6=>?_);refine{_,rfl,λz dz nz Sd X8=>?_};have sm:a7 H5 (upd (upd H5 dz (.own z)) z (.ins L.aD dz [])):=fo nz Sd;refine{z,dz,x,R,rfl,a6,W5.same (Az sm nz),λH9 kp D9=>{rfl,?_}};have s9:a7 H5 H9:=λc o e=>kp _ _ (sm _ _ e) (af e nz);clear kp sm nz Sd X8;have W9:=W5.same s9;have Vf:=s9 _ _ h5;obtain⟨⟨dx,p,xb',aa,ll,dp,wa,wb,wc,wz,ys,hx,_⟩,_⟩:=id W9;obtain⟨A1,r1⟩:=Vb ok Xq;have n1:=ok.n1;have lO:=ok.lO;have b1:=ok.b1;have c1':=ok.c1;have KC:((nI m).map V.int).length=m.length:=by rw[wa0,bL]
 refine c6 _ _ (vA λR7 c7=>?_);refine{_,rfl,x,dx,_,rfl,hx,b4 _ _ _ _ _ _ _ _ ∅,_,rfl,ld,_,rfl,.inl (aL.of Vf),λl1 Nz=>?_};have Fp:=a7.upd (H:=H9) (o:=.lst ((nI m).map V.int)) Nz;have Iy:(upd H9 l1 (.lst ((nI m).map V.int))) l1=some (.lst ((nI m).map V.int)):=a6;generalize upd H9 l1 (.lst ((nI m).map V.int))=Ov at Fp Iy;refine{x,l1,R,m,rfl,W9.same Fp,Iy,Xq,by lia,λFU Je=>?_};rw[r1.row];have yk:(cat A1).length=R.n*(R.b+m.length+R.c):=by rw[eO λu h=>(r1.u u h).1,r1.l]
 have RZ:R.n*(R.b+m.length+R.c)<=10*3000:=wbd lO (by lia);have Xr:∀d∈ch (cat A1),d∈ch R.g:=zv λu h=>(r1.u u h).2;generalize KL:cat A1=row at yk Xr;refine c7 (J7 R a lw x ld z row none none none none none none none none none) _ (vA λR8 c8=>?_);refine{waz _,λlt M=>?_};have Y:=(Fp.trans Je).trans (a7.upd (H:=FU) (o:=.lst []) M);have S2:(upd FU lt (.lst [])) lt=some (.lst ((nI []).map V.int)):=a6;generalize upd FU lt (.lst [])=Io at Y S2;refine c8 (J7 R a lw x ld z row (some (.ref lt)) none none none none none none none none) _ (vA λR9 c9=>?_);refine{_,rfl,?_};have O:=D9.same Y;have Vg:=W9.same Y;have Si:=Y _ _ Vf;clear Iy Fp Je M Nz D9 W9 hx Vf;obtain⟨Sj,x',a',hz,_⟩:=id O;have Sl:∀{q:Str},q∉[("writer":Str),"pairs"]->(FD x' a').lookup q=none:=λh=>di h;refine c9 (J7 R a lw x ld z row (some (.ref lt)) (some (.str row)) none none none none none none none) _ (vA λR10 c10=>?_);refine{_,rfl,_,rfl,_,rfl,a,_,rfl,(Rh.trans (s9.trans Y)).seq hS,λlu hlu=>?_};obtain⟨mu,emu,zaB⟩:=uM ns (some 5) (some 7);rw[emu];have Z:=a7.upd (H:=Io) (o:=.lst (mu.map V.int)) hlu;have LQ:(upd Io lu (.lst (mu.map V.int))) lu=some (.lst (mu.map V.int)):=a6;generalize upd Io lu (.lst (mu.map V.int))=KM at Z LQ;refine{lu,rfl,{_,aL.of LQ},d9 (K:=K) (a:=lu) (xs:=mu.map V.int) (O4 R a lw x ld z row m.length mu.length KM) {waz _,a7.refl _,[],lt,row,none,none,none,none,none,none,none,rfl,Z _ _ S2,waz _,rfl,Xr,λ_ _ _=>rfl} (λi σ LX _ q=>aL.of (q.s _ _ LQ)) ?_ ?_}
 .rintro i y σ LX hy ⟨_,Rl,tl,lt,sp,v11,LY,LZ,M0,M3,M4,M5,rfl,M,z4,wQ,S,I⟩;have hi:i<mu.length:=by have:=(wa6.mp hy).1;rwa[wa0]at this
  rw[wa4,wa1 hi]at hy;cases hy;generalize mu[i]=cc;show bN 11 (V.int cc) _ _ _;have D:=Z.trans Rl;refine{Vd R a lw x ld z row m.length i cc M5 KM,?_,?_}
  .refine{_,rfl,rfl,_,rfl,uz (λh=>?_) (λh=>?_)}
   .have hp:0<row.length:=by
     refine whh λz0=>?_;rw[cb (y:="") ((oq z0).trans rfl)]at h
     revert h
     decide+kernel
    refine{_,rfl,_,_,rfl,rfl,(by show (0:Int)<1000003;decide),?_};show bN 12 (V.int (cc%1000003)) _ _ _;have c0:=wb9 cc (show (1000003:Int)≠0 by decide);have cl:=wb4 cc (show (0:Int)<1000003 by decide);generalize cc%1000003=nm at c0 cl;refine{_,rfl,_,rfl,row,rfl,ao (by lia),_,_,rfl,rfl,(by show (0:Int)<(row.length:Int);lia),?_};have j0:=wb9 nm (show (row.length:Int)≠0 by lia);have j1:=wb4 nm (show 0<(row.length:Int) by lia);obtain⟨j,hj⟩:∃j:Nat,nm%(row.length:Int)=(j:Int):={(nm%(row.length:Int)).toNat,by lia};show bN 13 (V.int (nm%(row.length:Int))) _ _ _;rw[hj]at j1 ⊢;have Vh:j<sp.length:=by lia
    refine{_,rfl,_,rfl,row,rfl,ao (by lia),_,_,rfl,rfl,{by lia,by lia},_,rfl,R.g,rfl,ao (by lia),_,_,rfl,rfl,_,_,rfl,rfl,(show (0:Int)<(R.g.length:Int)-1 by lia),_,_,rfl,rfl,?_};show bN 14 (V.int (1+nm/(row.length:Int)%((R.g.length:Int)-1))) _ _ _;generalize 1+nm/(row.length:Int)%((R.g.length:Int)-1)=st;have Xs:j<(ch sp).length:=by rw[aN];exact Vh
    have S0:(ch sp)[j]?=some (ch sp)[j]:=wa1 Xs
    obtain⟨i0,Xu,Rm⟩:∃i0:Nat,(ch R.g)[i0]?=some (ch sp)[j]/\∀k,k<i0->(ch R.g)[k]?≠some (ch sp)[j]:=by
     obtain⟨i0,h1,h2⟩:=wdC.mp (S _ (waL Xs));refine{i0,by rw[wa1 h1,h2],λk hk z=>?_};have:=(List.getElem?_inj h1 sg.nd).mp ((by rw[wa1 h1,h2,z]):(ch R.g)[i0]?=(ch R.g)[k]?)
     lia
    generalize (ch sp)[j]=e0 at S0 Xu Rm;have m0:=wb9 ((i0:Int)+st) (show (R.g.length:Int)≠0 by lia);have m1:=wb4 ((i0:Int)+st) (show 0<(R.g.length:Int) by lia);obtain⟨i1,hi1⟩:∃i1:Nat,((i0:Int)+st)%(R.g.length:Int)=(i1:Int):={(((i0:Int)+st)%(R.g.length:Int)).toNat,by lia};have Xv:i1<(ch R.g).length:=by rw[aN];lia
    have Rn:(ch R.g)[i1]?=some (ch R.g)[i1]:=wa1 Xv;have Ro:=waL Xv;generalize (ch R.g)[i1]=e1 at Rn Ro;refine{_,rfl,_,rfl,rfl,_,rfl,_,rfl,sp,_,e0,rfl,rfl,ao (by lia),bC S0,R.g,e0,i0,rfl,rfl,Xu,Rm,_,rfl,_,_,rfl,rfl,_,rfl,R.g,rfl,ao (by lia),_,_,rfl,rfl,(show (0:Int)<(R.g.length:Int) by lia),R.g,_,e1,rfl,rfl,ao (by lia),by rw[hi1];exact bC Rn,?_};obtain⟨pl,pg⟩:=O3 (c:=e1) Vh S Ro;have Il:∀k,j<R.n*k\/R.n*(k+(R.b+1+R.c))<=j->wo R ((waI sp none (some (j:Int))++{#[e1]})++waI sp (some ((j:Int)+1)) none) k=wo R sp k:=λk h=>IZ Vh h;have q1:=wds sp none (some (j:Int));have q2:=wds sp (some ((j:Int)+1)) none;have q3:({#[e1]}:Str).length=1:=rfl;have q4:(waI sp none (some (j:Int))++({#[e1]}:Str)).length<=sp.length+1:=by rw[<-aN,aT,wa5,aN,aN];lia
    refine{_,rfl,_,rfl,_,rfl,sp,rfl,ao (by lia),_,rfl,_,_,rfl,rfl,ao (by lia),_,rfl,_,rfl,_,_,rfl,rfl,_,rfl,sp,rfl,ao (by lia),_,_,rfl,rfl,ao (by lia),?_};show bN 10 (V.str ((waI sp none (some (j:Int))++{#[e1]})++waI sp (some ((j:Int)+1)) none)) _ _ _;generalize (waI sp none (some (j:Int))++{#[e1]})++waI sp (some ((j:Int)+1)) none=sq at pl pg Il;refine{_,rfl,_,rfl,_,rfl,_,rfl,row,rfl,ao (by lia),_,rfl,ld,_,rfl,.inl (aL.of (D _ _ Si)),_,rfl,z,x,R,m.length,j,by rw[yk,KC];rfl,O.same D,Vg.same D,by lia,by lia,λlm Rk U _ Oz=>?_};refine{_,rfl,rfl,false,rfl,bx ?_};have dl:=DW n1 (R:=R) m.length j;refine{_,rfl,_,rfl,lt,lm,_,_,rfl,rfl,U _ _ M,Oz,by rw[wa0,bL,wa0,bL];exact ao (by lia),λlp hlp=>?_};refine{tl++iL R m.length j,lp,sq,_,_,_,_,_,rfl,Rl.trans (U.trans (a7.upd hlp)),by rw[jA,wai];exact a6,by rw[wa5];lia,by lia,pg,λk hk hn=>?_};rw[waD,not_or]at hn;rw[Il k,I k hk hn.1];have:=mt KZ.mpr hn.2;rcases Nat.lt_or_ge j (R.n*k) with q |q
    .exact .inl q
    .exact .inr (wfz λr=>this ⟨hk,q,r⟩)
   .exact{tl,lt,sp,_,_,_,_,_,rfl,Rl,M,by lia,wQ,S,I}
  rintro σ Rk ⟨tl,lt,sp,LY,LZ,M0,M3,M4,rfl,U,M,z4,wQ,S,I⟩;have J:=Z.trans U;obtain⟨all,Fj,G,X⟩:=rG (n:=R.n) (R.b+m.length+R.c) sp (by rw[wQ,yk]);subst Fj;have M6:∀u∈all,u.length=R.n/\∀c∈ch u,c∈ch R.g:=λu h=>{X u h,λc hc=>S c (DU h c hc)};refine{_,rfl,z,Sj,_,rfl,J _ _ hz,Sl ∅,_,rfl,z,R,all,m.length,nC R all,rfl,O.same J,M6,G,by lia,DV ok G,λlf H16 OA _ Xw=>?_};have M7:=U.trans OA;have C:=Z.trans M7;refine{_,rfl,_,rfl,_,rfl,_,rfl,lf,ld,lt,R.many,_,m,tl,rfl,Xw,C _ _ Si,OA _ _ M,by rw[wa0,waC],by lia,λq v hv=>?_,λq hq hn=>?_,?_}
  .rw[wa4]at hv
   cases Xx:(wao m.length)[q]? with
   |none=>rw[Xx]at hv;cases hv
   |some k2=>
    rw[Xx]at hv;cases hv;exact zy ok _ _ _
  .rw[wa4,wdK hq];show some (nC R all q)=_;rw[<-r1.nC ok hq];refine congrArg some (KY (KW X (λu h=>(r1.u u h).1) (by rw[G,r1.l]) ?_));rw[I q hq hn,KL]
  refine{true,rfl,bx ?_};refine{_,rfl,_,rfl,_,rfl,_,rfl,_,rfl,z,x,lf,R,all,m.length,rfl,O.same C,Vg.same C,M6,G,by lia,Xw,λSn Rp=>{true,rfl,bx ?_}};exact{hi,M7.trans Rp,tl,lt,cat all,_,_,_,_,_,_,_,rfl,(OA.trans Rp) _ _ M,z4,wQ,S,I}
 .rintro σ LX ⟨_,Rl,tl,lt,sp,v11,LY,LZ,M0,M3,M4,M5,rfl,M,z4,wQ,S,I⟩;have D:=Z.trans Rl;refine c10 _ _ ?_;refine{_,rfl,z,Sj,_,rfl,D _ _ hz,Sl ∅,_,rfl,z,R,A1,m.length,_,by rw[KL];rfl,O.same D,r1.u,r1.l,by lia,r1.res ok,λlf Rk U _ Oz=>?_};rw[FK]at Oz;have J:=D.trans U;refine{_,rfl,a,ns,4,rfl,((Rh.trans (s9.trans Y)).trans J).seq hS,λc4 H16 OA=>?_};have C:=J.trans OA;have rp:(0:Int)<(row.length:Int)+(R.n:Int):=by lia
  refine{_,_,rfl,rfl,{⋯,∅},_,rfl,row,rfl,ao (by lia),_,rfl,_,_,rfl,rfl,_,_,rfl,rfl,rp,?_};have j0:=wb9 (c4/12) (show (row.length:Int)+(R.n:Int)≠0 by lia);have j1:=wb4 (c4/12) rp;obtain⟨j,hj⟩:∃j:Nat,c4/12%((row.length:Int)+(R.n:Int))=(j:Int):={(c4/12%((row.length:Int)+(R.n:Int))).toNat,by lia};show bN 13 (V.int (c4/12%((row.length:Int)+(R.n:Int)))) _ _ _;rw[hj]at j1 ⊢
  have e3:(row.length:Int)+(R.n:Int)=((R.n*(R.b+(m.length+1)+R.c):Nat):Int):=by
   rw[yk,show R.b+(m.length+1)+R.c=(R.b+m.length+R.c)+1 by lia,Nat.mul_succ,wbz]
  refine{_,rfl,_,rfl,_,rfl,_,rfl,row,rfl,ao (by lia),_,rfl,_,_,rfl,rfl,_,rfl,ld,_,rfl,.inl (aL.of (C _ _ Si)),_,_,rfl,rfl,_,rfl,z,x,R,m.length+1,j,by rw[e3,KC];rfl,O.same C,Vg.same C,by lia,by lia,λlm Sn Rp _ Xy=>?_};have Vi:=C.trans Rp;refine{_,rfl,rfl,false,rfl,bx ?_};refine{_,rfl,lm,_,rfl,.inl (aL.of Xy),λlo MO=>?_};have NM:=a7.upd (H:=Sn) (o:=.lst ((nI (iL R (m.length+1) j)).map V.int)) MO;have Xz:(upd Sn lo (.lst ((nI (iL R (m.length+1) j)).map V.int))) lo=some (.lst ((nI (iL R (m.length+1) j)).map V.int)):=a6;generalize upd Sn lo (.lst ((nI (iL R (m.length+1) j)).map V.int))=H18 at NM Xz;have O6:=Vi.trans NM;refine{_,rfl,z,Sj,_,rfl,O6 _ _ hz,Sl ∅,_,rfl,row,rfl,ao (by lia),_,rfl,_,_,rfl,rfl,_,rfl,row,rfl,ao (by lia),_,rfl,_,_,rfl,rfl,_,_,rfl,rfl,z,R,m.length+1,R.n*(R.b+(m.length+1)+R.c)-1,by rw[e3,show ((R.n*(R.b+(m.length+1)+R.c):Nat):Int)-1=((R.n*(R.b+(m.length+1)+R.c)-1:Nat):Int) by lia];rfl,O.same O6,by lia,by lia,λln H19 Sq _ h19=>?_};have Rq:=O6.trans Sq;obtain⟨all,Fj,G,X⟩:=rG (n:=R.n) (R.b+m.length+R.c) sp (by rw[wQ,yk]);subst Fj;refine{_,rfl,z,Sj,_,rfl,Rq _ _ hz,Sl ∅,_,rfl,z,R,all,m.length,nC R all,rfl,O.same Rq,λu h=>{X u h,λc hc=>S c (DU h c hc)},G,by lia,DV ok G,λlg H20 Vj _ h20=>?_};have M8:=OA.trans (Rp.trans (NM.trans (Sq.trans Vj)));refine{_,rfl,_,rfl,lf,ld,_,_,rfl,rfl,aL.of (M8 _ _ Oz),aL.of ((J.trans M8) _ _ Si),cy _,cy _,true,by rw[jB,decide_eq_true rfl],eD ?_};refine{_,rfl,_,rfl,lm,lo,_,_,rfl,rfl,aL.of ((NM.trans (Sq.trans Vj)) _ _ Xy),aL.of ((Sq.trans Vj) _ _ Xz),cy _,cy _,?_};rw[jB,decide_eq_true rfl];exact k H20
end
end K52
end
namespace K52
open PySem PySem.W L2 Bs Sx
theorem nz{K:Frag}{mg:Str->Option Value}{hp:Heap}{x:Str}(X:K.In hp)(G:hp.Ns wb5 mg)(a:nsIn K wb5 x=some none:=by k_is):mg x=none:=mg_none_of X G a
theorem na{K:Frag}{C:Addr}{f:Str}(a:findIn K (.ref C) f=some none:=by k_is):bU K C f:=a
theorem fnA{K:Frag}{mg:Str->Option Value}{hp:Heap}{f:Addr}{oc:Value}{od an:Option Addr}{Gs:Array (Option Value)}{kV doc pm gG ct:Value}{nm:Str}{st:Stmt}{ps:List Str}(X:K.In hp)(G:hp.Ns wb5 mg)(a:nsIn K wb5 nm=some (some (.ref f)):=by k_is)(l:K.lookup f=some ⟨oc,od,.func (fnOf nm nm (dq st) (cg st) (aH st) .none kV doc pm an gG ct),Gs⟩:=by k_is)(c:codeIn K gG nm=true:=by k_is)(k:keepIn K (.ref f)=true:=by k_is)(b:∀(kV doc pm:Value) (an:Option Addr) (gG ct:Value) (us:List Value),us.length=ps.length->bindArgs (fnOf nm nm (dq st) (cg st) (aH st) .none kV doc pm an gG ct) ⟨us,[]⟩=pure (ps.zip us):=by first |exact λ_ _ _ _ _ _=>L2.iM _ _ λ_=>rfl |exact λ_ _ _ _ _ _=>L2.iM _ _ λ_ _=>rfl |exact λ_ _ _ _ _ _=>L2.iM _ _ λ_ _ _=>rfl |exact λ_ _ _ _ _ _=>L2.iM _ _ λ_ _ _ _=>rfl |exact λ_ _ _ _ _ _=>L2.iM _ _ λ_ _ _ _ _=>rfl |exact λ_ _ _ _ _ _=>L2.iM _ _ λ_ _ _ _ _ _=>rfl):∃fd,FnAt K mg nm st ps f fd:=Raw.at_ X G a (BK l c k) b
theorem meA{K:Frag}{C f:Addr}{oc:Value}{od an:Option Addr}{Gs:Array (Option Value)}{kV doc pm gG ct:Value}{nm q:Str}{st:Stmt}{ps:List Str}(a:findIn K (.ref C) nm=some (some (.ref f)):=by k_is)(i:isFn K (.ref f)=true:=by k_is)(l:K.lookup f=some ⟨oc,od,.func (fnOf nm q (dq st) (cg st) (aH st) .none kV doc pm an gG ct),Gs⟩:=by k_is)(c:codeIn K gG q=true:=by k_is)(k:keepIn K (.ref f)=true:=by k_is)(b:∀(kV doc pm:Value) (an:Option Addr) (gG ct:Value) (us:List Value),us.length=ps.length->bindArgs (fnOf nm q (dq st) (cg st) (aH st) .none kV doc pm an gG ct) ⟨us,[]⟩=pure (ps.zip us):=by first |exact λ_ _ _ _ _ _=>L2.iM _ _ λ_=>rfl |exact λ_ _ _ _ _ _=>L2.iM _ _ λ_ _=>rfl |exact λ_ _ _ _ _ _=>L2.iM _ _ λ_ _ _=>rfl |exact λ_ _ _ _ _ _=>L2.iM _ _ λ_ _ _ _=>rfl |exact λ_ _ _ _ _ _=>L2.iM _ _ λ_ _ _ _ _=>rfl |exact λ_ _ _ _ _ _=>L2.iM _ _ λ_ _ _ _ _ _=>rfl):∃fd,cD K C nm q st ps f fd:=by
 obtain⟨fd,F,B⟩:=(BK l c k).fn b;exact⟨fd,F,B,a,i,k⟩
theorem knA{K:Frag}{mg:Str->Option Value}{hp:Heap}{x:Str}{t:Tok}(X:K.In hp)(G:hp.Ns wb5 mg)(a:nsIn K wb5 "KNOWN_SIGNS"=some (some (.str x t)):=by k_is)(e:x=fI:=by first |rfl |decide+kernel):∃t,mg "KNOWN_SIGNS"=some (.str fI t):=⟨t,e ▸ mg_of X G a⟩
theorem XA{K:Frag}{f:Addr}{oc:Value}{od an:Option Addr}{Gs:Array (Option Value)}{kV doc pm gG ct:Value}{nm q:Str}{st:Stmt}{ps:List Str}(l:K.lookup f=some ⟨oc,od,.func (fnOf nm q (dq st) (cg st) (aH st) .none kV doc pm an gG ct),Gs⟩:=by k_is)(c:codeIn K gG q=true:=by k_is)(k:keepIn K (.ref f)=true:=by k_is)(b:∀(kV doc pm:Value) (an:Option Addr) (gG ct:Value) (us:List Value),us.length=ps.length->bindArgs (fnOf nm q (dq st) (cg st) (aH st) .none kV doc pm an gG ct) ⟨us,[]⟩=pure (ps.zip us):=by first |exact λ_ _ _ _ _ _=>L2.iM _ _ λ_=>rfl |exact λ_ _ _ _ _ _=>L2.iM _ _ λ_ _=>rfl |exact λ_ _ _ _ _ _=>L2.iM _ _ λ_ _ _=>rfl |exact λ_ _ _ _ _ _=>L2.iM _ _ λ_ _ _ _=>rfl |exact λ_ _ _ _ _ _=>L2.iM _ _ λ_ _ _ _ _=>rfl |exact λ_ _ _ _ _ _=>L2.iM _ _ λ_ _ _ _ _ _=>rfl):∃fd,zV K nm q st f fd/\Binds K fd ps []:=(BK l c k).fn b
theorem walk{l:weM}{q:waq}{loose:List Str}{XP:(Str->Option Value)->Heap->Prop}{YP:World->Heap->Prop}{d:DefRec}{K:Params->wa2}(hn:l.most=some 63)(hdf:d.params.defaults=[])
 (hY:∀(w:World) (h:Heap),YP w h->(K w.params).In h)
 (F:∀(w:World) (mg:Str->Option Value) (fa:Addr) (h:Heap),(K w.params).In h->h.Ns wb5 mg->mg d.name=some (.ref fa) ->
   ∃fd:wb6,(∀(s:Shared) (u:Value),BindsTo s fd ⟨[u],[]⟩ [("_law_script",u)])/\∀base:Heap,(K w.params).In base->base.Ns wb5 mg->aS l.prog w (K w.params) mg base cP 13 fa fd ["_law_script"] (Dl (K w.params))) :
 whU q loose XP YP l.row.toRowW d [] (λf vs=>whX f vs):=
 L2.JB (n:=63) (k:=13) (x:="_law_script") (CX:=λ_=>cP) (sp:=λw=>Dl (K w.params)) hn (by decide) hdf ⟨rfl,by decide,by decide⟩ hY F (λ_ _ a ns hl _ hS=>⟨a,ns,rfl,hS,hl,λ_=>rfl⟩) λ_ _ _ _ _ z=>z
theorem Vk{K:Frag}{mg:Str->Option Value}{hp:Heap}{f:Addr}{oc:Value}{od an:Option Addr}{Gs:Array (Option Value)}{kV doc pm gG ct:Value}(l:weM)(w:World)(fa:Addr)(hfa:mg "law"=some (.ref fa))(X:K.In hp)(G:hp.Ns wb5 mg)(L:Lk K mg)(a:nsIn K wb5 "law"=some (some (.ref f)):=by k_is)(lk:K.lookup f=some ⟨oc,od,.func (fnOf "law" "law" (dq (top 93)) (cg (top 93)) (aH (top 93)) .none kV doc pm an gG ct),Gs⟩:=by k_is)(c:codeIn K gG "law"=true:=by k_is)(k:keepIn K (.ref f)=true:=by k_is) :
 ∃fd:wb6,(∀(s:Shared) (v:Value),BindsTo s fd ⟨[v],[]⟩ [("_law_script",v)])/\∀base:Heap,K.In base->base.Ns wb5 mg->aS l.prog w K mg base cP 13 fa fd ["_law_script"] (Dl K):=by
 have e:=hfa.symm.trans (mg_of X G a);cases e;exact⟨_,λs v=>.of_eq rfl,λbase _ _=>O5 L (Gu (st:=top 93) lk c k)⟩
end K52
open PySem PySem.W PyProof.Rows
local macro_rules |`(tactic|o_head $H)=>`(tactic|(refine PySem.W.holds_open (q:=K52.view) (loose:=[]) (Xt:=λs=>PySem.W.xlAt K52.view [] s&&PySem.W.recOk (PySem.W.RowW.records (PySem.W.OpenRow.toRowW (PySem.W.OpenLaw.row PySem.Challenge.rw_bandscribe_k52_whole_spoilt_signs))) s) (XP:=PySem.W.XL K52.view []) (Yf:=PySem.W.Hook.obs $H) (Ya:=PySem.W.Hook.val $H) (YP:=PySem.W.Hook.says $H) (N:=8100) ?hl (PySem.W.Hook.of $H) (PySem.W.Hook.keeps $H) (λs e=>PySem.W.xl_of s (Bool.and_eq_true_iff.mp e).1) PySem.W.XL.keeps (by rfl) (by rfl) (by rfl) (λs e=>PySem.W.recFacts_of (Bool.and_eq_true_iff.mp e).2) (by rfl) (by first |assumption |decide+kernel) (by decide+kernel) ⟨rfl,rfl,rfl,rfl,rfl,by decide+kernel⟩ ?hw ?hc;(case hl=>(intro w;exact K52.whole w))))
set_option maxRecDepth 100000 in
set_option maxHeartbeats 0 in
theorem PySem.Challenge.cw_bandscribe_k52_whole_spoilt_signs_holds : PySem.Challenge.rw_bandscribe_k52_whole_spoilt_signs.Holds := by
 w_on;o_law;o_head (PySem.W.kHook K52.pre.heap_39 K52.addrs (λ_=>by kernel_rfl));(case hw=>w_witness2)
 k_fill
 refine K52.walk (l:=PySem.Challenge.rw_bandscribe_k52_whole_spoilt_signs) rfl rfl (λw h Y=>PySem.W.kIn_of Y) ?F
 case F=>
  intro w mg fa h X G hmg;refine K52.Vk _ w fa hmg X G ?L;constructor
  all_goals try first |exact(K52.fnA X G).choose_spec |exact(K52.meA).choose_spec |exact mg_of X G (by k_is) |exact K52.na |k_is |exact⟨_,mg_of X G (by k_is)⟩ |exact K52.knA X G |exact Sx.JX (by k_is) |exact Sx.Dr (by k_is) |exact⟨(Sx.Dr (by k_is)).lk,by k_is,by k_is,by k_is,by k_is⟩ |exact⟨by k_is,by k_is,by k_is⟩ |exact⟨by k_is,by k_is,by k_is,by k_is⟩ |(constructor;exact K52.nz X G;all_goals exact K52.nz X G) |(constructor;exact⟨by k_is,by k_is,by k_is,by k_is⟩;all_goals exact K52.na)
  case L.AR=>exact(K52.XA (ps:=["self","length","rows"])).choose_spec.1
  case L.AU=>exact(K52.XA (nm:="__init__") (q:="Scarce.__init__") (st:=L2.inClass (K52.top 13) 0)).choose_spec.2
#print axioms PySem.Challenge.cw_bandscribe_k52_whole_spoilt_signs_holds
