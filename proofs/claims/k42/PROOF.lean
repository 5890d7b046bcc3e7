import PyProof.Rows.All
import KE.KDictOf
import KE.KIsAll
import KE.KFromBytes
import KE.KDictSum
import KE.KEqDict
import KE.LcSums
import KE.KItem
import Lean
import PyProof.EqAt
import PyProof.EqKinds
import PyProof.TupleCall
import PyProof.Rows.SortStr
import PyProof.StrLawsReplace
import PyProof.StrLawsIdx
import PyProof.StrLawsIn
import PyProof.StrBlockI
import PyProof.StrBlockL
import PyProof.SliceList
import PyProof.InstStoreFacts
import PyProof.NsDelKeeps
import PyProof.StationsW
import PyProof.ExcArgs
import PyProof.ExcBaseAll.ValueError
import PyProof.StrCalls
import PyProof.ListRange
import PyProof.EnumMake
import PyProof.Draws
import PyProof.FactsAll.dict
import PyProof.StrBlock2
import PyProof.Rows.SumAny
import PyProof.NeKinds
import PyProof.Rows.MinMaxN
import PyProof.Rows.Range3
import PyProof.StrLawsFirst
import PyProof.AttrMissHeap
import PyProof.Rows.CallKwBuiltin
import KE.KMinKey
import PyProof.FString2
import PySem.Challenge.RW_bandscribe_k42_data_refused
set_option genInjectivity false
set_option genSizeOfSpec false
open List renaming length_map→wa0,getElem?_eq_getElem→wa2,getElem?_map→wa4,getD_eq_getElem?_getD→wa5,getElem?_eq_some_iff→wa6,length_append→wa7,mem_map→waa,mem_cons_of_mem→wac,mem_cons_self→wag,map_map→wai,map_append→waj,mem_of_getElem?→wak,replicate→wam,mem_singleton→wao,length_take→wau,map_cons→waw,mem_append→waA,mem_filter→waC,size_toArray→waD,getElem?_append_left→waE,getElem?_append_right→waF,mem_cons→waH,take_length→waI,range→waJ,length_cons→waK,all_eq_true→waP,getElem_mem→waQ,mem_append_right→waU,append_nil→waX,nodup_cons→wb0,take_add_one→wb1,length_range→wb2,filter_eq_self→wb5,map_congr_left→wb6,append_assoc→wb9,filter_cons_of_pos→wbb,mem_range→wbd,length_filter_le→wbi,nodup_nil→wbj,filterMap_cons→wbk,filter_cons_of_neg→wbl,eq_nil_of_length_eq_zero→wbm,filter_append→wbo,sum_cons→wbs,mem_append_left→wbt,length_drop→wbw,take_of_length_le→wbx,take_sublist→wbA,length_replicate→wbB,not_mem_nil→wbH,getElem_of_mem→wbQ,getElem?_set_self→wc1,length_singleton→wc9,getElem?_set_ne→wcc,flatten_cons→wcg,nodup_append→wch,replicate_succ→wcm,any_eq_true→wco,length_set→wcv,getElem?_eq_none_iff→wcA,mem_or_eq_of_mem_set→wcC,any_cons→wcM,find?_cons→wcS,map→wcZ,dropLast_concat_getLast→wd6,getElem_inj→wd8,lookup_cons→wdb,mem_iff_getElem→wde,getElem_toArray→wdg,map_take→wdj,length→wdl,filter_sublist→wdo,range_succ→wdq,getElem?_take_of_lt→wdw,contains_cons→wdD,length_filterMap_le→wdE,map_id'→wdF,flatMap_cons→wdM,drop_eq_nil_of_le→wdP,map_drop→wdR,filter_cons→wdV,mem_flatMap→wdY,take_append_drop→we0,map_nil→weg,filter_map→wel,length_pos_iff→wet,mem_filterMap→wey,prefix_append→weC,mem_replicate→weF,all_cons→weI,foldl_append→weT,getElem_take→weV,extract_eq_take_drop→wf1,all_map→wfa,any_map→wfc,suffix_refl→wfd,idxOf_lt_length_iff→wfh,length_eq_zero_iff→wfm,of_mem_zip→wfw,foldl_cons→wfx,length_nil→wfy,lookup→wfE,drop_of_length_le→wfL,range'→wfN,drop_zero→wfY,eq_nil_or_concat→wg2,singleton_append→wg3,take_zero→wg4,filterMap_append→wg5,getElem?_eq_none→wg6,idxOf_cons_self→wgh,mem_of_mem_take→wgj,flatMap_append→wgw,map_eq_nil_iff→wgx,count_pos_iff→wgK,any_eq_false→wgM,ext_getElem?→wgS,filter_congr→wgT,mem_range'_1→wgU,map_dropLast→wgV,drop_sublist→wgW,append_inj'→whd,take_prefix→whe,drop_suffix→whf,range'_succ→whg,nodup_range→whh,foldl→whk,nil_append→whq,idxOf_cons→whr,sum_append→whs
open PySem.W renaming Frag→wa1,findIn→wb8,kia_one→wbE,emptyDict→wbP,recOk→wc3,callWith_K→wc8,xlAt→wca,instObj→wcb,fnOf→wcd,keepIn→wcD,kitOne→wcE,boot_heap→wcO,methodCall_KW→wd2,looks_findIn→wd9,codeIn→wdH,looks_clsIn→wdJ,plainGet→wdT,hasDictIn→wea,isFn→web,OpenLaw→weo,plainGet_of→wep,lookIn→wev,specialIn→weG,methodObj→weP,set_plain→weQ,takerIn→wfu,cellsFrom_some→wfF,looks_mroIn→wfM,plainOver→wfS,SharedT→wfT,check_slot→wgs,kdl_values→wgG,kitx_list→wgO,kitx_dict→wgP,boot_o_0→wh6,handedIn→wh7,kdl_dict→wha,kdl_call→whb,WalkO→whi,makesIn→whj,KeqHits→whn
open PySem renaming wpAny_bind→wa3,FuncData→wae,wpAny_pure→wap,Program→wat,mainGlobals→waL,boot_len→waO,bootBuiltins→waR,wpAny_mono→waV,wpAny_loadPart_at→waW,wpAny_holding→waY,excClassObj→wbf,wpAny_isSubtype_exc→wbq,compareOp→wbr,wpAny_Call_Name_kw→wbu,importedModules→wbD,codeAny_builtin→wbF,strKind→wbI,OsState→wbJ,wpAny_tryCatch→wbL,wpAny_truthy_bool→wbN,swapsWith→wbO,wpAny_execs_nil→wbR,codeAny_mono→wbT,codeAny_call_builtin→wbZ,foldedSetIterable→wc0,sizeLine_eq→wc2,wpAny_call→wc4,plainId_quiet→wc5,lookup_relabel_local→wce,attributeBase→wci,mem_of_lookup→wcl,wpAny_execs_cons→wcn,wpAny_passesOwn→wcu,wpAny_pyIter_list→wcz,wpAny_seqItems→wcG,cLine→wcH,plainObj_wpAny_Assign_Attribute→wcI,wpAny_getItem_str_slice→wcJ,behindInMarks→wcL,sysModules→wcP,Scope→wcQ,Result→wcR,wpAny_updateSeq→wcV,GenState→wcX,wpAny_letGo→wd0,wpAny_Assign_Name→wd1,codeAny_handlers_test→wd3,wpAny_standAt→wdh,keywordEach→wdk,wpAny_handleBy_cons→wdn,Within→wdv,tupleKind_room_in1→wdy,scanBound→wdA,Builtin→wdG,wpAny_pyIter_enum→wdL,wpAny_field→wdO,NameKind→wdU,checkBuiltinCall→wdX,seqItems?→we2,assignEach→we7,letOwnedTupleGo→we8,call_meets→wee,post_val_or_str→weh,excMatches→wej,wpAny_loadPart→wew,wpAny_setField→wex,getMethod→wez,onTheHeap→weB,wpAny_letOwnedTupleGo_enum→weL,wpAny_newObj_type→weS,typeLookup→weY,isInstance→wf0,Keyword→wf4,wpAny_lookBehind→wf5,pastItsLine_dict→wf6,wpAny_comprehension_free→wf9,treeTable→wfq,tupleKind→wft,codeAny_of_tree→wfz,setFlight→wfB,subscripted→wfG,codeAny_handlers_suite→wfQ,wpAny_isTrue_Compare1→wfU,weight_type_call_type→wfX,wpAny_loadName_local→wga,PlainAttrs→wgb,wpAny_attempt→wgo,wpAny_loadName_cell→wgr,wpAt_of_wpAny→wgv,wpAny_nsSet1→wgC,updateSeq→wgI,seqIndex_of→wh0,sliceBounds→wh1,tc_notTuple→wh3,intItems_at→wh4,wpAny_of_eq→wh5,call→whl,wpAt_bind→whm
open PySem.Heap renaming get?_push_of_some→wa8,lt_size→wad,get?_push_size→wax,get?_update_other→waN,get?_update_self→wbC,size_push→wbK,SameBut→we6,get?_update_ne→wgt
open PySem.Challenge renaming pw_bandscribe_k42_data_refused→wa9,rw_bandscribe_k42_data_refused→wav
open Nat renaming le_refl→wab,le_trans→wal,lt_of_lt_of_le→wan,ne_of_lt→war,zero_le→waM,lt_irrefl→wb4,lt_of_le_of_lt→wba,lt_succ_self→wbS,sub_self→wbX,add_sub_cancel_left→wcj,le_succ→wcp,ne_of_gt→wcq,mul_le_mul_right→wdf,not_lt_zero→wdr,mul_le_mul→wdI,lt_succ_of_lt→wdK,le_of_lt→we5,le_of_eq→wec,mul_le_mul_left→wes,lt_or_eq_of_le→weE,lt_trichotomy→weU,le_of_not_lt→wf8,min_eq_left→wfA,le_antisymm→wfC,pow_le_pow_right→wgi,zero_add→wgJ,lt_succ_of_le→wgX
open PySem.Value renaming ref→waf,none→wby,builtin→wcy,type→we4,int→wfr,str→wfs,bool→wg9,isStrOf→wgk,isStrOf_shape→wgq,float→wgY
open Option.some renaming inj→wah
open Bool renaming false_ne_true→waq,false_eq_true→wbU,and_eq_true→wc7,and_false→wcF,false_and→wd5,true_and→wdS,eq_iff_iff→we9,false_or→weJ,not_true→wgn
open Sum renaming inr→waz,inl→wbg
open PySem.PassesOwn renaming never→waB,leaving→weX
open Int renaming toNat_natCast→waG,emod_nonneg→wb3,emod_lt_of_pos→wbh,le_trans→wd4,le_refl→wdm,natCast_add→wds,natCast_pow→wdt,natCast_mul→wem,zero_add→wen,le_of_mul_le_mul_right→weO,pow_succ→wfj,eq_ofNat_of_zero_le→wfn,le_ediv_iff_mul_le→wfO,add_mul→wfP,toNat_of_nonneg→wgy,ediv_nonneg→whp
open False renaming elim→waS
open PySem.F renaming plainAttrs_list→waT,slot_list_append→waZ,type_list_append→wb7,plain_min_loop→wbM,called_set→wbW,plain_max_loop→wbY,excBase_ValueError→wc6,slot_list_index→wcK,slot_dict_values→wdz,entry_min_loop→wdQ,entry_max_loop→wdZ,called_enumerate→weD,excAttr_ValueError→weM,args_list_index_2→wf3,entry_list_index→wfe,type_dict_values→wfi,type_list_index→wfo,plainAttrs_dict→wfp,plainAttrs_str→wfR,entry_bexc_ga→wfZ,slot_str_join→wg7,type_str_join→wg8,entry_type_call→wgc,args_bexc_ga→wge,slot_list_pop→wgF
open Ne renaming symm→wbc
open PySem.W.OpenRow renaming toRowW→wbe
open PySem.W.RowW renaming records→wbn
open PySem.W.OpenLaw renaming row→wbp
open PySem.Around renaming under_plainId→wbv,under→wgD,under_plain→wgH
open True renaming intro→wbz
open PySem.Builtin.Str renaming strSliceIndices→wbG,occurrences→wfl,subAt→wgQ
open PySem.Txt renaming slice→wbV,join→wdd,slice_le→wei,replace→wh2
open PySem.Str renaming ofString→wcf,length→wda,join→whc,empty→whv
open Array renaming length_toList→wck,getElem?_toList→wcw,getD_eq_getD_getElem?→wd7,toArray_toList→wdc,getElem?_eq_some_iff→weN,toList_inj→wfb,getElem?_eq_none→wfJ,toList_extract→wgg
open PyProof.Rows renaming callWith_type1→wcr,int_text_len_1921→wcW,envOfC→wdp,kws_cons→we3,callWith_builtin1→wed,kws_nil→wek,callWith_kw→wfg,sortedS→wfk,subscriptTail_builtinR→wfH,joinParts_cons→wg0,formatField_int_small→wg1,FormattedValue_plain→wgf,subscriptTail→wgm
open PyProof.Rows.F renaming plain_set_update_loop→wcs,entry_set_update_loop→wdB
open PySem.Builtin.Builtins renaming bindParams→wct
open PySem.NameKind renaming free→wcx,cell→weK
open PySem.Obj renaming mapSeq→wcB,mapFields→wcN,data_mapFields→wcU,isFreed_of_fields→we1
open ForInStep renaming yield→wcT
open Sum.inr renaming inj→wcY
open Or renaming inl→wdi
open Eq renaming trans→wdu
open PySem.Builtin.List renaming listTooLong→wdx
open PySem.Code renaming quiet_builtin→wdC,isFrame→wgE
open Prod.mk renaming inj→wdN
open Option renaming bind_some→wdW,map_some→wef,isSome_map→weR,isSome_iff_exists→wf7,map_eq_some_iff→wfD,getD_some→wh9
open PySem.Calls renaming call_len_list→weq,Name_function_global→weH,callWith_builtin→wfI,Constant_str→wgB
open PySem.Heap.SameBut renaming update→wer
open Prod renaming ext→weu
open PySem.W.Looks renaming here→weA
open List.Sublist renaming refl→weW
open PySem.Walks renaming list→weZ
open Classical renaming byContradiction→wf2
open PySem.SeqAt renaming list_indexAt→wff
open PySem.Within renaming cons→wfv
open PySem.StrLaws renaming sliceText_from→wfK,sliceText_to→wgd
open PySem.SeqAt.EqAt renaming int_int→wfV,str_str→wfW,int_str→wgz,str_int→wgA
open PySem.Paired renaming length→wgl
open List.cons renaming inj→wgp
open PySem.EntryCells renaming newEntry→wgu
open PySem.Flt renaming mathRow→wgL
open PySem.Heap.Ns1 renaming of_empty→wgN
open List.Pairwise renaming map→wgR
open PySem.Data renaming fields→wgZ,cell→whu
open PySem.P renaming add_list→wh8
open PySem.Builtin.Frozenset renaming updateFrom→wht
open PySem.Shared renaming TypeIs→whw
set_option Elab.async false
set_option linter.all false
set_option maxRecDepth 100000
set_option maxHeartbeats 4000000
namespace Tt
open PySem PySem.W PySem.Calls PyProof.Rows
noncomputable def Fg(tb:String->Option wdG)(p:wat)(w:World)(n₀:Nat)(ann:Option Value):Nat->wfT->Thread->Option wfT
 |0,_,_=>none
 |n + 1,s,t=>match through t with
  |true=>some s
  |false=>match stepOk n₀ ann t with
   |false=>none
   |true=>match stepT (denote tb) p w s t with
    |some (s',t')=>Fg tb p w n₀ ann n s' t'
    |none=>none
theorem Fh{tb:String->Option wdG}{p:wat}{w:World}{n₀:Nat}{ann:Option Value}:∀{n:Nat} {s s':wfT} {t:Thread},Fg tb p w n₀ ann n s t=some s'->topRun tb p w n₀ ann n s.abs t=some s'.abs
 |0,_,_,_,h=>by cases h
 |n + 1,s,s',t,h=>by
  unfold Fg at h;unfold topRun
  cases ht:through t with
  |true=>rw[ht]at h;cases h;rfl
  |false=>
   rw[ht]at h
   cases hk:stepOk n₀ ann t with
   |false=>rw[hk]at h;cases h
   |true=>
    rw[hk]at h
    cases hs:stepT (denote tb) p w s t with
    |none=>rw[hs]at h;cases h
    |some r=>obtain⟨s₂,t₂⟩:=r;rw[hs]at h;rw[stepT_spec hs];exact Fh h
noncomputable def sound(p:wat)(h₀:Heap)(s:wfT):Bool:=staticsOk (wbD p.main.body) h₀ s.abs.heap && namesBound p s.abs.heap && gensDone s.abs && laidKept h₀ s.abs.heap
theorem Ir{p q:wat}{loose:List Str}{Xt:Shared->Bool}{α:Type}{Yf:Shared->α}{Ya:World->α}{N n m₀:Nat}{life:Params->Life}{g0:Bool}{H₀:Params->Heap}{T₀:Params->BT}{Q7:Array wcX}{d₀:Drawn}{k₀:Nat}{ann:Option Value}
 (Nm:∀w:World,(fencedOpening wfq p w N).map (λs=>(s.heap,s.gens,s.drawn,s.toks))=some (H₀ w.params,Q7,d₀,k₀))
 (size:∀P:Params,((H₀ P).isNs waL && Q7.size == 0,(H₀ P).objs.size,(H₀ P).nsMap waL "__annotations__")=(true,m₀,ann))
 (tree:∀P:Params,absHeap (T₀ P) n (life P)=H₀ P)
 (run:∀(w:World) (os:wbJ),∃s,Fg wfq p w m₀ ann N ⟨T₀ w.params,n,life w.params,Q7,d₀,k₀,os⟩ (topStub p)=some s/\sound p (H₀ w.params) s=true/\openSeen q loose (wbD p.main.body) Xt g0 s.abs=openGood q loose/\Yf s.abs=Ya w):LeftO p q loose Xt Yf Ya N g0:=λw=>by
 obtain⟨⟨h,gs,d,k,os⟩,e,e'⟩:=wfD.mp (Nm w);obtain⟨rfl,rfl,rfl,rfl⟩:h=H₀ w.params/\gs=Q7/\d=d₀/\k=k₀:=by simpa using e'
 obtain⟨z1,z2,z3⟩:_/\_/\_:=by simpa only[Prod.mk.injEq] using size w.params
 obtain⟨s,r,l1,l2,l3⟩:=run w os;have r:=Fh r
 have ea:(SharedT.mk (T₀ w.params) n (life w.params) gs d k os).abs=⟨H₀ w.params,gs,d,k,os⟩:=by
  unfold SharedT.abs;rw[tree]
 rw[ea]at r
 have t:topFrom wfq p w N ⟨H₀ w.params,gs,d,k,os⟩=some s.abs:=by
  unfold topFrom;dsimp only;rw[z1,z2,z3,r];show (match sound p (H₀ w.params) s with |true=>_ |false=>_)=_;rw[l1]
 unfold openEnds;rw[e];show (topFrom wfq p w N _).map _=_;rw[t];exact congrArg some (weu l2 l3)
theorem KY{S A B C:Type}{o:Option S}{f:S->A}{g:S->B}{h:S->C}{a:A}{b:B}{c:C}(x:o.map f=some a)(y:o.map g=some b)(z:o.map h=some c):∃s,o=some s/\f s=a/\g s=b/\h s=c:=by
 cases o with
 |none=>cases x
 |some s=>exact⟨s,rfl,wah x,wah y,wah z⟩
theorem four{S A B C D E F G:Type}{o:Option S}{f:S->A×B×C×D×E×F×G}{a:A×B×C×D×E×F×G}(h1:o.map (λs=>(f s).1)=some a.1)(h2:o.map (λs=>((f s).2.1,(f s).2.2.1))=some (a.2.1,a.2.2.1))(h3:o.map (λs=>((f s).2.2.2.1,(f s).2.2.2.2.1))=some (a.2.2.2.1,a.2.2.2.2.1))(h5:o.map (λs=>(f s).2.2.2.2.2.1)=some a.2.2.2.2.2.1)(h4:o.map (λs=>(f s).2.2.2.2.2.2)=some a.2.2.2.2.2.2):o.map f=some a:=by
 cases o with
 |none=>cases h1
 |some s=>
  have e1:(f s).1=a.1:=wah h1;have e2:((f s).2.1,(f s).2.2.1)=(a.2.1,a.2.2.1):=wah h2;have e3:((f s).2.2.2.1,(f s).2.2.2.2.1)=(a.2.2.2.1,a.2.2.2.2.1):=wah h3;have e5:(f s).2.2.2.2.2.1=a.2.2.2.2.2.1:=wah h5;have e4:(f s).2.2.2.2.2.2=a.2.2.2.2.2.2:=wah h4;exact congrArg some (weu e1 (weu (wdN e2).1 (weu (wdN e2).2 (weu (wdN e3).1 (weu (wdN e3).2 (weu e5 e4))))))
theorem cut(n:Nat){o:Option wfT}{as:List Addr}{v:List (Option Obj)}(h:o.map (λs=>(as.take n).map s.abs.heap.get?)=some (v.take n))(h':o.map (λs=>(as.drop n).map s.abs.heap.get?)=some (v.drop n)):o.map (λs=>as.map s.abs.heap.get?)=some v:=by
 cases o with
 |none=>cases h
 |some s=>
  have h1:(as.take n).map s.abs.heap.get?=v.take n:=wah h;have h2:(as.drop n).map s.abs.heap.get?=v.drop n:=wah h';show some (as.map s.abs.heap.get?)=some v;rw[<-we0 n as,waj,h1,h2,we0]
end Tt
namespace K42
open PySem PySem.W
noncomputable def tp(i:Nat):Stmt:=wa9.main.body.getD i (.Pass ⟨0,0,0,0⟩)
noncomputable def view:wat:={wa9 with main:={wa9.main with body:=[tp 0,tp 2,tp 3,tp 4,tp 5,tp 6,tp 7,tp 8,tp 9,tp 10,tp 11,tp 12,tp 13,tp 14,tp 15,tp 16,tp 17,tp 18,tp 20,tp 22,tp 23,tp 24,tp 25,tp 26,tp 28,tp 29,tp 30,tp 31,tp 32,tp 34,tp 35,tp 36,tp 37,tp 38,tp 40,tp 41,tp 42,tp 43,tp 44,tp 45,tp 46,tp 48,tp 49,tp 50,tp 51,tp 52,tp 53,tp 54,tp 55,tp 56,tp 57,tp 58,tp 59,tp 60,tp 61,tp 62,tp 64,tp 65,tp 66,tp 67,tp 68,tp 70,tp 71,tp 72,tp 73,tp 74,tp 75,tp 76,tp 77,tp 78,tp 79,tp 80,tp 81,tp 83,tp 84,tp 85,tp 86,tp 87,tp 88,tp 89]}}
noncomputable def tree0(P:Params):BT:=(.node (boot_o_0 P) (.node (boot_o_1 P) (.node (boot_o_3 P) (.node (boot_o_7 P) .nil .nil) .nil) (.node (boot_o_5 P) (.node (boot_o_9 P) .nil .nil) .nil)) (.node (boot_o_2 P) (.node (boot_o_4 P) (.node (boot_o_8 P) .nil .nil) .nil) (.node (boot_o_6 P) (.node (boot_o_10 P) .nil .nil) .nil)))
noncomputable def run(w:World)(os:wbJ):Option wfT:=(Tt.Fg wfq wa9 w 11 (some (waf 6)) 8100 ⟨tree0 w.params,11,(wcO w.params).life,Array.mk [],boot_drawn,boot_toks,os⟩ (topStub wa9))
noncomputable def lhsS(w:World)(os:wbJ):=(run w os).map (λs=>Tt.sound wa9 (wcO w.params) s)
noncomputable def lhsA1(w:World)(os:wbJ):=(run w os).map (λs=>(openSeen view [] (wbD wa9.main.body) (λs=>wca view [] s && wc3 (wbn (wbe (wbp wav))) s) true s.abs).1)
noncomputable def lhsA2(w:World)(os:wbJ):=(run w os).map (λs=>((openSeen view [] (wbD wa9.main.body) (λs=>wca view [] s && wc3 (wbn (wbe (wbp wav))) s) true s.abs).2.1,(openSeen view [] (wbD wa9.main.body) (λs=>wca view [] s && wc3 (wbn (wbe (wbp wav))) s) true s.abs).2.2.1))
noncomputable def lhsA3(w:World)(os:wbJ):=(run w os).map (λs=>((openSeen view [] (wbD wa9.main.body) (λs=>wca view [] s && wc3 (wbn (wbe (wbp wav))) s) true s.abs).2.2.2.1,(openSeen view [] (wbD wa9.main.body) (λs=>wca view [] s && wc3 (wbn (wbe (wbp wav))) s) true s.abs).2.2.2.2.1))
noncomputable def lhsA5(w:World)(os:wbJ):=(run w os).map (λs=>(openSeen view [] (wbD wa9.main.body) (λs=>wca view [] s && wc3 (wbn (wbe (wbp wav))) s) true s.abs).2.2.2.2.2.1)
noncomputable def lhsA4(w:World)(os:wbJ):=(run w os).map (λs=>(openSeen view [] (wbD wa9.main.body) (λs=>wca view [] s && wc3 (wbn (wbe (wbp wav))) s) true s.abs).2.2.2.2.2.2)
noncomputable def lhsB(as:List Addr)(w:World)(os:wbJ):=(run w os).map (λs=>as.map s.abs.heap.get?)
end K42
noncomputable def PySem.W.Fast.tw14598715356260435866:=wh6
theorem PySem.W.Fast.te14598715356260435866:wh6=PySem.W.Fast.tw14598715356260435866:=rfl
noncomputable def PySem.W.Fast.tw16639353247426791656:=wa9
theorem PySem.W.Fast.te16639353247426791656:wa9=PySem.W.Fast.tw16639353247426791656:=rfl
noncomputable def PySem.W.Fast.tw13899100880601395773:=wgL
theorem PySem.W.Fast.te13899100880601395773:wgL=PySem.W.Fast.tw13899100880601395773:=rfl
lay_quick K42.lhsS K42.lhsA1 K42.lhsA2 K42.lhsA3 K42.lhsA4 K42.lhsA5 K42.lhsB
section
open PySem PySem.W PyProof.Rows
local macro_rules |`(tactic|o_head $H)=>`(tactic|(refine PySem.W.holds_open (q:=K42.view) (loose:=[]) (Xt:=λs=>PySem.W.xlAt K42.view [] s && PySem.W.recOk (PySem.W.RowW.records (PySem.W.OpenRow.toRowW (PySem.W.OpenLaw.row PySem.Challenge.rw_bandscribe_k42_data_refused))) s) (XP:=PySem.W.XL K42.view []) (Yf:=PySem.W.Hook.obs $H) (Ya:=PySem.W.Hook.val $H) (YP:=PySem.W.Hook.says $H) (N:=8100) ?hl (PySem.W.Hook.of $H) (PySem.W.Hook.keeps $H) (λs e=>PySem.W.xl_of s (Bool.and_eq_true_iff.mp e).1) PySem.W.XL.keeps (by rfl) (by rfl) (by rfl) (λs e=>PySem.W.recFacts_of (Bool.and_eq_true_iff.mp e).2) (by rfl) (by first |assumption |decide+kernel) (by decide+kernel) ⟨rfl,rfl,rfl,rfl,rfl,by decide+kernel⟩ ?hw ?hc;(case hl=>(intro w;contradiction))))
theorem K42.pre(h:False):(wav).Holds:=by
 w_on;o_law;k_head
 all_goals contradiction
end
namespace K42
open PySem PySem.W
noncomputable def addrs:List Addr:=[2,3,15,17,18,20,21,22,29,30,31,32,35,42,43,44,47,54,56,57,59,60,61,62,63,66,73,75,76,78,79,80,81,82,85,92,94,95,97,98,99,100,101,104,111,113,114,116,117,118,119,120,123,130,132,133,135,136,137,138,139,142,149,150,151,154,161,162,163,166,173,174,175,178,185,187,188,190,191,192,193,194,197,204,206,207,209,210,211,212,213,216,223,224,225,228,235,237,238,240,241,242,243,244,247,254,255,256,259,266,267,268,271,278,279,280,283,285,286,288,289,290,292,293,295,296,297,299,300,302,303,304,306,307,309,310,311,313,314,316,317,318,321,322,323,326,327,328,330,331,333,334,335,338,339,340,342,343,345,346,347,349,350,352,353,354,357,358,359,362,363,364,366,367,369,370,371,373,374,376,377,378,380,381,383,384,385,388,389,397,400,401,402,403,404,405,406,409,412,413,414,416,417,419,420,421,424,425,426,428,429,431,432,433,436,437,438,440,441,443,444,452,455,456,457,459,460,462,463,464,465,466,467,468,471,473,474,476,477,478,480,481,483,484,485,487,488,490,491,492,495,496,497,500,501,502,505,506,507,509,510,512,513,514,516,517,519,520,521,524,525,526,528,529,531,532,533,535,536,538,539,540,543,544,545,547,548,550,551,552,554,555,557,558,566,569,570,571,573,574,576,577,578,580,581,583,584,585,587,588,590,591,592,594,595,597,598,599,601,602,604,605,606,608,609,611,612,613,616,617,618,620,621,623,624,625,627,628,630,631,632,633,634,635,636,639,642,643,644,646,647,649,650,651,653,654,656,657,658,660,661,663,664,665,668,669,670,672,673,675,676,677,679,680,682,683,684,686,687,689,690,691,694,695,696,699,700,708,710,711,713,714,715,717,718,720,721,722,724,725,727,728,729,731,732,734,735,736,738,739,741,742,743,745,746,748,749,750,752,753,755,756,757,759,760,762,763,764,766,767,769,770,771,774,775,776,777,778,779,780,783,785,786,788,789,790,792,793,795,796,797,800,801,802,804,805,807,808,809,811,812,814,815,816,818,819,821,822,823,826,827]
open PyProof.Rows in
theorem pS(w:World)(os:wbJ):lhsS w os=some true:=wdu (congrFun (congrFun PySem.W.Fast.te5972240827390272306 w) os) (by kernel_rfl)
open PyProof.Rows in
theorem Wu(w:World)(os:wbJ):lhsA5 w os=some (plainGoodE view (looseW view [])):=wdu (congrFun (congrFun PySem.W.Fast.te17414556899748019135 w) os) (by kernel_rfl)
open PyProof.Rows in
theorem Wv(w:World)(os:wbJ):lhsA3 w os=some (true,pinGoodD (drecsOf view)):=wdu (congrFun (congrFun PySem.W.Fast.te204881701763649741 w) os) (by kernel_rfl)
open PyProof.Rows in
theorem Ww(w:World)(os:wbJ):lhsA4 w os=some (plainGoodD view [],wideGood view,clsGoodW view []):=wdu (congrFun (congrFun PySem.W.Fast.te15440954653196156960 w) os) (by kernel_rfl)
open PyProof.Rows in
theorem Wx(w:World)(os:wbJ):lhsA1 w os=some (expectedOf view):=wdu (congrFun (congrFun PySem.W.Fast.te14989016115041227451 w) os) (by kernel_rfl)
open PyProof.Rows in
theorem Wy(w:World)(os:wbJ):lhsA2 w os=some (bltViewBooted,true):=wdu (congrFun (congrFun PySem.W.Fast.te17215364357222607135 w) os) (by kernel_rfl)
theorem Wz(w:World)(os:wbJ):lhsB (K42.addrs.take 160) w os=some (((K42.pre.heap_39 w.params).map λp=>some p.2).take 160):=wdu (congrFun (congrFun (congrFun PySem.W.Fast.te18017428133188203857 _) w) os) (by kernel_rfl)
theorem WB(w:World)(os:wbJ):lhsB (K42.addrs.drop 160) w os=some (((K42.pre.heap_39 w.params).map λp=>some p.2).drop 160):=wdu (congrFun (congrFun (congrFun PySem.W.Fast.te18017428133188203857 _) w) os) (by kernel_rfl)
theorem op:opening wa9=plainProg wa9.main.scope.names:=by kernel_rfl
theorem fe(s:Shared):fenceModules? wa9 s=some s:=by kernel_rfl
theorem tr(P:Params):absHeap (tree0 P) 11 (wcO P).life=wcO P:=by kernel_rfl
theorem sz(P:Params):((wcO P).isNs waL && (Array.mk []:Array wcX).size == 0,(wcO P).objs.size,(wcO P).nsMap waL "__annotations__")=(true,11,(some (waf 6))):=by kernel_rfl
theorem whole:LeftO wa9 view [] (λs=>wca view [] s && wc3 (wbn (wbe (wbp wav))) s) (λs=>K42.addrs.map s.heap.get?) (λw=>((K42.pre.heap_39 w.params).map λp=>some p.2)) 8100:=Tt.Ir (H₀:=wcO) (T₀:=tree0) (life:=λP=>(wcO P).life) (boot_open op (by decide+kernel) fe) sz tr λw os=>Tt.KY (o:=run w os) (f:=λs=>Tt.sound wa9 (wcO w.params) s) (g:=λs=>openSeen view [] (wbD wa9.main.body) (λs=>wca view [] s && wc3 (wbn (wbe (wbp wav))) s) true s.abs) (h:=λs=>K42.addrs.map s.abs.heap.get?) (pS w os) (Tt.four (o:=run w os) (f:=λs=>openSeen view [] (wbD wa9.main.body) (λs=>wca view [] s && wc3 (wbn (wbe (wbp wav))) s) true s.abs) (a:=openGood view []) (Wx w os) (Wy w os) (Wv w os) (Wu w os) (Ww w os)) (Tt.cut (o:=run w os) 160 (Wz w os) (WB w os))
end K42
namespace L2
open PySem PySem.Spec PyProof.Rows
noncomputable abbrev Key:=Sum Int Str
noncomputable def vR:Key->Value->Bool
 |.inl k,v=>Value.isInt k v
 |.inr x,v=>wgk x v
noncomputable def QT(w:World):Key->Int
 |.inl k=>hashInt k
 |.inr x=>hashStr w x
theorem bT:∀{k:Key} {v:Value},vR k v=true->(∃i t,k=wbg i/\v=wfr i t)\/(∃x t,k=waz x/\v=wfs x t)
 |.inl i,v,h=>by
  obtain⟨t,e⟩:=Value.isInt_shape (k:=i) (v:=v) h;exact .inl ⟨i,t,rfl,e⟩
 |.inr x,v,h=>by
  obtain⟨t,e⟩:=wgq (x:=x) (v:=v) h;exact .inr ⟨x,t,rfl,e⟩
theorem DC(i:Int)(t:Tok):vR (.inl i) (.int i t)=true:=by simp[vR,Value.isInt]
theorem DE(x:Str)(t:Tok):vR (.inr x) (.str x t)=true:=by simp[vR,wgk]
theorem KZ(a b:Int):decide ((wbg a:Key)=wbg b)=(a == b):=by
 grind
theorem L1(a b:Str):decide ((waz a:Key)=waz b)=decide (a=b):=by simp_all [Key,wcY,decide_eq_false]
theorem L4(a:Int)(b:Str):decide ((wbg a:Key)=waz b)=false:=decide_eq_false (λq=>nomatch q)
theorem L5(a:Str)(b:Int):decide ((waz a:Key)=wbg b)=false:=decide_eq_false (λq=>nomatch q)
noncomputable def bf(prog:wat)(w:World):PySem.KeyKind prog w Key where
 is:=vR
 hash:=QT w
 inj:=λv a b ha hb=>by
  rcases bT ha with⟨i,t,rfl,rfl⟩ |⟨x,t,rfl,rfl⟩
  ·rcases bT hb with⟨j,u,rfl,e⟩ |⟨y,u,rfl,e⟩
   ·injection e with e1 _;rw[e1]
   ·exact nomatch e
  ·rcases bT hb with⟨j,u,rfl,e⟩ |⟨y,u,rfl,e⟩
   ·exact nomatch e
   ·injection e with e1 _;rw[e1]
 byValue:=λk v h=>by
   rcases bT h with⟨i,t,rfl,rfl⟩ |⟨x,t,rfl,rfl⟩ <;> rfl
 pyHash:=λhv h=>by
  rcases bT hv with⟨i,t,rfl,rfl⟩ |⟨x,t,rfl,rfl⟩
  ·exact wpAny_pyHash_int h
  ·exact wpAny_pyHash_str h
 eqBool:=λhu hv h=>by
  rcases bT hu with⟨i,t,rfl,rfl⟩ |⟨x,t,rfl,rfl⟩
  ·rcases bT hv with⟨j,u,rfl,rfl⟩ |⟨y,u,rfl,rfl⟩
   ·rw[KZ]at h;exact wpAny_eqBool_int h
   ·rw[L4]at h;exact wgz i t y u _ _ _ _ h
  ·rcases bT hv with⟨j,u,rfl,rfl⟩ |⟨y,u,rfl,rfl⟩
   ·rw[L5]at h;exact wgA x t j u _ _ _ _ h
   ·rw[L1]at h;exact wpAny_eqBool_str h
 «strs»:=λk x t v h=>by
  rcases bT h with⟨i,u,rfl,e⟩ |⟨y,u,rfl,e⟩
  ·exact nomatch e
  ·injection e with e1 _
   subst e1;cases v <;> rfl
theorem yO(prog:wat)(w:World)(i:Int)(t:Tok):(bf prog w).is (.inl i) (.int i t)=true:=DC i t
theorem yP(prog:wat)(w:World)(x:Str)(t:Tok):(bf prog w).is (.inr x) (.str x t)=true:=DE x t
set_option genInjectivity true in
inductive V where
 |non |bl (b:Bool) |int (i:Int) |str (x:Str) |byt (b:Array UInt8) |flt (b:UInt64) |ref (a:Addr) |ty (n:String)
 deriving DecidableEq
def RelV:V->Value->Prop
 |.non,u=>u=wby
 |.bl b,u=>u=wg9 b
 |.int i,u=>∃t,u=wfr i t
 |.str x,u=>∃t,u=wfs x t
 |.byt b,u=>∃t,u=Value.bytes b t
 |.flt b,u=>∃t,u=wgY b t
 |.ref a,u=>u=waf a
 |.ty n,u=>u=we4 n
abbrev Vals:List V->List Value->Prop:=Paired RelV
theorem Vals.length{xs:List V}{us:List Value}(r:Vals xs us):xs.length=us.length:=wgl r
theorem Vals.get:∀{xs:List V} {us:List Value} {i:Nat} {x:V},Vals xs us->xs[i]?=some x->∃u,us[i]?=some u/\RelV x u
 |_,_,_,_,.nil,e=>by simp at e
 |_,_,0,_,.cons r _,e=>by simp at e;subst e;exact⟨_,rfl,r⟩
 |_,_,i + 1,x,.cons _ t,e=>by
  obtain⟨u,a,b⟩:=Vals.get (i:=i) (x:=x) t (by simpa using e);exact⟨u,by simpa using a,b⟩
theorem Vals.set(r:RelV x u):∀{xs:List V} {us:List Value} (i:Nat),Vals xs us->Vals (xs.set i x) (us.set i u)
 |_,_,_,.nil=>.nil
 |_,_,0,.cons _ t=>.cons r t
 |_,_,i + 1,.cons q t=>.cons q (Vals.set r i t)
theorem Vals.append:∀{xs ys:List V} {us ws:List Value},Vals xs us->Vals ys ws->Vals (xs++ys) (us++ws)
 |_,_,_,_,.nil,s=>s
 |_,_,_,_,.cons r t,s=>.cons r (Vals.append t s)
theorem Vals.take:∀{xs:List V} {us:List Value} (n:Nat),Vals xs us->Vals (xs.take n) (us.take n)
 |_,_,0,_=>.nil
 |_,_,_ + 1,.nil=>.nil
 |_,_,n + 1,.cons r t=>.cons r (Vals.take n t)
theorem Vals.drop:∀{xs:List V} {us:List Value} (n:Nat),Vals xs us->Vals (xs.drop n) (us.drop n)
 |_,_,0,r=>r
 |_,_,_ + 1,.nil=>.nil
 |_,_,n + 1,.cons _ t=>Vals.drop n t
theorem Vals.none_of:∀{xs:List V} {us:List Value} {i:Nat},Vals xs us->xs[i]?=none->us[i]?=none:=λ{xs us i} r e=>by
 have a:=r.length;have b:xs.length<=i:=wcA.mp e;exact wcA.mpr (by omega)
def iu:Option V->Option Value->Prop
 |some v,some u=>RelV v u
 |none,none=>True
 |_,_=>False
def KV{κ:Type}:List (κ×V)->List (κ×Value)->Prop:=Paired λ(p:κ×V) (q:κ×Value)=>p.1=q.1/\RelV p.2 q.2
noncomputable def kV:Key->V
 |.inl i=>.int i
 |.inr x=>.str x
set_option genInjectivity true in
inductive HO where
 |lst (xs:List V)
 |tup (xs:List V)
 |dK (kvs:List (Key×V)) |dT (kvs:List (List Key×V))
 |set (S:Int->Bool) (n:Nat)
 |ins (C dx:Addr) (fs:List (Str×V))
 |own (x:Addr)
 |xd (fs:List (Str×V))
 |met (f x:Addr)
 |rng (lo hi:Int)
 |frz (o:Obj) (u:HO)
 |tbl (ps:Array Value)
 |ext (φ:Heap->Prop)
noncomputable abbrev Hp:=Addr->Option HO
noncomputable def upd(H:Hp)(a:Addr)(o:HO):Hp:=λb=>if b=a then some o else H b
theorem a6:upd H a o a=some o:=by unfold upd;rw[if_pos rfl]
theorem aa(h:b≠a):upd H a o b=H b:=by unfold upd;rw[if_neg h]
theorem Cz:upd (upd H a o) a u=upd H a u:=by
 funext b;unfold upd;split <;> rfl
theorem Nn{H:Hp}{a b:Addr}{o u:HO}(h:H a=some o)(h':H b=some u)(d:o≠u):a≠b:=by grind [wah]
theorem ae{H:Hp}{a b:Addr}{o:HO}(h:H a=some o)(h':H b=none):a≠b:=by
 grind
section
variable(P:wat)(w:World)
def bG(H:Hp)(h:Heap)(a:Addr):HO->Prop
 |.lst xs=>xs.length<=sizeLine/\∃(its:List Value) (n:Nat),Vals xs its/\h.get? a=some {cls:=.type "list",data:=.seq its.toArray n}
 |.tup xs=>xs.length<=sizeLine/\∃its:List Value,Vals xs its/\IsTup h a its.toArray
 |.dK kvs=>kvs.length<=sizeLine/\(a == wcP)=false/\∃vs,KV kvs vs/\h.DictOf (bf P w) a vs
 |.dT kvs=>kvs.length<=sizeLine/\(a == wcP)=false/\∃xs:List (List Key×Addr×Value),
   Paired (λ(p:List Key×V) (q:List Key×Addr×Value)=>p.1=q.1/\H q.2.1=some (.tup (p.1.map kV))/\RelV p.2 q.2.2) kvs xs /\
   ∃o es ep,h.get? a=some o/\o.ExactDict/\o.data=.dict es ep/\es.toList=xs.map (entryOfKey (wft (bf P w)))/\(xs.map (·.1)).Nodup
 |.set S n=>h.SetOf (intKind P w) a S n
 |.ins C dx fs=>H dx=some (.own a)/\fs.length<=1000/\dx≠a/\h.get? a=some (wcb C dx) /\
   ∃mA,h.Ns1 dx mA/\(∀f,iu (fs.lookup f) (mA f))/\wdv mA (fs.map (·.1))
 |.own _=>∃o,h.get? a=some o
 |.xd fs=>∃mA,h.Ns1 a mA/\∀f,iu (fs.lookup f) (mA f)
 |.rng lo hi=>∃t u v,h.get? a=some {cls:=.type "range",data:=.fields #[.int lo t,.int hi u,.int 1 v]}
 |.frz o u=>h.get? a=some o/\bG H h a u
 |.tbl ps=>h.get? a=some {cls:=.none,data:=.fields ps}
 |.met f x=>h.get? a=some (weP (.ref f) (.ref x))
 |.ext φ=>φ h/\(∃o,h.get? a=some o)/\∀h1 h2:Heap,φ h1->(∀o,h1.get? a=some o->h2.get? a=some o)->φ h2
def j8(H:Hp)(h:Heap):Prop:=∀a o,H a=some o->bG P w H h a o
end
section
variable{P:wat}{w:World}{H H':Hp}{h h':Heap}{a:Addr}{o:HO}
theorem bG.lt(x:bG P w H h a o):a < h.objs.size:=by
 cases o with
 |lst c=>obtain⟨_,_,_,_,e⟩:=x;exact wad e
 |tup c=>obtain⟨_,_,_,p⟩:=x;exact p.lt
 |dK b=>obtain⟨_,_,_,_,o,_,_,e,_⟩:=x;exact wad e
 |dT b=>obtain⟨_,_,_,_,o,_,_,e,_⟩:=x;exact wad e
 |set S n=>obtain⟨o,_,_,_,e,_⟩:=x;exact wad e
 |ins C d fs=>obtain⟨_,_,_,e,_⟩:=x;exact wad e
 |own y=>obtain⟨_,e⟩:=x;exact wad e
 |xd fs=>obtain⟨_,⟨_,_,_,e,_⟩,_⟩:=x;exact wad e
 |rng lo hi=>obtain⟨_,_,_,e⟩:=x;exact wad e
 |frz ob u=>obtain⟨e,_⟩:=x;exact wad e
 |tbl ps=>exact wad (show h.get? a=some _ from x)
 |met f y=>exact wad (show h.get? a=some _ from x)
 |ext φ=>obtain⟨_,⟨_,e⟩,_⟩:=x;exact wad e
theorem Paired.L6{α β:Type}{F G:α->β->Prop}:∀{g:List α} {j:List β},Paired F g j->(∀a b,F a b->G a b)->Paired G g j
 |_,_,.nil,_=>.nil
 |_,_,.cons r t,f=>.cons (f _ _ r) (Paired.L6 t f)
theorem bG.p8(x:bG P w H h a o)(k:∀b u,(b=a\/H b=some (.own a))->h.get? b=some u->h'.get? b=some u)
 (I:∀b,H b=some (.own a)->H' b=some (.own a)) (J:∀b xs,H b=some (.tup xs)->H' b=some (.tup xs)):bG P w H' h' a o:=by
 induction o with
 |lst xs=>obtain⟨z,j,n,r,e⟩:=x;exact⟨z,j,n,r,k _ _ (.inl rfl) e⟩
 |tup xs=>obtain⟨z,j,r,ob,e,c⟩:=x;exact⟨z,j,r,ob,k _ _ (.inl rfl) e,c⟩
 |dK l=>obtain⟨z,y,A,r,ob,g,i,e,c⟩:=x;exact⟨z,y,A,r,ob,g,i,k _ _ (.inl rfl) e,c⟩
 |dT l=>
  obtain⟨z,y,xs,r,ob,g,i,e,c⟩:=x;exact⟨z,y,xs,Paired.L6 r λp q z=>⟨z.1,J _ _ z.2.1,z.2.2⟩,ob,g,i,k _ _ (.inl rfl) e,c⟩
 |set S n=>obtain⟨ob,g,i,t,e,c⟩:=x;exact⟨ob,g,i,t,k _ _ (.inl rfl) e,c⟩
 |ins C E fs=>
  obtain⟨d,z,ne,e,m,⟨s,g,i,B,c⟩,r⟩:=x;exact⟨I _ d,z,ne,k _ _ (.inl rfl) e,m,⟨s,g,i,k _ _ (.inr d) B,c⟩,r⟩
 |own y=>obtain⟨ob,e⟩:=x;exact⟨ob,k _ _ (.inl rfl) e⟩
 |xd fs=>obtain⟨m,⟨s,g,i,e,c⟩,r⟩:=x;exact⟨m,⟨s,g,i,k _ _ (.inl rfl) e,c⟩,r⟩
 |rng lo hi=>obtain⟨t,u,v,e⟩:=x;exact⟨t,u,v,k _ _ (.inl rfl) e⟩
 |frz ob u D=>obtain⟨e,q⟩:=x;exact⟨k _ _ (.inl rfl) e,D q⟩
 |tbl ps=>
  have e:h.get? a=some {cls:=.none,data:=.fields ps}:=x;show h'.get? a=some {cls:=.none,data:=.fields ps};exact k a _ (.inl rfl) e
 |met f y=>
  have e:h.get? a=some (weP (.ref f) (.ref y)):=x;show h'.get? a=some (weP (.ref f) (.ref y));exact k a _ (.inl rfl) e
 |ext φ=>obtain⟨p,⟨o,e⟩,st⟩:=x;exact⟨st _ _ p λo q=>k _ _ (.inl rfl) q,⟨o,k _ _ (.inl rfl) e⟩,st⟩
theorem j8.lt(x:j8 P w H h)(e:H a=some o):a < h.objs.size:=(x a o e).lt
theorem j8.fresh(x:j8 P w H h)(e:h.objs.size<=a):H a=none:=by
 cases q:H a with
 |none=>rfl
 |some u=>exact absurd (wan (x.lt q) e) (wb4 _)
theorem j8.kept(x:j8 P w H h)(k:∀b u,h.get? b=some u->h'.get? b=some u):j8 P w H h':=λa o e=>
 (x a o e).p8 (λb u _ q=>k b u q) (λ_ q=>q) λ_ _ q=>q
theorem j8.laid(x:j8 P w H h)(k:∀b u,h.get? b=some u->h'.get? b=some u)(g:h.objs.size<=a)(new:bG P w (upd H a o) h' a o):j8 P w (upd H a o) h':=λb u e=>by
 have hn:=x.fresh g
 by_cases d:b=a
 ·grind [a6]
 ·rw[aa d]at e;exact(x b u e).p8 (λc v _ q=>k c v q) (λc q=>by rw[aa (ae q hn)];exact q) λc f q=>by rw[aa (ae q hn)];exact q
end
def Rd(H:Hp)(a:Addr)(u:HO):Prop:=H a=some u\/∃o,H a=some (.frz o u)
theorem Rd.of{H:Hp}{a:Addr}{u:HO}(h:H a=some u):Rd H a u:=.inl h
theorem Rd.ok{P:wat}{w:World}{H:Hp}{h:Heap}{a:Addr}{u:HO}(r:Rd H a u)(x:j8 P w H h):bG P w H h a u:=by
 rcases r with r |⟨o,r⟩
 ·exact x a u r
 ·obtain⟨_,q⟩:=x a _ r;exact q
def Np:Option HO->Prop
 |some (.lst _)=>True
 |some (.dK _)=>True
 |some (.dT _)=>True
 |some (.set _ _)=>True
 |some (.ins _ _ _)=>True
 |some (.ext _)=>True
 |_=>False
section
variable{P:wat}{w:World}{H:Hp}{h h':Heap}{x e:Addr}{o':HO}
theorem j8.write(ok:j8 P w H h)(g:Np (H x))(o:e=x\/H e=some (.own x))(k:∀b u,b≠e->h.get? b=some u->h'.get? b=some u)(l:∃u,h'.get? e=some u)
 (new:bG P w (upd H x o') h' x o'):j8 P w (upd H x o') h':=λb u q=>by
 have d:∀c y,H c=some (.own y)->c≠x:=λc y r z=>by subst z;rw[r]at g;exact g
 have f:∀c i,H c=some (.tup i)->c≠x:=λc i r z=>by subst z;rw[r]at g;exact g
 by_cases j:b=x
 ·subst j;rw[a6]at q;cases q;exact new
 ·rw[aa j]at q
  by_cases a:b=e
  ·have m:H b=some (.own x):=by
    rcases o with z |z
    ·exact absurd (a.trans z) j
    ·rw[a];exact z
   rw[q]at m;cases m;obtain⟨v,n⟩:=l;exact⟨v,by rw[a];exact n⟩
  ·refine(ok b u q).p8 (λc v hc r=>k c v ?_ r) (λc r=>by rw[aa (d c b r)];exact r) λc i r=>by rw[aa (f c i r)];exact r
   rcases hc with rfl |hc
   ·exact a
   ·rintro rfl;rcases o with z |z
    ·exact d c b hc z
    ·rw[hc]at z;cases z;exact j rfl
end
structure Un(fs ex:List Addr)(H H':Hp)(h h':Heap):Prop where
 keep:∀b o,h.get? b=some o->H b=none->b∉fs->b∉ex->h'.get? b=some o
 slot:∀b o,h.get? b=some o->H b=none->b∈fs->b∉ex->∃sl,h'.get? b=some {o with slots:=sl}
 free:∀b o,h.get? b=some o->H b=none->b∉ex->H' b=none
 there:∀b o,h.get? b=some o->b∉ex->∃o',h'.get? b=some o'
 k9:∀b xs,H b=some (.tup xs)->H' b=some (.tup xs)
 ja:∀b o u,H b=some (.frz o u)->H' b=some (.frz o u)
 kc:∀b ps,H b=some (.tbl ps)->∃more,H' b=some (.tbl (ps++more))
section
variable{fs QU ex Uo:List Addr}{H H1 H2:Hp}{h h1 h2 h':Heap}{a x e:Addr}{o:HO}
theorem Un.any(u:Un fs ex H H1 h h1){b:Addr}{ob:Obj}(q:h.get? b=some ob)(n:H b=none)(g:b∉ex):∃sl,h1.get? b=some {ob with slots:=sl}:=by
 by_cases a:b∈fs
 ·exact u.slot b ob q n a g
 ·exact⟨ob.slots,u.keep b ob q n a g⟩
theorem Un.trans(a:Un fs ex H H1 h h1)(b:Un fs ex H1 H2 h1 h2):Un fs ex H H2 h h2 where
 keep:=λc ob q n hc d=>b.keep c ob (a.keep c ob q n hc d) (a.free c ob q n d) hc d
 slot:=λc ob q n hc d=>by
  obtain⟨sl,e⟩:=a.slot c ob q n hc d;obtain⟨g,j⟩:=b.slot c _ e (a.free c ob q n d) hc d;exact⟨g,j⟩
 free:=λc ob q n d=>by
  obtain⟨i,e⟩:=a.there c ob q d;exact b.free c i e (a.free c ob q n d) d
 there:=λc ob q d=>by
  obtain⟨i,e⟩:=a.there c ob q d;exact b.there c i e d
 k9:=λc f q=>b.k9 c f (a.k9 c f q)
 ja:=λc ob f q=>b.ja c ob f (a.ja c ob f q)
 kc:=λc ps q=>by
  obtain⟨k,e⟩:=a.kc c ps q;obtain⟨l,j⟩:=b.kc c _ e;exact⟨k++l,by grind⟩
theorem Un.kept(k:∀b u,h.get? b=some u->h'.get? b=some u):Un fs ex H H h h':=
 ⟨λb ob q _ _ _=>k b ob q,λb ob q _ _ _=>⟨ob.slots,k b ob q⟩,λ_ _ _ n _=>n,λb ob q _=>⟨ob,k b ob q⟩,λ_ _ q=>q,λ_ _ _ q=>q,λ_ ps q=>⟨#[],by rw[q];simp⟩⟩
theorem Un.refl:Un fs ex H H h h:=Un.kept λ_ _ q=>q
theorem Un.laid(k:∀b u,h.get? b=some u->h'.get? b=some u)(g:h.objs.size<=a)(hn:H a=none):Un fs ex H (upd H a o) h h' where
 keep:=λb u q _ _ _=>k b u q
 slot:=λb u q _ _ _=>⟨u.slots,k b u q⟩
 free:=λb u q n _=>by rw[aa (war (wan (wad q) g))];exact n
 there:=λb u q _=>⟨u,k b u q⟩
 k9:=λb c q=>by rw[aa (ae q hn)];exact q
 ja:=λb u c q=>by rw[aa (ae q hn)];exact q
 kc:=λb ps q=>⟨#[],by rw[aa (ae q hn),q];simp⟩
theorem Un.write(g:Np (H x))(l:e=x\/H e=some (.own x))(k:∀b u,b≠e->h.get? b=some u->h'.get? b=some u)(j:∃u,h'.get? e=some u):Un fs ex H (upd H x o) h h':=by
 have f:∀b,H b=none->b≠x:=λb n z=>by subst z;rw[n]at g;exact g
 have d:∀b,H b=none->b≠e:=λb n z=>by
  subst z;rcases l with r |r
  ·grind
  ·grind
 have c:∀b u,H b=some u->¬Np (some u)->b≠x:=λb u q i z=>by subst z;rw[q]at g;exact i g
 refine⟨λb u q n _ _=>k b u (d b n) q,λb u q n _ _=>⟨u.slots,k b u (d b n) q⟩,λb u q n _=>by rw[aa (f b n)];exact n,λb u q _=>?_,
  λb m q=>by rw[aa (c b _ q λz=>z)];exact q,λb u m q=>by rw[aa (c b _ q λz=>z)];exact q,λb ps q=>⟨#[],by rw[aa (c b _ q λz=>z),q];simp⟩⟩
 by_cases a:b=e
 ·subst a;exact j
 ·exact⟨u,k b u a q⟩
theorem Un.mono(u:Un fs ex H H1 h h1)(hs:∀b∈fs,b∈QU)(g:∀b∈ex,b∈Uo):Un QU Uo H H1 h h1:=
 ⟨λb ob q n c a=>u.keep b ob q n (λz=>c (hs b z)) λz=>a (g b z),λ_ _ q n _ a=>u.any q n λz=>a (g _ z),λb ob q n a=>u.free b ob q n λz=>a (g b z),λb ob q a=>u.there b ob q λz=>a (g b z),u.k9,u.ja,u.kc⟩
end
noncomputable def QV(h:Heap)(H:Hp):List Addr:=(waJ h.objs.size).filter λa=>(H a).isSome
noncomputable def xI(h:Heap)(H:Hp):Heap:=PySem.W.hideAll h (QV h H)
theorem DF(h:Heap)(H:Hp):(xI h H).objs.size=h.objs.size:=PySem.W.hideAll_size _ _
theorem Fi(e:h.get? b=some o)(n:H b=none):(xI h H).get? b=some o:=
 PySem.W.hideAll_get _ e λa=>by
  have q:(H b).isSome=true:=(waC.mp a).2;rw[n]at q;simp at q
theorem Iu(e:(xI h H).get? b=some o):h.get? b=some o/\H b=none:=by
 have a:h.get? b=some o:=PySem.W.of_hideAll (QV h H) e;refine⟨a,?_⟩
 cases q:H b with
 |none=>rfl
 |some x=>
  grind [QV,wad,xI,PySem.W.hideAll_none]
noncomputable def Iv(g h:Heap)(L:Addr):List (Addr×Obj):=(waJ h.objs.size).filterMap λa=>if a=L\/(g.get? a).isSome=true then none else(h.get? a).map λo=>(a,o)
noncomputable def rest(g h:Heap)(L d:Addr):List (Addr×Obj):=(Iv g h L).filter λp=>decide (p.1≠d)
structure Mod(K:wa1)(mg:Str->Option Value)(base:Heap):Prop where
 Iw:K.In base
 glob:base.Ns waL mg
 blt:∃mb,base.Ns builtinsNs mb/\∀x:Str,x≠"__name__"->mb x=waR x
 nolimit:base.NoLimit
structure Cx where
 prog:wat
 w:World
 K:wa1
 mg:Str->Option Value
 base:Heap
 A:Around
 N:List Str
 s₀:Shared
 H₀:Hp
 env:Env
 outer:List Env
 stack:List Env
 ex:List Addr
 fn:Str->Bool
 calm:Bool
 pn:List (Addr×Obj)
 xe:Value->Shared->Prop
noncomputable def p7(l:List Env):List Addr:=l.filterMap (·.frame)
noncomputable abbrev Cx.fs(X:Cx):List Addr:=p7 X.outer
def MU(sc:wcQ)(x:Str):Prop:=sc.names.lookup x=some .local\/sc.names.lookup x=some .cell\/sc.names.lookup x=some .free
def Loc(sc:wcQ)(x:Str):Prop:=sc.names.lookup x=some .local\/sc.names.lookup x=some .cell
def Look(env:Env)(h:Heap)(m:Str->Option Value)(x:Str)(u:Value):Prop:=
 (env.kindOf x=some .local/\m x=some u)\/((env.kindOf x=some .cell\/env.kindOf x=some .free)/\∃c,env.cells.lookup x=some c/\h.IsCell c (some u))
structure Cx.Ok(X:Cx):Prop where
 mod:Mod X.K X.mg X.base
 kind:X.env.scope.kind=.function
 glob:X.env.globals=waL
 blt:X.env.builtins=builtinsNs
 above:X.s₀.heap.objs.size<=X.env.locals
 inj:∀x y c,X.env.cells.lookup x=some c->X.env.cells.lookup y=some c->x=y
 has:∀x,(X.env.kindOf x=some .cell\/X.env.kindOf x=some .free)->∃c,X.env.cells.lookup x=some c
 L7:∀x c,X.fn x=true->X.env.cells.lookup x=some c->X.s₀.heap.objs.size<=c
 hd:X.calm=true->X.A.handled=none
 frames:X.A.frames=some X.stack
 MV:X.stack=X.outer\/(X.stack=X.env :: X.outer/\X.env.frame=some X.env.locals)
 Q8:∀b∈X.ex,b≠X.env.locals/\∀x c,X.env.cells.lookup x=some c->c≠b
 bs:∀b o,X.base.get? b=some o->X.s₀.heap.get? b=some o/\X.H₀ b=none
 Fb:X.base.objs.size<=X.s₀.heap.objs.size
 AF:∀b o,X.base.get? b=some o->b∉X.ex
 DG:∀b∈X.ex,b∉X.fs
 mJ:X.s₀.heap.FunFrames X.base X.outer
 Ih:∀b∈X.fs,X.H₀ b=none
structure Inv(X:Cx)(pins:List (Addr×Obj))(σ:List (Option V))(H:Hp)(s:Shared):Prop where
 ok:X.Ok
 os:s.os=X.s₀.os
 bare:AllBare s.gens
 base:Un X.fs X.ex X.H₀ H X.s₀.heap s.heap
 loc:∃m,s.heap.Ns X.env.locals m/\∀(i:Nat) (x:Str) (v:V),X.N[i]?=some x->σ[i]?=some (some v)->MU X.env.scope x->∃u,RelV v u/\Look X.env s.heap m x u
 cell:∀x c,X.env.cells.lookup x=some c->∃v,s.heap.IsCell c v
 free:H X.env.locals=none
 gY:∀x c,X.env.cells.lookup x=some c->H c=none
 pin:∀p∈X.pn++pins,s.heap.get? p.1=some p.2/\H p.1=none/\p.1≠X.env.locals/\p.1∉X.fs/\∀v,p.2.data≠.cell v
 aW:j8 X.prog X.w H s.heap
 len:σ.length=X.N.length
section
variable{X:Cx}{pins:List (Addr×Obj)}{σ:List (Option V)}{H H':Hp}{s:Shared}{h':Heap}
theorem Cx.Ok.QW(ok:X.Ok)(e:X.base.get? b=some o):b∉X.fs:=λa=>by
 have:=(ok.mJ.mem a).1;rw[e]at this;cases this
theorem Inv.bs(I:Inv X pins σ H s):∀b o,X.base.get? b=some o->s.heap.get? b=some o/\H b=none:=λb o e=>
 ⟨I.base.keep b o (I.ok.bs b o e).1 (I.ok.bs b o e).2 (I.ok.QW e) (I.ok.AF b o e),I.base.free b o (I.ok.bs b o e).1 (I.ok.bs b o e).2 (I.ok.AF b o e)⟩
theorem Inv.bk(I:Inv X pins σ H s):∀b o,X.base.get? b=some o->s.heap.get? b=some o:=λb o e=>(I.bs b o e).1
theorem Inv.mod(I:Inv X pins σ H s):Mod X.K X.mg X.base:=I.ok.mod
theorem Inv.fv(I:Inv X pins σ H s):X.K.In s.heap:=I.ok.mod.Iw.keeps I.bk
theorem Inv.nolimit(I:Inv X pins σ H s):s.heap.NoLimit:=I.ok.mod.nolimit.keeps I.bk
theorem Inv.lt(I:Inv X pins σ H s):X.env.locals < s.heap.objs.size:=let ⟨_,hn,_⟩:=I.loc;hn.lt
theorem Inv.sz(I:Inv X pins σ H s):X.s₀.heap.objs.size<=s.heap.objs.size:=wal I.ok.above (we5 I.lt)
theorem Inv.QX(I:Inv X pins σ H s)(h:s.heap.objs.size<=a):a∉X.fs:=λb=>by
 obtain⟨_,o,c,_⟩:=I.ok.mJ.mem b;exact absurd (wan (wad c) (wal I.sz h)) (wb4 _)
theorem Inv.Fj(I:Inv X pins σ H s):∀x c,X.env.cells.lookup x=some c->c≠X.env.locals:=λx c e z=>by
 obtain⟨v,o,d,hd⟩:=I.cell x c e;obtain⟨m,⟨f,g,h,a,b,_⟩,_⟩:=I.loc;rw[z,a]at d;cases d;rw[b]at hd;cases hd
theorem Inv.mJ(I:Inv X pins σ H s):s.heap.FunFrames X.base X.outer:=by
 have all:∀(l:List Env),(∀b∈p7 l,b∈X.fs)->X.s₀.heap.FunFrames X.base l->s.heap.FunFrames X.base l:=by
  intro l
  induction l with
  |nil=>intro _ _;trivial
  |cons env r g=>
   intro f hl;obtain⟨h,⟨L,o,a,hn,i,hd⟩,j⟩:=hl;have c:L∈X.fs:=f L (by unfold p7;rw[wbk,a];exact wag);obtain⟨sl,e⟩:=I.base.slot L o i (I.ok.Ih L c) c λz=>I.ok.DG L z c;exact⟨h,⟨L,_,a,hn,e,hd⟩,g (λb d=>f b (by unfold p7;rw[wbk,a];exact wac _ d)) j⟩
 exact all X.outer (λ_ d=>d) I.ok.mJ
theorem Inv.stack(I:Inv X pins σ H s):s.heap.FunFrames X.base X.stack:=by
 rcases I.ok.MV with e |⟨e,a⟩
 ·rw[e];exact I.mJ
 ·rw[e];obtain⟨m,hn,_⟩:=I.loc;refine .cons (by rw[I.ok.kind];decide) a hn ?_ I.mJ;exact Heap.get?_none_of_le (wal I.ok.Fb I.ok.above)
theorem Inv.rV(I:Inv X pins σ H s):∀b∈p7 X.stack,b∈X.env.locals :: X.fs:=λb a=>by
 rcases I.ok.MV with e |⟨e,c⟩
 ·grind
 ·grind [p7]
theorem Inv.nD(I:Inv X pins σ H s):∀b∈p7 X.stack,H b=none:=λb a=>by
 rcases waH.mp (I.rV b a) with e |a
 ·rw[e];exact I.free
 ·obtain⟨_,o,c,_⟩:=I.ok.mJ.mem a;exact I.base.free b o c (I.ok.Ih b a) λz=>I.ok.DG b z a
theorem Inv.step{g':Array wcX}{t':Nat}{d':Drawn}{ch:List Addr}(I:Inv X pins σ H s)
 (g:∀b∈ch,(b∈X.ex\/X.s₀.heap.objs.size<=b)/\b≠X.env.locals/\(∀x c,X.env.cells.lookup x=some c->c≠b)/\∀p∈X.pn++pins,p.1≠b)
 (keep:∀b o,b≠X.env.locals->b∉X.fs->b∉ch->s.heap.get? b=some o->H b=none->h'.get? b=some o)
 (slot:∀b o,b≠X.env.locals->b∈X.fs->b∉ch->s.heap.get? b=some o->H b=none->∃sl,h'.get? b=some {o with slots:=sl}) (free:∀b o,b∉ch->s.heap.get? b=some o->H b=none->H' b=none)
 (there:∀b o,b∉ch->s.heap.get? b=some o->∃C,h'.get? b=some C)
 (k9:∀b xs,H b=some (.tup xs)->H' b=some (.tup xs)) (ja:∀b o u,H b=some (.frz o u)->H' b=some (.frz o u)) (kc:∀b ps,H b=some (.tbl ps)->∃more,H' b=some (.tbl (ps++more)))
 (ns:∀m,s.heap.Ns X.env.locals m->h'.Ns X.env.locals m) (aW:j8 X.prog X.w H' h') (J:AllBare g') :
 Inv X pins σ H' {s with heap:=h',gens:=g',drawn:=d',toks:=t'}:=by
 have B:∀b o,X.s₀.heap.get? b=some o->b≠X.env.locals:=λb o e=>war (wan (wad e) I.ok.above)
 have j:∀b o,X.s₀.heap.get? b=some o->b∉X.ex->b∉ch:=λb o e a y=>by
  rcases(g b y).1 with z |z
  ·exact a z
  ·exact absurd (wan (wad e) z) (wb4 _)
 have f:∀x c,X.env.cells.lookup x=some c->∀v,s.heap.IsCell c v->h'.IsCell c v:=λx c e v ⟨o,A,hd⟩=>by
  have h:c∉ch:=λz=>(g c z).2.2.1 x c e rfl
  by_cases hc:c∈X.fs
  ·obtain⟨sl,q⟩:=slot c o (I.Fj x c e) hc h A (I.gY x c e);exact⟨_,q,hd⟩
  ·exact⟨o,keep c o (I.Fj x c e) hc h A (I.gY x c e),hd⟩
 refine⟨I.ok,I.os,J,⟨λb o e n y a=>?_,λb o e n y a=>?_,λb o e n a=>?_,λb o e a=>?_,λb xs e=>k9 b xs (I.base.k9 b xs e),λb o xs e=>ja b o xs (I.base.ja b o xs e),λb ps e=>?_⟩,?_,λx c e=>?_,?_,λx c e=>?_,λp F=>?_,aW,I.len⟩
 ·exact keep b o (B b o e) y (j b o e a) (I.base.keep b o e n y a) (I.base.free b o e n a)
 ·obtain⟨sl,t⟩:=I.base.slot b o e n y a;obtain⟨E,D⟩:=slot b _ (B b o e) y (j b o e a) t (I.base.free b o e n a);exact⟨E,D⟩
 ·obtain⟨C,t⟩:=I.base.there b o e a;exact free b C (j b o e a) t (I.base.free b o e n a)
 ·obtain⟨C,t⟩:=I.base.there b o e a;exact there b C (j b o e a) t
 ·obtain⟨K,t⟩:=I.base.kc b ps e;obtain⟨L,D⟩:=kc b _ t;exact⟨K++L,by rw[D,Array.append_assoc]⟩
 ·obtain⟨m,hn,hl⟩:=I.loc;refine⟨m,ns m hn,λi x v t D M=>?_⟩;obtain⟨u,r,l⟩:=hl i x v t D M;refine⟨u,r,?_⟩;rcases l with l |⟨k,c,e,z⟩
  ·exact .inl l
  ·exact .inr ⟨k,c,e,f x c e _ z⟩
 ·obtain⟨v,z⟩:=I.cell x c e;exact⟨v,f x c e v z⟩
 ·obtain⟨m,⟨o,_,_,A,_⟩,_⟩:=I.loc;exact free _ o (λz=>(g _ z).2.1 rfl) A I.free
 ·obtain⟨v,o,A,hd⟩:=I.cell x c e;exact free c o (λz=>(g c z).2.2.1 x c e rfl) A (I.gY x c e)
 ·obtain⟨e,n,ne,G,d⟩:=I.pin p F;have h:p.1∉ch:=λz=>(g p.1 z).2.2.2 p F rfl;exact⟨keep p.1 p.2 ne G h e n,free p.1 p.2 h e n,ne,G,d⟩
theorem Inv.un{t':Nat}(I:Inv X pins σ H s)(u:Un X.fs [] H H' s.heap h')(aW:j8 X.prog X.w H' h'):Inv X pins σ H' {s with heap:=h',toks:=t'}:=by
 obtain⟨m,⟨o,k,l,g,r⟩,_⟩:=id I.loc;obtain⟨sl,h⟩:=u.any g I.free (by simp)
 exact I.step (g':=s.gens) (d':=s.drawn) (ch:=[]) (λ_ z=>nomatch z) (λb o _ c _ e n=>u.keep b o e n c (by simp)) (λb o _ c _ e n=>u.slot b o e n c (by simp)) (λb o _ e n=>u.free b o e n (by simp)) (λb o _ e=>u.there b o e (by simp)) u.k9 u.ja u.kc (λp i=>by
  obtain⟨q,d,f,a,j⟩:=i;rw[g]at a;cases a
  exact⟨_,d,f,h,j⟩) aW I.bare
theorem Inv.call{g':Array wcX}{t':Nat}{d':Drawn}{ch:List Addr}(I:Inv X pins σ H s)(u:Un (p7 X.stack) ch H H' s.heap h')(aW:j8 X.prog X.w H' h')(j:AllBare g')
 (g:∀b∈ch,(b∈X.ex\/X.s₀.heap.objs.size<=b)/\b≠X.env.locals/\(∀x c,X.env.cells.lookup x=some c->c≠b)/\∀p∈X.pn++pins,p.1≠b) :
 Inv X pins σ H' {s with heap:=h',gens:=g',drawn:=d',toks:=t'}:=by
 obtain⟨m,⟨o,t,v,i,r⟩,_⟩:=id I.loc;obtain⟨sl,d⟩:=u.any i I.free λz=>(g _ z).2.1 rfl
 exact I.step (ch:=ch) g (λb o d k hc e n=>u.keep b o e n (λz=>(waH.mp (I.rV b z)).elim d k) hc) (λb o _ _ hc e n=>u.any e n hc) (λb o hc e n=>u.free b o e n hc) (λb o hc e=>u.there b o e hc) u.k9 u.ja u.kc (λy l=>by
  obtain⟨A,f,h,a,q⟩:=l;rw[i]at a;cases a
  exact⟨_,f,h,d,q⟩) aW j
theorem Inv.turned{t':Nat}{it:Addr}(I:Inv X pins σ H s)(k:∀b o,b≠it->s.heap.get? b=some o->h'.get? b=some o)(hn:H it=none)(g:it≠X.env.locals)
 (j:it∈X.ex\/X.s₀.heap.objs.size<=it) (l:∀x c,X.env.cells.lookup x=some c->c≠it) (C:∀p∈X.pn++pins,p.1≠it):Inv X pins σ H {s with heap:=h',toks:=t'}:=by
 have a:∀b u,H b=some u->b≠it:=λb u e z=>by rw[z,hn]at e;cases e
 refine I.step (g':=s.gens) (d':=s.drawn) (ch:=[it]) (λb d=>?_) (λb o _ _ hc e _=>k b o (λz=>hc (by simp[z])) e) (λb o _ _ hc e _=>⟨o.slots,k b o (λz=>hc (by simp[z])) e⟩) (λ_ _ _ _ n=>n)
  (λb o hc e=>⟨o,k b o (λz=>hc (by simp[z])) e⟩) (λ_ _ e=>e) (λ_ _ _ e=>e) (λb ps e=>⟨#[],by rw[e];simp⟩) (λm f=>?_) (λb u e=>?_) I.bare
 ·have e:b=it:=by simpa using d
  subst e;exact⟨j,g,l,C⟩
 ·obtain⟨o,h,i,t,r⟩:=f;exact⟨o,h,i,k _ o (wbc g) t,r⟩
 ·refine(I.aW b u e).p8 (λc v hc q=>k c v ?_ q) (λ_ q=>q) λ_ _ q=>q;rcases hc with z |z
  ·rw[z];exact a b u e
  ·exact a c _ z
theorem Inv.tok(I:Inv X pins σ H s)(t:Nat):Inv X pins σ H {s with toks:=t}:=I.un (h':=s.heap) (t':=t) Un.refl I.aW
theorem Inv.kept(I:Inv X pins σ H s)(k:∀b u,s.heap.get? b=some u->h'.get? b=some u):Inv X pins σ H {s with heap:=h',toks:=t'}:=I.un (Un.kept k) (I.aW.kept k)
theorem Inv.laid(I:Inv X pins σ H s)(k:∀b u,s.heap.get? b=some u->h'.get? b=some u)(g:s.heap.objs.size<=a)(new:bG X.prog X.w (upd H a o) h' a o) :
 Inv X pins σ (upd H a o) {s with heap:=h',toks:=t'}:=I.un (Un.laid k g (I.aW.fresh g)) (I.aW.laid k g new)
theorem Inv.write(I:Inv X pins σ H s)(j:Np (H x))(l:e=x\/H e=some (.own x))(k:∀b u,b≠e->s.heap.get? b=some u->h'.get? b=some u)(g:∃u,h'.get? e=some u)
 (new:bG X.prog X.w (upd H x o) h' x o):Inv X pins σ (upd H x o) {s with heap:=h',toks:=t'}:=I.un (Un.write j l k g) (I.aW.write j l k g new)
theorem Inv.CA(I:Inv X pins σ H s)(h:∀p∈g,s.heap.get? p.1=some p.2/\H p.1=none/\p.1≠X.env.locals/\p.1∉X.fs/\∀v,p.2.data≠.cell v):Inv X g σ H s:=
 ⟨I.ok,I.os,I.bare,I.base,I.loc,I.cell,I.free,I.gY,λp a=>(waA.mp a).elim (λz=>I.pin p (wbt _ z)) (h p),I.aW,I.len⟩
theorem rW{N:List Str}(g:N.Nodup){i j:Nat}{x:Str}(a:N[i]?=some x)(b:N[j]?=some x):i=j:=by
 obtain⟨e,c⟩:=wa6.mp a;obtain⟨f,d⟩:=wa6.mp b;exact(wd8 g).mp (c.trans d.symm)
theorem vS{M:Model}{A:Around}{E:Value->Shared->Prop}{i:Nat}{x:Str}{v:V}{u:Value}{Q:Unit->Shared->Prop}(I:Inv X pins σ H s)(hN:X.N.Nodup)(hi:X.N[i]?=some x)(C:Loc X.env.scope x)(r:RelV v u)
 (h:∀s',Inv X pins (σ.set i (some v)) H s'->(∃a,we6 a s.heap s'.heap/\(a=X.env.locals\/X.env.cells.lookup x=some a))->Q () s') (hf:X.fn x=true\/X.env.scope.names.lookup x=some .local:=by first |exact .inl rfl |exact .inr rfl |assumption):wpAny M A (storeName X.env x u) Q E s:=by
 obtain⟨m,hn,hl⟩:=id I.loc;have K:(X.env.scope.kind == .class ||(X.env.scope.kind == .module && X.env.locals != X.env.globals))=false:=by rw[I.ok.kind];rfl
 have hiσ:i < σ.length:=by rw[I.len];exact(wa6.mp hi).1
 have Fj:=I.Fj
 have g:∀{a:Addr} {h':Heap},(∃o,s.heap.get? a=some o/\H a=none)->we6 a s.heap h'->j8 X.prog X.w H h':=λ{a h'} ha f b ob e=>by
  obtain⟨_,_,t⟩:=ha;refine(I.aW b ob e).p8 (λc S hc q=>(f.2 c ?_).trans q) (λ_ q=>q) λ_ _ q=>q;rintro rfl;rcases hc with rfl |hc
  ·rw[t]at e;cases e
  ·rw[t]at hc;cases hc
 rcases C with D |D
 ·refine wpAny_storeName_local D hn (λh' U f=>?_) K;obtain⟨oL,_,_,W,_⟩:=id hn;refine h _ ⟨I.ok,I.os,I.bare,⟨λb o e n F C=>?_,λb o e n F C=>?_,I.base.free,λb o e C=>?_,I.base.k9,I.base.ja,I.base.kc⟩,⟨_,U,λj y Y l B Z=>?_⟩,λy c e=>?_,I.free,I.gY,λp hp=>?_,g ⟨oL,W,I.free⟩ f,by simpa using I.len⟩ ⟨_,f,.inl rfl⟩
  ·exact(f.2 b (war (wan (wad e) I.ok.above))).trans (I.base.keep b o e n F C)
  ·obtain⟨sl,l⟩:=I.base.slot b o e n F C;exact⟨sl,(f.2 b (war (wan (wad e) I.ok.above))).trans l⟩
  ·obtain⟨o',l⟩:=I.base.there b o e C;exact⟨o',(f.2 b (war (wan (wad e) I.ok.above))).trans l⟩
  ·by_cases G:j=i
   ·subst G;rw[hi]at l;cases l;rw[wc1 hiσ]at B;cases B;exact⟨u,r,.inl ⟨D,by simp⟩⟩
   ·rw[wcc (wbc G)]at B;obtain⟨u',r',q⟩:=hl j y Y l B Z;refine⟨u',r',?_⟩;rcases q with⟨k,e⟩ |⟨k,c,e,z⟩
    ·refine .inl ⟨k,?_⟩;have:y≠x:=λe=>G (rW hN l (e ▸ hi));simp[this,e]
    ·exact .inr ⟨k,c,e,z.sameBut f (Fj y c e)⟩
  ·obtain⟨S,z⟩:=I.cell y c e;exact⟨S,z.sameBut f (Fj y c e)⟩
  ·obtain⟨e,n,ne,nf,d⟩:=I.pin p hp;exact⟨(f.2 p.1 ne).trans e,n,ne,nf,d⟩
 ·have J:X.fn x=true:=by
   rcases hf with z |z
   ·exact z
   ·rw[z]at D;cases D
  obtain⟨c,hc⟩:=I.ok.has x (.inl D);obtain⟨S,z⟩:=I.cell x c hc;refine wpAny_storeName_cell I.ok.kind D hc z (λh' L f=>?_);obtain⟨oc,O,P⟩:=id z;refine h {s with heap:=h'} ⟨I.ok,I.os,I.bare,⟨λb o e n F C=>?_,λb o e n F C=>?_,I.base.free,λb o e C=>?_,I.base.k9,I.base.ja,I.base.kc⟩,⟨m,hn.sameBut f (wbc (Fj x c hc)),λj y Y l B Z=>?_⟩,λy T e=>?_,I.free,I.gY,λp hp=>?_,g ⟨oc,O,I.gY x c hc⟩ f,by simpa using I.len⟩ ⟨c,f,.inr hc⟩
  ·exact(f.2 b (war (wan (wad e) (I.ok.L7 x c J hc)))).trans (I.base.keep b o e n F C)
  ·obtain⟨sl,l⟩:=I.base.slot b o e n F C;exact⟨sl,(f.2 b (war (wan (wad e) (I.ok.L7 x c J hc)))).trans l⟩
  ·obtain⟨o',l⟩:=I.base.there b o e C;exact⟨o',(f.2 b (war (wan (wad e) (I.ok.L7 x c J hc)))).trans l⟩
  ·by_cases G:j=i
   ·subst G;rw[hi]at l;cases l;rw[wc1 hiσ]at B;cases B;exact⟨u,r,.inr ⟨.inl D,c,hc,L⟩⟩
   ·rw[wcc (wbc G)]at B;obtain⟨u',r',q⟩:=hl j y Y l B Z;refine⟨u',r',?_⟩;rcases q with q |⟨k,T,e,z'⟩
    ·exact .inl q
    ·refine .inr ⟨k,T,e,z'.sameBut f ?_⟩;rintro rfl;exact G (rW hN l (I.ok.inj _ _ _ e hc ▸ hi))
  ·by_cases R:T=c
   ·subst R;exact⟨_,L⟩
   ·obtain⟨w2,z2⟩:=I.cell y T e;exact⟨w2,z2.sameBut f R⟩
  ·obtain⟨e,n,ne,nf,d⟩:=I.pin p hp;refine⟨(f.2 p.1 ?_).trans e,n,ne,nf,d⟩;intro q;rw[q,O]at e;have q':oc=p.2:=wah e;exact d S (by rw[<-q'];exact P)
theorem g8{E:Value->Shared->Prop}{Q:Unit->Shared->Prop}(I:Inv X pins σ H s)(g:X.N.Nodup)(hi:X.N[i]?=some x)(j:Loc X.env.scope x)(r:RelV v u)
 (h:∀s',Inv X pins (σ.set i (some v)) H s'->Q () s') (l:X.fn x=true\/X.env.scope.names.lookup x=some .local:=by first |exact .inl rfl |exact .inr rfl |assumption):wpAny M A (storeName X.env x u) Q E s:=
 vS I g hi j r (λs' a _=>h s' a) l
theorem Inv.rX(I:Inv X pins σ H s)(j:s'.os=s.os)(u:Un (p7 X.stack) ch H H' s.heap s'.heap)(aW:j8 X.prog X.w H' s'.heap)(l:AllBare s'.gens)
 (g:∀b∈ch,(b∈X.ex\/X.s₀.heap.objs.size<=b)/\b≠X.env.locals/\(∀x c,X.env.cells.lookup x=some c->c≠b)/\∀p∈X.pn++pins,p.1≠b):Inv X pins σ H' s':=by
 obtain⟨h',g',d',t',a⟩:=s';have e:a=s.os:=j;subst e;exact I.call (g':=g') (t':=t') (d':=d') u aW l g
end
noncomputable abbrev XK:=Value->Option Addr->Hp->Prop
noncomputable abbrev St:=List (Option V)
noncomputable abbrev VK:=V->Hp->Prop
noncomputable abbrev TE:=St->Hp->VK->Prop
noncomputable abbrev TT:=St->Hp->(Bool->Hp->Prop)->Prop
noncomputable abbrev TA:=St->Hp->(List V->Hp->Prop)->Prop
structure Ends where
 nx:St->Hp->Prop
 rt:VK
 bk:St->Hp->Prop:=λ_ _=>False
 ct:St->Hp->Prop:=λ_ _=>False
noncomputable abbrev TS:=Ends->St->Hp->Prop
def EP(X:Cx)(pins:List (Addr×Obj))(σ:St)(Q:VK)(u:Value)(s':Shared):Prop:=∃v H',Inv X pins σ H' s'/\RelV v u/\Q v H'
def TP(X:Cx)(pins:List (Addr×Obj))(σ:St)(Q:Bool->Hp->Prop)(b:Bool)(s':Shared):Prop:=∃H',Inv X pins σ H' s'/\Q b H'
def AP(X:Cx)(pins:List (Addr×Obj))(σ:St)(Q:List V->Hp->Prop)(us:List Value)(s':Shared):Prop:=∃vs H',Inv X pins σ H' s'/\Vals vs us/\Q vs H'
def SP(X:Cx)(pins:List (Addr×Obj))(D:Ends)(f:Flow)(s':Shared):Prop:=
 match f with
 |.next=>∃σ' H',Inv X pins σ' H' s'/\D.nx σ' H'
 |.brk=>∃σ' H',Inv X pins σ' H' s'/\D.bk σ' H'
 |.cont=>∃σ' H',Inv X pins σ' H' s'/\D.ct σ' H'
 |.ret u=>∃v σ' H',Inv X pins σ' H' s'/\RelV v u/\D.rt v H'
def PE(X:Cx)(e:Expr)(t:TE):Prop:=
 ∀(pins:List (Addr×Obj)) (s:Shared) (σ:St) (H:Hp) (Q:VK),Inv X pins σ H s->t σ H Q->wpAny (model X.prog X.w) X.A (eval e X.env) (EP X pins σ Q) X.xe s
def PT(X:Cx)(e:Expr)(t:TT):Prop:=
 ∀(pins:List (Addr×Obj)) (s:Shared) (σ:St) (H:Hp) (Q:Bool->Hp->Prop),Inv X pins σ H s->t σ H Q->wpAny (model X.prog X.w) X.A (isTrue e X.env (eval e X.env)) (TP X pins σ Q) X.xe s
def PW(X:Cx)(e:Expr)(t:TT):Prop:=
 ∀(whole:Sem Value) (pins:List (Addr×Obj)) (s:Shared) (σ:St) (H:Hp) (Q:Bool->Hp->Prop),Inv X pins σ H s->t σ H Q->wpAny (model X.prog X.w) X.A (isTrue e X.env whole) (TP X pins σ Q) X.xe s
theorem PW.pt{X:Cx}{e:Expr}{t:TT}(h:PW X e t):PT X e t:=h _
def PA(X:Cx)(es:List Expr)(t:TA):Prop:=
 ∀(pos:Pos) (pins:List (Addr×Obj)) (s:Shared) (σ:St) (H:Hp) (Q:List V->Hp->Prop),Inv X pins σ H s->t σ H Q->wpAny (model X.prog X.w) X.A (spliced (backTo pos (starEach es X.env))) (AP X pins σ Q) X.xe s
def PS(X:Cx)(st:Stmt)(t:TS):Prop:=
 ∀(pins:List (Addr×Obj)) (s:Shared) (σ:St) (H:Hp) (D:Ends),Inv X pins σ H s->t D σ H->wpAny (model X.prog X.w) X.A (exec st X.env) (SP X pins D) X.xe s
def uY(X:Cx)(st:List Stmt)(t:TS):Prop:=
 ∀(pins:List (Addr×Obj)) (s:Shared) (σ:St) (H:Hp) (D:Ends),Inv X pins σ H s->t D σ H->wpAny (model X.prog X.w) X.A (execs st X.env) (SP X pins D) X.xe s
theorem bP{α:Type}{t:Sem α}{Q g:α->Shared->Prop}{M:Model}{A:Around}{E:Value->Shared->Prop}{s:Shared}(h:wpAny M A t Q E s)(j:∀a s,Q a s->g a s):wpAny M A t g E s:=waV h j λ_ _ x=>x
section
variable{X:Cx}
inductive Iy(i:Nat)(σ:St)(H:Hp)(Q:VK):Prop
 |mk (v) (_:σ[i]?=some (some v)) (_:Q v H)
def tC(v:V):TE:=λ_ H Q=>Q v H
theorem Fl(j:X.N[i]?=some x)(o:MU X.env.scope x)(hd:(x == ("__debug__":Str))=false:=by decide)(g:(x == ("__classdict__":Str))=false:=by decide):PE X (.Name x pos) (Iy i):=by
 intro d s σ H Q I h;obtain⟨v,e,h⟩:=h;obtain⟨m,hn,hl⟩:=I.loc;obtain⟨u,r,l⟩:=hl i x v j e o;have fin:EP X d σ Q u s:=⟨v,H,I,r,h⟩;rcases l with⟨b,f⟩ |⟨b,c,hc,a⟩
 ·exact wpAny_Name (wga I.ok.kind b hn f fin) hd
 ·rcases b with b |b
  ·exact wpAny_Name (wgr I.ok.kind b hc a fin) hd
  ·exact wpAny_Name (wpAny_loadName_free I.ok.kind b hc a fin g) hd
theorem ai{i j pos}:PE X (.Constant (.int i) j pos) (tC (.int i)):=λ_ _ _ H _ I h=>wpAny_Constant_int ⟨.int i,H,I.tok _,⟨_,rfl⟩,h⟩
theorem gD{b j pos}:PE X (.Constant (.bool b) j pos) (tC (.bl b)):=λ_ _ _ H _ I h=>Constant_bool ⟨.bl b,H,I,rfl,h⟩
theorem da{j pos}:PE X (.Constant .none j pos) (tC .non):=λ_ _ _ H _ I h=>Constant_none ⟨.non,H,I,rfl,h⟩
theorem dn{x j pos}:PE X (.Constant (.str x) j pos) (tC (.str x)):=λ_ _ _ H _ I h=>wgB ⟨.str x,H,I.tok _,⟨_,rfl⟩,h⟩
def Gl(X:Cx)(x:Str):Prop:=X.env.kindOf x=some .globalImplicit
theorem eM{E:Value->Shared->Prop}{Q:Value->Shared->Prop}(I:Inv X g σ H s)(j:Gl X x)(l:X.mg x=some u)(h:Q u s)
 (hd:(x == ("__debug__":Str))=false:=by decide):wpAny (model X.prog X.w) X.A (eval (.Name x pos) X.env) Q E s:=
 weH I.ok.kind j (Calls.loadGlobal_global (by rw[I.ok.glob];exact I.mod.glob.keeps I.bk) l h) hd
theorem iJ{E:Value->Shared->Prop}{Q:Value->Shared->Prop}(I:Inv X g σ H s)(j:Gl X x)(l:X.mg x=none)(o:waR x=some u)(h:Q u s)
 (hn:x≠"__name__":=by decide) (hd:(x == ("__debug__":Str))=false:=by decide):wpAny (model X.prog X.w) X.A (eval (.Name x pos) X.env) Q E s:=by
 obtain⟨c,a,b⟩:=I.mod.blt;exact weH I.ok.kind j (Calls.loadGlobal_builtin (by rw[I.ok.glob];exact I.mod.glob.keeps I.bk) l (by rw[I.ok.blt];exact a.keeps I.bk) ((b x hn).trans o) h) hd
theorem c9(g:Gl X x)(j:X.mg x=some u)(r:RelV v u)(hd:(x == ("__debug__":Str))=false:=by decide):PE X (.Name x pos) (tC v):=
 λ_ _ _ H _ I h=>eM I g j ⟨v,H,I,r,h⟩ hd
theorem gH(g:Gl X x)(j:X.mg x=none)(l:waR x=some u)(r:RelV v u)(hn:x≠"__name__":=by decide)(hd:(x == ("__debug__":Str))=false:=by decide):PE X (.Name x pos) (tC v):=
 λ_ _ _ H _ I h=>iJ I g j l ⟨v,H,I,r,h⟩ hn hd
variable{a b:Expr}{ta tb:TE}{pos:Pos}
def PC(X:Cx)(op:CmpOp)(a b:Expr)(t:TE):Prop:=
 ∀(pins:List (Addr×Obj)) (s:Shared) (σ:St) (H:Hp) (Q:VK),Inv X pins σ H s->t σ H Q ->
  wpAny (model X.prog X.w) X.A (eval a X.env) (λv s₁=>wpAny (model X.prog X.w) X.A (eval b X.env) (λu s₂=>wpAny (model X.prog X.w) X.A (wbr op v u) (EP X pins σ Q) X.xe s₂) X.xe s₁) X.xe s
theorem Fm(b:Expr)(h:op≠.In)(g:op≠.NotIn):wcL op b=false:=by
 have a:(op == CmpOp.In)=false:=by grind
 have c:(op == CmpOp.NotIn)=false:=by grind
 cases b <;> simp[wcL,a,c]
inductive Up(x:V)(H:Hp)(Q:Bool->Hp->Prop):Prop
 |mk (c) (_:x=.bl c) (_:Q c H)
def tB(t:TE):TT:=λσ H Q=>t σ H λx H1=>Up x H1 Q
theorem AG{op:CmpOp}{t:TE}(h:PC X op a b t)(g:wcL op b=false:=by first |exact Fm _ (by decide) (by decide) |rfl):PT X (.Compare a [op] [b] pos) (tB t):=by
 intro e s σ H Q I hw;refine wfU (bP (h e s σ H _ I hw) λv m g=>bP g λu n f=>bP f λc o ⟨x,i,j,k,l⟩=>?_) g;obtain⟨d,rfl,q⟩:=l;cases k;exact wbN ⟨i,j,q⟩
theorem cn{e:Expr}{t:TE}(h:PE X e t)(g:∀whole,isTrue e X.env whole=(do let v <-whole;standAt e.pos;holding [v] (truthy v)):=by intro _;rfl):PT X e (tB t):=by
 intro a s σ H Q I hw;refine isTrue_plain (bP (h a s σ H _ I hw) λv j ⟨x,b,c,f,i⟩=>?_) (g _);obtain⟨d,rfl,q⟩:=i;cases f;exact wbN ⟨b,c,q⟩
variable{tA Q9:TT}{rest:List Expr}
def QY(t u:TT):TT:=λσ H Q=>t σ H λc H1=>if c=true then u σ H1 Q else Q false H1
def WC(t u:TT):TT:=λσ H Q=>t σ H λc H1=>if c=true then Q true H1 else u σ H1 Q
def QZ(t:TT):TT:=λσ H Q=>t σ H λc H1=>Q (!c) H1
theorem Iz(ha:PT X a tA):PW X (.BoolOp .And [a] pos) tA:=by
 intro d b s σ H Q I h;refine isTrue_and (bP (ha b s σ H Q I h) λc f e=>?_)
 cases c with
 |true=>exact isTrue_and_nil e
 |false=>exact e
theorem jb(ha:PT X a tA):PW X (.BoolOp .Or [a] pos) tA:=by
 intro d b s σ H Q I h;refine isTrue_or (bP (ha b s σ H Q I h) λc f e=>?_)
 cases c with
 |false=>exact isTrue_or_nil e
 |true=>exact e
theorem L8(ha:PT X a tA)(j:PW X (.BoolOp .And (b :: rest) pos) Q9):PW X (.BoolOp .And (a :: b :: rest) pos) (QY tA Q9):=by
 intro i d s σ H Q I h;refine isTrue_and (bP (ha d s σ H _ I h) λc k ⟨e,f,g⟩=>?_)
 cases c with
 |true=>exact j i d k σ e Q f g
 |false=>exact⟨e,f,g⟩
theorem iy(ha:PT X a tA)(j:PW X (.BoolOp .Or (b :: rest) pos) Q9):PW X (.BoolOp .Or (a :: b :: rest) pos) (WC tA Q9):=by
 intro i d s σ H Q I h;refine isTrue_or (bP (ha d s σ H _ I h) λc k ⟨e,f,g⟩=>?_)
 cases c with
 |true=>exact⟨e,f,g⟩
 |false=>exact j i d k σ e Q f g
theorem dO(ha:PT X a tA):PT X (.UnaryOp .Not a pos) (QZ tA):=by
 intro b s σ H Q I h;exact isTrue_not (ha b s σ H (λc d=>Q (!c) d) I h)
def Nq(ta tb:TE):TE:=λσ H Q=>ta σ H λx H1=>∃c,x=.bl c/\if c=true then tb σ H1 Q else Q (.bl false) H1
def Nr(ta:TE):TE:=λσ H Q=>ta σ H λx H1=>∃c,x=.bl c/\Q (.bl (!c)) H1
theorem AH{op}(h:PE X a t):PE X (.BoolOp op [a] pos) t:=λb s σ H Q I hw=>BoolOp_one (h b s σ H Q I hw)
theorem AI(ha:PE X a ta)(j:PE X (.BoolOp .And (b :: rest) pos) tb):PE X (.BoolOp .And (a :: b :: rest) pos) (Nq ta tb):=by
 intro d s σ H Q I h;refine BoolOp_and (bP (ha d s σ H _ I h) λv i ⟨x,f,g,k,e⟩=>?_);obtain⟨c,rfl,e⟩:=e;cases k;refine wbN ?_
 cases c with
 |true=>exact j d i σ f Q g e
 |false=>exact⟨.bl false,f,g,rfl,e⟩
theorem La(ha:PE X a ta):PE X (.UnaryOp .Not a pos) (Nr ta):=by
 intro b s σ H Q I h;refine UnaryOp_ (bP (ha b s σ H _ I h) λv i ⟨x,e,f,g,d⟩=>?_);obtain⟨c,rfl,d⟩:=d;cases g;exact not_of (wbN ⟨.bl (!c),e,f,rfl,d⟩)
def WD(t:TT)(ta tb:TE):TE:=λσ H Q=>t σ H λc H1=>if c=true then ta σ H1 Q else tb σ H1 Q
theorem yQ{c:Expr}(hc:PT X c tA)(ha:PE X a ta)(l:PE X b tb):PE X (.IfExp c a b pos) (WD tA ta tb):=by
 intro e s σ H Q I h;refine wpAny_IfExp (bP (hc e s σ H _ I h) λd f ⟨g,i,j⟩=>?_)
 cases d with
 |true=>exact ha e f σ g Q i j
 |false=>exact l e f σ g Q i j
end
def aH(K:wa1)(H:Hp)(a:Addr)(xs:List V):Prop:=
 Rd H a (.lst xs) \/
  ∃(o:Obj) (its:Array Value) (n:Nat),K.lookup a=some o/\o.cls=.type "list"/\o.dict=none/\o.data=.seq its n/\its.size<=sizeLine/\Vals xs its.toList
def ir(K:wa1)(H:Hp)(a:Addr)(xs:List V):Prop:=
 Rd H a (.tup xs) \/
  ∃(o:Obj) (its:Array Value) (n:Nat),K.lookup a=some o/\o.cls=.type "tuple"/\o.data=.seq its n/\its.size<=sizeLine/\Vals xs its.toList
noncomputable def R9:Value->Option V
 |.none=>some .non
 |.bool b=>some (.bl b)
 |.int i _=>some (.int i)
 |.str x _=>some (.str x)
 |.bytes b _=>some (.byt b)
 |.float b _=>some (.flt b)
 |.ref a=>some (.ref a)
 |.type n=>some (.ty n)
 |_=>none
theorem RelV.abs{x:V}{u:Value}(r:RelV x u):R9 u=some x:=by
 cases x with
 |non=>cases r;rfl
 |bl _=>cases r;rfl
 |int _=>obtain⟨t,rfl⟩:=r;rfl
 |str _=>obtain⟨t,rfl⟩:=r;rfl
 |byt _=>obtain⟨t,rfl⟩:=r;rfl
 |flt _=>obtain⟨t,rfl⟩:=r;rfl
 |ref _=>cases r;rfl
 |ty _=>cases r;rfl
theorem RelV.inj{x y:V}{u:Value}(r:RelV x u)(q:RelV y u):x=y:=wah (r.abs.symm.trans q.abs)
theorem Vals.inj:∀{xs ys:List V} {us:List Value},Vals xs us->Vals ys us->xs=ys
 |_,_,_,.nil,.nil=>rfl
 |_,_,_,.cons r t,.cons a b=>by rw[r.inj a,Vals.inj t b]
section
variable{X:Cx}{pins:List (Addr×Obj)}{σ:St}{H:Hp}{s:Shared}{a:Addr}{xs ys:List V}
theorem aH.of{K:wa1}(h:H a=some (.lst xs)):aH K H a xs:=.inl (.inl h)
theorem ir.of{K:wa1}(h:H a=some (.tup xs)):ir K H a xs:=.inl (.inl h)
theorem Inv.list(I:Inv X pins σ H s)(h:aH X.K H a xs):∃g:List Value,Vals xs g/\PlainL s.heap a g.toArray/\xs.length<=sizeLine:=by
 rcases h with h |⟨o,g,n,b,hc,hd,c,d,r⟩
 ·obtain⟨z,g,n,r,e⟩:=h.ok I.aW;exact⟨g,r,⟨_,n,e,rfl,rfl,rfl⟩,z⟩
 ·refine⟨g.toList,r,⟨o,n,I.fv a o b,hc,hd,by simpa using c⟩,?_⟩;have e:=r.length;simp only[wck]at e;omega
theorem Inv.tuple(I:Inv X pins σ H s)(h:ir X.K H a xs):∃g:List Value,Vals xs g/\IsTup s.heap a g.toArray/\xs.length<=sizeLine:=by
 rcases h with h |⟨o,g,n,b,hc,c,d,r⟩
 ·obtain⟨z,g,r,p⟩:=h.ok I.aW;exact⟨g,r,p,z⟩
 ·refine⟨g.toList,r,⟨o,I.fv a o b,hc,n,by simpa using c⟩,?_⟩;have e:=r.length;simp only[wck]at e;omega
theorem Inv.rY(I:Inv X pins σ H s)(h:aH X.K H a xs)(h':aH X.K H a ys):xs=ys:=by
 obtain⟨c,r,⟨o,n,e,_,_,d⟩,_⟩:=I.list h;obtain⟨b,i,⟨j,k,f,_,_,g⟩,_⟩:=I.list h';rw[e]at f;cases f;rw[d]at g;injection g with l _
 have:c=b:=by grind
 subst this;exact r.inj i
end
noncomputable abbrev Cx.jc(X:Cx)(E:Value->Shared->Prop):Cx:={X with xe:=E}
noncomputable abbrev Cx.AJ(X:Cx):Cx:=X.jc λ_ _=>False
theorem Cx.Ok.jc{X:Cx}(ok:X.Ok)(E:Value->Shared->Prop):(X.jc E).Ok:=
 ⟨ok.mod,ok.kind,ok.glob,ok.blt,ok.above,ok.inj,ok.has,ok.L7,ok.hd,ok.frames,ok.MV,ok.Q8,ok.bs,ok.Fb,ok.AF,ok.DG,ok.mJ,ok.Ih⟩
theorem Cx.Ok.df{X:Cx}{E:Value->Shared->Prop}(ok:(X.jc E).Ok):X.Ok:=
 ⟨ok.mod,ok.kind,ok.glob,ok.blt,ok.above,ok.inj,ok.has,ok.L7,ok.hd,ok.frames,ok.MV,ok.Q8,ok.bs,ok.Fb,ok.AF,ok.DG,ok.mJ,ok.Ih⟩
section
variable{X:Cx}{pins:List (Addr×Obj)}{σ:St}{H:Hp}{s:Shared}{E:Value->Shared->Prop}
theorem Inv.jc(I:Inv X pins σ H s)(E:Value->Shared->Prop):Inv (X.jc E) pins σ H s:=⟨I.ok.jc E,I.os,I.bare,I.base,I.loc,I.cell,I.free,I.gY,I.pin,I.aW,I.len⟩
theorem Inv.df(I:Inv (X.jc E) pins σ H s):Inv X pins σ H s:=⟨I.ok.df,I.os,I.bare,I.base,I.loc,I.cell,I.free,I.gY,I.pin,I.aW,I.len⟩
theorem SP.df(h:SP (X.jc E) pins D f s'):SP X pins D f s':=by
 cases f with
 |next=>obtain⟨a,b,I,q⟩:=h;exact⟨a,b,I.df,q⟩
 |brk=>obtain⟨a,b,I,q⟩:=h;exact⟨a,b,I.df,q⟩
 |cont=>obtain⟨a,b,I,q⟩:=h;exact⟨a,b,I.df,q⟩
 |ret u=>obtain⟨v,a,b,I,r,q⟩:=h;exact⟨v,a,b,I.df,r,q⟩
theorem PE.AJ(h:PE X.AJ e t):PE X e t:=λpins s σ H Q I hw=>
 waV (h pins s σ H Q (I.jc _) hw) (λ_ _ ⟨v,a,b,r,q⟩=>⟨v,a,b.df,r,q⟩) λ_ _ z=>waS z
theorem PT.AJ(h:PT X.AJ e t):PT X e t:=λpins s σ H Q I hw=>
 waV (h pins s σ H Q (I.jc _) hw) (λ_ _ ⟨a,b,q⟩=>⟨a,b.df,q⟩) λ_ _ z=>waS z
theorem uY.AJ{st:List Stmt}{t:TS}(h:uY X.AJ st t):uY X st t:=λpins s σ H D I hw=>
 waV (h pins s σ H D (I.jc _) hw) (λ_ _ q=>q.df) λ_ _ z=>waS z
end
section
variable{X:Cx}{st:Stmt}{rest:List Stmt}{t u:TS}{e:Expr}{te:TE}{pos:Pos}
def Nt:TS:=λD σ H=>D.nx σ H
def Lb(t u:TS):TS:=λD σ H=>t {D with nx:=u D} σ H
theorem aL:uY X [] Nt:=λ_ _ σ H _ I h=>wbR ⟨σ,H,I,h⟩
theorem a7(g:PS X st t)(j:uY X rest u):uY X (st :: rest) (Lb t u):=by
 intro a s σ H D I h;refine wcn (bP (g a s σ H {D with nx:=u D} I h) λf c q=>?_)
 cases f with
 |next=>
  obtain⟨b,d,e,q⟩:=q;exact j a c b d D e q
 |ret v=>exact q
 |brk=>exact q
 |cont=>exact q
theorem af(g:PS X st t):uY X [st] t:=by
 intro a s σ H D I h;refine wcn (bP (g a s σ H D I h) λf b q=>?_)
 cases f with
 |next=>exact wbR q
 |ret v=>exact q
 |brk=>exact q
 |cont=>exact q
theorem Inv.quiet(I:Inv X g σ H s):interactive X.env=false:=by simp[interactive,I.ok.kind]
def Nu(te:TE):TS:=λD σ H=>te σ H λ_ H1=>D.nx σ H1
theorem bu(g:PE X e te)(hs:wbO e none pos.line X.env=pure false:=by rfl):PS X (.Expr e pos) (Nu te):=by
 intro a s σ H D I h;exact wpAny_Expr_any (bP (g a s σ H _ I h) λv f ⟨x,b,c,i,d⟩=>⟨σ,b,c,d⟩) I.quiet hs
def Ra(te:TE):TS:=λD σ H=>te σ H D.rt
theorem az(g:PE X e te):PS X (.Return (some e) pos) (Ra te):=by
 intro a s σ H D I h;exact wpAny_Return_some (bP (g a s σ H _ I h) λv i ⟨x,b,c,d,f⟩=>⟨x,σ,b,c,d,f⟩)
def Rb(c:TT)(t u:TS):TS:=λD σ H=>c σ H λb H1=>if b=true then t D σ H1 else u D σ H1
theorem bH{c:Expr}{a b:List Stmt}{g:TT}(hc:PT X c g)(ha:uY X a t)(l:uY X b u):PS X (.If c a b pos) (Rb g t u):=by
 intro e s σ H D I h;refine wpAny_If (bP (hc e s σ H _ I h) λd f ⟨i,j,k⟩=>?_)
 cases d with
 |true=>exact ha e f σ i D j k
 |false=>exact l e f σ i D j k
def Lc:TS:=λ_ _ _=>False
theorem gU:uY X g Lc:=λ_ _ _ _ _ _ h=>h.elim
end
noncomputable abbrev TG:=V->St->Hp->(St->Hp->Prop)->Prop
noncomputable abbrev Qa:=List V->St->Hp->(St->Hp->Prop)->Prop
def PG(X:Cx)(target:Expr)(t:TG):Prop:=
 ∀(pins:List (Addr×Obj)) (s:Shared) (σ:St) (H:Hp) (v:V) (u:Value) (Q:St->Hp->Prop),Inv X pins σ H s->RelV v u->t v σ H Q ->
  wpAny (model X.prog X.w) X.A (assign target X.env u) (λ_ s'=>∃σ' H',Inv X pins σ' H' s'/\Q σ' H') X.xe s
def Qb(X:Cx)(ts:List Expr)(t:Qa):Prop:=
 ∀(pins:List (Addr×Obj)) (s:Shared) (σ:St) (H:Hp) (vs:List V) (us:List Value) (Q:St->Hp->Prop),Inv X pins σ H s->Vals vs us->t vs σ H Q ->
  wpAny (model X.prog X.w) X.A (assignInOrder ((we7 ts X.env).map (·.2)) us) (λ_ s'=>∃σ' H',Inv X pins σ' H' s'/\Q σ' H') X.xe s
noncomputable abbrev Ld:=V->V->V->Hp->(Hp->Prop)->Prop
def Nv(X:Cx)(t:Ld):Prop:=
 ∀(pins:List (Addr×Obj)) (s:Shared) (σ:St) (H:Hp) (o i v:V) (ov iv u:Value) (Q:Hp->Prop),Inv X pins σ H s->RelV o ov->RelV i iv->RelV v u->t o i v H Q ->
  wpAny (model X.prog X.w) X.A (setItem ov iv u) (λ_ s'=>∃H',Inv X pins σ H' s'/\Q H') X.xe s
noncomputable abbrev Nw:=V->V->Hp->VK->Prop
def Qc(X:Cx)(op:Operator)(t:Nw):Prop:=
 ∀(pins:List (Addr×Obj)) (s:Shared) (σ:St) (H:Hp) (x y:V) (v u:Value) (Q:VK),Inv X pins σ H s->RelV x v->RelV y u->t x y H Q ->
  wpAny (model X.prog X.w) X.A (inplaceOp op v u) (EP X pins σ Q) X.xe s
section
variable{X:Cx}{pos:Pos}
def d4(i:Nat):TG:=λv σ H Q=>Q (σ.set i (some v)) H
theorem jd(g:X.N.Nodup)(hi:X.N[i]?=some x)(j:Loc X.env.scope x)(l:X.fn x=true\/X.env.scope.names.lookup x=some .local:=by first |exact .inl rfl |exact .inr rfl |assumption):PG X (.Name x pos) (d4 i):=by
 intro a s σ H v u Q I r h;exact wpAny_assign_Name (g8 I g hi j r (λc b=>⟨_,H,b,h⟩) l)
inductive Fn(vs:List V)(σ:St)(H:Hp)(Q:St->Hp->Prop):Prop
 |mk (_:vs=[]) (_:Q σ H)
inductive ke(t:TG)(u:Qa)(vs:List V)(σ:St)(H:Hp)(Q:St->Hp->Prop):Prop
 |mk (v r) (_:vs=v :: r) (_:t v σ H λσ' H'=>u r σ' H' Q)
theorem dC:Qb X [] Fn:=by
 intro a s σ H b c Q I r h;obtain⟨e,h⟩:=h;subst e;cases r;exact assignInOrder_nil ⟨σ,H,I,h⟩
theorem aU{e:Expr}{g:List Expr}{t:TG}{u:Qa}(j:PG X e t)(l:Qb X g u)
 (hs:(we7 (e :: g) X.env).map (·.2)=assign e X.env :: (we7 g X.env).map (·.2):=by rfl):Qb X (e :: g) (ke t u):=by
 intro a s σ H n o Q I r h;obtain⟨v,p,c,h⟩:=h;subst c
 cases r with
 |cons r d=>
  rw[hs];refine assignInOrder_cons (bP (j a s σ H _ _ _ I r h) λ_ f ⟨b,i,k,m⟩=>?_);exact l a f b i _ _ Q k d m
inductive Fo(K:wa1)(n:Nat)(t:Qa)(v:V)(σ:St)(H:Hp)(Q:St->Hp->Prop):Prop
 |mk (a xs) (_:v=.ref a) (_:ir K H a xs) (_:xs.length=n) (_:t xs σ H Q)
theorem fC(hc:X.calm=true)(h:Qb X g t)
 (hn:(we7 g X.env).length=n:=by rfl) (j:(we7 g X.env).findIdx? (·.1)=none:=by rfl):PG X (.Tuple g k pos) (Fo X.K n t):=by
 intro c s σ H v u Q I r hw;obtain⟨a,f,i,l,hl,hw⟩:=hw;subst i;cases r;obtain⟨m,d,p,y⟩:=I.tuple l;refine assign_Tuple_tuple (I.ok.hd hc) p (by simp[hn,<-hl,d.length]) j λq w=>?_;have x:Inv X c σ H {s with heap:=q}:=I.kept (t':=s.toks) λb o e=>w b o (war (wad e)) e;exact h c _ σ H f _ Q x (by simpa using d) hw
def Rc(to ti:TE)(t:Ld):TG:=λv σ H Q=>to σ H λo H1=>ti σ H1 λi H2=>t o i v H2 λH3=>Q σ H3
theorem Fp{o i:Expr}{l p:TE}{t:Ld}(C:PE X o l)(hi:PE X i p)(hs:Nv X t)
 (ha:∀v,assign (.Subscript o i pos) X.env v=(do
   let g <-holding [v] (eval o X.env)
   let j <-holding [v,g] (eval i X.env)
   standAt pos
   holding [v,g,j] (setItem g j v)
   release [v,g,j] []):=by intro _;rfl):PG X (.Subscript o i pos) (Rc l p t):=by
 intro a s σ H v u Q I r h;rw[ha];refine wa3 (waY (bP (C a s σ H _ I h) λg b ⟨x,c,d,e,f⟩=>?_));refine wa3 (waY (bP (hi a b σ c _ d f) λj k ⟨y,m,n,q,w⟩=>?_));refine wa3 (wdh (wa3 (waY (bP (hs a k σ m x y v g j u _ n e q r w) λ_ D ⟨z,A,B⟩=>?_))));exact wpAny_release ⟨σ,z,A,B⟩
def IA(te:TE)(g:TG):TS:=λD σ H=>te σ H λx H1=>g x σ H1 D.nx
theorem rZ{j e:Expr}{l:TE}{g:TG}(o:PE X e l)(p:PG X j g)(hs:swapsWithSole [j] e pos.line X.env=pure false:=by rfl)(hw:swappedStores [j] e X.env=pure none:=by rfl)
 (r:(we7 [j] X.env).map (·.2)=[assign j X.env]:=by rfl):PS X (.Assign [j] e pos) (IA l g):=by
 intro a s σ H D I h;refine wpAny_Assign_stores (bP (o a s σ H _ I h) λv b ⟨x,c,d,f,i⟩=>?_) hs hw;rw[r];exact bP (p a b σ c x v _ d f i) λ_ k q=>q
theorem Fq{i:Nat}{x:Str}{e:Expr}{j:TE}{g:Pos}(l:X.N.Nodup)(hi:X.N[i]?=some x)(o:Loc X.env.scope x)(p:PE X e j)(hs:wbO e (some (.Name x g)) pos.line X.env=pure false:=by rfl)(r:X.fn x=true\/X.env.scope.names.lookup x=some .local:=by first |exact .inl rfl |exact .inr rfl |assumption) :
 PS X (.Assign [.Name x g] e pos) (IA j (d4 i)):=by
 intro a s σ H D I h;refine wd1 (bP (p a s σ H _ I h) λv m ⟨y,b,c,d,f⟩=>?_) hs;exact g8 c l hi o d (λn k=>⟨_,b,k,f⟩) r
inductive Rf(i:Nat)(te:TE)(ti:Nw)(D:Ends)(σ:St)(H:Hp):Prop
 |mk (x) (_:σ[i]?=some (some x)) (_:te σ H λy H1=>ti x y H1 λz H2=>D.nx (σ.set i (some z)) H2)
theorem se{i:Nat}{x:Str}{e:Expr}{p:TE}{op:Operator}{C:Nw}{g:Pos}(J:X.N.Nodup)(hi:X.N[i]?=some x)(o:Loc X.env.scope x)(T:PE X e p)(U:Qc X op C)(hf:X.fn x=true\/X.env.scope.names.lookup x=some .local:=by first |exact .inl rfl |exact .inr rfl |assumption) :
 PS X (.AugAssign (.Name x g) op e pos) (Rf i p C):=by
 intro a s σ H D I h;obtain⟨v,q,h⟩:=h;obtain⟨m,hn,hl⟩:=I.loc;have n:MU X.env.scope x:=by rcases o with k |k;exact .inl k;exact .inr (.inl k)
 obtain⟨u,r,l⟩:=hl i x v hi q n;refine wpAny_AugAssign_Name ?_
 have go:wpAny (model X.prog X.w) X.A (eval e X.env) (λw f=>wpAny (model X.prog X.w) X.A (inplaceOp op u w) (λr j=>wpAny (model X.prog X.w) X.A (storeName X.env x r) (λ_=>SP X a D .next) X.xe j) X.xe f) X.xe s:=by
  refine bP (T a s σ H _ I h) λw t ⟨y,B,E,F,G⟩=>?_;refine bP (U a t σ B v y u w _ E r F G) λz R ⟨S,K,L,M,O⟩=>?_;exact g8 L J hi o M (λV P=>⟨_,K,P,O⟩) hf
 rcases l with⟨b,Q⟩ |⟨b,c,hc,d⟩
 ·exact wga I.ok.kind b hn Q go
 ·rcases b with b |b
  ·exact wgr I.ok.kind b hc d go
  ·rcases o with k |k
   ·have:X.env.scope.names.lookup x=some .free:=b;rw[k]at this;cases this
   ·have:X.env.scope.names.lookup x=some .free:=b;rw[k]at this;cases this
noncomputable def WG(f:Int->Int->Int):Nw:=λx y H Q=>∃i j,x=.int i/\y=.int j/\Q (.int (f i j)) H
theorem Fs:Qc X .Add (WG λi j=>i + j):=by
 intro a s σ H x y v u Q I b c h;obtain⟨i,j,d,e,q⟩:=h;subst d;subst e;obtain⟨t,rfl⟩:=b;obtain⟨f,rfl⟩:=c;exact iadd_int ⟨.int _,H,I.tok _,⟨_,rfl⟩,q⟩
end
section
variable{X:Cx}{pos:Pos}
def Le(c:TT)(tb:TS):TS:=λD σ H=>∃W:Nat->St->Hp->Prop,(∃m,W m σ H)/\∀m σ H,W m σ H ->
 c σ H λb H1=>if b=true then ∃N:St->Hp->Prop,(∀σ' H',N σ' H'->∃m',m' < m/\W m' σ' H')/\tb {D with nx:=N,ct:=N,bk:=D.nx} σ H1 else D.nx σ H1
theorem iO{c:Expr}{body:List Stmt}{C:TT}{J:TS}(T:PassesOwn (model X.prog X.w) X.A X.env X.xe)(hc:PT X c C)(U:uY X body J):PS X (.While c body [] pos) (Le C J):=by
 intro a s σ H D I h;obtain⟨W,⟨B,E⟩,g⟩:=h;refine wpAny_While (codeAny_whileLoop (λn F=>∃i t,Inv X a i t F/\W n i t) ?_ B ⟨σ,H,I,E⟩);rintro n G ⟨e,u,K,L⟩;refine wcu T (bP (hc a G e u _ K (g n e u L)) λb M ⟨x,y,k⟩=>?_)
 cases b with
 |true=>
  obtain⟨N,z,k⟩:=k;rw[if_pos rfl];refine wcu T (bP (U a M e x _ y k) λf O l=>?_)
  cases f with
  |next=>
   obtain⟨d,j,m,o⟩:=l;obtain⟨p,q,r⟩:=z d j o;exact⟨p,q,d,j,m,r⟩
  |cont=>
   obtain⟨d,j,m,o⟩:=l;obtain⟨p,q,r⟩:=z d j o;exact⟨p,q,d,j,m,r⟩
  |brk=>exact l
  |ret v=>exact l
 |false=>
  rw[if_neg waq];exact wbR ⟨e,x,y,k⟩
end
structure It where
 go:Nat->Hp->Prop
 uW:Nat->Hp->V->Hp->Prop
 stop:Nat->Hp->Prop
def uZ(X:Cx)(pins:List (Addr×Obj))(H:Hp)(b:Addr):Prop:=
 H b=none/\b≠X.env.locals/\b∉X.fs/\(b∈X.ex\/X.s₀.heap.objs.size<=b)/\(∀x c,X.env.cells.lookup x=some c->c≠b)/\∀p∈X.pn++pins,p.1≠b
theorem Inv.DH{X:Cx}(I:Inv X g σ H s)(j:s.heap.objs.size<=b)(hn:l b=none):uZ X g l b:=by
 refine⟨hn,wcq (wan I.lt j),I.QX j,.inr (wal I.sz j),λx c e z=>?_,λp a z=>?_⟩
 ·obtain⟨v,q⟩:=I.cell x c e;exact absurd (wan q.lt (by rw[z];exact j)) (wb4 _)
 ·exact absurd (wan (wad (I.pin p a).1) (by rw[z];exact j)) (wb4 _)
structure Turn(P:wat)(w:World)(K:wa1)(tg:Expr)(J:It)(fp:List Addr)(it:Addr)(tn:Nat->Heap->Prop):Prop where
 mem:it∈fp
 obj:∀i h,tn i h->∀b∈fp,∃o,h.get? b=some o/\∀v,o.data≠.cell v
 keep:∀i h h',tn i h->(∀b∈fp,∀o,h.get? b=some o->h'.get? b=some o)->tn i h'
 item:∀(X:Cx),X.prog=P->X.w=w->X.K=K->X.calm=true->∀(i:Nat) (pins:List (Addr×Obj)) (s:Shared) (σ:St) (H:Hp) (E:Value->Shared->Prop),Inv X pins σ H s->(∀b∈fp,uZ X pins H b)->tn i s.heap->J.go i H ->
  wpAny (model P w) X.A (pyNext (.ref it)) (λr s1=>∃u,r=some u /\
   wpAny (model P w) X.A (we8 tg (.ref it) u) (λ_ s2=>∃x H',Inv X pins σ H' s2/\RelV x u/\J.uW i H x H'/\tn (i + 1) s2.heap/\∀b∈fp,H' b=none) E s1) E s
 done:∀(X:Cx),X.prog=P->X.w=w->X.K=K->X.calm=true->∀(i:Nat) (pins:List (Addr×Obj)) (s:Shared) (σ:St) (H:Hp) (E:Value->Shared->Prop),Inv X pins σ H s->(∀b∈fp,uZ X pins H b)->tn i s.heap->J.stop i H ->
   wpAny (model P w) X.A (pyNext (.ref it)) (λr s1=>r=none/\Inv X pins σ H s1) E s
 self:∀(A:Around) (i:Nat) (s:Shared) (Q:Value->Shared->Prop) (E:Value->Shared->Prop),tn i s.heap->Q (.ref it) s->wpAny (model P w) A (pyIter (.ref it)) Q E s
noncomputable abbrev TI:=St->Hp->(It->Hp->Prop)->Prop
def Qe(X:Cx)(pins:List (Addr×Obj))(σ:St)(tg:Expr)(R:It->Hp->Prop)(Uq:Value)(s2:Shared):Prop:=
 ∃(it:Addr) (fp:List Addr) (tn:Nat->Heap->Prop) (J:It) (H':Hp),Uq=.ref it/\Inv X pins σ H' s2/\Turn X.prog X.w X.K tg J fp it tn/\tn 0 s2.heap/\(∀b∈fp,uZ X pins H' b)/\R J H'
def PI(X:Cx)(tg iter:Expr)(wi:TI):Prop:=
 ∀(pins:List (Addr×Obj)) (s:Shared) (σ:St) (H:Hp) (R:It->Hp->Prop),Inv X pins σ H s->wi σ H R ->
  wpAny (model X.prog X.w) X.A (eval iter X.env) (λv s1=>wpAny (model X.prog X.w) X.A (pyIter v) (Qe X pins σ tg R) X.xe s1) X.xe s
theorem CC{E:Value->Shared->Prop}{Q:Unit->Shared->Prop}(j:s.heap.get? it=some o)(hc:o.cls=.type n)(hd:o.data=.fields vs)
 (hn:["enumerate","zip","dict_itemiterator","dict_reverseitemiterator","odict_iterator","itertools.zip_longest","itertools.pairwise"].contains n=false) (g:Q () s):wpAny M A (we8 l (.ref it) u) Q E s:=by
 unfold we8
 cases l <;> first
  |exact wap g
  |(cases u <;> first
     |exact wap g
     |(refine wa3 (wpAny_load j ?_)
       rw[hc,hd];show wpAny M A (if (["enumerate","zip","dict_itemiterator","dict_reverseitemiterator","odict_iterator","itertools.zip_longest","itertools.pairwise"].contains n && vs[0]? == some (rawInt _))=true then _ else _) Q E s;rw[if_neg (by grind)]
       exact wap g))
noncomputable def MX(K:wa1)(a:Addr):It:=
 ⟨λi H=>∃xs x,aH K H a xs/\xs[i]?=some x,λi H x H'=>H'=H/\∀xs,aH K H a xs->xs[i]?=some x,λi H=>∃xs,aH K H a xs/\xs.length<=i⟩
noncomputable def Kj(lo:Int)(n:Nat):It:=⟨λi _=>i < n,λi H x H'=>H'=H/\x=.int (lo + i),λi _=>n<=i⟩
theorem DI{P:wat}{w:World}{K:wa1}{J:Expr}(a it:Addr):Turn P w K J (MX K a) [it] it (λi h=>h.IsListIter it a i) where
 mem:=by simp
 obj:=λi h st b g=>by
  have e:b=it:=by simpa using g
  subst e;obtain⟨o,e,c,d⟩:=st;exact⟨o,e,λv z=>by rw[d]at z;cases z⟩
 keep:=λi h l st k=>st.at λo e=>k it (by simp) o e
 item:=by
  intro X q hw r hc i f s σ H E I m st t;subst q hw r;obtain⟨L,x,n,y⟩:=t;obtain⟨A,B,p,M⟩:=I.list n;obtain⟨u,N,O⟩:=B.get y;obtain⟨C,f1,f2,D,F,G⟩:=m it (by simp);refine wpAny_pyNext_list_item st p.isList (x:=u) (by simpa using N) λl j sb=>?_;have Q:Inv X f σ H {s with heap:=l}:=I.turned (t':=s.toks) (λb o g e=>(sb.2 b g).trans e) C f1 D F G;obtain⟨o,e,c,d⟩:=id j;exact⟨u,rfl,CC (s:={s with heap:=l}) e c d (by decide) ⟨x,H,Q,O,⟨rfl,λT R=>by rw[I.rY R n];exact y⟩,j,λb g=>(m b g).1⟩⟩
 done:=by
   intro X q hw r hc i f s σ H E I m st t;subst q hw r;obtain⟨L,n,y⟩:=t;obtain⟨A,B,p,M⟩:=I.list n;obtain⟨C,f1,f2,D,F,G⟩:=m it (by simp);have hl:=B.length;exact wpAny_pyNext_list_end (I.ok.hd hc) st p.isList (by simp;omega) λl S=>⟨rfl,I.turned (t':=s.toks) (λb o g e=>S b o g e) C f1 D F G⟩
 self:=λ_ _ _ _ _ st h=>wpAny_pyIter_listiter st h
theorem AK{P:wat}{w:World}{K:wa1}{C:Expr}(it:Addr)(lo:Int)(n:Nat):Turn P w K C (Kj lo n) [it] it (λi h=>IsRangeIter h it (lo + (i:Nat) * 1) ((n:Int) - (i:Nat)) 1) where
 mem:=by simp
 obj:=λi h st b c=>by
  have e:b=it:=by simpa using c
  subst e
  exact⟨_,st,λv z=>by
   have y:wgZ _=whu v:=z
   cases y⟩
 keep:=λi h f st k=>k it (by simp) _ st
 item:=by
  intro X j hw l hc i a s σ H E I g st m;subst j hw l;obtain⟨p,f1,f2,q,r,u⟩:=g it (by simp);have W:=Walks.range (prog:=X.prog) (w:=X.w) (I.ok.hd hc) it lo 1 n;refine W.item i s _ _ m st λv f x A d B=>?_;obtain⟨t,rfl⟩:=A;have D:Inv X a σ H {s with heap:=f,toks:=x}:=I.turned (λb o c e=>B b o (by simpa using c) e) p f1 q r u;refine⟨_,rfl,CC (s:={s with heap:=f,toks:=x}) (n:="range_iterator") d rfl rfl (by decide) ⟨.int (lo + i),H,D,⟨t,?_⟩,⟨rfl,rfl⟩,d,λb c=>(g b c).1⟩⟩;rw[Int.mul_one]
 done:=by
   intro X j hw l hc i a s σ H E I g st m;subst j hw l;obtain⟨p,f1,f2,q,r,u⟩:=g it (by simp);exact wpAny_pyNext_range_end (I.ok.hd hc) st (by have:n<=i:=m;omega) λf F=>⟨rfl,I.turned (t':=s.toks) (λb o c e=>F b o c e) p f1 q r u⟩
 self:=λ_ _ _ _ _ st h=>wpAny_pyIter_rangeiter st h
section
variable{X:Cx}{tg:Expr}
def Nx(K:wa1)(tl:TE):TI:=λσ H R=>tl σ H λx H1=>∃a,x=.ref a/\(∃xs,aH K H1 a xs)/\R (MX K a) H1
theorem aM{l:Expr}{g:TE}(hl:PE X l g):PI X tg l (Nx X.K g):=by
 intro c s σ H R I h;refine bP (hl c s σ H _ I h) λv d ⟨x,i,f,j,k⟩=>?_;obtain⟨a,e,⟨t,m⟩,q⟩:=k;subst e;cases j;obtain⟨n,u,p,w⟩:=f.list m;refine wcz p.isList ?_;refine⟨d.heap.objs.size,[d.heap.objs.size],_,_,i,rfl,f.kept (t':=d.toks) λb o e=>wa8 _ e,DI a _,⟨_,wax _ rfl,rfl,rfl⟩,λb r=>?_,q⟩;have e:b=d.heap.objs.size:=by simpa using r
 subst e;exact f.DH (wab _) (f.aW.fresh (wab _))
theorem yR{g:List (Addr×Obj)}{σ:St}{H:Hp}{s:Shared}{R:It->Hp->Prop}{E:Value->Shared->Prop}{lo hi:Int}{t u v:Tok}{tk:Nat}(I:Inv X g σ H s)(j:-(2 ^ 62)<=lo)(l:lo < 2 ^ 62)(p:-(2 ^ 62)<=hi)(r:hi < 2 ^ 62)
 (q:R (Kj lo (hi - lo).toNat) H):wpAny (model X.prog X.w) X.A (pyIter (.ref s.heap.objs.size)) (Qe X g σ tg R) E {s with heap:=s.heap.push {cls:=.type "range",data:=.fields #[.int lo t,.int hi u,.int 1 v]},toks:=tk}:=by
 refine wpAny_pyIter_range (IsRange.new ..) (small_one j l p r) ?_;have a:Inv X g σ H {s with heap:=s.heap.push {cls:=.type "range",data:=.fields #[.int lo t,.int hi u,.int 1 v]},toks:=tk}:=I.kept λb o e=>wa8 _ e
 refine⟨(s.heap.push {cls:=.type "range",data:=.fields #[.int lo t,.int hi u,.int 1 v]}).objs.size,[(s.heap.push {cls:=.type "range",data:=.fields #[.int lo t,.int hi u,.int 1 v]}).objs.size],_,_,H,rfl,
  a.kept (t':=tk) λb o e=>wa8 _ e,AK _ lo (hi - lo).toNat,?_,λb c=>?_,q⟩
 ·have d:lo + ((0:Nat):Int) * 1=lo:=by simp
  have f:(((hi - lo).toNat:Nat):Int) - ((0:Nat):Int)=Builtin.Range.rangeSize lo hi 1:=by rw[rangeSize_one];split <;> omega
  show IsRangeIter _ _ (lo + ((0:Nat):Int) * 1) ((((hi - lo).toNat:Nat):Int) - ((0:Nat):Int)) 1;rw[d,f];exact wax _ rfl
 ·have e:b=(s.heap.push {cls:=.type "range",data:=.fields #[.int lo t,.int hi u,.int 1 v]}).objs.size:=by simpa using c
  subst e;exact a.DH (wab _) (a.aW.fresh (wab _))
def Ny(ta:TA):TI:=λσ H R=>ta σ H λvs H1=>∃j:Int,vs=[.int j]/\-(2 ^ 62)<=j/\j < 2 ^ 62/\R (Kj 0 j.toNat) H1
def Nz(ta:TA):TI:=λσ H R=>ta σ H λvs H1=>∃i j:Int,vs=[.int i,.int j]/\(-(2 ^ 62)<=i/\i < 2 ^ 62/\-(2 ^ 62)<=j/\j < 2 ^ 62)/\R (Kj i (j - i).toNat) H1
theorem dD(g:Gl X "range")(l:X.mg "range"=none)(ha:PA X [a] o)(hs:starEach [a] X.env=[(false,eval a X.env)]:=by rfl):PI X tg (.Call (.Name "range" p) [a] [] pos) (Ny o):=by
 intro b s σ H R I h;refine Call_ (iJ I g l boot_range (wcr (bP (ha pos b s σ H _ I h) λm n ⟨u,v,d,f,c⟩=>?_) hs rfl));obtain⟨j,e,c,i,q⟩:=c;subst e
 cases f with
 |cons r k=>
  cases k;obtain⟨t,rfl⟩:=r;exact call_range_1 (yR d (by omega) (by omega) c i (by simpa using q))
theorem p9(l:Gl X "range")(o:X.mg "range"=none)(ha:PA X [a,b] C)(hs:starEach [a,b] X.env=[(false,eval a X.env),(false,eval b X.env)]:=by rfl)(g:starEach [b] X.env=[(false,eval b X.env)]:=by rfl) :
 PI X tg (.Call (.Name "range" p) [a,b] [] pos) (Nz C):=by
 intro c s σ H R I h;refine Call_ (iJ I l o boot_range (wcr (bP (ha pos c s σ H _ I h) λx y ⟨z,A,k,m,d⟩=>?_) (by rw[hs,g]) (by rw[g];rfl)));obtain⟨i,j,e,⟨d,n,u,v⟩,q⟩:=d;subst e
 cases m with
 |cons r f=>
  cases f with
  |cons w f=>
   cases f;obtain⟨t,rfl⟩:=r;obtain⟨B,rfl⟩:=w;exact call_range_2 (yR k d n u v q)
def Rg(wi:TI)(g:TG)(tb:TS):TS:=λD σ H=>wi σ H λJ H1=>∃W:Nat->Nat->St->Hp->Prop,(∃m,W 0 m σ H1)/\∀i m σ H,W i m σ H ->
 (J.stop i H/\D.nx σ H)\/(J.go i H/\∃N:St->Hp->Prop,(∀σ' H',N σ' H'->∃m',m' < m/\W (i + 1) m' σ' H')/\∀x H',J.uW i H x H'->g x σ H' λσ2 H2=>tb {D with nx:=N,ct:=N,bk:=D.nx} σ2 H2)
noncomputable def sf(fp:List Addr)(h:Heap):List (Addr×Obj):=fp.filterMap λb=>(h.get? b).map λo=>(b,o)
theorem je(g:b∈j)(e:h.get? b=some o):(b,o)∈sf j h:=wey.mpr ⟨b,g,by rw[e];rfl⟩
theorem DJ(g:p∈sf j h):p.1∈j/\h.get? p.1=some p.2:=by
 obtain⟨b,a,e⟩:=wey.mp g
 cases q:h.get? b with
 |none=>grind
 |some o=>
  grind
theorem Inv.pinned(I:Inv X g σ H s)(l:∀b∈j,uZ X g H b)(r:∀b∈j,∃o,s.heap.get? b=some o/\∀v,o.data≠.cell v):Inv X (g++sf j s.heap) σ H s:=
 I.CA λp f=>(waA.mp f).elim (λz=>I.pin p (waU _ z)) λz=>by
  obtain⟨a,e⟩:=DJ z;obtain⟨h,f1,f2,_⟩:=l p.1 a;obtain⟨o,c,d⟩:=r p.1 a;rw[e]at c;cases c;exact⟨e,h,f1,f2,d⟩
theorem Inv.nE(I:Inv X (g++pl) σ H s):Inv X g σ H s:=I.CA λp a=>I.pin p (waU _ (wbt _ a))
theorem bj(C:PassesOwn (model X.prog X.w) X.A X.env X.xe)(hc:X.calm=true)(hi:PI X tg iter wi)(hg:PG X tg g)(j:uY X body tb)
 (hs:∀x,wc0 iter X.env x=pure x:=by intro _;rfl):PS X (.For tg iter body [] pos) (Rg wi g tb):=by
 intro a s σ H D I h;refine wpAny_For (bP (hi a s σ H _ I h) λv s1 h1=>bP h1 λUq s2 h2=>?_) hs;obtain⟨it,E,V,J,H2,e,I2,T,O,f2,W,⟨m0,w0⟩,F⟩:=h2;subst e;have k:∀{y:Hp},(∀b∈E,y b=none)->∀b∈E,uZ X a y b:=λhn b j=>⟨hn b j,(f2 b j).2⟩;refine codeAny_forLoop_any (λn Y=>∃i l y,Inv X a l y Y/\V i Y.heap/\(∀b∈E,y b=none)/\W i n l y) ?_ m0 ⟨0,σ,H2,I2,O,λb j=>(f2 b j).1,w0⟩;rintro n Z ⟨i,p,M,I3,G,K,w3⟩;rcases F i n p M w3 with⟨stop,qn⟩ |⟨go,N,hN,step⟩
 ·refine wcu C (bP (T.done X rfl rfl rfl hc i a Z p M X.xe I3 (k K) G stop) λr s4 ⟨P,I4⟩=>?_);subst P;exact wbR ⟨p,M,I4,qn⟩
 ·refine wcu C (bP (T.item X rfl rfl rfl hc i a Z p M X.xe I3 (k K) G go) λr s4 ⟨u,P,h4⟩=>?_);subst P;refine wcu C (bP h4 λ_ s5 ⟨x,H5,I5,r5,y5,B,Q⟩=>?_);have R:=I5.pinned (k Q) (T.obj _ _ B);refine wcu C (bP (hg _ s5 p H5 x u _ R r5 (step x H5 y5)) λ_ s6 ⟨S,H6,I6,q6⟩=>?_);refine wcu C (bP (j _ s6 S H6 _ I6 q6) λf U z=>?_)
  have again:∀{c:St} {q:Hp},Inv X (a++sf E s5.heap) c q U->N c q->∃m,m < n/\∃i l y,Inv X a l y U/\V i U.heap/\(∀b∈E,y b=none)/\W i m l y:=λ{c q} t L=>by
   obtain⟨m',hm,w7⟩:=hN c q L;refine⟨m',hm,i + 1,c,q,t.nE,T.keep _ _ _ B λb j o e=>(t.pin (b,o) (waU _ (waU _ (je j e)))).1,λb j=>?_,w7⟩;obtain⟨o,e,d⟩:=T.obj _ _ B b j;exact(t.pin (b,o) (waU _ (waU _ (je j e)))).2.1
  cases f with
  |next=>obtain⟨c,q,t,L⟩:=z;exact again t L
  |cont=>obtain⟨c,q,t,L⟩:=z;exact again t L
  |brk=>obtain⟨c,q,t,z⟩:=z;exact⟨c,q,t.nE,z⟩
  |ret v=>obtain⟨x7,c,q,t,r7,z⟩:=z;exact⟨x7,c,q,t.nE,r7,z⟩
end
theorem dU{K:wa1}{a:Addr}{xs:List V}{g:TG}{C:TS}{D:Ends}{σ:St}{H:Hp}(Pv:Nat->St->Hp->Prop)(J:Pv 0 σ H)(hl:∀i σ H,i<=xs.length->Pv i σ H->aH K H a xs)
 (hs:∀i x σ H,xs[i]?=some x->Pv i σ H->g x σ H λj r=>C {D with nx:=Pv (i + 1),ct:=Pv (i + 1),bk:=D.nx} j r) (hd:∀σ H,Pv xs.length σ H->D.nx σ H) :
 ∃W:Nat->Nat->St->Hp->Prop,(∃m,W 0 m σ H)/\∀i m σ H,W i m σ H ->
  ((MX K a).stop i H/\D.nx σ H)\/((MX K a).go i H/\∃N:St->Hp->Prop,(∀l o,N l o->∃I,I < m/\W (i + 1) I l o)/\∀x o,(MX K a).uW i H x o->g x σ o λj r=>C {D with nx:=N,ct:=N,bk:=D.nx} j r):=by
 refine⟨λi m σ H=>m=xs.length - i/\i<=xs.length/\Pv i σ H,⟨xs.length,by simp,waM _,J⟩,?_⟩;rintro i m σ H ⟨rfl,hi,p⟩;have q:=hl i σ H hi p
 by_cases b:i < xs.length
 ·refine .inr ⟨⟨xs,xs[i],q,by simp[b]⟩,Pv (i + 1),λl o c=>⟨xs.length - (i + 1),by omega,rfl,b,c⟩,λx o y=>?_⟩;obtain⟨e,y⟩:=y;subst e;exact hs i x σ _ (y xs q) p
 ·have e:i=xs.length:=by omega
  subst e;exact .inl ⟨⟨xs,q,wab _⟩,hd σ H p⟩
theorem dE{lo:Int}{n:Nat}{g:TG}{C:TS}{D:Ends}{σ:St}{H:Hp}(Pv:Nat->St->Hp->Prop)(J:Pv 0 σ H)
 (hs:∀i σ H,i < n->Pv i σ H->g (.int (lo + i)) σ H λj r=>C {D with nx:=Pv (i + 1),ct:=Pv (i + 1),bk:=D.nx} j r) (hd:∀σ H,Pv n σ H->D.nx σ H) :
 ∃W:Nat->Nat->St->Hp->Prop,(∃m,W 0 m σ H)/\∀i m σ H,W i m σ H ->
  ((Kj lo n).stop i H/\D.nx σ H)\/((Kj lo n).go i H/\∃N:St->Hp->Prop,(∀l o,N l o->∃I,I < m/\W (i + 1) I l o)/\∀x o,(Kj lo n).uW i H x o->g x σ o λj r=>C {D with nx:=N,ct:=N,bk:=D.nx} j r):=by
 refine⟨λi m σ H=>m=n - i/\i<=n/\Pv i σ H,⟨n,by simp,waM _,J⟩,?_⟩;rintro i m σ H ⟨rfl,hi,p⟩
 by_cases a:i < n
 ·refine .inr ⟨a,Pv (i + 1),λl o b=>⟨n - (i + 1),by omega,rfl,a,b⟩,λx o y=>?_⟩;obtain⟨e,y⟩:=y;subst e y;exact hs i σ _ a p
 ·have e:i=n:=by omega
  subst e;exact .inl ⟨wab _,hd σ H p⟩
noncomputable abbrev R2:=V->V->Hp->VK->Prop
def lX(X:Cx)(f:Value->Value->Sem Value)(r:R2):Prop:=
 ∀(pins:List (Addr×Obj)) (s:Shared) (σ:St) (H:Hp) (x y:V) (v u:Value) (Q:VK),Inv X pins σ H s->RelV x v->RelV y u->r x y H Q ->
  wpAny (model X.prog X.w) X.A (f v u) (EP X pins σ Q) X.xe s
def Rh(X:Cx)(f:Value->Sem Value)(r:V->Hp->VK->Prop):Prop:=
 ∀(pins:List (Addr×Obj)) (s:Shared) (σ:St) (H:Hp) (x:V) (v:Value) (Q:VK),Inv X pins σ H s->RelV x v->r x H Q ->
  wpAny (model X.prog X.w) X.A (f v) (EP X pins σ Q) X.xe s
def d5(X:Cx)(f:Value)(r:List V->Hp->VK->Prop):Prop:=
 ∀(pins:List (Addr×Obj)) (s:Shared) (σ:St) (H:Hp) (xs:List V) (us:List Value) (Q:VK),Inv X pins σ H s->Vals xs us->r xs H Q ->
  wpAny (model X.prog X.w) X.A (call f us) (EP X pins σ Q) X.xe s
def Qf(r:R2)(ta tb:TE):TE:=λσ H Q=>ta σ H λx H1=>tb σ H1 λy H2=>r x y H2 Q
def WH(r:V->Hp->VK->Prop)(ta:TE):TE:=λσ H Q=>ta σ H λx H1=>r x H1 Q
inductive rI(C:Int->Int->Prop)(g:Int->Int->V)(x y:V)(H:Hp)(Q:VK):Prop
 |mk (i j) (_:x=.int i) (_:y=.int j) (_:C i j) (_:Q (g i j) H)
inductive Kk(g:Int->Int->V)(x y:V)(H:Hp)(Q:VK):Prop
 |mk (i j) (_:x=.int i) (_:y=.int j) (_:Q (g i j) H)
inductive rU(g:Int->V)(x:V)(H:Hp)(Q:VK):Prop
 |mk (i) (_:x=.int i) (_:Q (g i) H)
section
variable{X:Cx}{a b c:Expr}{ta tb tc:TE}{pos:Pos}
theorem Lf(ha:PE X a ta)(C:PE X b tb){R:V->V->Hp->Prop}(I:Inv X g σ H s)
 (h:ta σ H λx r=>tb σ r λy j=>R x y j) {Q:Value->Shared->Prop} {f:Value->Value->Sem Value}
 (J:∀v u p x y j,Inv X g σ j p->RelV x v->RelV y u->R x y j->wpAny (model X.prog X.w) X.A (f v u) Q X.xe p) :
 wpAny (model X.prog X.w) X.A (eval a X.env) (λv l=>wpAny (model X.prog X.w) X.A (eval b X.env) (λu o=>wpAny (model X.prog X.w) X.A (f v u) Q X.xe o) X.xe l) X.xe s:=by
 refine bP (ha g s σ H _ I h) λv c ⟨x,r,d,e,i⟩=>?_;refine bP (C g c σ r _ d i) λu p ⟨y,j,k,m,n⟩=>?_;exact J v u p x y j k e m n
theorem aE(g:lX X (binaryOp op) r)(ha:PE X a ta)(j:PE X b tb):PE X (.BinOp a op b pos) (Qf r ta tb):=by
 intro c s σ H Q I h;exact wpAny_BinOp (Lf ha j I h λv u d x y e f i k q=>g c d σ e x y v u Q f i k q)
theorem Kl{r:V->Hp->VK->Prop}(g:Rh X (unaryOp op) r)(ha:PE X a ta):PE X (.UnaryOp op a pos) (WH r ta):=by
 intro b s σ H Q I h;exact UnaryOp_ (bP (ha b s σ H _ I h) λv c ⟨x,d,e,f,i⟩=>g b c σ d x v Q e f i)
theorem Qg{f:Value->Value->Sem Value}{C:Int->Int->Prop}{g:Int->Int->Int}
 (rule:∀(i j:Int) (t u:Tok) (s:Shared) (Q:Value->Shared->Prop) (E:Value->Shared->Prop),C i j->Q (.int (g i j) s.toks) {s with toks:=s.toks + 1}->wpAny (model X.prog X.w) X.A (f (.int i t) (.int j u)) Q E s) :
 lX X f (rI C λi j=>.int (g i j)):=by
 intro a s σ H x y v u Q I b c h;obtain⟨i,j,rfl,rfl,hc,q⟩:=h;obtain⟨t,rfl⟩:=b;obtain⟨d,rfl⟩:=c;exact rule i j t d s _ _ hc ⟨.int (g i j),H,I.tok _,⟨_,rfl⟩,q⟩
theorem NA{f:Value->Value->Sem Value}{g:Int->Int->Int}
 (rule:∀(i j:Int) (t u:Tok) (s:Shared) (Q:Value->Shared->Prop) (E:Value->Shared->Prop),Q (.int (g i j) s.toks) {s with toks:=s.toks + 1}->wpAny (model X.prog X.w) X.A (f (.int i t) (.int j u)) Q E s) :
 lX X f (Kk λi j=>.int (g i j)):=by
 intro a s σ H x y v u Q I b c h;obtain⟨i,j,rfl,rfl,q⟩:=h;obtain⟨t,rfl⟩:=b;obtain⟨d,rfl⟩:=c;exact rule i j t d s _ _ ⟨.int (g i j),H,I.tok _,⟨_,rfl⟩,q⟩
theorem IB{f:Value->Value->Sem Value}{g:Int->Int->Bool}
 (rule:∀(i j:Int) (t u:Tok) (s:Shared) (Q:Value->Shared->Prop) (E:Value->Shared->Prop),Q (.bool (g i j)) s->wpAny (model X.prog X.w) X.A (f (.int i t) (.int j u)) Q E s) :
 lX X f (Kk λi j=>.bl (g i j)):=by
 intro a s σ H x y v u Q I b c h;obtain⟨i,j,rfl,rfl,q⟩:=h;obtain⟨t,rfl⟩:=b;obtain⟨d,rfl⟩:=c;exact rule i j t d s _ _ ⟨.bl (g i j),H,I,rfl,q⟩
def Ri(i j:Int):Prop:=0 < j/\j < 1073741824
def IC(i j:Int):Prop:=(-(2 ^ 64) < i/\i < 2 ^ 64)\/(-(2 ^ 64) < j/\j < 2 ^ 64)
theorem IC.ok{i j:Int}(h:IC i j):IntMulOk i j:=by
 rcases h with⟨a,b⟩ |⟨a,b⟩
 ·exact .of_left (intBits_le_64 a b)
 ·exact .of_right (intBits_le_64 a b)
theorem eN:lX X (binaryOp .Add) (Kk λi j=>.int (i + j)):=NA λ_ _ _ _ _ _ _ q=>add_int q
theorem si:lX X (binaryOp .Sub) (Kk λi j=>.int (i - j)):=NA λ_ _ _ _ _ _ _ q=>sub_int q
theorem jf:lX X (binaryOp .Mult) (rI IC λi j=>.int (i * j)):=Qg λ_ _ _ _ _ _ _ hc q=>mul_int q hc.ok
theorem jg:lX X (binaryOp .FloorDiv) (rI Ri λi j=>.int (i / j)):=Qg λi j _ _ _ _ _ hc q=>by
 have a:(0:Int) < j:=hc.1;have b:j < 1073741824:=hc.2;exact floordiv_int (by omega) (by rw[Int.fdiv_eq_ediv_of_nonneg i (by omega)];exact q) (.inl (PyProof.noPylong_small (by omega)))
theorem cu:lX X (binaryOp .Mod) (rI (λ_ j=>0 < j) λi j=>.int (i % j)):=Qg λi j _ _ _ _ _ hc q=>by
 have a:(0:Int) < j:=hc;exact mod_int' (by omega) (by rw[Int.fmod_eq_emod_of_nonneg i (by omega)];exact q)
theorem WK{f:Value->Sem Value}{g:Int->Int}
 (rule:∀(i:Int) (t:Tok) (s:Shared) (Q:Value->Shared->Prop) (E:Value->Shared->Prop),Q (.int (g i) s.toks) {s with toks:=s.toks + 1}->wpAny (model X.prog X.w) X.A (f (.int i t)) Q E s) :
 Rh X f (rU λi=>.int (g i)):=by
 intro a s σ H x v Q I b h;obtain⟨i,rfl,q⟩:=h;obtain⟨t,rfl⟩:=b;exact rule i t s _ _ ⟨.int (g i),H,I.tok _,⟨_,rfl⟩,q⟩
theorem Ft:Rh X (unaryOp .USub) (rU λi=>.int (-i)):=WK λ_ _ _ _ _ q=>neg_int q
end
noncomputable def NF:V->V->Bool
 |.non,.non=>true |.non,.int _=>true |.int _,.non=>true |.non,.bl _=>true |.bl _,.non=>true |.non,.str _=>true |.str _,.non=>true
 |.int _,.int _=>true |.bl _,.bl _=>true |.str _,.str _=>true |.byt _,.byt _=>true
 |.int _,.str _=>true |.str _,.int _=>true |.bl _,.str _=>true |.str _,.bl _=>true
 |_,_=>false
inductive WL(x y:V)(H:Hp)(Q:VK):Prop
 |mk (_:NF x y=true) (_:Q (.bl (decide (x=y))) H)
inductive WM(x y:V)(H:Hp)(Q:VK):Prop
 |mk (_:NF x y=true) (_:Q (.bl (!decide (x=y))) H)
theorem CD:decide (V.int i=V.int j)=(i == j):=by
 rw[we9];simp
theorem Fu:decide (V.bl i=V.bl j)=(i == j):=by
 rw[we9];simp
theorem CF:decide (V.str i=V.str j)=(i == j):=by
 rw[we9];simp
theorem CG:decide (V.byt i=V.byt j)=(i.toList == j.toList):=by
 rw[we9];cases i;cases j;simp
section
variable{X:Cx}{a b c:Expr}{ta tb tc:TE}{pos:Pos}
theorem b9(I:Inv X g σ H s)(q:Q (.bl k) H)(e:k=j):EP X g σ Q (.bool j) s:=by
 subst e;exact⟨.bl k,H,I,rfl,q⟩
theorem qg:lX X (wbr .Eq) WL:=by
 intro e s σ H x y v u Q I d a h;obtain⟨c,q⟩:=h
 cases x with
 |non=>
  cases d
  cases y with
  |non=>cases a;exact PySem.EqNone.eq_none_none (b9 I q (by simp))
  |bl j=>cases a;exact PySem.EqNone.eq_none_bool (b9 I q (by simp))
  |int j=>obtain⟨b,rfl⟩:=a;exact PySem.EqNone.eq_none_int (b9 I q (by simp))
  |str j=>obtain⟨b,rfl⟩:=a;exact PySem.EqNone.eq_none_str (b9 I q (by simp))
  |_=>exact absurd (show false=true from c) waq
 |bl i=>
  cases d
  cases y with
  |non=>cases a;exact PySem.EqNone.eq_bool_none (b9 I q (by simp))
  |bl j=>cases a;exact eq_bool (b9 I q Fu)
  |str j=>obtain⟨b,rfl⟩:=a;exact PySem.EqMixed.eq_bool_str (b9 I q (by simp))
  |_=>exact absurd (show false=true from c) waq
 |int i=>
  obtain⟨t,rfl⟩:=d
  cases y with
  |non=>cases a;exact PySem.EqNone.eq_int_none (b9 I q (by simp))
  |int j=>obtain⟨b,rfl⟩:=a;exact eq_int (b9 I q CD)
  |str j=>obtain⟨b,rfl⟩:=a;exact PySem.EqMixed.eq_int_str (b9 I q (by simp))
  |_=>exact absurd (show false=true from c) waq
 |str i=>
  obtain⟨t,rfl⟩:=d
  cases y with
  |non=>cases a;exact PySem.EqNone.eq_str_none (b9 I q (by simp))
  |bl j=>cases a;exact PySem.EqMixed.eq_str_bool (b9 I q (by simp))
  |int j=>obtain⟨b,rfl⟩:=a;exact PySem.EqMixed.eq_str_int (b9 I q (by simp))
  |str j=>obtain⟨b,rfl⟩:=a;exact eq_str (b9 I q CF)
  |_=>exact absurd (show false=true from c) waq
 |byt i=>
  obtain⟨t,rfl⟩:=d
  cases y with
  |byt j=>obtain⟨b,rfl⟩:=a;exact PySem.W.eq_bytes (b9 I q CG)
  |_=>exact absurd (show false=true from c) waq
 |_=>cases y <;> exact absurd (show false=true from c) waq
theorem NI:lX X (wbr .NotEq) WM:=by
 intro e s σ H x y v u Q I d a h;obtain⟨c,q⟩:=h
 cases x with
 |non=>
  cases d
  cases y with
  |non=>cases a;exact PySem.EqNone.ne_none_none (b9 I q (by simp))
  |bl j=>cases a;exact PySem.EqNone.ne_none_bool (b9 I q (by simp))
  |int j=>obtain⟨b,rfl⟩:=a;exact PySem.EqNone.ne_none_int (b9 I q (by simp))
  |str j=>obtain⟨b,rfl⟩:=a;exact PySem.EqNone.ne_none_str (b9 I q (by simp))
  |_=>exact absurd (show false=true from c) waq
 |bl i=>
  cases d
  cases y with
  |non=>cases a;exact PySem.EqNone.ne_bool_none (b9 I q (by simp))
  |bl j=>cases a;exact ne_bool (b9 I q (congrArg not Fu))
  |str j=>obtain⟨b,rfl⟩:=a;exact PySem.EqMixed.ne_bool_str (b9 I q (by simp))
  |_=>exact absurd (show false=true from c) waq
 |int i=>
  obtain⟨t,rfl⟩:=d
  cases y with
  |non=>cases a;exact PySem.EqNone.ne_int_none (b9 I q (by simp))
  |int j=>obtain⟨b,rfl⟩:=a;exact ne_int (b9 I q (congrArg not CD))
  |str j=>obtain⟨b,rfl⟩:=a;exact PySem.EqMixed.ne_int_str (b9 I q (by simp))
  |_=>exact absurd (show false=true from c) waq
 |str i=>
  obtain⟨t,rfl⟩:=d
  cases y with
  |non=>cases a;exact PySem.EqNone.ne_str_none (b9 I q (by simp))
  |bl j=>cases a;exact PySem.EqMixed.ne_str_bool (b9 I q (by simp))
  |int j=>obtain⟨b,rfl⟩:=a;exact PySem.EqMixed.ne_str_int (b9 I q (by simp))
  |str j=>obtain⟨b,rfl⟩:=a;exact ne_str (b9 I q (congrArg not CF))
  |_=>exact absurd (show false=true from c) waq
 |byt i=>
  obtain⟨t,rfl⟩:=d
  cases y with
  |byt j=>obtain⟨b,rfl⟩:=a;exact PySem.W.ne_bytes (b9 I q (congrArg not CG))
  |_=>exact absurd (show false=true from c) waq
 |_=>cases y <;> exact absurd (show false=true from c) waq
theorem m6:lX X (wbr .Lt) (Kk λi j=>.bl (decide (i < j))):=IB λ_ _ _ _ _ _ _ q=>lt_int q
theorem NK:lX X (wbr .LtE) (Kk λi j=>.bl (decide (i<=j))):=IB λ_ _ _ _ _ _ _ q=>le_int q
theorem m7:lX X (wbr .Gt) (Kk λi j=>.bl (decide (j < i))):=IB λ_ _ _ _ _ _ _ q=>gt_int q
theorem Fv:lX X (wbr .GtE) (Kk λi j=>.bl (decide (j<=i))):=IB λ_ _ _ _ _ _ _ q=>ge_int q
theorem vT:lX X (wbr .In) (λx y H Q=>∃i j,x=.str i/\y=.str j/\Q (.bl (!(wfl j i 0 j.length 1).isEmpty)) H):=by
 intro a s σ H x y v u Q I b c h;obtain⟨i,j,rfl,rfl,q⟩:=h;obtain⟨t,rfl⟩:=b;obtain⟨d,rfl⟩:=c;exact in_str (b9 I q rfl)
theorem Lg:lX X (wbr .Is) (λx y H Q=>y=.non/\Q (.bl (decide (x=.non))) H):=by
 intro a s σ H x y v u Q I b c h;obtain⟨rfl,q⟩:=h;cases c;refine is_none_gen (b9 I q ?_)
 cases x <;> first
  |(cases b;rfl)
  |(obtain⟨t,rfl⟩:=b;rfl)
theorem xJ:lX X (wbr .IsNot) (λx y H Q=>y=.non/\Q (.bl (!decide (x=.non))) H):=by
 intro a s σ H x y v u Q I b c h;obtain⟨rfl,q⟩:=h;cases c;refine isnot_none_gen (b9 I q ?_)
 cases x <;> first
  |(cases b;rfl)
  |(obtain⟨t,rfl⟩:=b;rfl)
theorem aS(b:Expr)(h:op≠.In:=by decide)(g:op≠.NotIn:=by decide):wcL op b=false:=by
 have a:(op == CmpOp.In)=false:=by grind
 have c:(op == CmpOp.NotIn)=false:=by grind
 cases b <;> simp[wcL,a,c]
theorem iz(g:lX X (wbr op) r)(ha:PE X a ta)(j:PE X b tb)(l:wcL op b=false):PE X (.Compare a [op] [b] pos) (Qf r ta tb):=by
 intro c s σ H Q I h;exact wpAny_Compare1 (Lf ha j I h λv u d x y e f i k q=>g c d σ e x y v u Q f i k q) l
def NM(t:TE):TT:=λσ H Q=>t σ H λx H'=>Up x H' Q
theorem aF(g:lX X (wbr op) r)(ha:PE X a ta)(j:PE X b tb)(l:wcL op b=false):PT X (.Compare a [op] [b] pos) (NM (Qf r ta tb)):=by
 intro d s σ H Q I h
 refine wfU (bP (ha d s σ H _ I h) λv f ⟨x,i,m,n,o⟩=>bP (j d f σ i _ m o) λu p ⟨y,q,t,w,A⟩=>
  bP (g d p σ q x y v u _ t n w A) λc F ⟨z,B,C,D,k,e,E⟩=>?_) l
 subst e;cases D;exact wbN ⟨B,C,E⟩
theorem mK:(sizeLine:Nat) < 2 ^ 63:=by rw[wc2];decide
theorem mL:lX X (binaryOp .Add) (λx y H Q=>∃i j,x=.str i/\y=.str j/\i.length + j.length<=sizeLine/\Q (.str (i++j)) H):=by
 intro a s σ H x y v u Q I b c h;obtain⟨i,j,rfl,rfl,d,q⟩:=h;obtain⟨t,rfl⟩:=b;obtain⟨e,rfl⟩:=c;exact add_str (λe f=>⟨.str (i++j),H,I.tok _,⟨_,rfl⟩,q⟩) d
theorem yS:lX X (inplaceOp .Add) (λx y H Q=>∃i j,x=.str i/\y=.str j/\i.length + j.length<=sizeLine/\Q (.str (i++j)) H):=by
 intro a s σ H x y v u Q I b c h;obtain⟨i,j,rfl,rfl,d,q⟩:=h;obtain⟨t,rfl⟩:=b;obtain⟨e,rfl⟩:=c;exact iadd_str (λe f=>⟨.str (i++j),H,I.tok _,⟨_,rfl⟩,q⟩) d
theorem vals1(r:Vals [x] us):∃u,us=[u]/\RelV x u:=by
 cases r with
 |cons a b=>cases b;exact⟨_,rfl,a⟩
theorem vals2(r:Vals [x,y] us):∃u g,us=[u,g]/\RelV x u/\RelV y g:=by
 cases r with
 |cons a b=>
  cases b with
  |cons c d=>cases d;exact⟨_,_,rfl,a,c⟩
theorem DK(hc:X.calm=true):d5 X (.builtin "max") (λxs H Q=>∃i j,xs=[.int i,.int j]/\Q (.int (if j > i then j else i)) H):=by
 intro b s σ H xs c Q I r h;obtain⟨i,j,rfl,q⟩:=h;obtain⟨u,d,rfl,⟨t,rfl⟩,⟨e,rfl⟩⟩:=vals2 r;refine max_two_ints (I.ok.hd hc) λf g k=>⟨_,H,I.kept k,?_,q⟩
 by_cases a:j > i
 ·rw[if_pos a,if_pos a];exact⟨_,rfl⟩
 ·rw[if_neg a,if_neg a];exact⟨_,rfl⟩
theorem vU(hc:X.calm=true):d5 X (.builtin "min") (λxs H Q=>∃i j,xs=[.int i,.int j]/\Q (.int (if j < i then j else i)) H):=by
 intro b s σ H xs c Q I r h;obtain⟨i,j,rfl,q⟩:=h;obtain⟨u,d,rfl,⟨t,rfl⟩,⟨e,rfl⟩⟩:=vals2 r;refine min_two_ints (I.ok.hd hc) λf g k=>⟨_,H,I.kept k,?_,q⟩
 by_cases a:j < i
 ·rw[if_pos a,if_pos a];exact⟨_,rfl⟩
 ·rw[if_neg a,if_neg a];exact⟨_,rfl⟩
end
structure AO(h:Heap)(x dx C:Addr)(mA:Str->Option Value):Prop where
 obj:h.get? x=some (wcb C dx)
 ns:h.Ns1 dx mA
 ne:dx≠x
theorem vV{h:Heap}{g:Addr}{j:Str->Option Value}(n:h.Ns1 g j):∃od,h.get? g=some od/\∀name,wev name od=some (j name):=by
 obtain⟨o,c,m,d,hd,f,_,i⟩:=n;refine⟨o,d,λname=>?_⟩;have e:=i name;unfold nsFind findBy at e;rw[<-Array.find?_toList]at e;unfold wev;rw[hd];dsimp only;split
 ·rename_i y q;rw[q]at e;exact congrArg some e
 ·rename_i q;rw[q]at e
  have a:c.toList.any (·.refKey)=false:=by
   rw[wgM];intro y k;obtain⟨z,t,b⟩:=f y (Array.mem_toList_iff.mp k);simp[DictEntry.refKey,b]
  have l:¬c.toList.any (·.refKey)=true:=by rw[a];exact waq
  rw[if_neg l];exact congrArg some e
theorem AO.look{h:Heap}{x g C:Addr}{j:Str->Option Value}(I:AO h x g C j):∃od,PySem.W.InstAt h x (wcb C g) C (some od)/\∀name,wev name od=some (j name):=
 let ⟨od,a,hl⟩:=vV I.ns
 ⟨od,⟨I.obj,rfl,rfl,a⟩,hl⟩
section
variable{prog:wat}{w:World}{A:Around}{E:Value->Shared->Prop}{s:Shared}{K:wa1}{x dx C f:Addr}{mA:Str->Option Value}{name:Str}{v:Value}
theorem get_map{Q:Value->Shared->Prop}(X:K.In s.heap)(I:AO s.heap x dx C mA)(j:wdT K C name=true)(l:wea K C=true)
 (ha:wb8 K (.ref C) name=some none) (o:mA name=some v) (g:wh7 v=true) (h:Q v {s with toks:=s.toks + 1}) :
 wpAny (model prog w) A (getAttr (.ref x) name expr) Q E s:=by
 obtain⟨a,J,hl⟩:=I.look;exact PySem.W.get_value X J (wep j).1 (PySem.W.findObj_own l ha rfl (by rw[hl,o])) g h
theorem Fw{Q:Value×List Value->Shared->Prop}(X:K.In s.heap)(I:AO s.heap x dx C mA)(g:wdT K C name=true)
 (j:wb8 K (.ref C) name=some (some (.ref f))) (l:web K (.ref f)=true) (o:mA name=none) (h:Q (.ref f,[.ref x]) s) :
 wpAny (model prog w) A (wez (.ref x) name pl) Q E s:=by
 obtain⟨a,J,hl⟩:=I.look;exact PySem.W.method_fn X J (wep g).1 (wep g).2 j (beq_iff_eq.mp l) (by show (wev name a).map (·.isSome)=some false;rw[hl,o];rfl) h
theorem IE{Q:Unit->Shared->Prop}(X:K.In s.heap)(I:AO s.heap x dx C mA)
 (hs:wb8 K (.ref C) "__setattr__"=some (some (.builtin "object.__setattr__"))) (g:wfS K C=true) (j:wfu K C name=some none) (l:wea K C=true)
 (hw:wdv mA ns) (hsz:ns.length<=sizeLine)
 (h:∀h',AO h' x dx C (λy=>if y=name then some v else mA y)->we6 dx s.heap h'->Q () {s with heap:=h',toks:=s.toks + 2}) :
 wpAny (model prog w) A (setAttr (.ref x) name v) Q E s:=by
 obtain⟨p,J,hl⟩:=I.look;refine weQ X J hs (PySem.W.osa_open (s:={s with toks:=s.toks + 1}) (r:=none) X J g j λb=>?_);obtain⟨q,hc,e⟩:=PySem.W.any_some l;have i:s.heap.get? x=some ⟨.ref C,some dx,.plain,#[]⟩:=I.obj;refine wa3 (wap (wa3 (wa3 (wew i (wa3 (weA (s:={s with toks:=s.toks + 1}) (wdJ X hc) ?_))))));rw[e];refine wap (a:=some dx) (wa3 (wap (wa3 ?_)));refine wgC (s:={s with toks:=s.toks + 1}) I.ns λh' c d=>?_;obtain⟨t,k,m,f,n,o⟩:=c.count (wfv name v hw);refine wa3 (wf5 f (by grind [wf6,wal]) ?_);exact wap (h _ ⟨(d.2 _ (wbc I.ne)).trans I.obj,c,I.ne⟩ d)
theorem yT{R:wcR->Shared->Prop}(X:K.In s.heap)(l:whj K C=true)
 (hi:wb8 K (.ref C) "__init__"=some (some (.ref f))) (o:PySem.W.typeIn K (.ref f)=some (.type "function"))
 (h:codeAny (model prog w) (A.under (.builtin "type.__call__" ⟨.ref C :: vs,j⟩)) (.call (.ref f) ⟨.ref (s.heap.objs.size + 1) :: vs,j⟩) (PySem.W.InitBack (s.heap.objs.size + 1) R)
   {s with heap:=(s.heap.push wbP).push (wcb C s.heap.objs.size)}) :
 codeAny (model prog w) A (.call (.ref C) ⟨vs,j⟩) R s:=by
 obtain⟨a,g,d,t,os⟩:=s;exact PySem.W.make_core (PySem.W.makes_of X l) (wd9 X hi) (λself=>PySem.W.bind_fn X self o) (.inl rfl) h
end
noncomputable def cx(f:Str)(v:V):List (Str×V)->List (Str×V)
 |[]=>[(f,v)]
 |(g,x) :: r=>if g=f then(g,v) :: r else(g,x) :: cx f v r
theorem aB(f g:Str)(v:V):∀fs:List (Str×V),(cx f v fs).lookup g=if g=f then some v else fs.lookup g
 |[]=>by
  show wfE g [(f,v)]=_
  by_cases h:g=f
  ·grind
  ·grind
 |(k,x) :: r=>by
  have a:=aB f g v r;rw[show cx f v ((k,x) :: r)=(if k=f then(k,v) :: r else(k,x) :: cx f v r) from rfl]
  by_cases b:k=f
  ·grind
  ·grind
theorem pd(f:Str)(v:V):∀fs:List (Str×V),f∈(cx f v fs).map (·.1)/\∀g,g∈fs.map (·.1)->g∈(cx f v fs).map (·.1)
 |[]=>⟨by simp[cx],λg h=>by simp at h⟩
 |(k,x) :: r=>by
  obtain⟨a,b⟩:=pd f v r;rw[show cx f v ((k,x) :: r)=(if k=f then(k,v) :: r else(k,x) :: cx f v r) from rfl]
  by_cases c:k=f
  ·grind
  ·grind
theorem qh(f:Str)(v:V):∀fs:List (Str×V),(cx f v fs).length<=fs.length + 1
 |[]=>by simp[cx]
 |(k,x) :: r=>by
  have a:=qh f v r;rw[show cx f v ((k,x) :: r)=(if k=f then(k,v) :: r else(k,x) :: cx f v r) from rfl]
  by_cases b:k=f
  ·grind
  ·grind
theorem iu.rF(r:iu (some v) o):∃u,o=some u/\RelV v u:=by
 cases o with
 |none=>exact(show False from r).elim
 |some u=>exact⟨u,rfl,r⟩
theorem iu.none_of(r:iu none o):o=none:=by grind [iu,cases False]
theorem vW(r:RelV v u):wh7 u=true:=by
 cases v with
 |non=>cases(show u=wby from r);rfl
 |bl b=>cases(show u=wg9 b from r);rfl
 |int i=>obtain⟨t,e⟩:=(show ∃t,u=wfr i t from r);cases e;rfl
 |str x=>obtain⟨t,e⟩:=(show ∃t,u=wfs x t from r);cases e;rfl
 |byt b=>obtain⟨t,e⟩:=(show ∃t,u=Value.bytes b t from r);cases e;rfl
 |flt b=>obtain⟨t,e⟩:=(show ∃t,u=wgY b t from r);cases e;rfl
 |ref a=>cases(show u=waf a from r);rfl
 |ty n=>cases(show u=we4 n from r);rfl
section
variable{P:wat}{w:World}{H H':Hp}{h h':Heap}{a C dx:Addr}{fs QU:List (Str×V)}
theorem rG(aW:j8 P w H h)(e:H a=some (.ins C dx fs)):∃g,AO h a dx C g/\(∀f,iu (fs.lookup f) (g f))/\wdv g (fs.map (·.1))/\fs.length<=1000/\H dx=some (.own a):=by
 obtain⟨d,z,ne,ob,g,n,r,q⟩:=(show bG P w H h a (.ins C dx fs) from aW a _ e);exact⟨g,⟨ob,n,ne⟩,r,q,z,d⟩
end
structure AA(K:wa1)(C:Addr):Prop where
 pg:wdT K C whv=true
 hd:wea K C=true
 po:wfS K C=true
 sa:wb8 K (.ref C) "__setattr__"=some (some (.builtin "object.__setattr__"))
theorem AA.get{K:wa1}{C:Addr}(c:AA K C)(f:Str):wdT K C f=true:=c.pg
def bU(K:wa1)(C:Addr)(f:Str):Prop:=wb8 K (.ref C) f=some none
theorem bU.NN{K:wa1}{C:Addr}{f:Str}(n:bU K C f):wfu K C f=some none:=by
 unfold wfu;rw[show wb8 K (.ref C) f=some none from n];rfl
structure Fx(K:wa1)(C:Addr)(m:Str)(f:Addr):Prop where
 at_:wb8 K (.ref C) m=some (some (.ref f))
 fn:web K (.ref f)=true
 kp:wcD K (.ref f)=true
section
variable{X:Cx}{pins:List (Addr×Obj)}{σ:St}{H:Hp}{s:Shared}{a C dx:Addr}{fs:List (Str×V)}{f:Str}{v:V}{A:Around}{E:Value->Shared->Prop}
theorem AQ{Q:Value->Shared->Prop}(I:Inv X pins σ H s)(e:H a=some (.ins C dx fs))(c:AA X.K C)(n:bU X.K C f)(l:fs.lookup f=some v)
 (h:∀u s',Inv X pins σ H s'->RelV v u->Q u s'):wpAny (model X.prog X.w) A (getAttr (.ref a) f b) Q E s:=by
 obtain⟨g,O,r,_,_,_⟩:=rG I.aW e;obtain⟨u,i,d⟩:=iu.rF (v:=v) (o:=g f) (by grind);exact get_map I.fv O (c.get f) c.hd n i (vW d) (h u _ (I.tok _) d)
theorem mM{Q:Value×List Value->Shared->Prop}(I:Inv X pins σ H s)(e:H a=some (.ins C dx fs))(c:AA X.K C)(k:Fx X.K C m g)(l:fs.lookup m=none)
 (h:Q (.ref g,[.ref a]) s):wpAny (model X.prog X.w) A (wez (.ref a) m pl) Q E s:=by
 obtain⟨b,O,r,_,_,_⟩:=rG I.aW e;have hn:b m=none:=iu.none_of (by grind);exact Fw I.fv O (c.get m) k.at_ k.fn hn h
theorem AR{Q:Unit->Shared->Prop}(I:Inv X pins σ H s)(e:H a=some (.ins C dx fs))(c:AA X.K C)(n:bU X.K C f)(hl:fs.length < 1000)(l:RelV y u)
 (h:∀s',Inv X pins σ (upd H a (.ins C dx (cx f y fs))) s'->Q () s'):wpAny (model X.prog X.w) A (setAttr (.ref a) f u) Q E s:=by
 obtain⟨i,O,r,j,_,k⟩:=rG I.aW e;have m:(fs.map (·.1)).length<=sizeLine:=by rw[wa0,wc2];omega
 refine IE I.fv O c.sa c.po n.NN c.hd j m λp d sb=>h _ ?_;have hd:∃o,p.get? dx=some o:=let ⟨o,_,_,t,_⟩:=d.ns;⟨o,t⟩
 refine I.write (x:=a) (e:=dx) (by rw[e];exact wbz) (.inr k) (λb q v z=>(sb.2 b v).trans z) hd ?_;refine⟨by rw[aa O.ne];exact k,?_,O.ne,d.obj,_,d.ns,λg=>?_,λg B=>?_⟩
 ·have:=qh f y fs;omega
 ·show iu ((cx f y fs).lookup g) (if g=f then some u else i g);rw[aB]
  by_cases q:g=f
  ·rw[if_pos q,if_pos q];exact l
  ·rw[if_neg q,if_neg q];exact r g
 ·by_cases q:g=f
  ·rw[q];exact(pd f y fs).1
  ·refine(pd f y fs).2 g (j g λz=>B ?_);show (if g=f then some u else i g)=none;rw[if_neg q];exact z
theorem Inv.made(I:Inv X pins σ H s):Inv X pins σ (upd (upd H s.heap.objs.size (.own (s.heap.objs.size + 1))) (s.heap.objs.size + 1) (.ins C s.heap.objs.size []))
 {s with heap:=(s.heap.push wbP).push (wcb C s.heap.objs.size)}:=by
 have c:(s.heap.push wbP).get? s.heap.objs.size=some wbP:=wax s.heap rfl
 have d:((s.heap.push wbP).push (wcb C s.heap.objs.size)).get? (s.heap.objs.size + 1)=some (wcb C s.heap.objs.size):=by
  have:=wax (s.heap.push wbP) (o:=wcb C s.heap.objs.size) rfl;rwa[wbK]at this
 have f:(s.heap.push wbP).Ns s.heap.objs.size (λ_=>none):=⟨wbP,#[],_,c,rfl,(λe g=>absurd g (by simp)),λ_=>rfl⟩;have h:=I.laid (a:=s.heap.objs.size) (o:=.own (s.heap.objs.size + 1)) (h':=s.heap.push wbP) (t':=s.toks) (λb u q=>wa8 _ q) (wab _) ⟨_,c⟩;refine h.laid (a:=s.heap.objs.size + 1) (o:=.ins C s.heap.objs.size []) (t':=s.toks) (λb u q=>wa8 _ q) (wec (wbK _ _)) ?_;have ne:s.heap.objs.size≠s.heap.objs.size + 1:=war (wbS _);refine⟨by rw[aa ne,a6],waM _,ne,d,λ_=>none,(wgN f).at λo q=>wa8 _ q,λ_=>wbz,λy i=>absurd rfl i⟩
theorem CH{Q:Value->Shared->Prop}(j:wci e f env (eval e env)=eval e env)
 (h:wpAny (model prog w) A (eval e env) (λo g=>wpAny (model prog w) A (getAttr o f true) Q E g) E s):wpAny (model prog w) A (eval (.Attribute e f pos) env) Q E s:=
 Attribute_any_ h (by rw[arm_eval_Attribute,j])
end
inductive WN(K:wa1)(f:Str)(x:V)(H:Hp)(Q:VK):Prop
 |mk (a C dx fs v) (_:x=.ref a) (_:H a=some (.ins C dx fs)) (_:AA K C) (_:bU K C f) (_:fs.lookup f=some v) (_:Q v H)
def NP(K:wa1)(ta:TE)(f:Str):TE:=λσ H Q=>ta σ H λx H1=>WN K f x H1 Q
def Rj(K:wa1)(ta tv:TE)(f:Str):TS:=λD σ H=>tv σ H λy H1=>ta σ H1 λx H2=>∃a C dx fs,x=.ref a/\H2 a=some (.ins C dx fs)/\AA K C/\bU K C f/\fs.length < 1000 /\
 D.nx σ (upd H2 a (.ins C dx (cx f y fs)))
section
variable{X:Cx}{o e value:Expr}{f:Str}{pos pos' Rk:Pos}{ta tv:TE}
theorem aO(g:PE X e ta)(j:wci e f X.env (eval e X.env)=eval e X.env):PE X (.Attribute e f pos) (NP X.K ta f):=by
 intro b s σ H Q I h;refine CH j (bP (g b s σ H _ I h) λu r ⟨x,d,i,k,a,C,t,fs,v,ex,m,c,n,l,q⟩=>?_);subst ex;obtain rfl:u=waf a:=k;exact AQ i m c n l λw y o p=>⟨v,d,o,p,q⟩
theorem cS(ha:PE X o ta)(g:PE X value tv)(hs:wbO value (some (.Attribute o f pos')) pos.line X.env=pure false):PS X (.Assign [.Attribute o f pos'] value pos) (Rj X.K ta tv f):=by
 intro b s σ H D I h;refine wcI (bP (g b s σ H _ I h) λu d ⟨y,e,i,j,q⟩=>bP (ha b d σ e _ i q) λk z m=>?_) hs;obtain⟨x,A,p,r,a,C,B,fs,ex,t,c,n,l,v⟩:=m;subst ex;obtain rfl:k=waf a:=r;exact AR p t c n l j λE w=>⟨σ,_,w,v⟩
end
section
variable{X:Cx}{pins:List (Addr×Obj)}{σ:St}{H:Hp}{s:Shared}{A:Around}{E:Value->Shared->Prop}{Q:Value->Shared->Prop}{c:Value}{b:Bool}
set_option genInjectivity true in
inductive d7(K:wa1)(H:Hp):V->Value->Prop where
 |non:d7 K H .non (.type "NoneType")
 |bl (x:Bool):d7 K H (.bl x) (.type "bool")
 |int (i:Int):d7 K H (.int i) (.type "int")
 |str (x:Str):d7 K H (.str x) (.type "str")
 |flt (x:UInt64):d7 K H (.flt x) (.type "float")
 |lst {a:Addr} {xs:List V} (e:H a=some (.lst xs)):d7 K H (.ref a) (.type "list")
 |frz {a:Addr} {o:Obj} {xs:List V} (e:H a=some (.frz o (.lst xs))):d7 K H (.ref a) (.type "list")
 |tup {a:Addr} {xs:List V} (e:H a=some (.tup xs)):d7 K H (.ref a) (.type "tuple")
 |dK {a:Addr} {kvs:List (Key×V)} (e:H a=some (.dK kvs)):d7 K H (.ref a) (.type "dict")
 |dT {a:Addr} {kvs:List (List Key×V)} (e:H a=some (.dT kvs)):d7 K H (.ref a) (.type "dict")
 |ins {a C dx:Addr} {fs:List (Str×V)} (e:H a=some (.ins C dx fs)) (cl:AA K C) (ha:wb8 K (.ref C) "__class__"=some (some (.builtin "object.__class__")))
   (hn:weG K (.builtin "object.__class__") "__get__"=some (some (.builtin "getset_descriptor.__get__"))) (nF:PySem.W.takesIn K (.builtin "object.__class__")=some true)
   (hm:PySem.W.mroIn K C (.type "object")=some true):d7 K H (.ref a) (.ref C)
theorem pe(I:Inv X pins σ H s)(g:RelV x u)(ty:d7 X.K H x t)(e:wcE X.K t c=some b)(h:∀tk,Q (.bool b) {s with toks:=tk}) :
 wpAny (model X.prog X.w) A (call (.builtin "isinstance") [u,c]) Q E s:=by
 cases ty with
 |non=>cases(show u=wby from g);exact wbE PySem.W.kitx_none I.fv wbz e (λz=>nomatch z) h
 |bl y=>cases(show u=wg9 y from g);exact wbE PySem.W.kitx_bool I.fv wbz e (λz=>nomatch z) h
 |int i=>obtain⟨t,q⟩:=(show ∃t,u=wfr i t from g);cases q;exact wbE PySem.W.kitx_int I.fv wbz e (λz=>nomatch z) h
 |str y=>obtain⟨t,q⟩:=(show ∃t,u=wfs y t from g);cases q;exact wbE PySem.W.kitx_str I.fv wbz e (λz=>nomatch z) h
 |flt y=>obtain⟨t,q⟩:=(show ∃t,u=wgY y t from g);cases q;exact wbE PySem.W.kitx_float I.fv wbz e (λz=>nomatch z) h
 |@lst a k d=>
  cases(show u=waf a from g);obtain⟨_,_,n,_,f⟩:=(show bG X.prog X.w H s.heap a (.lst k) from I.aW a _ d);exact wbE wgO I.fv ⟨_,f,rfl⟩ e (λz=>nomatch z) h
 |@frz a ob k d=>
  cases(show u=waf a from g);obtain⟨_,_,_,n,_,f⟩:=(show bG X.prog X.w H s.heap a (.frz ob (.lst k)) from I.aW a _ d);exact wbE wgO I.fv ⟨_,f,rfl⟩ e (λz=>nomatch z) h
 |@tup a k d=>
  cases(show u=waf a from g);obtain⟨_,_,_,p⟩:=(show bG X.prog X.w H s.heap a (.tup k) from I.aW a _ d);obtain⟨o,f,l,_⟩:=p;exact wbE PySem.W.kitx_tuple I.fv ⟨o,f,l⟩ e (λz=>nomatch z) h
 |@dK a j d=>
  cases(show u=waf a from g);obtain⟨_,_,B,_,p⟩:=(show bG X.prog X.w H s.heap a (.dK j) from I.aW a _ d);obtain⟨o,m,r,f,l,_⟩:=p;exact wbE wgP I.fv ⟨o,f,l.1⟩ e (λz=>nomatch z) h
 |@dT a j d=>
  cases(show u=waf a from g);obtain⟨_,_,k,_,o,m,r,f,l,_⟩:=(show bG X.prog X.w H s.heap a (.dT j) from I.aW a _ d);exact wbE wgP I.fv ⟨o,f,l.1⟩ e (λz=>nomatch z) h
 |@ins a C D fs d cl ha hn nF v=>
  cases(show u=waf a from g);obtain⟨F,O,_⟩:=rG I.aW d;obtain⟨G,J,_⟩:=O.look;exact wbE (PySem.W.kitx_own (cl.get _) cl.hd ha hn nF v) I.fv J e (λz=>nomatch z) h
end
structure cT(k:Nat)(A:Around):Prop where
 hd:A.handled=none
 dp:A.depth + 3 * k + 5 < recursionLimit
 un:A.units + 16 * k + 200 < wcH
theorem cT.mono(r:cT k A)(h:j<=k):cT j A:=⟨r.hd,by have:=r.dp;omega,by have:=r.un;omega⟩
theorem cT.deeper(r:cT (k + 1) A)(env:Env):cT k (A.deeper env):=
 ⟨r.hd,by have:=r.dp;show A.depth + 1 + 3 * k + 5 < _;omega,by have:=r.un;show A.units + 3 + 16 * k + 200 < _;omega⟩
theorem cT.in1(r:cT (k + 1) A):cT k A.in1:=
 ⟨r.hd,by have:=r.dp;show A.depth + 3 * k + 5 < _;omega,by have:=r.un;show A.units + 1 + 16 * k + 200 < _;omega⟩
theorem AU{A:Around}{C:Addr}{us:List Value}{g:List (Str×Value)}:(A.under (.builtin "type.__call__" ⟨.ref C :: us,g⟩)).depth=A.depth + 1:=by
 first |rfl |simp[wgD,Code.weight,Code.isCreation,Code.isGuard,Code.isCaller,Code.frames,wgE,guardIds]
theorem AV{A:Around}{C:Addr}{us:List Value}{g:List (Str×Value)}:(A.under (.builtin "type.__call__" ⟨.ref C :: us,g⟩)).units=A.units + 1:=by
 first |rfl |simp[wgD,Code.cUnits,Code.frames,wgE]
theorem cT.make(r:cT (k + 1) A)(C:Addr)(us:List Value)(g:List (Str×Value)):cT k (A.under (.builtin "type.__call__" ⟨.ref C :: us,g⟩)):=
 ⟨r.hd,by have:=r.dp;rw[AU];omega,by have:=r.un;rw[AV];omega⟩
theorem cT.depth(r:cT k A):A.depth < recursionLimit:=by have:=r.dp;omega
theorem cT.units(r:cT k A):A.units + 64 < wcH:=by have:=r.un;omega
theorem cT.xK(r:cT k A):A.units < wcH:=by have:=r.un;omega
def Fy:TA:=λ_ H Q=>Q [] H
def yU(ta:TE)(tr:TA):TA:=λσ H Q=>ta σ H λx H1=>tr σ H1 λxs H2=>Q (x :: xs) H2
section
variable{X:Cx}{e:Expr}{es:List Expr}{te:TE}{t:TA}{pos:Pos}
theorem a8:PA X [] Fy:=λ_ _ _ _ H Q I h=>Calls.spliced_nil ⟨[],H,I,.nil,h⟩
theorem a5(ha:PE X e te)(g:PA X es t)(hs:starEach (e :: es) X.env=(false,eval e X.env) :: starEach es X.env:=by rfl):PA X (e :: es) (yU te t):=by
 intro pos a s σ H Q I h;rw[hs];show wpAny _ _ (spliced ((false,eval e X.env) :: backTo pos (starEach es X.env))) _ _ s;refine Calls.spliced_cons (bP (ha a s σ H _ I h) λu b ⟨x,c,d,f,i⟩=>?_);exact bP (g pos a b σ c _ d i) λo p ⟨j,k,l,m,n⟩=>⟨x :: j,k,l,.cons f m,n⟩
inductive WO(xs:List V)(H:Hp)(Q:VK):Prop
 |mk (_:xs.length<=sizeLine) (_:∀p,H p=none->Q (.ref p) (upd H p (.tup xs)))
def NQ(t:TA):TE:=λσ H Q=>t σ H λxs H1=>WO xs H1 Q
inductive WQ(xs:List V)(H:Hp)(Q:VK):Prop
 |mk (_:xs.length<=sizeLine) (_:∀p,H p=none->Q (.ref p) (upd H p (.lst xs)))
def NR(t:TA):TE:=λσ H Q=>t σ H λxs H1=>WQ xs H1 Q
theorem dP{g}(h:PA X es t):PE X (.Tuple es g pos) (NQ t):=by
 intro a s σ H Q I i;refine wpAny_Tuple_spliced (bP (h pos a s σ H _ I i) λj c ⟨k,d,f,r,z,q⟩=>⟨by rw[<-r.length];exact z,?_⟩);have l:d c.heap.objs.size=none:=f.aW.fresh (wab _);refine⟨.ref c.heap.objs.size,upd d c.heap.objs.size (.tup k),f.laid (t':=c.toks) (λb u e=>wa8 _ e) (wab _) ?_,rfl,q _ l⟩;exact⟨z,j,r,⟨_,wax _ rfl,rfl,_,rfl⟩⟩
theorem b7(h:PA X es t):PE X (.List es pos) (NR t):=by
 intro a s σ H Q I g;refine wpAny_List_spliced (bP (h pos a s σ H _ I g) λi c ⟨j,d,f,r,z,q⟩=>⟨by rw[<-r.length];exact z,?_⟩);have k:d c.heap.objs.size=none:=f.aW.fresh (wab _);refine⟨.ref c.heap.objs.size,upd d c.heap.objs.size (.lst j),f.laid (t':=c.toks) (λb u e=>wa8 _ e) (wab _) ?_,rfl,q _ k⟩;exact⟨z,i,0,r,wax _ rfl⟩
end
noncomputable abbrev Sp:=List V->Hp->VK->XK->Prop
noncomputable abbrev CI:=List Env->Hp->Shared->XK->Value->Shared->Prop
structure va(P:wat)(w:World)(K:wa1)(mg:Str->Option Value)(base:Heap)(A:Around)(outer:List Env)(s:Shared)(H:Hp):Prop where
 frames:A.frames=some outer
 mod:Mod K mg base
 bs:∀b o,base.get? b=some o->s.heap.get? b=some o/\H b=none
 Fb:base.objs.size<=s.heap.objs.size
 mJ:s.heap.FunFrames base outer
 Ih:∀b∈p7 outer,H b=none
 aW:j8 P w H s.heap
 bare:AllBare s.gens
def CE(outer:List Env)(P:wat)(w:World)(H:Hp)(s:Shared)(Q:VK)(u:Value)(s':Shared):Prop:=
 ∃v H',s'.os=s.os/\AllBare s'.gens/\Un (p7 outer) [] H H' s.heap s'.heap/\j8 P w H' s'.heap/\RelV v u/\Q v H'
def CR(CX:CI)(outer:List Env)(P:wat)(w:World)(H:Hp)(s:Shared)(Q:VK)(E:XK)(r:wcR)(s':Shared):Prop:=
 match r with
 |.ok (.ret u)=>CE outer P w H s Q u s'
 |.ok _=>False
 |.error e=>CX outer H s E e s'
structure aN(P:wat)(w:World)(K:wa1)(mg:Str->Option Value)(base:Heap)(CX:CI)(k:Nat)(f:Addr)(fd:wae)(ps:List Str)(sp:Sp):Prop where
 len:∀vs H Q E,sp vs H Q E->vs.length=ps.length
 run:∀(A:Around) (outer:List Env) (s:Shared) (H:Hp) (args:Args) (us:List Value) (vs:List V) (Q:VK) (E:XK),cT k A->va P w K mg base A outer s H->BindsTo s fd args (ps.zip us)->Vals vs us->sp vs H Q E ->
  codeAny (model P w) A (.call (.ref f) args) (CR CX outer P w H s Q E) s
theorem aN.mono{P:wat}{w:World}{K:wa1}{mg:Str->Option Value}{base:Heap}{CX:CI}{j k:Nat}{f:Addr}{fd:wae}{ps:List Str}{sp:Sp}(F:aN P w K mg base CX j f fd ps sp)(h:j<=k) :
 aN P w K mg base CX k f fd ps sp:=⟨F.len,λA outer s H args a b Q E c=>F.run A outer s H args a b Q E (c.mono h)⟩
theorem aN.imp{P:wat}{w:World}{K:wa1}{mg:Str->Option Value}{base:Heap}{CX:CI}{k:Nat}{f:Addr}{fd:wae}{ps:List Str}{sp g:Sp}(F:aN P w K mg base CX k f fd ps sp)
 (h:∀vs H Q E,g vs H Q E->sp vs H Q E):aN P w K mg base CX k f fd ps g:=
 ⟨λvs H Q E q=>F.len vs H Q E (h _ _ _ _ q),λA outer s H args a vs Q E b c d e i=>F.run A outer s H args a vs Q E b c d e (h _ _ _ _ i)⟩
theorem va.make{P:wat}{w:World}{K:wa1}{mg:Str->Option Value}{base:Heap}{A:Around}{outer:List Env}{s:Shared}{H:Hp}(e:va P w K mg base A outer s H)(C:Addr)(us:List Value)(g:List (Str×Value)) :
 va P w K mg base (A.under (.builtin "type.__call__" ⟨.ref C :: us,g⟩)) outer s H:=⟨by first |exact e.frames |(simpa [wgD,Code.envs,wgE,pushEnvs] using e.frames),e.mod,e.bs,e.Fb,e.mJ,e.Ih,e.aW,e.bare⟩
theorem va.in1{P:wat}{w:World}{K:wa1}{mg:Str->Option Value}{base:Heap}{A:Around}{outer:List Env}{s:Shared}{H:Hp}(e:va P w K mg base A outer s H) :
 va P w K mg base A.in1 outer s H:=⟨e.frames,e.mod,e.bs,e.Fb,e.mJ,e.Ih,e.aW,e.bare⟩
section
variable{X:Cx}{pins:List (Addr×Obj)}{σ:St}{H:Hp}{s s':Shared}
theorem Inv.Fz(I:Inv X pins σ H s):va X.prog X.w X.K X.mg X.base X.A X.stack s H:=
 ⟨I.ok.frames,I.ok.mod,I.bs,wal I.ok.Fb I.sz,I.stack,I.nD,I.aW,I.bare⟩
theorem Inv.after(I:Inv X pins σ H s)(h:CE X.stack X.prog X.w H s Q u s'):EP X pins σ Q u s':=by
 obtain⟨v,c,os,bare,un,aW,r,q⟩:=h;obtain⟨e,g,d,t,a⟩:=s';obtain rfl:a=s.os:=os;exact⟨v,c,I.call (h':=e) (g':=g) (d':=d) (t':=t) (ch:=[]) un aW bare (λb z=>absurd z (by simp)),r,q⟩
end
def Km(sp:Sp)(vc:List V)(E:XK)(t:TA):TE:=λσ H Q=>t σ H λvs H1=>sp (vs++vc) H1 Q E
inductive Ur(C:Addr)(m:Str)(x:V)(H:Hp)(k:Prop):Prop
 |mk (a dx fs) (_:x=.ref a) (_:H a=some (.ins C dx fs)) (_:fs.lookup m=none) (_:k)
def Kn(C:Addr)(m:Str)(sp:Sp)(vc:List V)(E:XK)(ta:TE)(t:TA):TE:=λσ H Q=>ta σ H λx H1=>Ur C m x H1 (t σ H1 λvs H2=>sp (x :: (vs++vc)) H2 Q E)
def NS(C:Addr)(sp:Sp)(vc:List V)(E:XK)(t:TA):TE:=λσ H Q=>t σ H λvs H1=>∀x dx,H1 x=none->H1 dx=none->dx≠x ->
 sp (.ref x :: (vs++vc)) (upd (upd H1 dx (.own x)) x (.ins C dx [])) (λv H2=>v=.non/\Q (.ref x) H2) E
def Binds(K:wa1)(fd:wae)(ps:List Str)(ds:List Value):Prop:=
 ∀(s:Shared) (us:List Value),K.In s.heap->(us++ds).length=ps.length->BindsTo s fd ⟨us,[]⟩ (ps.zip (us++ds))
theorem Binds.all{K:wa1}{fd:wae}{ps:List Str}(h:∀us:List Value,us.length=ps.length->bindArgs fd ⟨us,[]⟩=pure (ps.zip us)):Binds K fd ps []:=λs us _ hl=>by
 rw[waX]at hl ⊢;exact .of_eq (h us hl)
def Passes(CX:CI)(X:Cx)(E:XK):Prop:=∀(pins:List (Addr×Obj)) (σ:St) (H:Hp) (s:Shared) (e:Value) (s':Shared),Inv X pins σ H s->CX X.stack H s E e s'->X.xe e s'
section
variable{X:Cx}{CX:CI}{k:Nat}{f C:Addr}{fd:wae}{ps:List Str}{sp:Sp}{vc:List V}{ds:List Value}{E:XK}{x m:Str}{p pos apos:Pos}{e o:Expr}{es:List Expr}{ta:TE}{t:TA}
theorem AW(F:aN X.prog X.w X.K X.mg X.base CX k f fd ps sp)(j:cT k X.A)(l:Binds X.K fd ps ds)(hd:Vals vc ds)(J:Passes CX X E)
 (I:Inv X g σ H s) (r:Vals vs us) (h:sp (vs++vc) H Q E):wpAny (model X.prog X.w) X.A (call (.ref f) us) (EP X g σ Q) X.xe s:=by
 have b:Vals (vs++vc) (us++ds):=r.append hd;have hl:(us++ds).length=ps.length:=by rw[<-b.length];exact F.len _ _ _ _ h
 refine wc4 (wbT (F.run X.A X.stack s H ⟨us,[]⟩ (us++ds) (vs++vc) Q E j I.Fz (l s us I.fv hl) b h) λr c a=>?_)
 cases r with
 |error e=>exact J g σ H s e c I a
 |ok fl=>
  cases fl with
  |ret u=>exact I.after a
  |next=>exact waS a
  |brk=>exact waS a
  |cont=>exact waS a
theorem iA(F:aN X.prog X.w X.K X.mg X.base CX k f fd ps sp)(l:cT k X.A)(J:Gl X x)(T:X.mg x=some (.ref f))(U:wcD X.K (.ref f)=true)(hb:Binds X.K fd ps ds)(hd:Vals vc ds)(hx:Passes CX X E)
 (ha:PA X (e :: es) t) (g:(x == ("__debug__":Str))=false:=by decide) (he:starEach (e :: es) X.env=(false,eval e X.env) :: starEach es X.env:=by rfl) (j:(backTo pos (starEach es X.env)).any (·.1)=false:=by rfl) :
 PE X (.Call (.Name x p) (e :: es) [] pos) (Km sp vc E t):=by
 intro a s σ H Q I h;refine wbu (eM I J T ?_ g);refine wc8 (h₀:=X.base) I.ok.mod.Iw U (bP (ha pos a s σ H _ I h) λc d ⟨i,m,b,r,q⟩=>⟨b.fv,?_⟩) he j;exact AW F l hb hd hx b r q
theorem jh(U:PE X o ta)(c:AA X.K C)(J:Fx X.K C m f)(F:aN X.prog X.w X.K X.mg X.base CX k f fd ps sp)(hr:cT k X.A)(hb:Binds X.K fd ps ds)(hd:Vals vc ds)(hx:Passes CX X E)(ha:PA X (e :: es) t)
 (g:starEach (e :: es) X.env=(false,eval e X.env) :: starEach es X.env:=by rfl) (j:(backTo pos (starEach es X.env)).any (·.1)=false:=by rfl)
 (ht:eval (.Call (.Attribute o m apos) (e :: es) [] pos) X.env=(do
   let T <-eval o X.env
   standAt apos.atName
   let (f,first) <-holding [T] (wez T m pl)
   callWith pos f first (backTo pos (starEach (e :: es) X.env)) (backToKw pos (wdk [] X.env))):=by rfl) :
 PE X (.Call (.Attribute o m apos) (e :: es) [] pos) (Kn C m sp vc E ta t):=by
 intro b s σ H Q I h;refine wd2 (pl:=pl) (bP (U b s σ H _ I h) λu n ⟨x,p,d,v,a,B,fs,ex,y,l,q⟩=>?_) ht;subst ex;obtain rfl:u=waf a:=v;refine mM d y c J l ?_;refine wc8 (first:=[.ref a]) (h₀:=X.base) I.ok.mod.Iw J.kp (bP (ha pos b n σ p _ d q) λus D ⟨vs,G,i,r,z⟩=>⟨i.fv,?_⟩) g j;exact AW (us:=.ref a :: us) (vs:=.ref a :: vs) F hr hb hd hx i (.cons rfl r) z
theorem gb(r:PE X o ta)(c:AA X.K C)(g:Fx X.K C m f)(F:aN X.prog X.w X.K X.mg X.base CX k f fd ps sp)(J:cT k X.A)(T:Binds X.K fd ps ds)(hd:Vals vc ds)(U:Passes CX X E)
 (ht:eval (.Call (.Attribute o m apos) [] [] pos) X.env=(do
   let j <-eval o X.env
   standAt apos.atName
   let (f,first) <-holding [j] (wez j m pl)
   callWith pos f first (backTo pos (starEach [] X.env)) (backToKw pos (wdk [] X.env))):=by rfl) :
 PE X (.Call (.Attribute o m apos) [] [] pos) (Kn C m sp vc E ta Fy):=by
 intro b s σ H Q I h;refine wd2 (pl:=pl) (bP (r b s σ H _ I h) λu n ⟨x,p,d,e,a,t,fs,ex,i,l,q⟩=>?_) ht;subst ex;obtain rfl:u=waf a:=e;refine mM d i c g l ?_;exact PySem.W.callWith_K0 (first:=[.ref a]) d.fv g.kp (AW (us:=[.ref a]) (vs:=[.ref a]) F J T hd U d (.cons rfl .nil) q)
structure Mk(K:wa1)(C f:Addr):Prop where
 makes:whj K C=true
 init:wb8 K (.ref C) "__init__"=some (some (.ref f))
 fn:web K (.ref f)=true
 kp:wcD K (.ref C)=true
theorem FA(M:Mk X.K C f)(F:aN X.prog X.w X.K X.mg X.base CX k f fd ps sp)(l:cT (k + 1) X.A)(J:Binds X.K fd ps ds)(hd:Vals vc ds)
 (T:Passes CX X E) (I:Inv X g σ H s) (r:Vals vs us)
 (h:∀x j,H x=none->H j=none->j≠x->sp (.ref x :: (vs++vc)) (upd (upd H j (.own x)) x (.ins C j [])) (λv U=>v=.non/\Q (.ref x) U) E) :
 wpAny (model X.prog X.w) X.A (call (.ref C) us) (EP X g σ Q) X.xe s:=by
 have c:=h (s.heap.objs.size + 1) s.heap.objs.size (I.aW.fresh (wcp _)) (I.aW.fresh (wab _)) (war (wbS _));have b:=Inv.made (C:=C) I;have d:Vals (V.ref (s.heap.objs.size + 1) :: (vs++vc)) (waf (s.heap.objs.size + 1) :: (us++ds)):=.cons rfl (r.append hd)
 have hl:(waf (s.heap.objs.size + 1) :: us++ds).length=ps.length:=by
  have e:=d.length;rw[F.len _ _ _ _ c]at e;exact e.symm
 refine wc4 (yT (f:=f) I.fv M.makes M.init (beq_iff_eq.mp M.fn) (wbT (F.run _ X.stack _ _ ⟨waf (s.heap.objs.size + 1) :: us,[]⟩ (waf (s.heap.objs.size + 1) :: (us++ds)) _ _ E (l.make C us [])
  (b.Fz.make C us []) (J _ (waf (s.heap.objs.size + 1) :: us) b.fv hl) d c) λr i a=>?_))
 cases r with
 |error e=>exact T g σ _ _ e i b a
 |ok fl=>
  cases fl with
  |ret u=>
   obtain⟨v,m,n,o,p,q⟩:=b.after a;subst p;exact⟨o,⟨V.ref (s.heap.objs.size + 1),m,n,rfl,q⟩⟩
  |next=>exact waS a
  |brk=>exact waS a
  |cont=>exact waS a
theorem nG(M:Mk X.K C f)(F:aN X.prog X.w X.K X.mg X.base CX k f fd ps sp)(l:cT (k + 1) X.A)(J:Gl X x)(T:X.mg x=some (.ref C))(U:Binds X.K fd ps ds)(hd:Vals vc ds)(hx:Passes CX X E)
 (ha:PA X (e :: es) t) (g:(x == ("__debug__":Str))=false:=by decide) (he:starEach (e :: es) X.env=(false,eval e X.env) :: starEach es X.env:=by rfl) (j:(backTo pos (starEach es X.env)).any (·.1)=false:=by rfl) :
 PE X (.Call (.Name x p) (e :: es) [] pos) (NS C sp vc E t):=by
 intro a s σ H Q I h;refine wbu (eM I J T ?_ g);refine wc8 (h₀:=X.base) I.ok.mod.Iw M.kp (bP (ha pos a s σ H _ I h) λc d ⟨i,m,b,r,q⟩=>⟨b.fv,?_⟩) he j;exact FA M F l U hd hx b r q
end
section
variable{X:Cx}{CX:CI}{k:Nat}{f C:Addr}{fd:wae}{ps ks:List Str}{sp:Sp}{E:XK}{x m:Str}{p pos apos WR:Pos}{e o:Expr}{es:List Expr}{ZU:List wf4}{te ta:TE}{t tk:TA}{nm:Option Str}
variable{g:List Value->List Value->List Value}{gV:List V->List V->List V}
end
structure rH(N P:List Str)(sc:wcQ):Prop where
 kind:sc.kind=.function
 co:sc.isCoroutine=false
 gen:sc.isGenerator=false
 nd:N.Nodup
 pre:N.take P.length=P
 par:∀x∈P,sc.names.lookup x=some .local\/sc.names.lookup x=some .cell
 Lh:∀y∈sc.names,y.2≠.free
theorem vX{kindOf:Str->Option wdU}:∀{binds:List (Str×Value)} {m:Str->Option Value},(∀v,(x,v)∉binds)->bindL kindOf binds m x=m x
 |[],_,_=>rfl
 |(n,v) :: r,m,h=>by
  unfold bindL;rw[vX λw hw=>h w (wac _ hw)];split
  ·grind
  ·rfl
theorem vY{kindOf:Str->Option wdU}:∀{binds:List (Str×Value)} {m:Str->Option Value},(∀v,(x,v)∉binds)->bindC kindOf binds m x=m x
 |[],_,_=>rfl
 |(n,v) :: r,m,h=>by
  unfold bindC;rw[vY λw hw=>h w (wac _ hw)];split
  ·rfl
  ·grind
theorem vZ{kindOf:Str->Option wdU}:∀{P:List Str} {vs:List Value} {i:Nat} {m:Str->Option Value},P.Nodup->P[i]?=some x->vs[i]?=some v->kindOf x=some .local ->
 bindL kindOf (P.zip vs) m x=some v
 |[],_,_,_,_,h,_,_=>by simp at h
 |_ :: _,[],_,_,_,_,h,_=>by simp at h
 |p :: P,w :: vs,0,m,nd,a,b,c=>by
  simp at a b;subst a;subst b;show bindL kindOf ((p,w) :: P.zip vs) m p=_;unfold bindL;rw[vX λv d=>(wb0.mp nd).1 (wfw d).1,if_pos c];simp
 |p :: P,w :: vs,i + 1,m,nd,a,b,c=>by
  show bindL kindOf ((p,w) :: P.zip vs) m x=_;unfold bindL;exact vZ (i:=i) (wb0.mp nd).2 (by simpa using a) (by simpa using b) c
theorem w5{kindOf:Str->Option wdU}:∀{P:List Str} {vs:List Value} {i:Nat} {m:Str->Option Value},P.Nodup->P[i]?=some x->vs[i]?=some v->kindOf x≠some .local ->
 bindC kindOf (P.zip vs) m x=some v
 |[],_,_,_,_,h,_,_=>by simp at h
 |_ :: _,[],_,_,_,_,h,_=>by simp at h
 |p :: P,w :: vs,0,m,nd,a,b,c=>by
  simp at a b;subst a;subst b;show bindC kindOf ((p,w) :: P.zip vs) m p=_;unfold bindC;rw[vY λv d=>(wb0.mp nd).1 (wfw d).1,if_neg c];simp
 |p :: P,w :: vs,i + 1,m,nd,a,b,c=>by
  show bindC kindOf ((p,w) :: P.zip vs) m x=_;unfold bindC;exact w5 (i:=i) (wb0.mp nd).2 (by grind) (by grind) c
noncomputable def start(N:List Str)(vs:List V):St:=vs.map some++wam (N.length - vs.length) none
noncomputable def vd(CX:CI)(P:wat)(w:World)(K:wa1)(mg:Str->Option Value)(base:Heap)(N:List Str)(qual:Str)(scope:wcQ)(f:Addr)(cd:Value)(A:Around)(outer:List Env)(s:Shared)(H:Hp)(E:XK):Cx where
 prog:=P
 w:=w
 K:=K
 mg:=mg
 base:=base
 A:=A.deeper (envOfC qual scope s.heap.objs.size f cd)
 N:=N
 s₀:=s
 H₀:=H
 env:=envOfC qual scope s.heap.objs.size f cd
 outer:=outer
 stack:=envOfC qual scope s.heap.objs.size f cd :: outer
 ex:=[]
 calm:=true
 fn:=λ_=>true
 pn:=[]
 xe:=λe s'=>wpAny (model P w) (A.deeper (envOfC qual scope s.heap.objs.size f cd)) («leaving» (envOfC qual scope s.heap.objs.size f cd) e) (λ_ Rl=>CX outer H s E e Rl) (λe' Rl=>CX outer H s E e' Rl) s'
theorem yV{g:wcQ}{n:Nat}{x:Str}(h:g.names.lookup x=some .cell):∃c,(cellsFrom n g.names []).lookup x=some c:=by
 have q:=wfF g.names n [] (.inl h);exact wf7.mp q
theorem DL{CX:CI}{P:wat}{w:World}{K:wa1}{mg:Str->Option Value}{base:Heap}{N ps:List Str}{g:Str}{scope:wcQ}{f:Addr}{cd:Value}{A:Around}{outer:List Env}{s s1:Shared}{H:Hp}{E:XK}{us:List Value}{vs:List V}
 (S:rH N ps scope) (hd:A.handled=none) (j:va P w K mg base A outer s H) (hl:vs.length=ps.length) (r:Vals vs us)
 (x:InCallC s s.heap.objs.size (bindL (envOfC g scope s.heap.objs.size f cd).kindOf (ps.zip us) λ_=>none) (cellsFrom (s.heap.objs.size + 1) scope.names []) (bindC (envOfC g scope s.heap.objs.size f cd).kindOf (ps.zip us) λ_=>none) s1) :
 Inv (vd CX P w K mg base N g scope f cd A outer s H E) [] (start N vs) H s1:=by
 have F:ps.length<=N.length:=by have:=congrArg wdl S.pre;rw[wau]at this;omega
 obtain⟨B,I,rfl,C⟩:=x.done;have l:∀b:Addr,b∉(vd CX P w K mg base N g scope f cd A outer s H E).ex:=λb z=>absurd (show b∈([]:List Addr) from z) (by simp)
 refine⟨⟨j.mod,S.kind,rfl,rfl,wab _,λy z c B d=>?_,λy m=>?_,λy c _ h=>?_,λ_=>hd,Around.frames_deeper j.frames,.inr ⟨rfl,rfl⟩,λb z=>absurd z (l b),j.bs,j.Fb,λb _ _=>l b,λb z=>absurd z (l b),j.mJ,j.Ih⟩,
  rfl,j.bare,Un.kept C,⟨_,x.toInCall.ns,λi y v B d J=>?_⟩,λy c h=>⟨_,x.cell y c h⟩,j.aW.fresh (wab _),λy c h=>?_,λp o=>absurd (show p∈([]:List (Addr×Obj)) from o) (by simp),j.aW.kept C,?_⟩
 ·exact name_of_addr x.apart (wcl B) (wcl d)
 ·have m:scope.names.lookup y=some .cell\/scope.names.lookup y=some .free:=m;rcases m with m |m
  ·exact yV m
  ·exact absurd rfl (S.Lh _ (wcl m))
 ·exact we5 (x.above y c (wcl h))
 ·have hi:i < vs.length:=by
   unfold start at d
   by_cases hi:i < vs.length
   ·exact hi
   ·rw[waF (by simpa using hi)]at d;rw[List.getElem?_replicate]at d;split at d <;> cases d
  have ha:vs[i]?=some v:=by
   unfold start at d;rw[waE (by simpa using hi),wa4]at d
   cases e:vs[i]? with
   |none=>rw[e]at d;cases d
   |some a=>rw[e]at d;cases d;rfl
  obtain⟨u,D,G⟩:=r.get ha
  have o:ps[i]?=some y:=by
   rw[<-S.pre,wdw (by omega)];exact B
  have t:ps.Nodup:=by rw[<-S.pre];exact S.nd.sublist (wbA _ _)
  refine⟨u,G,?_⟩;rcases S.par y (wak o) with k |k
  ·exact .inl ⟨k,vZ t o D k⟩
  ·obtain⟨c,e⟩:=yV (n:=s.heap.objs.size + 1) k;refine .inr ⟨.inl k,c,e,?_⟩;have q:=x.cell y c e;rw[w5 t o D (by show scope.names.lookup y≠_;rw[k];decide)]at q;exact q
 ·exact j.aW.fresh (we5 (x.above y c (wcl h)))
 ·unfold start;show _=N.length;rw[wa7,wa0,wbB];omega
theorem Ko{CX:CI}{P:wat}{w:World}{K:wa1}{mg:Str->Option Value}{base:Heap}{k:Nat}{f:Addr}{name g:Str}{l:Arguments}{body:List Stmt}{scope:wcQ}{dV kV T pm j ct oc:Value}{an od:Option Addr}
 {U:Array (Option Value)} {N ps:List Str} {sp:Sp} (lk:K.lookup f=some ⟨oc,od,.func (wcd name g l body scope dV kV T pm an j ct),U⟩) (Rm:wdH K j g=true) (S:rH N ps scope)
 (len:∀vs H Q E,sp vs H Q E->vs.length=ps.length)
 (C:∀(A:Around) (outer:List Env) (s:Shared) (H:Hp) (vs:List V) (Q:VK) (E:XK),cT k (A.deeper (envOfC g scope s.heap.objs.size f j))->sp vs H Q E ->
   ∃t,uY (vd CX P w K mg base N g scope f j A outer s H E) body t/\t {nx:=λ_ p=>Q .non p,rt:=Q} (start N vs) H) :
 aN P w K mg base CX (k + 1) f (wcd name g l body scope dV kV T pm an j ct) ps sp:=by
 refine⟨len,λA outer s H args L vs Q E m h M r i=>?_⟩;have hl:=len _ _ _ _ i;have F:K.In s.heap:=h.mod.Iw.keeps λb o e=>(h.bs b o e).1;have z:s.heap.NoLimit:=h.mod.nolimit.keeps λb o e=>(h.bs b o e).1
 have c:∀y∈ps.zip L,scope.names.lookup y.1=some .local\/(scope.names.lookup y.1=some .cell/\((cellsFrom (s.heap.objs.size + 1) scope.names []).lookup y.1).isSome=true):=λ⟨n,v⟩ O=>by
  rcases S.par n (wfw O).1 with q |q
  ·exact .inl q
  ·exact .inr ⟨q,wfF _ _ _ (.inl q)⟩
 refine codeAny_call_function m.depth (F _ _ lk) rfl S.co S.gen rfl (PySem.W.codeRec_of F Rm) (M _ _ _ _ ?_);refine wpAny_newFunctionEnv_cells S.kind c λenv R G x=>?_;subst R;refine⟨z.keeps x.toInCall.keep,codeAny_func ?_⟩;obtain⟨t,X,Y⟩:=C A outer s H vs Q E (m.deeper _) i;have I:Inv (vd CX P w K mg base N g scope f j A outer s H E) [] (start N vs) H G:=DL S m.hd h hl r x;refine waV (X [] G (start N vs) H _ I Y) (λfl B d=>?_) λe B d=>d
 have fin:∀{a:St} {p:Hp} {v:V} {u:Value},Inv (vd CX P w K mg base N g scope f j A outer s H E) [] a p B->RelV v u->Q v p->CE outer P w H s Q u B:=
  λ{a p v u} J D q=>⟨v,p,J.os,J.bare,J.base,J.aW,D,q⟩
 cases fl with
 |ret u=>
  obtain⟨v,a,p,J,D,q⟩:=d;exact fin J D q
 |next=>
  obtain⟨a,p,J,q⟩:=d;exact fin (v:=V.non) (u:=wby) J rfl q
 |brk=>
  obtain⟨_,_,_,q⟩:=d;exact waS q
 |cont=>
  obtain⟨_,_,_,q⟩:=d;exact waS q
section
variable{X:Cx}{x:Str}{p pos:Pos}{e:Expr}{es:List Expr}{t:TA}{id T:String}{r:List V->Hp->VK->Prop}
def Us(r:List V->Hp->VK->Prop)(t:TA):TE:=λσ H Q=>t σ H λvs H1=>r vs H1 Q
theorem aq(hc:d5 X (.builtin id) r)(l:Gl X x)(o:X.mg x=none)(C:waR x=some (.builtin id))(ha:PA X (e :: es) t)(hn:x≠"__name__":=by decide)(g:(x == ("__debug__":Str))=false:=by decide)
 (J:starEach (e :: es) X.env=(false,eval e X.env) :: starEach es X.env:=by rfl) (j:(backTo pos (starEach es X.env)).any (·.1)=false:=by rfl):PE X (.Call (.Name x p) (e :: es) [] pos) (Us r t):=by
 intro a s σ H Q I h;refine wbu (iJ I l o C ?_ hn g);exact wed (bP (ha pos a s σ H _ I h) λb c ⟨d,f,i,k,m⟩=>hc a c σ f d b Q i k m) J j
theorem bo(hc:d5 X (.type T) r)(l:Gl X x)(o:X.mg x=none)(C:waR x=some (.type T))(ha:PA X (e :: es) t)(hn:x≠"__name__":=by decide)(g:(x == ("__debug__":Str))=false:=by decide)
 (J:starEach (e :: es) X.env=(false,eval e X.env) :: starEach es X.env:=by rfl) (j:(backTo pos (starEach es X.env)).any (·.1)=false:=by rfl):PE X (.Call (.Name x p) (e :: es) [] pos) (Us r t):=by
 intro a s σ H Q I h;refine wbu (iJ I l o C ?_ hn g);exact wcr (bP (ha pos a s σ H _ I h) λb c ⟨d,f,i,k,m⟩=>hc a c σ f d b Q i k m) J j
end
end L2
namespace HT
open PySem PyProof.Rows
section
open PySem.SeqAt
open PySem.AutoSeq1 (wpAny_loadPart')
open PySem.MeetsSeq PySem.MeetsSeq2 PySem.MeetsSeq3
end
section
variable{prog:wat}{w:World}{A:Around}{E:Value->Shared->Prop}{s:Shared}
noncomputable def yL(n d:Nat):Option Int->Nat
 |none=>d
 |some v=>if v < 0 then(v + (n:Int)).toNat else min v.toNat n
theorem IG(n d k:Nat):yL n d (some (k:Int))=min k n:=by
 show (if (k:Int) < 0 then((k:Int) + (n:Int)).toNat else min (k:Int).toNat n)=min k n;rw[if_neg (by omega),waG]
end
end HT
namespace L2
open PySem PySem.Spec PyProof.Rows
noncomputable abbrev TO:=St->Hp->(Option Int->Hp->Prop)->Prop
def PO(X:Cx)(e:Option Expr)(t:TO):Prop:=
 ∀(pins:List (Addr×Obj)) (s:Shared) (σ:St) (H:Hp) (Q:Option Int->Hp->Prop),Inv X pins σ H s->t σ H Q ->
  wpAny (model X.prog X.w) X.A (evalPart e X.env) (λu s'=>∃o H',Inv X pins σ H' s'/\IsPart u o/\Q o H') X.xe s
noncomputable def IH:TO:=λ_ H Q=>Q none H
inductive WT(x:V)(H:Hp)(Q:Option Int->Hp->Prop):Prop
 |mk (i) (_:x=.int i) (_:Q (some i) H)
noncomputable def NU(t:TE):TO:=λσ H Q=>t σ H λx H1=>WT x H1 Q
section
variable{X:Cx}{e:Expr}{te:TE}{lo hi:Option Expr}{tl th:TO}{pos p2:Pos}
theorem gJ:PO X none IH:=by
 intro a s σ H Q I h;rw[evalPart_none];exact wap ⟨none,H,I,.none,h⟩
theorem cy(h:PE X e te):PO X (some e) (NU te):=by
 intro a s σ H Q I hw;rw[evalPart_some];refine bP (h a s σ H _ I hw) λu g ⟨x,b,c,d,f⟩=>?_;obtain⟨i,rfl,q⟩:=f;obtain⟨t,rfl⟩:=d;exact⟨some i,b,c,.int i t,q⟩
def Rn(X:Cx)(r:V->Option Int->Option Int->Hp->VK->Prop):Prop:=
 ∀(pins:List (Addr×Obj)) (s:Shared) (σ:St) (H:Hp) (x:V) (v vl vu:Value) (lo hi:Option Int) (sl:Addr) (Q:VK),Inv X pins σ H s->RelV x v->s.heap.IsSliceOf sl vl vu .none->IsPart vl lo->IsPart vu hi->r x lo hi H Q ->
  ∃T id,weY (.type T) "__getitem__"=pure (some (.builtin id))/\s.TypeIs v T/\wpAny (model X.prog X.w) X.A (getItem v (.ref sl)) (EP X pins σ Q) X.xe s
def WU(r:V->Option Int->Option Int->Hp->VK->Prop)(te:TE)(tl th:TO):TE:=λσ H Q=>te σ H λx H1=>tl σ H1 λl H2=>th σ H2 λu H3=>r x l u H3 Q
theorem cG{r:V->Option Int->Option Int->Hp->VK->Prop}(j:Rn X r)(o:PE X e te)(hl:PO X lo tl)(p:PO X hi th):PE X (.Subscript e (.Slice lo hi none p2) pos) (WU r te tl th):=by
 intro a s σ H Q I h;refine Subscript_ (bP (o a s σ H _ I h) λv i ⟨x,k,m,n,t⟩=>?_);refine wpAny_Slice (bP (hl a i σ k _ m t) λd y ⟨l,z,B,pl,C⟩=>bP (p a y σ z _ B C) λf c ⟨u,g,D,E,F⟩=>?_);rw[evalPart_none];refine wap ?_;have G:Inv X a σ g {c with heap:=c.heap.push {cls:=.type "slice",data:=.fields #[d,f,.none]}}:=D.kept (t':=c.toks) λb ob q=>wa8 _ q;obtain⟨T,id,J,K,L⟩:=j a {c with heap:=c.heap.push {cls:=.type "slice",data:=.fields #[d,f,.none]}} σ g x v d f l u c.heap.objs.size Q G n (Heap.IsSliceOf.new ..) pl E F;show wpAny (model X.prog X.w) X.A (wgm e (.Slice lo hi none p2) v (.ref c.heap.objs.size)) (EP X a σ Q) X.xe {c with heap:=c.heap.push {cls:=.type "slice",data:=.fields #[d,f,.none]}};exact tail_any (ops:=[.ref c.heap.objs.size,v]) K J L (by with_unfolding_all rfl)
noncomputable def ji(xs:List V)(lo hi:Option Int):List V:=(xs.drop (HT.yL xs.length 0 lo)).take (HT.yL xs.length xs.length hi - HT.yL xs.length 0 lo)
theorem yW(xs:List V)(lo hi:Option Int):(ji xs lo hi).length<=xs.length:=by
 unfold ji;rw[wau,wbw];omega
end
noncomputable def DM(n:Nat)(i:Int):Option Nat:=if 0<=i then(if i < n then some i.toNat else none) else if -(n:Int)<=i then some (i + n).toNat else none
noncomputable def w6{α:Type}(xs:List α)(i:Int):Option α:=(DM xs.length i).bind λj=>xs[j]?
theorem CJ(h:DM n i=some j):seqIndex? i n=some j/\j < n/\-(n:Int)<=i/\i < n:=by
 unfold DM at h
 by_cases b:0<=i
 ·rw[if_pos b]at h
  by_cases a:i < n
  ·rw[if_pos a]at h;have e:i.toNat=j:=wah h;exact⟨by rw[wh0 b a,e],by omega,by omega,a⟩
  ·rw[if_neg a]at h;cases h
 ·rw[if_neg b]at h
  by_cases a:-(n:Int)<=i
  ·rw[if_pos a]at h;have e:(i + n).toNat=j:=wah h;exact⟨by rw[seqIndex_neg (by omega) a,e],by omega,a,by omega⟩
  ·rw[if_neg a]at h;cases h
theorem xM{α:Type}{xs:List α}{i:Int}{v:α}(h:w6 xs i=some v):∃j,seqIndex? i xs.length=some j/\xs[j]?=some v/\j < xs.length/\-(xs.length:Int)<=i/\i < xs.length:=by
 unfold w6 at h
 cases e:DM xs.length i with
 |none=>rw[e]at h;cases h
 |some j=>
  rw[e]at h;obtain⟨a,b,c,d⟩:=CJ e;exact⟨j,a,h,b,c,d⟩
theorem bQ{α:Type}{xs:List α}{j:Nat}{v:α}(h:xs[j]?=some v):w6 xs (j:Int)=some v:=by
 have a:j < xs.length:=(wa6.mp h).1
 have e:DM xs.length (j:Int)=some j:=by
  unfold DM;rw[if_pos (by omega),if_pos (by omega)];simp
 unfold w6;rw[e];exact h
theorem FC{α:Type}(xs:List α)(v:α):w6 (xs++[v]) (-1)=some v:=by
 have hl:(xs++[v]).length=xs.length + 1:=by simp
 have e:DM (xs++[v]).length (-1)=some xs.length:=by
  unfold DM;rw[hl,if_neg (by decide),if_pos (by omega)];congr 1;omega
 unfold w6;rw[e];show (xs++[v])[xs.length]?=some v;simp
def II(b:Expr):Prop:=∀o i,wfG b false o i=operate [o,i] (getItem o i)
def MY(X:Cx)(r:R2):Prop:=
 ∀(value slice:Expr) (pins:List (Addr×Obj)) (s:Shared) (σ:St) (H:Hp) (x y:V) (v u:Value) (Q:VK),Inv X pins σ H s->RelV x v->RelV y u->r x y H Q ->
  wfG slice false v u=operate [v,u] (getItem v u)->wpAny (model X.prog X.w) X.A (wgm value slice v u) (EP X pins σ Q) X.xe s
def Kp(X:Cx)(id:String)(r:V->List V->Hp->VK->Prop):Prop:=
 ∀(pins:List (Addr×Obj)) (s:Shared) (σ:St) (H:Hp) (x:V) (xs:List V) (v:Value) (us:List Value) (Q:VK),Inv X pins σ H s->RelV x v->Vals xs us->r x xs H Q ->
  wpAny (model X.prog X.w) X.A (call (.builtin id) (v :: us)) (EP X pins σ Q) X.xe s
section
variable{X:Cx}{a b:Expr}{ta tb:TE}{pos:Pos}
theorem b8(g:MY X r)(ha:PE X a ta)(j:PE X b tb)(hs:II b):PE X (.Subscript a b pos) (Qf r ta tb):=by
 intro c s σ H Q I h;exact Subscript_ (Lf ha j I h λv u d x y e f i k q=>g a b c d σ e x y v u Q f i k q (hs _ _))
inductive NV(K:wa1)(x y:V)(H:Hp)(Q:VK):Prop
 |mk (p xs i v) (_:x=.ref p) (_:y=.int i) (_:aH K H p xs) (_:w6 xs i=some v) (_:Q v H)
inductive NW(K:wa1)(x y:V)(H:Hp)(Q:VK):Prop
 |mk (p xs i v) (_:x=.ref p) (_:y=.int i) (_:ir K H p xs) (_:w6 xs i=some v) (_:Q v H)
inductive Ro(x y:V)(H:Hp)(Q:VK):Prop
 |mk (z i c) (_:x=.str z) (_:y=.int i) (_:z.length<=sizeLine) (_:w6 z.cps.toList i=some c) (_:Q (.str ⟨#[c]⟩) H)
theorem bx:MY X (NV X.K):=by
 intro value slice a s σ H x y v u Q I l m h f;obtain⟨p,E,i,z,rfl,rfl,n,o,q⟩:=h;cases l;obtain⟨t,rfl⟩:=m;obtain⟨c,r,pl,F⟩:=I.list n;obtain⟨j,b,A,G,B,C⟩:=xM o;obtain⟨w,g,d⟩:=r.get A;have hl:=r.length;have hn:=mK;have fin:EP X a σ Q w s:=⟨z,H,I,d,q⟩
 by_cases k:0<=i
 ·have e:i.toNat=j:=by
   rw[wh0 k C]at b;exact wah b
  exact item_listR pl.isList k (by omega) (by rw[e];simpa using g) fin f
 ·have e:(i + (c.toArray.size:Int)).toNat=j:=by
   rw[seqIndex_neg (by omega) B]at b;rw[waD,<-hl];exact wah b
  exact wfH (x:=w) pl.isList.typeIs slot_list_getitem.lookup
   (wpAny_getItem_list_neg (Q:=λr D=>r=w/\EP X a σ Q r D) pl.isList (by omega) (by rw[waD] <;> omega) (by omega) (by rw[e];simpa using g) ⟨rfl,fin⟩) f
theorem gp:MY X (NW X.K):=by
 intro value slice a s σ H x y v u Q I c d h e;obtain⟨p,A,i,z,rfl,rfl,f,g,q⟩:=h;cases c;obtain⟨t,rfl⟩:=d;obtain⟨k,r,pl,B⟩:=I.tuple f;obtain⟨j,l,m,C,D,E⟩:=xM g;obtain⟨w,n,b⟩:=r.get m;have hl:=r.length;have hn:=mK;have fin:EP X a σ Q w s:=⟨z,H,I,b,q⟩
 exact wfH (x:=w) pl.typeIs slot_tuple_getitem.lookup
  (getItem_tuple (j:=j) (Q:=λr o=>r=w/\EP X a σ Q r o) pl (by omega) (by omega) (by rw[waD,<-hl];exact l) (by simpa using n) ⟨rfl,fin⟩) e
theorem FD:MY X Ro:=by
 intro value slice a s σ H x y v u Q I b d h e;obtain⟨z,i,c,rfl,rfl,m,f,q⟩:=h;obtain⟨t,rfl⟩:=b;obtain⟨n,rfl⟩:=d;obtain⟨j,g,o,p,k,l⟩:=xM f;have hl:z.cps.toList.length=z.length:=by simp[wda]
 rw[hl]at g k l;have hn:=mK
 exact tail_any (typeIs_str s z t) slot_str_getitem.lookup (getItem_str (c:=c) (by
  grind) (by grind) ⟨.str ⟨#[c]⟩,H,I.tok _,⟨_,rfl⟩,q⟩) e
theorem AX(g:List Value)(n j:Nat)(u:Value):wcB (·.setIfInBounds j u) {cls:=.type "list",data:=.seq g.toArray n}={cls:=.type "list",data:=.seq (g.set j u).toArray n}:=by
 simp[wcB]
theorem Inv.lst(I:Inv X j σ H s)(h:H p=some (.lst xs)) :
 ∃(g:List Value) (n:Nat),Vals xs g/\s.heap.get? p=some {cls:=.type "list",data:=.seq g.toArray n}/\xs.length<=sizeLine:=by
 obtain⟨z,g,n,r,e⟩:=I.aW p _ h;exact⟨g,n,r,e,z⟩
theorem Inv.Li{g:List (Addr×Obj)}{σ:St}{H:Hp}{s:Shared}{p:Addr}{xs ys:List V}{j its':List Value}{n l:Nat}{f:Obj->Obj}(I:Inv X g σ H s)(h:H p=some (.lst xs))
 (C:s.heap.get? p=some {cls:=.type "list",data:=.seq j.toArray n}) (o:f {cls:=.type "list",data:=.seq j.toArray n}={cls:=.type "list",data:=.seq its'.toArray l}) (r:Vals ys its') (J:ys.length<=sizeLine) (t:Nat) :
 Inv X g σ (upd H p (.lst ys)) {s with heap:=s.heap.update p f,toks:=t}:=by
 have e:(s.heap.update p f).get? p=some {cls:=.type "list",data:=.seq its'.toArray l}:=by
  rw[wbC f C (by rw[o] <;> rfl),o]
 refine I.write (x:=p) (e:=p) (by rw[h];trivial) (.inl rfl) (λb u a q=>(waN _ _ (wbc a)).trans q) ⟨_,e⟩ ?_;exact⟨J,its',l,r,e⟩
inductive NX(o i v:V)(H:Hp)(Q:Hp->Prop):Prop
 |mk (p xs k j) (_:o=.ref p) (_:i=.int k) (_:H p=some (.lst xs)) (_:DM xs.length k=some j) (_:Q (upd H p (.lst (xs.set j v))))
theorem set_list:Nv X NX:=by
 intro a s σ H o i v D E u Q I x y z h;obtain⟨p,A,k,j,rfl,rfl,f,B,q⟩:=h;cases x;obtain⟨t,rfl⟩:=y;obtain⟨b,n,r,d,C⟩:=I.lst f;obtain⟨c,F,g,l⟩:=CJ B;have hl:=r.length;have hn:=mK
 have m:Inv X a σ (upd H p (.lst (A.set j v))) {s with heap:=s.heap.update p (wcB (·.setIfInBounds j u))}:=
  I.Li f d (AX b n j u) (r.set z j) (by rw[wcv];exact C) s.toks
 by_cases w:0<=k
 ·have e:k.toNat=j:=by
   rw[wh0 w l]at c;exact wah c
  exact PySem.W.ki_setAt d w (by omega) (by rw[waD,<-hl];exact l) (by rw[e];exact⟨_,m,q⟩)
 ·have e:(k + (b.toArray.size:Int)).toNat=j:=by
   rw[seqIndex_neg (by omega) g]at c;rw[waD,<-hl];exact wah c
  exact PySem.W.ki_setBack d (by omega) (by rw[waD,<-hl];exact g) (by omega) (by rw[e];exact⟨_,m,q⟩)
theorem xN(lo hi:Option Int)(n:Nat):(wh1 lo hi none n).1=((HT.yL n 0 lo:Nat):Int)/\(wh1 lo hi none n).2.1=((HT.yL n n hi:Nat):Int)/\(wh1 lo hi none n).2.2=1:=by
 have key:∀(i:Int) (d:Nat),max 0 (min (if i < 0 then i + (n:Int) else i) (n:Int))=((HT.yL n d (some i):Nat):Int):=by
  intro i d
  by_cases h:i < 0 <;> simp only[HT.yL,h,if_true,if_false] <;> omega
 exact⟨by cases lo with |none=>rfl |some i=>exact key i 0,by cases hi with |none=>rfl |some i=>exact key i n,rfl⟩
theorem ve(g:List Value)(lo hi:Option Int):slicePick g.toArray lo hi none=((g.drop (HT.yL g.length 0 lo)).take (HT.yL g.length g.length hi - HT.yL g.length 0 lo)).toArray:=by
 obtain⟨a,b,c⟩:=xN lo hi g.toArray.size;unfold slicePick;rw[a,b,c];simp only[sliceRange_one,pick_run,waD] <;> rfl
inductive Rp(K:wa1)(x:V)(lo hi:Option Int)(H:Hp)(Q:VK):Prop
 |mk (a xs) (_:x=.ref a) (_:aH K H a xs) (_:∀p,H p=none->Q (.ref p) (upd H p (.lst (ji xs lo hi))))
theorem fS:Rn X (Rp X.K):=by
 intro e s σ H x v n p lo hi sl Q I g i pl j h;obtain⟨a,c,rfl,k,q⟩:=h;cases g;obtain⟨l,r,f,m⟩:=I.list k;have d:=r.length;refine⟨"list",_,slot_list_getitem.lookup,f.isList.typeIs,?_⟩;refine wpAny_getItem_list_slice f.isList i pl j .none (by simp) ?_ (by grind);rw[ve,<-d];refine⟨.ref s.heap.objs.size,_,I.laid (t':=s.toks) (o:=.lst (ji c lo hi)) (λb ob q=>wa8 _ q) (wab _) ?_,rfl,q _ (I.aW.fresh (wab _))⟩;exact⟨wal (yW c lo hi) m,_,0,(r.drop (HT.yL c.length 0 lo)).take (HT.yL c.length c.length hi - HT.yL c.length 0 lo),wax _ rfl⟩
noncomputable def cN:V->Bool
 |.non=>true
 |.bl _=>true
 |.int _=>true
 |.str _=>true
 |_=>false
noncomputable def pf:V->V->Bool
 |.non,.non=>true
 |.bl a,.bl b=>a == b
 |.bl a,.int b=>(if a then 1 else 0) == b
 |.int a,.bl b=>a == (if b then 1 else 0)
 |.int a,.int b=>a == b
 |.str a,.str b=>a == b
 |_,_=>false
theorem xO(j:RelV y u)(g:RelV x v)(o:cN y=true)(l:cN x=true):SeqAt.EqAt A s u v (pf y x):=by
 cases y with
 |non=>
  cases j
  cases x with
  |non=>cases g;exact SeqAt.EqAt.same _
  |bl b=>cases g;exact SeqAt.EqAt.none_bool b
  |int b=>obtain⟨t,rfl⟩:=g;exact SeqAt.EqAt.none_int b t
  |str b=>obtain⟨t,rfl⟩:=g;exact SeqAt.EqAt.none_str b t
  |_=>exact absurd (show false=true from l) waq
 |bl a=>
  cases j
  cases x with
  |non=>cases g;exact SeqAt.EqAt.bool_none a
  |bl b=>cases g;exact SeqAt.EqAt.bool_bool a b
  |int b=>obtain⟨t,rfl⟩:=g;exact SeqAt.EqAt.bool_int a b t
  |str b=>obtain⟨t,rfl⟩:=g;exact SeqAt.EqAt.bool_str a b t
  |_=>exact absurd (show false=true from l) waq
 |int a=>
  obtain⟨c,rfl⟩:=j
  cases x with
  |non=>cases g;exact SeqAt.EqAt.int_none a c
  |bl b=>cases g;exact SeqAt.EqAt.int_bool a c b
  |int b=>obtain⟨t,rfl⟩:=g;exact wfV a c b t
  |str b=>obtain⟨t,rfl⟩:=g;exact wgz a c b t
  |_=>exact absurd (show false=true from l) waq
 |str a=>
  obtain⟨c,rfl⟩:=j
  cases x with
  |non=>cases g;exact SeqAt.EqAt.str_none a c
  |bl b=>cases g;exact SeqAt.EqAt.str_bool a c b
  |int b=>obtain⟨t,rfl⟩:=g;exact wgA a c b t
  |str b=>obtain⟨t,rfl⟩:=g;exact wfW a c b t
  |_=>exact absurd (show false=true from l) waq
 |_=>exact absurd (show false=true from o) waq
noncomputable def AY(x:V)(u:Value):Bool:=match u with
 |.none=>pf .non x
 |.bool b=>pf (.bl b) x
 |.int i _=>pf (.int i) x
 |.str z _=>pf (.str z) x
 |_=>false
theorem FE(r:RelV y u)(f:cN y=true):AY x u=pf y x:=by
 cases y with
 |non=>cases r;rfl
 |bl b=>cases r;rfl
 |int i=>obtain⟨t,rfl⟩:=r;rfl
 |str z=>obtain⟨t,rfl⟩:=r;rfl
 |_=>exact absurd (show false=true from f) waq
theorem nH:∀{xs:List V} {us:List Value},Vals xs us->xs.all cN=true->us.any (AY x)=xs.any λy=>pf y x
 |_,_,.nil,_=>rfl
 |y :: xs,u :: us,.cons r t,f=>by
  rw[weI,wc7]at f;rw[wcM,wcM,FE r f.1,nH t f.2]
theorem kg(g:RelV x v)(j:cN x=true):∀{xs:List V} {us:List Value},Vals xs us->xs.all cN=true->∀u∈us,SeqAt.EqAt A s u v (AY x u)
 |_,_,.nil,_=>λu a=>by cases a
 |y :: xs,u :: us,.cons r t,f=>λb a=>by
  rw[weI,wc7]at f;rcases waH.mp a with rfl |a
  ·rw[FE r f.1];exact xO r g f.1 j
  ·exact kg g j t f.2 b a
noncomputable def nJ(x:V)(xs:List V):Bool:=xs.any λy=>pf y x
inductive Qh(K:wa1)(neg:Bool)(x y:V)(H:Hp)(Q:VK):Prop
 |mk (p xs) (_:y=.ref p) (_:(aH K H p xs\/ir K H p xs)) (_:cN x=true) (_:xs.all cN=true) (_:Q (.bl (if neg then !nJ x xs else nJ x xs)) H)
theorem w9:lX X (wbr .In) (Qh X.K false):=by
 intro c s σ H x y v u Q I d f h;obtain⟨p,i,rfl,b,e,fs,q⟩:=h;cases f;rcases b with b |b
 ·obtain⟨a,r,pl,g⟩:=I.list b;refine SeqAt.in_listAt (AY x) pl.isList (λw hw=>kg d e r fs w (by grind)) ⟨.bl _,H,I,rfl,?_⟩;rw[show a.toArray.any (AY x)=a.any (AY x) by simp,nH r fs];exact q
 ·obtain⟨a,r,pl,g⟩:=I.tuple b;refine SeqAt.in_tupleAt (AY x) pl (λw hw=>kg d e r fs w (by grind)) ⟨.bl _,H,I,rfl,?_⟩;rw[show a.toArray.any (AY x)=a.any (AY x) by simp,nH r fs];exact q
theorem jl:lX X (wbr .NotIn) (Qh X.K true):=by
 intro c s σ H x y v u Q I d f h;obtain⟨p,i,rfl,b,e,fs,q⟩:=h;cases f;rcases b with b |b
 ·obtain⟨a,r,pl,g⟩:=I.list b;refine SeqAt.notIn_listAt (AY x) pl.isList (λw hw=>kg d e r fs w (by grind)) ⟨.bl _,H,I,rfl,?_⟩;rw[show a.toArray.any (AY x)=a.any (AY x) by simp,nH r fs];exact q
 ·obtain⟨a,r,pl,g⟩:=I.tuple b;refine SeqAt.notIn_tupleAt (AY x) pl (λw hw=>kg d e r fs w (by grind)) ⟨.bl _,H,I,rfl,?_⟩;rw[show a.toArray.any (AY x)=a.any (AY x) by simp,nH r fs];exact q
theorem bg:d5 X (.builtin "len") (λxs H Q=>∃p ys,xs=[.ref p]/\(aH X.K H p ys\/ir X.K H p ys)/\Q (.int ys.length) H):=by
 intro e s σ H xs i Q I r h;obtain⟨p,ys,rfl,a,q⟩:=h;obtain⟨u,rfl,f⟩:=vals1 r;cases f;have hn:=mK;rcases a with a |a
 ·obtain⟨c,d,pl,g⟩:=I.list a;have b:=d.length;exact weq pl.isList (by grind) ⟨.int ys.length,H,I.tok _,⟨s.toks + 1,by grind⟩,q⟩
 ·obtain⟨c,d,pl,g⟩:=I.tuple a;have b:=d.length;exact len_tuple pl (by grind) ⟨.int ys.length,H,I.tok _,⟨s.toks + 1,by grind⟩,q⟩
theorem cf:d5 X (.builtin "len") (λxs H Q=>∃z,xs=[.str z]/\z.length<=sizeLine/\Q (.int z.length) H):=by
 intro a s σ H xs b Q I r h;obtain⟨z,rfl,c,q⟩:=h;obtain⟨u,rfl,t,rfl⟩:=vals1 r;have hn:=mK;exact len_str (by omega) ⟨.int z.length,H,I.tok _,⟨_,rfl⟩,q⟩
theorem cz:d5 X (.type "list") (λxs H Q=>∃p ys,xs=[.ref p]/\(aH X.K H p ys\/ir X.K H p ys)/\∀l,H l=none->Q (.ref l) (upd H l (.lst ys))):=by
 intro g s σ H xs x Q I r h;obtain⟨p,ys,rfl,i,q⟩:=h;obtain⟨u,rfl,v⟩:=vals1 r;cases v
 have fin:∀(a:List Value),Vals ys a->ys.length<=sizeLine->∀(c:Heap) (d:Nat),(∀b t,s.heap.get? b=some t->c.get? b=some t) ->
  c.get? s.heap.objs.size=some {cls:=.type "list",dict:=none,data:=.seq a.toArray d,slots:=#[]}->EP X g σ Q (.ref s.heap.objs.size) {s with heap:=c}:=λa f j c d kp e=>
  ⟨.ref s.heap.objs.size,_,I.laid (t':=s.toks) kp (wab _) (show bG X.prog X.w _ c _ (.lst ys) from ⟨j,a,d,f,e⟩),rfl,q _ (I.aW.fresh (wab _))⟩
 rcases i with i |i
 ·obtain⟨a,f,pl,j⟩:=I.list i;have k:=f.length;obtain⟨o,m,hc,n,hd⟩:=pl.isList;exact call_list_seq p (.inl rfl) m hc hd (λc d kp e=>fin a f j c d kp e) (by grind)
 ·obtain⟨a,f,pl,j⟩:=I.tuple i;have k:=f.length;obtain⟨o,m,hc,n,hd⟩:=pl;exact call_list_seq p (.inr rfl) m hc hd (λc d kp e=>fin a f j c d kp e) (by grind)
theorem vf:d5 X (.type "tuple") (λxs H Q=>∃p ys,xs=[.ref p]/\((aH X.K H p ys/\∀l,H l=none->Q (.ref l) (upd H l (.tup ys)))\/(ir X.K H p ys/\Q (.ref p) H))):=by
 intro a s σ H xs t Q I r h;obtain⟨p,ys,rfl,h⟩:=h;obtain⟨u,rfl,m⟩:=vals1 r;cases m;rcases h with⟨f,q⟩ |⟨f,q⟩
 ·obtain⟨c,g,pl,i⟩:=I.list f;have j:=g.length;refine call_tuple_list pl.isList (λd kp=>?_) (by grind);have k:Inv X a σ H {s with heap:=d}:=I.kept (t':=s.toks) kp
  have n:Inv X a σ (upd H d.objs.size (.tup ys)) {s with heap:=d.push {cls:=.type "tuple",data:=.seq c.toArray}}:=
   k.laid (t':=s.toks) (λb o e=>wa8 _ e) (wab _) (show bG X.prog X.w _ _ _ (.tup ys) from ⟨i,c,g,IsTup.new _ _⟩)
  exact⟨.ref d.objs.size,_,n,rfl,q _ (k.aW.fresh (wab _))⟩
 ·obtain⟨c,g,pl,i⟩:=I.tuple f;exact call_tuple_same pl ⟨.ref p,H,I,rfl,q⟩
def Rq(K:wa1)(T:String)(x:V)(H:Hp):Prop:=match x with
 |.str _=>T="str"
 |.int _=>T="int"
 |.ref p=>(T="list"/\∃xs,aH K H p xs)\/(T="tuple"/\∃o,K.lookup p=some o/\o.cls=.type "tuple"/\o.dict=none) \/
   (T="dict"/\((∃kvs,H p=some (.dK kvs))\/∃kvs,H p=some (.dT kvs)))\/(T="set"/\∃S n,H p=some (.set S n))
 |_=>False
theorem FG(I:Inv X g σ H s)(r:RelV x v)(ty:Rq X.K T x H) :
 s.TypeIs v T/\∀a,v=.ref a->∃ob,s.heap.get? a=some ob/\ob.dict=none:=by
 cases x with
 |str z=>
  obtain⟨t,rfl⟩:=r;cases(show T="str" from ty);exact⟨typeIs_str s z t,λ_ e=>nomatch e⟩
 |int i=>
  obtain⟨t,rfl⟩:=r;cases(show T="int" from ty);exact⟨typeIs_int s i t,λ_ e=>nomatch e⟩
 |ref p=>
  cases r;rcases ty with⟨rfl,k,h⟩ |⟨rfl,o,b,hc,hd⟩ |⟨rfl,b⟩ |⟨rfl,S,n,b⟩
  ·obtain⟨j,_,pl,_⟩:=I.list h;refine⟨pl.isList.typeIs,λa e=>?_⟩;cases e;obtain⟨o,n,e,c,hd,_⟩:=pl;exact⟨o,e,hd⟩
  ·refine⟨⟨o,I.fv p o b,hc⟩,λa e=>?_⟩;cases e;exact⟨o,I.fv _ o b,hd⟩
  ·have z:∃o,s.heap.get? p=some o/\o.ExactDict:=by
    rcases b with⟨d,b⟩ |⟨d,b⟩
    ·obtain⟨_,_,_,_,o,_,_,e,ex,_⟩:=I.aW p _ b;exact⟨o,e,ex⟩
    ·obtain⟨_,_,_,_,o,_,_,e,ex,_⟩:=I.aW p _ b;exact⟨o,e,ex⟩
   obtain⟨o,e,ex⟩:=z;refine⟨⟨o,e,ex.1⟩,λa f=>?_⟩;cases f;exact⟨o,e,ex.2.1⟩
  ·obtain⟨o,_,_,_,e,ex,_⟩:=I.aW p _ b;refine⟨⟨o,e,ex.1⟩,λa f=>?_⟩;cases f;exact⟨o,e,ex.2.1⟩
 |_=>exact waS ty
def NY(K:wa1)(T:String)(r:V->List V->Hp->VK->Prop)(to:TE):TE:=λσ H Q=>to σ H λx H1=>Rq K T x H1/\r x [] H1 Q
def Ut(K:wa1)(T:String)(r:V->List V->Hp->VK->Prop)(to:TE)(t:TA):TE:=λσ H Q=>to σ H λx H1=>Rq K T x H1/\t σ H1 λxs H2=>r x xs H2 Q
variable{o e:Expr}{es:List Expr}{to:TE}{t:TA}{name:Str}{apos gZ:Pos}{T id:String}{r:V->List V->Hp->VK->Prop}
theorem FH(p:wgb T)(slot:Slot T name id)(l:typeOf (.builtin id)=pure (.type "method_descriptor"))(C:Kp X id r)(J:PE X o to)
 (g:wci o name X.env (eval o X.env)=eval o X.env:=by rfl) (j:(apos.endLine == gZ.line)=true:=by rfl):PE X (.Call (.Attribute o name apos) [] [] gZ) (NY X.K T r to):=by
 intro a s σ H Q I h;refine wpAny_Call_method0_late g j (bP (J a s σ H _ I h) λv d ⟨x,e,b,c,ty,f⟩=>?_);obtain⟨i,k⟩:=FG b c ty;exact⟨T,id,p,slot,l,i,k,wfI rfl (PySem.evalArgs_none (C a d σ e x [] v [] Q b c .nil f))⟩
theorem iP(J:wgb T)(slot:Slot T name id)(C:typeOf (.builtin id)=pure (.type "method_descriptor"))(U:Kp X id r)(ho:PE X o to)(ha:PA X (e :: es) t)
 (j:wci o name X.env (eval o X.env)=eval o X.env:=by rfl)
 (p:((backTo gZ (starEach (e :: es) X.env)).all (λx=>!x.1) && (backToKw gZ (wdk [] X.env)).all (λx=>x.1.isSome)
   && decide ((e :: es).length + ([]:List wf4).length + (if ([]:List wf4).isEmpty then 0 else 1) < 30))=true:=by rfl)
 (l:(apos.endLine == gZ.line)=true:=by rfl) (hs:starEach (e :: es) X.env=(false,eval e X.env) :: starEach es X.env:=by rfl) (g:(backTo gZ (starEach es X.env)).any (·.1)=false:=by rfl) :
 PE X (.Call (.Attribute o name apos) (e :: es) [] gZ) (Ut X.K T r to t):=by
 intro a s σ H Q I h;refine wpAny_Call_method_late j p l rfl (bP (ho a s σ H _ I h) λv f ⟨x,i,b,c,ty,k⟩=>?_);obtain⟨m,n⟩:=FG b c ty;refine⟨T,id,J,slot,C,m,n,?_⟩;have d:=ha gZ a f σ i _ b k;rw[hs]at d ⊢;refine wfI (by show (false ||(backTo gZ (starEach es X.env)).any (·.1))=false;rw[g] <;> rfl) (Calls.evalArgs_plain ?_);exact bP d λq u ⟨w,y,z,A,B⟩=>U a u σ y x w v q Q z c A B
end
def Uu(X:Cx)(id:String)(r:V->List V->Hp->VK->Prop):Prop:=
 ∀(pins:List (Addr×Obj)) (s:Shared) (σ:St) (H:Hp) (x:V) (xs:List V) (v:Value) (us:List Value) (Q:VK),Inv X pins σ H s->RelV x v->Vals xs us->r x xs H Q ->
  wpAny (model X.prog X.w) X.A (call (.builtin id) (v :: us)) (EP X pins σ Q) X.xe s
theorem Vals.one:∀{x:V} {us:List Value},Vals [x] us->∃u,us=[u]/\RelV x u
 |_,_,.cons r .nil=>⟨_,rfl,r⟩
theorem Vals.zero:∀{us:List Value},Vals [] us->us=[]
 |_,.nil=>rfl
theorem Vals.dropLast(h:Vals xs us):Vals xs.dropLast us.dropLast:=by
 induction h with
 |nil=>exact .nil
 |cons r t a=>
  cases t with
  |nil=>exact .nil
  |cons q b=>exact .cons r a
theorem Vals.rep(h:Vals xs us):∀k:Nat,Vals (wam k xs).flatten (wam k us).flatten
 |0=>.nil
 |k + 1=>by
  rw[wcm,wcm,wcg,wcg];exact Vals.append h (Vals.rep h k)
theorem foldl_rep(g:List Value):∀(k:Nat) (j:List Value),
 whk (λl o=>l++o) j.toArray (wam k g.toArray)=(j++(wam k g).flatten).toArray
 |0,j=>by simp
 |k + 1,j=>by
  have e:j.toArray++g.toArray=(j++g).toArray:=by simp
  have a:(j++g)++(wam k g).flatten=j++(wam (k + 1) g).flatten:=by
   grind
  rw[<-a,<-foldl_rep g k (j++g),<-e,wcm,wfx]
section
variable{X:Cx}{pins:List (Addr×Obj)}{σ:St}{H:Hp}{s:Shared}{l b:Addr}{xs ys zs:List V}
theorem Inv.NZ{g its':List Value}{n:Nat}{f:Array Value->Array Value}{t':Nat}(I:Inv X pins σ H s)(j:H l=some (.lst xs))
 (e:s.heap.get? l=some {cls:=.type "list",data:=.seq g.toArray n}) (o:f g.toArray=its'.toArray) (p:Vals ys its') (r:ys.length<=sizeLine) :
 Inv X pins σ (upd H l (.lst ys)) {s with heap:=s.heap.update l (wcB f),toks:=t'}:=by
 have q:=PySem.IsL.update e f;rw[o]at q;refine I.write (x:=l) (e:=l) (by rw[j];exact trivial) (.inl rfl) (λc u a b=>(waN s.heap (wcB f) (wbc a)).trans b) ⟨_,q⟩ ?_;exact⟨r,its',_,p,q⟩
theorem Inv.Lj(I:Inv X pins σ H s)(j:Vals ys g)(o:ys.length<=sizeLine) :
 Inv X pins σ (upd H s.heap.objs.size (.lst ys)) {s with heap:=s.heap.push {cls:=.type "list",data:=.seq g.toArray},toks:=t'}:=
 I.laid (λ_ _ q=>wa8 _ q) (wab _) ⟨o,g,0,j,wax _ rfl⟩
theorem Inv.fresh(I:Inv X pins σ H s):H s.heap.objs.size=none:=I.aW.fresh (wab _)
theorem Inv.FI(I:Inv X pins σ H s)(j:H l=some (.lst xs)):xs.length<=sizeLine/\∃(g:List Value) (n:Nat),Vals xs g/\xs.length=g.length/\s.heap.get? l=some {cls:=.type "list",data:=.seq g.toArray n}:=by
 obtain⟨z,g,n,r,e⟩:=I.aW l _ j;exact⟨z,g,n,r,r.length,e⟩
theorem FJ(h:n<=sizeLine):wdx n=false:=by grind [wdx,decide_eq_false]
end
section
variable{X:Cx}
inductive IJ(x:V)(vs:List V)(H:Hp)(Q:VK):Prop
 |mk (l xs y) (_:x=.ref l) (_:vs=[y]) (_:H l=some (.lst xs)) (_:xs.length < sizeLine) (_:Q .non (upd H l (.lst (xs++[y]))))
theorem cH:Uu X "list.append" IJ:=by
 intro b s σ H x i v j Q I d f h;obtain⟨l,k,y,rfl,rfl,c,m,q⟩:=h;cases d;obtain⟨u,rfl,g⟩:=f.one;obtain⟨z,a,n,r,hl,e⟩:=I.FI c;refine wee waZ ⟨_,e,rfl⟩ F.entry_list_append (F.args_list_append_2 _ _) (PySem.list_append l a.toArray n u (by grind)) ⟨e,?_⟩;refine⟨.non,_,I.NZ (its':=a++[u]) c e (by simp) (r.append (.cons g .nil)) ?_,rfl,q⟩;rw[wa7,wc9];omega
inductive Rr(x:V)(vs:List V)(H:Hp)(Q:VK):Prop
 |mk (l xs y) (_:x=.ref l) (_:vs=[]) (_:H l=some (.lst xs)) (_:xs[xs.length - 1]?=some y) (_:Q y (upd H l (.lst xs.dropLast)))
theorem Ln:Uu X "list.pop" Rr:=by
 intro d s σ H x m v o Q I g i h;obtain⟨l,p,y,rfl,rfl,f,j,q⟩:=h;cases g;have b:=i.zero;subst b;obtain⟨z,a,n,r,hl,e⟩:=I.FI f;obtain⟨u,t,k⟩:=r.get j
 have c:a.toArray[a.toArray.size - 1]?=some u:=by
  grind
 refine wee wgF ⟨_,e,rfl⟩ F.entry_list_pop (F.args_list_pop_1 _) (MeetsSeq.list_pop_last l a.toArray n u c (by grind)) ⟨e,?_⟩;refine⟨y,_,I.NZ (its':=a.dropLast) f e ?_ r.dropLast ?_,k,q⟩
 ·grind
 ·grind
inductive Rt(x y:V)(H:Hp)(Q:VK):Prop
 |mk (l b xs zs) (_:x=.ref l) (_:y=.ref b) (_:H l=some (.lst xs)) (_:H b=some (.lst zs)) (_:xs.length + zs.length<=sizeLine) (_:∀p,H p=none->Q (.ref p) (upd H p (.lst (xs++zs))))
theorem jm:lX X (binaryOp .Add) Rt:=by
 intro d s σ H x y v u Q I f g h;obtain⟨l,b,t,w,rfl,rfl,i,j,A,q⟩:=h;cases f;cases g;obtain⟨z,c,n,r,hl,e⟩:=I.FI i;obtain⟨B,a,C,k,m,o⟩:=I.FI j;refine wh8 e o ?_ (by rw[waD,waD];omega);have p:c.toArray++a.toArray=(c++a).toArray:=by simp
 rw[p];exact⟨.ref _,_,I.Lj (t':=s.toks) (r.append k) (by rw[wa7];omega),rfl,q _ I.fresh⟩
inductive Ru(x y:V)(H:Hp)(Q:VK):Prop
 |mk (l k xs) (_:x=.ref l) (_:y=.int k) (_:H l=some (.lst xs)) (_:-(2 ^ 63)<=k) (_:k < 2 ^ 63) (_:xs.length * k.toNat<=sizeLine) (_:∀p,H p=none->Q (.ref p) (upd H p (.lst (wam k.toNat xs).flatten)))
theorem IK{α:Type}(xs:List α)(k:Nat):(wam k xs).flatten.length=k * xs.length:=by simp_all [wcm,wcg,wa7,Nat.succ_mul,Nat.add_comm]
theorem FK:lX X (binaryOp .Mult) Ru:=by
 intro p s σ H x y v u Q I A B h;obtain⟨l,k,K,rfl,rfl,C,D,E,w,q⟩:=h;cases A;obtain⟨t,rfl⟩:=B;obtain⟨z,b,n,r,hl,e⟩:=I.FI C;have d:b.toArray.size * k.toNat<=sizeLine:=by rw[waD,<-hl];exact w
 have f:¬b.toArray.size * k.toNat > (2 ^ 63 - 1) / 8:=by
  have:(sizeLine:Nat)<=(2 ^ 63 - 1) / 8:=by decide
  omega
 have g:¬(!Builtin.List.listFitsIndex k)=true:=by
  rw[fitsIndex_both D E];exact waq
 have c:¬wdx (b.toArray.size * k.toNat)=true:=by
  rw[FJ d];exact waq
 have i:whk (λj o=>j++o) #[] (wam (if b.toArray.isEmpty=true then 0 else k.toNat) b.toArray)=(wam k.toNat b).flatten.toArray:=by
  have G:∀m:Nat,whk (λj o=>j++o) #[] (wam m b.toArray)=(wam m b).flatten.toArray:=λm=>by
   grind [foldl_rep]
  rw[G]
  cases b with
  |nil=>simp
  |cons a L=>grind
 refine wpAny_binaryOp_repeat_ref (T:="list") (U:="int") (by decide) ⟨_,e,rfl⟩ (λJ=>typeIs_int J k t) noFill_list_mul F.fills_int_mul F.slot_int_rmul repeat_list F.slot_int_index.lookup
  (wee F.slot_int_rmul (typeIs_int s k t) F.entry_int_rmul (F.args_int_rmul_2 _ _) (int___rmul___int_list k t l b.toArray n)
    ⟨e,rfl,⟨_,e,rfl⟩,wee F.slot_list_mul ⟨_,e,rfl⟩ F.entry_list_mul (F.args_list_mul_2 _ _) (AutoListH.list___mul___list_int_3 l b.toArray n k t g f c) ⟨e,?_⟩⟩)
 rw[i];exact⟨.ref _,_,I.Lj (t':=s.toks) (r.rep k.toNat) (by rw[IK,Nat.mul_comm];exact w),rfl,q _ I.fresh⟩
end
section
variable{prog:wat}{w:World}{A:Around}{E:Value->Shared->Prop}{s:Shared}
set_option maxRecDepth 100000 in
end
section
variable{X:Cx}
end
section
variable{κ:Type}[DecidableEq κ]
noncomputable def bz(kvs:List (κ×V))(k:κ):Option V:=(kvs.find? λkv=>decide (kv.1=k)).map (·.2)
noncomputable def putK(kvs:List (κ×V))(k:κ)(v:V):List (κ×V):=
 if (kvs.any λkv=>decide (kv.1=k))=true then kvs.map (λkv=>if kv.1=k then(kv.1,v) else kv) else kvs++[(k,v)]
noncomputable def Kq(kvs:List (κ×V))(k:κ):List (κ×V):=kvs.filter λkv=>decide (kv.1≠k)
theorem FL:bz ([]:List (κ×V)) k=none:=rfl
theorem bL{p:κ×V}{r:List (κ×V)}{k:κ}(e:p.1=k):bz (p :: r) k=some p.2:=by simp[bz,wcS,e]
theorem bM{p:κ×V}{r:List (κ×V)}{k:κ}(e:¬p.1=k):bz (p :: r) k=bz r k:=by simp[bz,wcS,e]
theorem gd(k:κ):∀kvs:List (κ×V),(kvs.any λg=>decide (g.1=k))=(bz kvs k).isSome
 |[]=>rfl
 |p :: r=>by
  rw[wcM]
  by_cases e:p.1=k
  ·simp only[bL e,decide_eq_true e,Bool.true_or,Option.isSome_some]
  ·rw[bM e,decide_eq_false e,weJ];exact gd k r
theorem yX(k j:κ)(y:V):∀kvs:List (κ×V),bz (kvs.map λg=>if g.1=k then(g.1,y) else g) j=(bz kvs j).map λx=>if j=k then y else x
 |[]=>rfl
 |p :: r=>by
  have a:=yX k j y r;rw[waw]
  by_cases h:p.1=k
  ·rw[if_pos h]
   by_cases e:p.1=j
   ·rw[bL (p:=(p.1,y)) e,bL e,wef,if_pos (e.symm.trans h)]
   ·rw[bM (p:=(p.1,y)) e,bM e,a]
  ·rw[if_neg h]
   by_cases e:p.1=j
   ·rw[bL (p:=p) e,bL e,wef,if_neg (λz=>h (e.trans z))]
   ·rw[bM (p:=p) e,bM e,a]
theorem wc(k j:κ)(y:V):∀kvs:List (κ×V),bz kvs k=none->bz (kvs++[(k,y)]) j=if j=k then some y else bz kvs j
 |[],_=>by
  by_cases e:k=j
  ·rw[if_pos e.symm];exact bL (p:=(k,y)) e
  ·rw[if_neg (λz=>e z.symm)];exact bM (p:=(k,y)) e
 |p :: r,hn=>by
  rw[List.cons_append];have a:¬p.1=k:=λz=>by rw[bL z]at hn;cases hn
  rw[bM a]at hn;have b:=wc k j y r hn
  by_cases e:p.1=j
  ·rw[bL e,bL e,if_neg (λz=>a (e.trans z))]
  ·rw[bM e,bM e,b]
theorem sj(kvs:List (κ×V))(k j:κ)(y:V):bz (putK kvs k y) j=if j=k then some y else bz kvs j:=by
 unfold putK
 by_cases a:(kvs.any λb=>decide (b.1=k))=true
 ·rw[if_pos a,yX];rw[gd]at a
  by_cases e:j=k
  ·obtain⟨x,c⟩:=wf7.mp a;rw[if_pos e,e,c,wef,if_pos rfl]
  ·rw[if_neg e]
   cases bz kvs j with
   |none=>rfl
   |some x=>rw[wef,if_neg e]
 ·rw[if_neg a];refine wc k j y kvs ?_;rw[gd]at a
  cases q:bz kvs k with
  |none=>rfl
  |some x=>rw[q]at a;exact(a rfl).elim
theorem kh(kvs:List (κ×V))(k:κ)(v:V):(putK kvs k v).length<=kvs.length + 1:=by
 unfold putK;split
 ·rw[wa0];omega
 ·rw[wa7,waK,wfy];omega
theorem cI{kvs:List (κ×V)}{k:κ}(v:V)(h:bz kvs k=none):putK kvs k v=kvs++[(k,v)]:=by simp_all [putK,gd,if_neg]
theorem iu.iQ(r:iu o u):o.isSome=u.isSome:=by
 cases o with
 |none=>cases u with
  |none=>rfl
  |some _=>exact(show False from r).elim
 |some _=>cases u with
  |none=>exact(show False from r).elim
  |some _=>rfl
theorem iu.getD(r:iu o u)(rd:RelV d d'):RelV (o.getD d) (u.getD d'):=by
 cases o with
 |none=>cases u with
  |none=>exact rd
  |some _=>exact(show False from r).elim
 |some _=>cases u with
  |none=>exact(show False from r).elim
  |some _=>exact r
theorem KV.val{kvs:List (κ×V)}{vs:List (κ×Value)}(r:KV kvs vs)(k:κ):iu (bz kvs k) (valueAt vs k):=by
 unfold KV at r
 induction r with
 |nil=>exact wbz
 |@cons p q ps a h t f=>
  obtain⟨d,g⟩:=h
  by_cases e:p.1=k
  ·have c:q.1=k:=d.symm.trans e;have b:valueAt (q :: a) k=some q.2:=by simp[valueAt,wcS,c]
   rw[bL e,b];exact g
  ·have c:¬q.1=k:=λz=>e (d.trans z);have b:valueAt (q :: a) k=valueAt a k:=by simp[valueAt,wcS,c]
   rw[bM e,b];exact f
theorem KV.any{kvs:List (κ×V)}{vs:List (κ×Value)}(r:KV kvs vs)(k:κ):(kvs.any λg=>decide (g.1=k))=vs.any λg=>decide (g.1=k):=by
 unfold KV at r
 induction r with
 |nil=>rfl
 |cons h t a=>rw[wcM,wcM,a,h.1]
theorem KV.repl(r:KV kvs vs)(k:κ)(j:RelV y u) :
 KV (kvs.map λg=>if g.1=k then(g.1,y) else g) (vs.map λg=>if g.1=k then(g.1,u) else g):=by
 unfold KV at r ⊢
 induction r with
 |nil=>exact .nil
 |@cons p q ps d h t b=>
  rw[waw,waw];refine .cons ?_ b;obtain⟨a,c⟩:=h
  by_cases e:p.1=k
  ·rw[if_pos e,if_pos (a.symm.trans e)];exact⟨a,j⟩
  ·rw[if_neg e,if_neg (λz=>e (a.trans z))];exact⟨a,c⟩
theorem KV.put{kvs:List (κ×V)}{vs:List (κ×Value)}(r:KV kvs vs)(k:κ){y:V}{u:Value}(g:RelV y u):KV (putK kvs k y) (stored vs k u):=by
 unfold putK stored;rw[r.any k]
 by_cases e:(vs.any λa=>decide (a.1=k))=true
 ·rw[if_pos e,if_pos e];exact r.repl k g
 ·rw[if_neg e,if_neg e];exact Paired.snoc r ⟨rfl,g⟩
theorem KV.drop{kvs:List (κ×V)}{vs:List (κ×Value)}(r:KV kvs vs)(k:κ):KV (Kq kvs k) (without vs k):=by
 unfold KV at r ⊢;unfold Kq without
 induction r with
 |nil=>exact .nil
 |@cons p q ps i h t d=>
  obtain⟨c,f⟩:=h;rw[wdV,wdV]
  by_cases e:p.1=k
  ·have a:¬decide (p.1≠k)=true:=by simp[e]
   have b:¬decide (q.1≠k)=true:=by simp[c.symm.trans e]
   rw[if_neg a,if_neg b];exact d
  ·have g:¬q.1=k:=λz=>e (c.trans z);have a:decide (p.1≠k)=true:=by simp[e]
   have b:decide (q.1≠k)=true:=by simp[g]
   rw[if_pos a,if_pos b];exact .cons ⟨c,f⟩ d
theorem KV.keys{kvs:List (κ×V)}{vs:List (κ×Value)}(r:KV kvs vs):kvs.map (·.1)=vs.map (·.1):=by
 unfold KV at r
 induction r with
 |nil=>rfl
 |cons h t a=>grind
theorem KV.length{kvs:List (κ×V)}{vs:List (κ×Value)}(r:KV kvs vs):kvs.length=vs.length:=wgl r
end
theorem we(r:RelV (kV k) u):(bf P w).is k u=true:=by grind [RelV,kV,bf,yO,yP]
theorem wg:∀{g:List Key} {us:List Value},Vals (g.map kV) us->ItemsAre (bf P w) g us
 |[],_,r=>by rw[weg]at r;cases r;exact .nil
 |k :: g,_,r=>by
  rw[waw]at r
  cases r with
  |cons h t=>exact .cons (we h) (wg t)
abbrev KT(H:Hp):List (List Key×V)->List (List Key×Addr×Value)->Prop:=Paired λp q=>p.1=q.1/\H q.2.1=some (.tup (p.1.map kV))/\RelV p.2 q.2.2
theorem KT.val{H:Hp}{kvs:List (List Key×V)}{xs:List (List Key×Addr×Value)}(r:KT H kvs xs)(k:List Key):iu (bz kvs k) ((atKey xs k).map (·.2)):=by
 induction r with
 |nil=>exact wbz
 |@cons p q ps a h t f=>
  obtain⟨d,_,g⟩:=h
  by_cases e:p.1=k
  ·have c:q.1=k:=d.symm.trans e;have b:atKey (q :: a) k=some q.2:=by simp[atKey,wcS,c]
   rw[bL e,b];exact g
  ·have c:¬q.1=k:=λz=>e (d.trans z);have b:atKey (q :: a) k=atKey a k:=by simp[atKey,wcS,c]
   rw[bM e,b];exact f
theorem KT.repl(r:KT H kvs xs)(k:List Key)(j:RelV y u) :
 KT H (kvs.map λg=>if g.1=k then(g.1,y) else g) (xs.map (putAt k u)):=by
 induction r with
 |nil=>exact .nil
 |@cons p q ps f h t c=>
  rw[waw,waw];refine .cons ?_ c;obtain⟨a,b,d⟩:=h;unfold putAt
  by_cases e:p.1=k
  ·rw[if_pos e,if_pos (a.symm.trans e)];exact⟨a,b,j⟩
  ·rw[if_neg e,if_neg (λz=>e (a.trans z))];exact⟨a,b,d⟩
theorem KT.put{H:Hp}{kvs:List (List Key×V)}{xs:List (List Key×Addr×Value)}(r:KT H kvs xs)(k:List Key){b:Addr}{y:V}{u:Value}(j:H b=some (.tup (k.map kV)))(g:RelV y u) :
 KT H (putK kvs k y) (storedH xs k b u):=by
 have e:(kvs.any λa=>decide (a.1=k))=(atKey xs k).isSome:=by
  rw[gd,(r.val k).iQ,weR]
 unfold putK storedH;rw[e]
 by_cases q:(atKey xs k).isSome=true
 ·rw[if_pos q,if_pos q];exact r.repl k g
 ·rw[if_neg q,if_neg q];exact Paired.snoc r ⟨rfl,j,g⟩
theorem KT.keeps(r:KT H kvs xs)(g:∀b ys,H b=some (.tup ys)->j b=some (.tup ys)):KT j kvs xs:=
 Paired.L6 r λ_ _ z=>⟨z.1,g _ _ z.2.1,z.2.2⟩
section
variable{P:wat}{w:World}{H:Hp}{h:Heap}{a:Addr}
theorem Kr(ok:j8 P w H h)(e:Rd H a u):bG P w H h a u:=e.ok ok
theorem m9(ok:j8 P w H h)(e:Rd H a (.dK kvs)):kvs.length<=sizeLine/\(a == wcP)=false/\∃vs,KV kvs vs/\h.DictOf (bf P w) a vs:=
 show bG P w H h a (.dK kvs) from Kr ok e
theorem sq(ok:j8 P w H h)(e:H a=some (.dK kvs)):kvs.length<=sizeLine/\(a == wcP)=false/\∃vs,KV kvs vs/\h.DictOf (bf P w) a vs:=m9 ok (.inl e)
theorem sr(ok:j8 P w H h)(e:H a=some (.tup (g.map kV))):(wft (bf P w)).is h g a:=by
 obtain⟨_,b,r,o,c,d,n,f⟩:=(show bG P w H h a (.tup (g.map kV)) from ok a _ e);exact⟨o,b.toArray,n,c,d,f,by simpa using wg r⟩
theorem yY(ok:j8 P w H h)(e:Rd H a (.dT kvs)):kvs.length<=sizeLine/\(a == wcP)=false /\
 ∃xs,KT H kvs xs/\h.DictOfH (wft (bf P w)) a xs:=by
 obtain⟨z,y,xs,r,o,b,c,d,f,g,i,j⟩:=(show bG P w H h a (.dT kvs) from Kr ok e);refine⟨z,y,xs,r,o,b,c,d,f,g,i,λx k=>?_,j⟩
 have all:∀{l:List (List Key×V)} {m:List (List Key×Addr×Value)},KT H l m->∀x∈m,(wft (bf P w)).is h x.1 x.2.1:=by
  intro l m q
  induction q with
  |nil=>grind
  |@cons p q ps n s t u=>
   grind [sr]
 exact all r x k
theorem O0(ok:j8 P w H h)(e:H a=some (.dT kvs)):kvs.length<=sizeLine/\(a == wcP)=false /\
 ∃xs,KT H kvs xs/\h.DictOfH (wft (bf P w)) a xs:=yY ok (.inl e)
end
def dW(H:Hp)(a:Addr)(y:V)(r:Option V):Prop:=
 (∃kvs k,Rd H a (.dK kvs)/\y=kV k/\r=bz kvs k)\/∃kvs k b,Rd H a (.dT kvs)/\y=.ref b/\H b=some (.tup (k.map kV))/\r=bz kvs k
def jn(H:Hp)(a:Addr)(y v:V)(H':Hp):Prop:=
 (∃kvs k,H a=some (.dK kvs)/\y=kV k/\kvs.length < sizeLine/\H'=upd H a (.dK (putK kvs k v))) \/
 ∃kvs k b,H a=some (.dT kvs)/\y=.ref b/\H b=some (.tup (k.map kV))/\kvs.length < sizeLine/\H'=upd H a (.dT (putK kvs k v))
theorem dW.k{H:Hp}{a:Addr}{kvs:List (Key×V)}{k:Key}(e:H a=some (.dK kvs)):dW H a (kV k) (bz kvs k):=.inl ⟨kvs,k,.inl e,rfl,rfl⟩
theorem dW.t{H:Hp}{a b:Addr}{kvs:List (List Key×V)}{k:List Key}(e:H a=some (.dT kvs))(g:H b=some (.tup (k.map kV))):dW H a (.ref b) (bz kvs k):=.inr ⟨kvs,k,b,.inl e,rfl,g,rfl⟩
theorem jn.k{H:Hp}{a:Addr}{kvs:List (Key×V)}{k:Key}{v:V}(e:H a=some (.dK kvs))(hl:kvs.length < sizeLine):jn H a (kV k) v (upd H a (.dK (putK kvs k v))):=.inl ⟨kvs,k,e,rfl,hl,rfl⟩
theorem jn.t{H:Hp}{a b:Addr}{kvs:List (List Key×V)}{k:List Key}{v:V}(e:H a=some (.dT kvs))(g:H b=some (.tup (k.map kV)))(hl:kvs.length < sizeLine) :
 jn H a (.ref b) v (upd H a (.dT (putK kvs k v))):=.inr ⟨kvs,k,b,e,rfl,g,hl,rfl⟩
section
variable{X:Cx}{pins:List (Addr×Obj)}{σ:St}{H:Hp}{s:Shared}{a:Addr}{y v:V}{u r:Value}{o:Option V}{A:Around}{E:Value->Shared->Prop}
theorem Inv.big(I:Inv X pins σ H s):wcP < s.heap.objs.size:=by
 have h:waL < s.heap.objs.size:=(I.mod.glob.keeps I.bk).lt;exact Nat.lt_trans (by decide) h
theorem DN{Q:Value->Shared->Prop}(J:A.units + 1 < wcH)(I:Inv X pins σ H s)(g:dW H a y (some v))(C:RelV y u)(h:∀j s',Inv X pins σ H s'->RelV v j->Q j s') :
 wpAny (model X.prog X.w) A (getItem (.ref a) u) Q E s:=by
 rcases g with⟨d,k,e,f,l⟩ |⟨d,k,b,e,f,n,l⟩
 ·subst f;obtain⟨z,hd,q,rel,i⟩:=m9 I.aW e;obtain⟨j,hw,c⟩:=iu.rF (v:=v) (o:=valueAt q k) (by rw[l];exact rel.val k);exact wpAny_getItem_of (we C) i.mapOf hw (h j _ (I.tok _) c)
 ·subst f;cases(show u=waf b from C);obtain⟨z,hd,r,rel,i⟩:=yY I.aW e;obtain⟨j,hw,c⟩:=iu.rF (v:=v) (o:=(atKey r k).map (·.2)) (by rw[l];exact rel.val k);obtain⟨p,t,m⟩:=wfD.mp hw;refine wpAny_getItem_heap (wdy J) (sr I.aW n) i t ?_;rw[m];exact h j _ (I.tok _) c
theorem Rv{Q:Value->Shared->Prop}(p:A.units + 1 < wcH)(I:Inv X pins σ H s)(g:dW H a y o)(j:RelV y u)(h:∀s',Inv X pins σ H s'->Q (.bool o.isSome) s') :
 wpAny (model X.prog X.w) A (wbr .In u (.ref a)) Q E s:=by
 rcases g with⟨c,k,e,d,l⟩ |⟨c,k,b,e,d,i,l⟩
 ·subst d;obtain⟨z,hd,m,rel,f⟩:=m9 I.aW e;refine wpAny_in_of (we j) hd f.mapOf ?_;rw[<-(rel.val k).iQ,<-l];exact h _ (I.tok _)
 ·subst d;cases(show u=waf b from j);obtain⟨z,hd,n,rel,f⟩:=yY I.aW e;refine wpAny_in_heap (wdy p) (sr I.aW i) hd f ?_;have q:=(rel.val k).iQ;rw[weR]at q;rw[<-q,<-l];exact h _ (I.tok _)
theorem IL{Q:Value->Shared->Prop}(p:A.units + 1 < wcH)(I:Inv X pins σ H s)(g:dW H a y o)(j:RelV y u)(h:∀s',Inv X pins σ H s'->Q (.bool (!o.isSome)) s') :
 wpAny (model X.prog X.w) A (wbr .NotIn u (.ref a)) Q E s:=by
 rcases g with⟨c,k,e,d,l⟩ |⟨c,k,b,e,d,i,l⟩
 ·subst d;obtain⟨z,hd,m,rel,f⟩:=m9 I.aW e;refine wpAny_notIn_of (we j) hd f.mapOf ?_;rw[<-(rel.val k).iQ,<-l];exact h _ (I.tok _)
 ·subst d;cases(show u=waf b from j);obtain⟨z,hd,n,rel,f⟩:=yY I.aW e;refine wpAny_notIn_heap (wdy p) (sr I.aW i) hd f ?_;have q:=(rel.val k).iQ;rw[weR]at q;rw[<-q,<-l];exact h _ (I.tok _)
theorem xP(I:Inv X pins σ H s)(g:Np (H a))(hs:we6 a s.heap h')(j:∃q,h'.get? a=some q)(new:bG X.prog X.w (upd H a ob) h' a ob) :
 Inv X pins σ (upd H a ob) {s with heap:=h',toks:=t'}:=
 I.write (x:=a) (e:=a) g (.inl rfl) (λb q c z=>(hs.2 b c).trans z) j new
theorem FN(z:kvs.length<=sizeLine)(hd:(a == wcP)=false)(rel:KV kvs vs)(dd:h'.DictOf (bf P w) a vs) :
 bG P w g h' a (.dK kvs):=⟨z,hd,vs,rel,dd⟩
theorem DP{Q:Unit->Shared->Prop}(T:A.units + 1 < wcH)(I:Inv X pins σ H s)(g:jn H a y v U)(C:RelV y u)(J:RelV v r)(h:∀s',Inv X pins σ U s'->Q () s') :
 wpAny (model X.prog X.w) A (setItem (.ref a) u r) Q E s:=by
 rcases g with⟨d,k,e,j,l,m⟩ |⟨d,k,b,e,j,t,l,m⟩
 ·subst j m;obtain⟨z,hd,D,rel,n⟩:=sq I.aW e;have o:D.length<=sizeLine:=by rw[<-rel.length];exact z
  have hl:(putK d k v).length<=sizeLine:=by have:=kh d k v;omega
  refine wpAny_setItem_pairs (hsz:=o) (we C) n λx f p=>h _ ?_;have F:∃q,x.get? a=some q:=let ⟨q,_,_,i,_⟩:=f;⟨q,i⟩
  exact xP I (by rw[e];exact wbz) p F (FN hl hd (rel.put k J) f)
 ·subst j m;cases(show u=waf b from C);obtain⟨z,hd,G,rel,n⟩:=O0 I.aW e;have o:G.length<=sizeLine:=by rw[<-wgl rel];exact z
  have hl:(putK d k v).length<=sizeLine:=by have:=kh d k v;omega
  refine wpAny_setItem_heap (hsz:=o) (wdy T) (sr I.aW t) n λx f p=>h _ ?_;obtain⟨q,K,L,i,M,N,O,_,P⟩:=f;refine xP I (by rw[e];exact wbz) p ⟨q,i⟩ ⟨hl,hd,_,(rel.put k t J).keeps λc R B=>?_,q,K,L,i,M,N,O,P⟩;rw[aa (Nn B e (λz=>nomatch z))];exact B
end
section
variable{X:Cx}{pins:List (Addr×Obj)}{σ:St}{H:Hp}{s:Shared}{a:Addr}{kvs:List (Key×V)}{k:Key}{u:Value}{A:Around}{E:Value->Shared->Prop}
end
def O1(i:Expr):Prop:=∀ov iv,wfG i false ov iv=operate [ov,iv] (getItem ov iv)
theorem IM{prog:wat}{w:World}{A:Around}{E:Value->Shared->Prop}{s:Shared}{env:Env}{value slice:Expr}{pos:Pos}{T id:String}{Q:Value->Shared->Prop}
 (hl:weY (.type T) "__getitem__"=pure (some (.builtin id))) (hs:O1 slice)
 (h:wpAny (model prog w) A (eval value env) (λo j=>wpAny (model prog w) A (eval slice env) (λi g=>g.TypeIs o T/\wpAny (model prog w) A (getItem o i) Q E g) E j) E s) :
 wpAny (model prog w) A (eval (.Subscript value slice pos) env) Q E s:=by
 refine Subscript_ (waV h (λo j c=>waV c (λi g a=>?_) λ_ _ x=>x) λ_ _ x=>x);obtain⟨e,a⟩:=a;unfold wgm;refine wa3 ?_;rw[getitemInPython_of_ne e.not_modules];refine wa3 (wpAny_specialOf e hl ?_)
 have fin:wpAny (model prog w) A (wfG slice false o i) (λr b=>wpAny (model prog w) A (letTemporaryGo value o r >>= λ_=>pure r) Q E b) E g:=by
  rw[hs o i];exact wpAny_operating (waV a (λr b d=>wa3 (wpAny_letTemporaryGo (wap d))) λ_ _ x=>x)
 first
  |exact wap (wa3 fin)
  |exact wa3 (wap (wa3 fin))
  |exact wa3 fin
theorem yZ{X:Cx}(I:Inv X j σ H s)(g:dW H a y o):s.TypeIs (.ref a) "dict":=by
 rcases g with⟨c,k,e,_,_⟩ |⟨c,k,b,e,_,_,_⟩
 ·obtain⟨_,_,f,_,d⟩:=m9 I.aW e;exact d.typeIs
 ·obtain⟨_,_,h,_,d⟩:=yY I.aW e;exact d.typeIs
def O2(td ty:TE):TE:=λσ H Q=>td σ H λx H1=>ty σ H1 λy H2=>∃a v,x=.ref a/\dW H2 a y (some v)/\Q v H2
def Rw(ty td:TE):TE:=λσ H Q=>ty σ H λy H1=>td σ H1 λx H2=>∃a o,x=.ref a/\dW H2 a y o/\Q (.bl o.isSome) H2
def IP(ty td:TE):TE:=λσ H Q=>ty σ H λy H1=>td σ H1 λx H2=>∃a o,x=.ref a/\dW H2 a y o/\Q (.bl (!o.isSome)) H2
def Ks(td ty tv:TE):TS:=λD σ H=>tv σ H λv H1=>td σ H1 λx H2=>ty σ H2 λy H3=>∃a H4,x=.ref a/\jn H3 a y v H4/\D.nx σ H4
section
variable{X:Cx}{o i e value:Expr}{pos pos' Rk:Pos}{td ty tv:TE}
theorem dg(j:X.A.units + 1 < wcH)(l:PE X o td)(hi:PE X i ty)(hs:O1 i):PE X (.Subscript o i pos) (O2 td ty):=by
 intro b s σ H Q I h;refine IM PySem.F.slot_dict_getitem.lookup hs (bP (l b s σ H _ I h) λu e ⟨x,f,k,m,n⟩=>bP (hi b e σ f _ k n) λw z ⟨y,p,d,q,a,v,ex,g,r⟩=>?_);subst ex;obtain rfl:u=waf a:=m;exact⟨yZ d g,DN j d g q λB C t c=>⟨v,p,t,c,r⟩⟩
theorem Lp(j:X.A.units + 1 < wcH)(hi:PE X i ty)(l:PE X o td):PC X .In i o (Rw ty td):=by
 intro b s σ H Q I h;refine bP (hi b s σ H _ I h) λv c ⟨y,d,e,f,k⟩=>bP (l b c σ d _ e k) λu w ⟨x,m,n,p,a,q,ex,g,r⟩=>?_;subst ex;obtain rfl:u=waf a:=p;exact Rv j n g f λz t=>⟨.bl q.isSome,m,t,rfl,r⟩
theorem wh(j:X.A.units + 1 < wcH)(hi:PE X i ty)(l:PE X o td):PC X .NotIn i o (IP ty td):=by
 intro b s σ H Q I h;refine bP (hi b s σ H _ I h) λv c ⟨y,d,e,f,k⟩=>bP (l b c σ d _ e k) λu w ⟨x,m,n,p,a,q,ex,g,r⟩=>?_;subst ex;obtain rfl:u=waf a:=p;exact IL j n g f λz t=>⟨.bl (!q.isSome),m,t,rfl,r⟩
theorem dZ(j:X.A.units + 1 < wcH)(l:PE X o td)(hi:PE X i ty)(p:PE X value tv)(hs:wbO value (some (.Subscript o i pos')) pos.line X.env=pure false) :
 PS X (.Assign [.Subscript o i pos'] value pos) (Ks td ty tv):=by
 intro b s σ H D I h;refine wpAny_Assign_Subscript (bP (p b s σ H _ I h) λr c ⟨v,d,e,f,k⟩=>bP (l b c σ d _ e k) λu m ⟨x,n,q,t,w⟩=>bP (hi b m σ n _ q w) λG J ⟨y,K,z,B,a,C,ex,g,E⟩=>?_) hs;subst ex;obtain rfl:u=waf a:=t;exact DP j z g B f λL F=>⟨σ,C,F,E⟩
end
theorem su(h:Heap)(g:wcP < h.objs.size):bG P w H (h.push {cls:=.type "dict",data:=.dict #[]}) h.objs.size (.dK []):=
 ⟨waM _,beq_eq_false_iff_ne.mpr (wbc (war g)),[],.nil,Heap.DictOf.new h⟩
def Lq:TE:=λ_ H Q=>∀p,H p=none->Q (.ref p) (upd H p (.dK []))
section
variable{X:Cx}{pos:Pos}
theorem dX:PE X (.Dict [] [] pos) Lq:=λb s σ H Q I h=>
 wpAny_Dict_empty ⟨.ref s.heap.objs.size,_,I.laid (a:=s.heap.objs.size) (o:=.dK []) (t':=s.toks) (λ_ _ q=>wa8 _ q) (wab _) (su s.heap I.big),rfl,h _ (I.aW.fresh (wab _))⟩
end
def AZ:List (TE×TE)->St->Hp->(List (V×V)->Hp->Prop)->Prop
 |[],_,H,Q=>Q [] H
 |(tk,tv) :: r,σ,H,Q=>tk σ H λx H1=>tv σ H1 λy H2=>AZ r σ H2 λps H3=>Q ((x,y) :: ps) H3
abbrev VV:List (V×V)->List (Value×Value)->Prop:=Paired λp q=>RelV p.1 q.1/\RelV p.2 q.2
def Qi(X:Cx)(pos:Pos)(keys:List (Option Expr))(values:List Expr)(Rx:List (TE×TE)):Prop:=
 ∀(pins:List (Addr×Obj)) (s:Shared) (σ:St) (H:Hp) (Q:List (V×V)->Hp->Prop),Inv X pins σ H s->AZ Rx σ H Q ->
  wpAny (model X.prog X.w) X.A (evalPairs (pairTrees keys values X.env pos)) (λvs s'=>∃ps H',Inv X pins σ H' s'/\VV ps vs/\Q ps H') X.xe s
theorem CK{X:Cx}:Qi X pos [] [] []:=λa s σ H Q I h=>pairTrees_nil_walk ⟨[],H,I,.nil,h⟩
theorem z0{X:Cx}(j:PE X k tk)(l:PE X v o)(p:Qi X pos r vs g) :
 Qi X pos (some k :: r) (v :: vs) ((tk,o) :: g):=λa s σ H Q I h=>
 pairTrees_cons_walk (bP (j a s σ H _ I h) λu b ⟨x,c,d,e,f⟩=>bP (l a b σ c _ d f) λB i ⟨y,m,n,q,t⟩=>
  bP (p a i σ m _ n t) λC D ⟨ps,w,z,rel,A⟩=>⟨(x,y) :: ps,w,z,.cons ⟨e,q⟩ rel,A⟩)
noncomputable def jo(kvs more:List (Key×V)):List (Key×V):=more.foldl (λacc kv=>putK acc kv.1 kv.2) kvs
theorem KV.merge:∀{more:List (Key×V)} {g:List (Key×Value)} {kvs:List (Key×V)} {vs:List (Key×Value)},KV more g->KV kvs vs->KV (jo kvs more) (merged vs g):=by
 intro more g kvs vs r;unfold KV at r
 induction r generalizing kvs vs with
 |nil=>intro q;exact q
 |@cons p q ps c h t a=>
  intro b
  have e:KV (putK kvs p.1 p.2) (stored vs q.1 q.2):=by
   have:=b.put p.1 h.2;rw[<-h.1];exact this
  exact a e
theorem vg:∀(more kvs:List (Key×V)),(jo kvs more).length<=kvs.length + more.length:=by intro more;induction more <;> grind [putK,kh,jo,waK]
theorem sv:∀{kvs:List (Key×V)} {ws:List (Value×Value)},VV (kvs.map λj=>(kV j.1,j.2)) ws->∃g,Carries (bf P w) ws g/\KV kvs g
 |[],_,r=>by rw[weg]at r;cases r;exact⟨[],wbz,.nil⟩
 |p :: kvs,_,r=>by
  rw[waw]at r
  cases r with
  |@cons a b as bs h t=>
   obtain⟨g,c,q⟩:=sv (P:=P) (w:=w) t;obtain⟨e,d⟩:=b;exact⟨(p.1,d) :: g,⟨we h.1,rfl,c⟩,.cons ⟨rfl,h.2⟩ q⟩
def O3(Rx:List (TE×TE)):TE:=λσ H Q=>∀p,H p=none->AZ Rx σ (upd H p (.dK [])) λps H2=>H2 p=some (.dK [])/\∃kvs:List (Key×V),ps=kvs.map (λkv=>(kV kv.1,kv.2))/\kvs.length<=15/\Q (.ref p) (upd H2 p (.dK (jo [] kvs)))
theorem CL{X:Cx}(h:Qi X pos keys values j)(g:keys.all (·.isSome)=true)(hl:keys.length=values.length)(p:keys≠[])
 (l:keys.length<=15):PE X (.Dict keys values pos) (O3 j):=by
 intro b s σ H Q I q;have hn:=I.aW.fresh (wab s.heap.objs.size);have k:=I.laid (a:=s.heap.objs.size) (o:=.dK []) (h':=s.heap.push {cls:=.type "dict",data:=.dict #[]}) (t':=s.toks) (λ_ _ q=>wa8 _ q) (wab _) (su s.heap I.big);refine wpAny_Dict_walk (knd:=bf X.prog X.w) g hl p l (bP (h b _ σ _ _ k (q _ hn)) λE F ⟨ps,G,i,rel,e,d,m,lk,n⟩=>?_);subst m;obtain⟨r,c,t⟩:=sv (P:=X.prog) (w:=X.w) rel;obtain⟨z,hd,u,v,x⟩:=sq i.aW e;cases v;refine⟨r,c,x,λh' f y=>⟨.ref s.heap.objs.size,_,?_,rfl,n⟩⟩
 have A:(jo [] d).length<=sizeLine:=by
  have B:=vg d [];rw[wfy]at B;rw[wc2];omega
 have C:∃q,h'.get? s.heap.objs.size=some q:=let ⟨q,_,_,D,_⟩:=f;⟨q,D⟩
 exact xP i (by rw[e];exact wbz) y C (FN A hd (t.merge .nil) f)
structure M2(X:Cx)(o:Expr)(m:Str)(apos:Pos)(e f:Expr)(gZ:Pos):Prop where
 base:wci o m X.env (eval o X.env)=eval o X.env
 few:((backTo gZ (starEach [e,f] X.env)).all (λx=>!x.1) && (backToKw gZ (wdk [] X.env)).all (λx=>x.1.isSome)
  && decide (([e,f]:List Expr).length + ([]:List wf4).length + (if ([]:List wf4).isEmpty then 0 else 1) < 30))=true
 line:(apos.endLine == gZ.line)=true
 trees:backTo gZ (starEach [e,f] X.env)=[(false,eval e X.env),(false,eval f X.env)]
section
variable{X:Cx}{pins:List (Addr×Obj)}{σ:St}{H:Hp}{s:Shared}{a:Addr}{y d:V}{u r:Value}{o:Option V}{A:Around}{E:Value->Shared->Prop}
end
section
variable{X:Cx}{o e f:Expr}{apos gZ:Pos}{td ty tx:TE}
end
section
variable{X:Cx}{pins:List (Addr×Obj)}{σ:St}{H:Hp}{s:Shared}{a:Addr}{kvs:List (Key×V)}{A:Around}{E:Value->Shared->Prop}
end
section
variable{X:Cx}{pins:List (Addr×Obj)}{σ:St}{H:Hp}{s:Shared}{a:Addr}{y:V}{u:Value}{A:Around}{E:Value->Shared->Prop}
end
end L2
namespace Uv
open PySem PySem.W PySem.Calls PyProof.Rows
theorem rm:∀(ns:List Int) (vs:List Value),WellAll P h vs (ns.map WData.int)->IntsAre vs ns:=by
 intro ns
 induction ns with
 |nil=>
  intro vs w;rw[weg]at w;cases w;exact .nil
 |cons n ns c=>
  intro vs w;rw[waw]at w
  cases w with
  |cons a b=>
   cases a;exact .cons _ _ (c _ b)
theorem DQ{l:weo}{n:Nat}(hn:l.most=some n){P:Params}{h:Heap}{args:List WData}{g:List Value}
 (j:l.row.toRowW.claim.pre args=true) (o:WellAll P h g args) :
 ∃a vs ns,g=[waf a]/\args=[WData.list (ns.map WData.int)]/\h.get? a=some {cls:=.type "list",data:=.seq vs.toArray}/\IntsAre vs ns/\ns.length<=n:=by
 have i:WShape.hasAll [] args [.list .int]=true:=(pre_splitW j).1;have hc:l.pre.holds [] {args:=args}=true:=(pre_splitW j).2;obtain⟨d,r,rfl,k,m⟩:=hasAllW_cons i;obtain rfl:=hasAllW_nil m;obtain⟨w,rfl,p⟩:=hasW_list k;obtain⟨ns,rfl⟩:=items_int p
 have b:ns.length<=n:=by
  unfold OpenLaw.pre at hc
  have e:(WTm.not (.lt (.lit (.int (n:Int))) (.len (.arg 0)))).holds [] {args:=[.list (ns.map .int)]}=true:=by
   have e:=(holds_andW hc).1;rw[hn]at e;exact e
  have f:=condW_of e (w_not (w_lt w_lit (w_len_list (w_arg rfl))));rw[wa0]at f;refine wf8 λq=>?_;have s:(n:Int) < ((ns.length:Nat):Int):=by omega
  first
   |(rw[decide_eq_true s]at f;exact absurd f (by decide))
   |(simp at f;omega)
 cases o with
 |cons t u=>
  cases u
  cases t with
  |list v c=>exact⟨_,_,ns,rfl,rfl,v,rm ns _ c,b⟩
theorem DR(l:weo)(args:List WData):l.row.toRowW.claim.post args (.bool true) args=true:=
 postW_of (r:=l.row.toRowW) (X:=(true == true))
  (show WShape.has [] (.bool true) .bool=true by first |rfl |decide |simp[WShape.has,WShape.arms,WShape.armsAll])
  (show (WTm.eq .res (.lit (.bool true))).value [] {args:=args,res:=some (.bool true),after:=args}=some (.bool (true == true)) from w_eq_bool (w_res rfl) w_lit) rfl
theorem z4{l:weo}{n:Nat}{q:wat}{loose:List Str}{XP:(Str->Option Value)->Heap->Prop}{YP:World->Heap->Prop}{d:DefRec}
 (hn:l.most=some n) (C:d.params.defaults=[])
 (call:∀(w:World) (s₀ g:Shared) (mg I:Str->Option Value) (p:Addr) (o:Obj) (pm cd j:Value) (a:Addr) (vs:List Value) (ns:List Int),
   Ground q loose [] XP w s₀ mg I g.heap->YP w g.heap ->
   g.heap.get? p=some o->o.data=.func (docDef d.name d.params d.body d.scope pm cd j)->g.heap.CodeRec cd d.name->mg d.name=some (.ref p) ->
   g.heap.get? a=some {cls:=.type "list",data:=.seq vs.toArray}->IntsAre vs ns->ns.length<=n->g.gens=#[] ->
   codeAny (model l.prog w) callerA (.call (.ref p) ⟨[.ref a],[]⟩) (λr s'=>r=.ok (.ret (.bool true))/\OldK g.heap s'.heap/\s'.os=g.os/\AllBare s'.gens) g) :
 whi q loose XP YP l.row.toRowW d [] (λf vs=>whl f vs):=by
 intro w s₀ g mg I G Y p o pm cd j v kV x hd i s k y args t as c u z m A;obtain rfl:v=.none:=Dflts.none s C;obtain rfl:kV=.none:=Dflts.noKw s;obtain⟨a,vs,ns,rfl,rfl,e,b,h⟩:=DQ hn c m;refine enter_call (wbT (call w s₀ g mg I p o pm cd j a vs ns G Y x (fd_plain hd) i k e b h y) λr s' B=>?_);obtain⟨rfl,D,E,F⟩:=B;exact⟨.inl ⟨.bool true,.bool true,[],rfl,λ_=>rfl,.bool true,DR l _,λ_=>⟨List.Pairwise.nil,λ_ H=>(nomatch H)⟩⟩,D,E,F⟩
section
variable{prog:wat}{w:World}{A:Around}{E:Value->Shared->Prop}{s:Shared}{K:Frag}
end
end Uv
namespace L2
open PySem PySem.Spec PyProof.Rows
theorem wj:∀{vs:List Value} {ns:List Int},IntsAre vs ns->Vals (ns.map V.int) vs
 |_,_,.nil=>.nil
 |_,_,.cons n t h=>.cons ⟨t,rfl⟩ (wj h)
def Only(H:Hp):Prop:=∀b,H b=none\/∃o xs,H b=some (.frz o (.lst xs))
theorem FO{P:wat}{w:World}{K:wa1}{mg I:Str->Option Value}{CX:CI}{k:Nat}{J a:Addr}{fd:wae}{x:Str}{sp:Sp}{g:Shared}{vs:List Value}{ns:List Int}
 (KX:K.In g.heap) (p:g.heap.Ns waL mg) (j:g.heap.Ns builtinsNs I) (T:∀x:Str,x≠"__name__"->I x=waR x) (C:g.heap.NoLimit) (hg:g.gens=#[])
 (ha:g.heap.get? a=some {cls:=.type "list",data:=.seq vs.toArray}) (hi:IntsAre vs ns) (hl:ns.length<=sizeLine) (hr:cT k callerA)
 (F:∀base:Heap,K.In base->base.Ns waL mg->aN P w K mg base CX k J fd [x] sp) (l:∀(s:Shared) (u:Value),BindsTo s fd ⟨[u],[]⟩ [(x,u)])
 (U:∀H:Hp,Only H->aH K H a (ns.map V.int)->sp [.ref a] H (λv _=>v=.bl true) λ_ _ _=>False)
 (WV:∀H e s',CX [] H g (λ_ _ _=>False) e s'->False) :
 codeAny (model P w) callerA (.call (.ref J) ⟨[.ref a],[]⟩) (λr s'=>r=.ok (.ret (.bool true))/\OldK g.heap s'.heap/\s'.os=g.os/\AllBare s'.gens) g:=by
 have L:=wj hi;have f:=hi.length
 have core:∀H:Hp,Only H->aH K H a (ns.map V.int)->j8 P w H g.heap->(∀b,H b≠none->b=a)->(H a≠none->K.lookup a=none) ->
  codeAny (model P w) callerA (.call (.ref J) ⟨[.ref a],[]⟩) (λr s'=>r=.ok (.ret (.bool true))/\OldK g.heap s'.heap/\s'.os=g.os/\AllBare s'.gens) g:=by
  intro H M Q aW N R;have CM:∀{b:Addr} {o:Obj},g.heap.get? b=some o->H b=none->(xI g.heap H).get? b=some o:=λe n=>Fi e n
  have D:∀{b:Addr} {o:Obj} {i:Array DictEntry} {t:Nat},g.heap.get? b=some o->o.data=.dict i t->H b=none:=λ{b o i t} e d=>by
   cases q:H b with
   |none=>rfl
   |some u=>
    have E:b=a:=N b (by rw[q];simp);subst E;rw[ha]at e;cases e;have S:Data.seq vs.toArray _=Data.dict i t:=d;cases S
  have c:∀{b:Addr} {m:Str->Option Value},g.heap.Ns b m->(xI g.heap H).Ns b m:=λ{b m} ⟨o,i,t,e,d,r⟩=>⟨o,i,t,CM e (D e d),d,r⟩
  have y:K.In (xI g.heap H):=λb o e=>CM (KX b o e) (by
   cases q:H b with
   |none=>rfl
   |some u=>
    have E:b=a:=N b (by rw[q];simp);subst E
    rw[R (by rw[q];simp)]at e;cases e)
  have X:Mod K mg (xI g.heap H):=⟨y,c p,⟨I,c j,T⟩,let ⟨Y,Z,h2⟩:=C;⟨Y,c Z,h2⟩⟩;have e0:va P w K mg (xI g.heap H) callerA [] g H:=⟨rfl,X,λb o e=>Iu e,wec (DF _ _),trivial,λb j=>absurd (show b∈([]:List Addr) from j) (by simp),aW,.of_eq hg⟩;refine wbT ((F _ y (c p)).run callerA [] g H ⟨[.ref a],[]⟩ [.ref a] [.ref a] _ _ hr e0 (l g (.ref a)) (.cons rfl .nil) (U H M Q)) λr s' h=>?_
  cases r with
  |error e=>exact(WV H e s' h).elim
  |ok fl=>
   cases fl with
   |next=>exact waS h
   |brk=>exact waS h
   |cont=>exact waS h
   |ret u=>
    obtain⟨v,H',os,bare,un,A,r',q⟩:=h;have q':v=.bl true:=q;subst q';obtain rfl:u=wg9 true:=r';refine⟨rfl,OldK.of_keep λb o e=>?_,os,bare⟩
    cases q:H b with
    |none=>exact un.keep b o e q (by intro z;exact absurd (show b∈([]:List Addr) from z) (by simp)) (by simp)
    |some u=>
     rcases M b with z |⟨ob,xs,z⟩
     ·rw[q]at z;cases z
     ·have z2:=un.ja b ob _ z;obtain⟨O,_⟩:=aW b _ z;obtain⟨e2,_⟩:=A b _ z2;rw[e]at O;cases O;exact e2
 cases G:K.lookup a with
 |some o=>
  have e:=KX a o G;rw[ha]at e;cases e;refine core (λ_=>none) (λ_=>.inl rfl) (.inr ⟨_,vs.toArray,_,G,rfl,rfl,rfl,by rw[waD,f];exact hl,by simpa using L⟩) (λb u z=>by have B:(none:Option HO)=some u:=z;cases B) (λb z=>absurd rfl z) λz=>absurd rfl z
 |none=>
  refine core (λb=>if b=a then some (.frz {cls:=.type "list",data:=.seq vs.toArray} (.lst (ns.map V.int))) else none) (λb=>?_) (.inl (.inr ⟨{cls:=.type "list",data:=.seq vs.toArray},if_pos rfl⟩)) (λb u z=>?_) (λb z=>?_) λ_=>G
  ·by_cases j:b=a
   ·exact .inr ⟨_,_,if_pos j⟩
   ·exact .inl (if_neg j)
  ·by_cases j:b=a
   ·have B:=(if_pos j).symm.trans z;cases B;subst j;exact⟨ha,by rw[wa0];exact hl,vs,_,L,ha⟩
   ·have B:=(if_neg j).symm.trans z;cases B
  ·by_cases j:b=a
   ·exact j
   ·exact absurd (if_neg j) z
noncomputable abbrev ZV{K:wa1}{h:Heap}(_:K.In h):wa1:=K
theorem IQ{l:weo}{n k:Nat}{q:wat}{loose:List Str}{XP:(Str->Option Value)->Heap->Prop}{YP:World->Heap->Prop}{d:DefRec}{K:Params->wa1}{CX:World->CI}{sp:World->Sp}{x:Str}
 (hn:l.most=some n) (r:n<=sizeLine) (C:d.params.defaults=[]) (U:cT k callerA)
 (hY:∀(w:World) (h:Heap),YP w h->(K w.params).In h)
 (F:∀(w:World) (mg:Str->Option Value) (p:Addr) (h:Heap),(K w.params).In h->h.Ns waL mg->mg d.name=some (.ref p) ->
   ∃fd:wae,(∀(s:Shared) (u:Value),BindsTo s fd ⟨[u],[]⟩ [(x,u)]) /\
    ∀base:Heap,(K w.params).In base->base.Ns waL mg->aN l.prog w (K w.params) mg base (CX w) k p fd [x] (sp w))
 (I:∀(w:World) (H:Hp) (a:Addr) (ns:List Int),ns.length<=n->Only H->aH (K w.params) H a (ns.map V.int)->sp w [.ref a] H (λv _=>v=.bl true) λ_ _ _=>False)
 (J:∀(w:World) (H:Hp) (s:Shared) (e:Value) (s':Shared),CX w [] H s (λ_ _ _=>False) e s'->False) :
 whi q loose XP YP l.row.toRowW d [] (λf vs=>whl f vs):=by
 refine Uv.z4 hn C λw y j mg O p o pm P A a vs ns G Y Q hd B t m i c D=>?_;have z:=hY w _ Y;obtain⟨fd,E,L⟩:=F w mg p _ z G.T.g t;exact FO z G.T.g G.T.b G.T.builtins G.T.nolimit D m i (wal c r) U L E (λH M N=>I w H a ns c M N) λH e s'=>J w H j e s'
noncomputable def inClass(s:Stmt)(j:Nat):Stmt:=match s with
 |.ClassDef _ _ _ body _ _ _ _ _ _ _=>body.getD j (.Pass ⟨0,0,0,0⟩)
 |_=>.Pass ⟨0,0,0,0⟩
noncomputable def cU(s:Stmt):Arguments:=match s with
 |.FunctionDef _ a _ _ _ _ _ _ _ _=>a
 |_=>{posonlyargs:=[],args:=[],vararg:=none,kwonlyargs:=[],kw_defaults:=[],kwarg:=none,defaults:=[]}
noncomputable def bR(s:Stmt):List Stmt:=match s with
 |.FunctionDef _ _ b _ _ _ _ _ _ _=>b
 |_=>[]
noncomputable def aD(s:Stmt):wcQ:=match s with
 |.FunctionDef _ _ _ _ _ _ sc _ _ _=>sc
 |_=>{kind:=.function,names:=[],isGenerator:=false,isCoroutine:=false}
noncomputable abbrev dm:CI:=λ_ _ _ _ _ _=>False
abbrev E0:XK:=λ_ _ _=>False
theorem eO{X:Cx}:Passes dm X E0:=λ_ _ _ _ _ _ _ h=>h.elim
structure yM(K:wa1)(x qual:Str)(st:Stmt)(f:Addr)(fd:wae):Prop where
 ex:∃(oc:Value) (od:Option Addr) (kV doc pm:Value) (an:Option Addr) (gK ct:Value) (FP:Array (Option Value)),
  fd=wcd x qual (cU st) (bR st) (aD st) .none kV doc pm an gK ct/\K.lookup f=some ⟨oc,od,.func fd,FP⟩/\wdH K gK qual=true
 kp:wcD K (.ref f)=true
section
variable{P:wat}{w:World}{K:wa1}{mg:Str->Option Value}{base:Heap}
theorem yM.ok{x g:Str}{st:Stmt}{f:Addr}{fd:wae}{N ps:List Str}{k:Nat}{sp:Sp}(F:yM K x g st f fd)(S:rH N ps (aD st))(len:∀vs H Q E,sp vs H Q E->vs.length=ps.length)
 (l:∀(j:Value) (A:Around) (outer:List Env) (s:Shared) (H:Hp) (vs:List V) (Q:VK) (E:XK),cT k (A.deeper (envOfC g (aD st) s.heap.objs.size f j))->sp vs H Q E ->
   ∃t,uY (vd dm P w K mg base N g (aD st) f j A outer s H E).AJ (bR st) t/\t {nx:=λ_ o=>Q .non o,rt:=Q} (start N vs) H):aN P w K mg base dm (k + 1) f fd ps sp:=by
 obtain⟨i,m,kV,c,pm,n,j,ct,d,rfl,lk,a⟩:=F.ex;refine Ko lk a S len λA outer s H vs Q E e b=>?_;obtain⟨t,h,q⟩:=l j A outer s H vs Q E e b;exact⟨t,h.AJ,q⟩
theorem yM.binds{x g:Str}{st:Stmt}{f:Addr}{fd:wae}{ps:List Str}(F:yM K x g st f fd)
 (h:∀(kV j pm:Value) (o:Option Addr) (l ct:Value) (us:List Value),us.length=ps.length->bindArgs (wcd x g (cU st) (bR st) (aD st) .none kV j pm o l ct) ⟨us,[]⟩=pure (ps.zip us)):Binds K fd ps []:=by
 obtain⟨c,d,kV,j,pm,o,l,ct,a,rfl,lk,b⟩:=F.ex;exact .all (h kV j pm o l ct)
theorem FQ{x g:Str}{st:Stmt}{f:Addr}{C:Value}{od r:Option Addr}{p:Array (Option Value)}{kV o pm j ct:Value}(l:K.lookup f=some ⟨C,od,.func (wcd x g (cU st) (bR st) (aD st) .none kV o pm r j ct),p⟩)
 (c:wdH K j g=true) (k:wcD K (.ref f)=true):yM K x g st f (wcd x g (cU st) (bR st) (aD st) .none kV o pm r j ct):=⟨⟨C,od,kV,o,pm,r,j,ct,p,rfl,l,c⟩,k⟩
end
theorem fz(g:cT k A):A.units + 1 < wcH:=wba (Nat.add_le_add_left (by decide:1<=64) _) g.units
theorem bF(h:n<=1000):n < sizeLine:=wba h (by decide)
section
variable{X:Cx}
theorem pv(i:Nat)(j:X.N[i]?=some x:=by rfl)(l:MU X.env.scope x:=by first |exact wdi rfl |exact Or.inr (wdi rfl) |exact Or.inr (Or.inr rfl))(hd:(x == ("__debug__":Str))=false:=by decide)
 (g:(x == ("__classdict__":Str))=false:=by decide):PE X (.Name x pos) (Iy i):=Fl j l hd g
end
theorem bA{A B:Prop}(h:B):if false=true then A else B:=by
 grind
theorem dF{A B:Prop}(h:A):if true=true then A else B:=by
 grind
theorem DS{c A B:Prop}[Decidable c](g:c->A)(j:¬c->B):if c then A else B:=by
 by_cases h:c
 ·rw[if_pos h];exact g h
 ·rw[if_neg h];exact j h
def a9(H H':Hp):Prop:=∀b o,H b=some o->H' b=some o
theorem a9.refl(H:Hp):a9 H H:=λ_ _ h=>h
theorem a9.trans(a:a9 H g)(b:a9 g j):a9 H j:=λc o h=>b c o (a c o h)
theorem a9.free(e:a9 H g)(h:g l=Option.none):H l=Option.none:=by
 cases q:H l with
 |none=>rfl
 |some o=>
  rw[e l o q]at h;cases h
theorem a9.seq{K:wa1}{H g:Hp}{a:Addr}{xs:List V}(e:a9 H g)(h:aH K H a xs):aH K g a xs:=by
 rcases h with(h |⟨o,h⟩) |h
 ·exact .inl (.inl (e _ _ h))
 ·exact .inl (.inr ⟨o,e _ _ h⟩)
 ·exact .inr h
section
variable{κ:Type}[DecidableEq κ]
theorem z5{kvs:List (κ×V)}{k:κ}(h:bz kvs k=none):¬k∈kvs.map (·.1):=by
 intro m;obtain⟨p,a,e⟩:=waa.mp m;have q:(kvs.any λb=>decide (b.1=k))=true:=wco.mpr ⟨p,a,decide_eq_true e⟩;rw[gd,h]at q;exact absurd q (by simp)
theorem rJ{kvs:List (κ×V)}{k:κ}{v:V}(h:bz kvs k=some v):k∈kvs.map (·.1):=by
 have q:(kvs.any λa=>decide (a.1=k))=true:=by
  rw[gd,h]
  all_goals rfl
 obtain⟨p,b,e⟩:=wco.mp q;exact waa.mpr ⟨p,b,of_decide_eq_true e⟩
theorem IU:∀{l:List κ} {k:κ},l.Nodup->¬k∈l->(l++[k]).Nodup:=by intro l;induction l <;> grind
theorem CQ{kvs:List (κ×V)}{k:κ}(v:V)(hn:(kvs.map (·.1)).Nodup)(h:bz kvs k=none):((putK kvs k v).map (·.1)).Nodup:=by
 rw[cI v h,waj];exact IU hn (z5 h)
end
theorem a9.upd(h:H a=none):a9 H (upd H a o):=λb u e=>by rw[aa (ae e h)];exact e
structure lY(J:It)(Ok:Hp->Prop)(xs:List V):Prop where
 go:∀i H,Ok H->i < xs.length->J.go i H
 uW:∀i H x H',Ok H->i < xs.length->J.uW i H x H'->H'=H/\xs[i]?=some x
 stop:∀H,Ok H->J.stop xs.length H
theorem aK(K:wa1)(a:Addr)(xs:List V):lY (MX K a) (λH=>aH K H a xs) xs:=
 ⟨λi H q hi=>⟨xs,xs[i],q,by simp[hi]⟩,λi H x b q _ y=>⟨y.1,y.2 xs q⟩,λH q=>⟨xs,q,wab _⟩⟩
noncomputable def Qj(n:Nat)(val:Nat->V):It:=⟨λi _=>i < n,λi H x H'=>H'=H/\x=val i,λi _=>n<=i⟩
theorem Lr{val:Nat->V}(hn:xs.length=n)(g:∀i x,xs[i]?=some x->val i=x):lY (Qj n val) (λ_=>True) xs:=by
 subst hn;refine⟨λi H _ hi=>hi,λi H x a _ hi y=>⟨y.1,?_⟩,λH _=>wab _⟩;have e:xs[i]?=some xs[i]:=by simp[hi]
 rw[e,y.2,g i _ e]
theorem mN(lo:Int)(n:Nat):lY (Kj lo n) (λ_=>True) ((waJ n).map λi=>V.int (lo + (i:Nat))):=by
 refine⟨λi H _ hi=>(show i < n by simpa using hi),λi H x b _ hi y=>⟨y.1,?_⟩,λH _=>?_⟩
 ·have a:i < n:=by simpa using hi
  rw[y.2];simp[a]
 ·show n<=_;simp
theorem mO{J:It}{Ok:Hp->Prop}{xs:List V}{g:TG}{I:TS}{D:Ends}{σ:St}{H:Hp}(r:lY J Ok xs)(Pv:Nat->St->Hp->Prop)(U:Pv 0 σ H)(hS:∀i σ H,i<=xs.length->Pv i σ H->Ok H)
 (hs:∀i x σ H,xs[i]?=some x->Pv i σ H->g x σ H λl C=>I {D with nx:=Pv (i + 1),ct:=Pv (i + 1),bk:=D.nx} l C) (hd:∀σ H,Pv xs.length σ H->D.nx σ H) :
 ∃W:Nat->Nat->St->Hp->Prop,(∃m,W 0 m σ H)/\∀i m σ H,W i m σ H ->
  (J.stop i H/\D.nx σ H)\/(J.go i H/\∃N:St->Hp->Prop,(∀o j,N o j->∃T,T < m/\W (i + 1) T o j)/\∀x j,J.uW i H x j->g x σ j λl C=>I {D with nx:=N,ct:=N,bk:=D.nx} l C):=by
 refine⟨λi m σ H=>m=xs.length - i/\i<=xs.length/\Pv i σ H,⟨xs.length,by simp,waM _,U⟩,?_⟩;rintro i m σ H ⟨rfl,hi,p⟩;have q:=hS i σ H hi p
 by_cases a:i < xs.length
 ·refine .inr ⟨r.go i H q a,Pv (i + 1),λo j b=>⟨xs.length - (i + 1),by omega,rfl,a,b⟩,λx j y=>?_⟩;obtain⟨e,c⟩:=r.uW i H x j q a y;subst e;exact hs i x σ _ c p
 ·have e:i=xs.length:=by omega
  subst e;exact .inl ⟨r.stop H q,hd σ H p⟩
abbrev Kt(nm:String):Prop:=["enumerate","zip","dict_itemiterator","dict_reverseitemiterator","odict_iterator","itertools.zip_longest","itertools.pairwise"].contains nm=false
theorem B1{P:wat}{w:World}{K:wa1}{T:Expr}{it:Addr}{n:Nat}{Pv:Nat->Value->Prop}{St:Nat->Heap->Prop}{val:Nat->V}
 (J:∀A:Around,A.handled=none->Walks P w A it [it] [it] n Pv St)
 (g:∀i h,St i h->∃(o:Obj) (nm:String) (vs:Array Value),h.get? it=some o/\o.cls=.type nm/\o.data=.fields vs/\Kt nm)
 (j:∀i h h',St i h->(∀o,h.get? it=some o->h'.get? it=some o)->St i h')
 (l:∀(A:Around) (i:Nat) (s:Shared) (Q:Value->Shared->Prop) (E:Value->Shared->Prop),St i s.heap->Q (.ref it) s->wpAny (model P w) A (pyIter (.ref it)) Q E s)
 (p:∀i u,Pv i u->RelV (val i) u):Turn P w K T (Qj n val) [it] it (λi h=>St i h/\i<=n) where
 mem:=by simp
 obj:=λi h st b f=>by
  have e:b=it:=by simpa using f
  subst e;obtain⟨o,nm,vs,e,c,d,_⟩:=g i h st.1;exact⟨o,e,λv z=>by rw[d]at z;cases z⟩
 keep:=λi h h' st k=>⟨j i h h' st.1 λo e=>k it (by simp) o e,st.2⟩
 item:=by
  intro X t hw x hc i a s σ H E I q st r;subst t hw x;obtain⟨y,f1,f2,B,C,D⟩:=q it (by simp);refine(J X.A (I.ok.hd hc)).item i s _ _ r st.1 λv h' F L m G=>?_;have M:Inv X a σ H {s with heap:=h',toks:=F}:=I.turned (λb o f e=>G b o (by simpa using f) e) y f1 B C D;obtain⟨o,nm,vs,e,c,d,hn⟩:=g _ _ m;exact⟨_,rfl,CC (s:={s with heap:=h',toks:=F}) e c d hn ⟨val i,H,M,p i v L,⟨rfl,rfl⟩,⟨m,r⟩,λb f=>(q b f).1⟩⟩
 done:=by
   intro X t hw x hc i a s σ H E I q st r;subst t hw x;obtain⟨y,f1,f2,B,C,D⟩:=q it (by simp)
   have e:i=n:=by
    have N:=st.2;have O:n<=i:=r;omega
   subst e;exact(J X.A (I.ok.hd hc)).done s _ _ st.1 λh' F G=>⟨rfl,I.turned (λb o f e=>G b o (by simpa using f) e) y f1 B C D⟩
 self:=λA i s Q E st h=>l A i s Q E st.1 h
noncomputable def CT(z:Str)(i:Nat):V:=.str ⟨#[z.cps.getD i 0]⟩
noncomputable def dQ(z:Str):List V:=z.cps.toList.map λc=>V.str ⟨#[c]⟩
theorem nK(z:Str):lY (Qj z.cps.size (CT z)) (λ_=>True) (dQ z):=by simp_all [Lr,dQ,wa4,wah,wcw,CT,wd7]
def Ry(tl:TE):TI:=λσ H R=>tl σ H λx H1=>∃z,x=.str z/\R (Qj z.cps.size (CT z)) H1
section
variable{X:Cx}{tg:Expr}
theorem xQ{l:Expr}{C:TE}(hl:PE X l C):PI X tg l (Ry C):=by
 intro f s σ H R I h;refine bP (hl f s σ H _ I h) λv a ⟨x,B,n,D,F⟩=>?_;obtain⟨z,e,q⟩:=F;subst e;obtain⟨t,rfl⟩:=D
 have fin:∀(j:String) (o:Obj),(∀m:Around,m.handled=none->Walks X.prog X.w m a.heap.objs.size [a.heap.objs.size] [a.heap.objs.size] z.cps.size (SignAt z) (λi h=>h.IsStrIter a.heap.objs.size j z t i)) ->
  (∀(A:Around) (i:Nat) (s:Shared) (Q:Value->Shared->Prop) (E:Value->Shared->Prop),s.heap.IsStrIter a.heap.objs.size j z t i->Q (.ref a.heap.objs.size) s->wpAny (model X.prog X.w) A (pyIter (.ref a.heap.objs.size)) Q E s) ->
  Kt j->(a.heap.push o).IsStrIter a.heap.objs.size j z t 0->Qe X f σ tg R (.ref a.heap.objs.size) {a with heap:=a.heap.push o}:=by
  intro j o G g p r
  refine⟨a.heap.objs.size,[a.heap.objs.size],_,_,B,rfl,n.kept (t':=a.toks) λb o e=>wa8 _ e,
   B1 (val:=CT z) G (λi h st=>?_) (λi h M st k=>?_) g (λi u J=>?_),⟨r,waM _⟩,λb K=>?_,q⟩
  ·obtain⟨o,e,c,d⟩:=st;exact⟨o,j,_,e,c,d,p⟩
  ·obtain⟨o,e,c,d⟩:=st;exact⟨o,k o e,c,d⟩
  ·obtain⟨c,L,hc,e⟩:=J;refine⟨L,?_⟩;rw[e,wd7,hc];rfl
  ·have e:b=a.heap.objs.size:=by simpa using K
   subst e;exact n.DH (wab _) (n.aW.fresh (wab _))
 cases ha:z.cps.all (· < 128)
 ·exact wpAny_pyIter_wide ha (fin "str_iterator" _ (λm y=>Walks.strWide y _ z t) (λA i s Q E st h=>wpAny_pyIter_striter_wide st h) (by decide) ⟨_,wax _ rfl,rfl,rfl⟩)
 ·exact wpAny_pyIter_ascii ha (fin "str_ascii_iterator" _ (λm y=>Walks.strAscii y _ z t) (λA i s Q E st h=>wpAny_pyIter_striter_ascii st h) (by decide) ⟨_,wax _ rfl,rfl,rfl⟩)
end
theorem Un.sameBut(u:Un fs ex H l h g)(hs:∀b,b≠L->j.get? b=g.get? b)(p:h.objs.size<=L):Un fs ex H l h j:=
 have ne:∀{b:Addr} {o:Obj},h.get? b=some o->b≠L:=λe=>war (wan (wad e) p)
 ⟨λb o e n g j=>(hs b (ne e)).trans (u.keep b o e n g j),λb o e n g j=>let ⟨sl,q⟩:=u.slot b o e n g j;⟨sl,(hs b (ne e)).trans q⟩,u.free,
   λb o e a=>let ⟨c,q⟩:=u.there b o e a;⟨c,(hs b (ne e)).trans q⟩,u.k9,u.ja,u.kc⟩
def Ls(scope:wcQ)(env:Env):Prop:=∀y∈scope.names,y.2=.free->env.kindOf y.1=some .cell\/env.kindOf y.1=some .free
theorem mP:∀{names:List (Str×wdU)} (g:List (Str×Addr)),(∀y∈names,y.2=.free->∃c,env.cells.lookup y.1=some c)->(∀y c,g.lookup y=some c->env.cells.lookup y=some c) ->
 ∃cl:List (Str×Addr),(forIn names g (λ(x:Str×wdU) cs=>(match x with |(name,kind)=>if kind == .free then do let c <-cellOf env name;pure (wcT ((name,c) :: cs)) else pure (wcT cs):Sem (ForInStep (List (Str×Addr))))))=pure cl /\
  (∀y c,cl.lookup y=some c->env.cells.lookup y=some c)/\(∀y c,g.lookup y=some c->∃j,cl.lookup y=some j)/\∀y∈names,y.2=.free->∃c,cl.lookup y.1=some c
 |[],g,_,ha=>⟨g,rfl,ha,λy c e=>⟨c,e⟩,λ_ h=>nomatch h⟩
 |(n,k) :: r,g,i,ha=>by
  rw[List.forIn_cons]
  by_cases f:k=.free
  ·obtain⟨c,hc⟩:=i (n,k) wag f;have l:(k == wcx)=true:=by rw[f];rfl
   obtain⟨cl,m,o,d,p⟩:=mP (env:=env) (names:=r) ((n,c) :: g) (λy a=>i y (wac _ a)) (λy j e=>by
    rw[wdb]at e
    cases q:y == n with
    |true=>
     rw[q]at e;have:c=j:=wah e;subst this;have:y=n:=eq_of_beq q;subst this;exact hc
    |false=>
     rw[q]at e
     exact ha y j e)
   refine⟨cl,?_,o,λy j e=>?_,λy a b=>?_⟩
   ·rw[<-m];simp only[l,if_true];have s:cellOf env n=pure c:=by unfold cellOf;rw[hc]
    rw[s];rfl
   ·by_cases q:y=n
    ·subst q;exact d y c (by simp[wdb])
    ·refine d y j ?_;have:(y == n)=false:=beq_eq_false_iff_ne.mpr q;rw[wdb,this];exact e
   ·rcases waH.mp a with rfl |a
    ·exact d n c (by simp[wdb])
    ·exact p y a b
  ·have l:(k == wcx)=false:=by simpa using f
   obtain⟨cl,m,o,d,p⟩:=mP (env:=env) (names:=r) g (λy a=>i y (wac _ a)) ha;refine⟨cl,?_,o,d,λy a b=>?_⟩
   ·rw[<-m];simp only[l,wbU,if_false];rfl
   ·rcases waH.mp a with rfl |a
    ·exact absurd b f
    ·exact p y a b
theorem mc(g:∀y∈scope.names,y.2=.free->∃c,env.cells.lookup y.1=some c) :
 ∃cl,closureFor scope env=pure cl/\(∀y c,cl.lookup y=some c->env.cells.lookup y=some c)/\∀y∈scope.names,y.2=.free->∃c,cl.lookup y.1=some c:=by
 obtain⟨cl,b,d,_,f⟩:=mP (env:=env) (names:=scope.names) [] g (λy c e=>by simp at e);refine⟨cl,?_,d,f⟩;simp only[closureFor]
 first
  |(rw[b];rfl)
  |(have a:=b;simp only at a ⊢;rw[a];rfl)
  |(refine wdu (congrArg (λm=>m >>= λh=>pure h) ?_) ?_;exact pure cl;exact b;rfl)
theorem xR(g:∀y∈scope.names,y.2≠.cell)(h:(relabel scope env).names.lookup x=some .cell\/(relabel scope env).names.lookup x=some .free):∃k,(x,k)∈scope.names/\k=wcx:=by
 unfold relabel at h;dsimp only at h
 have key:∀(names:List (Str×wdU)),(∀y∈names,y.2≠.cell) ->
  ((names.map λ(n,k)=>if (k == wcx && env.scope.kind == .function && env.kindOf n == some .cell) then(n,weK) else(n,k)).lookup x=some .cell \/
   (names.map λ(n,k)=>if (k == wcx && env.scope.kind == .function && env.kindOf n == some .cell) then(n,weK) else(n,k)).lookup x=some .free)->∃k,(x,k)∈names/\k=wcx:=by
  intro names
  induction names with
  |nil=>grind
  |cons y r a=>
   grind
 exact key scope.names g h
noncomputable def bb(X:Cx)(scope:wcQ)(N:List Str)(cl:List (Str×Addr))(L:Addr)(s:Shared)(H:Hp)(ex:List Addr)(pn:List (Addr×Obj)):Cx where
 prog:=X.prog
 w:=X.w
 K:=X.K
 mg:=X.mg
 base:=X.base
 A:=X.A
 N:=N
 s₀:=s
 H₀:=H
 env:=compEnvC scope cl L X.env
 outer:=X.stack
 stack:=X.stack
 ex:=ex
 fn:=λ_=>false
 calm:=X.calm
 pn:=pn
 xe:=λ_ _=>False
def Ii(X:Cx)(ifs:List Expr)(t:TT):Prop:=
 ∀(pins:List (Addr×Obj)) (s:Shared) (σ:St) (H:Hp) (Q:Bool->Hp->Prop),Inv X pins σ H s->t σ H Q ->
  wpAny (model X.prog X.w) X.A (forIn ifs true λc r=>if r=true then do let ok <-isTrue c X.env (eval c X.env);pure (wcT ok) else pure (wcT r)) (TP X pins σ Q) X.xe s
def vh:TT:=λ_ H Q=>Q true H
theorem bh{X:Cx}:Ii X [] vh:=λ_ _ _ H _ I h=>wpAny_tests_nil ⟨H,I,h⟩
theorem fT{X:Cx}(h:PT X c t):Ii X [c] t:=λa s σ H Q I hw=>wpAny_tests_one (h a s σ H Q I hw)
section
variable{prog:wat}{w:World}{A:Around}{E:Value->Shared->Prop}{R:wcR->Shared->Prop}{s:Shared}
theorem DT(I:Nat->Shared->Prop)
 (J:∀n s,I n s->wpAny (model prog w) A (pyNext it) (λr g=>match r with
   |none=>R (.ok .next) g
   |some v=>wpAny (model prog w) A (we8 target it v) (λ_ j=>wpAny (model prog w) A (assign target env v) (λ_ o=>
     wpAny (model prog w) A (forIn T true λc r=>if r=true then do let ok <-isTrue c env (eval c env);pure (wcT ok) else pure (wcT r)) (λok l=>
      if ok=true then wpAny (model prog w) A (eval U env) (λx p=>
       wpAny (model prog w) A (call (.builtin "list.append") [acc,x]) (λ_ C=>∃m,m < n/\I m C) (notedBy (model prog w) A env λe s'=>R (.error e) s') p) (notedBy (model prog w) A env λe s'=>R (.error e) s') l
      else ∃m,m < n/\I m l) (notedBy (model prog w) A env λe s'=>R (.error e) s') o) (notedBy (model prog w) A env λe s'=>R (.error e) s') j) (notedBy (model prog w) A env λe s'=>R (.error e) s') g) (notedBy (model prog w) A env λe s'=>R (.error e) s') s)
 (n:Nat) (h:I n s) :
 codeAny (model prog w) A (.compLoop (.ListComp U [⟨target,iter,T,0⟩] scope pos) 0 it acc env) R s:=by
 refine codeAny_loop rfl I (λn s t=>?_) n h;show wpAny _ A ((compTurn (.ListComp U [⟨target,iter,T,0⟩] scope pos) 0 it acc env).onRaise (λx=>do noteFrame x env;theTreesLotGoes x)) _ _ s;refine wpAny_noted ?_;rw[compTurn_list];refine wa3 (wdh (wa3 (waV (J n s t) (λr g b=>?_) λ_ _ a=>a)))
 cases r with
 |none=>exact wap b
 |some v=>
  refine wa3 (waV b (λ_ j f=>?_) λ_ _ a=>a);refine wa3 (waV f (λ_ o i=>wa3 (waV i (λok l d=>?_) λ_ _ a=>a)) λ_ _ a=>a)
  cases ok with
  |false=>exact wap ⟨rfl,d⟩
  |true=>
   exact wa3 (wa3 (waV d (λx p k=>wa3 (waV k (λ_ C q=>wap (wap ⟨rfl,q⟩)) λ_ _ a=>a)) λ_ _ a=>a))
end
def md(J:It)(l:Addr)(σf:St)(tt:TT)(te:TE)(H:Hp)(Q:Hp->Prop):Prop:=
 ∃W:Nat->Nat->List V->Hp->Prop,(∃m,W 0 m [] (upd H l (.lst [])))/\∀i m ys H2,W i m ys H2->H2 l=some (.lst ys) /\
  ((J.stop i H2/\Q H2)\/(J.go i H2/\ys.length < sizeLine/\∀x H3,J.uW i H2 x H3->tt (some x :: σf) H3 λb H4=>
    if b=true then te (some x :: σf) H4 λy H5=>H5 l=some (.lst ys)/\∃m',m' < m/\W (i + 1) m' (ys++[y]) (upd H5 l (.lst (ys++[y])))
    else ∃m',m' < m/\W (i + 1) m' ys H4))
def wk(g:TG)(n:Nat)(J:It)(l:Addr)(σf:St)(tt:TT)(te:TE)(H:Hp)(Q:Hp->Prop):Prop:=
 ∃W:Nat->Nat->List V->Hp->Prop,(∃m,W 0 m [] (upd H l (.lst [])))/\∀i m ys H2,W i m ys H2->H2 l=some (.lst ys) /\
  ((J.stop i H2/\Q H2)\/(J.go i H2/\ys.length < sizeLine/\∀x H3 vs,vs.length=n->J.uW i H2 x H3->g x (vs++σf) H3 λσ' H'=>(∃O4,O4.length=n/\σ'=O4++σf)/\tt σ' H' λb H4=>
    if b=true then te σ' H4 λy H5=>H5 l=some (.lst ys)/\∃m',m' < m/\W (i + 1) m' (ys++[y]) (upd H5 l (.lst (ys++[y])))
    else ∃m',m' < m/\W (i + 1) m' ys H4))
def O5{α:Type}:Nat->(List α->Prop)->Prop
 |0,P=>P []
 |n + 1,P=>∀a,O5 n λus=>P (a :: us)
theorem iw{α:Type}:∀n P,O5 n P->∀us:List α,us.length=n->P us
 |0,_,h,[],_=>h
 |n + 1,_,h,a :: us,e=>iw n _ (h a) us (Nat.succ.inj e)
theorem CU(h:md J l g j o H Q):wk (d4 0) 1 J l g j o H Q:=
 let ⟨W,a,t⟩:=h
 ⟨W,a,λi m d e w=>let ⟨p,q⟩:=t i m d e w;⟨p,q.imp id λ⟨a,b,c⟩=>⟨a,b,λx f k n y=>by revert k;refine iw 1 _ ?_;exact λ_=>⟨⟨[some x],rfl,rfl⟩,c x f y⟩⟩⟩⟩
noncomputable def pick(σ:St)(ix:List Nat):St:=ix.map λi=>(σ[i]?).join
def O6(wi:TI)(ix:List Nat)(tt:TT)(te:TE):TE:=λσ H Q=>wi σ H λJ H1=>∀l,H1 l=none->md J l (pick σ ix) tt te H1 (λH2=>Q (.ref l) H2)
def Lv(wi:TI)(ix:List Nat)(tt:TT)(te:TE)(i:Nat):TS:=λD σ H=>wi σ H λJ H1=>∀l,H1 l=none->md J l (pick σ ix) tt te H1 (λH2=>D.nx (σ.set i (some (.ref l))) H2)
structure bK(X:Cx)(scope:wcQ)(x:Str)(ys:List Str)(ix:List Nat):Prop where
 kind:scope.kind=.function
 FR:∀y∈scope.names,y.2≠.cell
 names:∀y∈scope.names,y.2=.local->scope.names.lookup y.1=some .local
 var:scope.names.lookup x=some .local
 free:Ls scope X.env
 nd:(x :: ys).Nodup
 len:ix.length=ys.length
 slots:∀(j:Nat) (y:Str),ys[j]?=some y->∃i:Nat,ix[j]?=some i/\X.N[i]?=some y/\(X.env.scope.names.lookup y=some .cell\/X.env.scope.names.lookup y=some .free)/\scope.names.lookup y=some .free
theorem sx(h:scope.names.lookup x=some .free):(relabel scope env).names.lookup x=some .cell\/(relabel scope env).names.lookup x=some .free:=by
 unfold relabel;dsimp only
 have key:∀(names:List (Str×wdU)),names.lookup x=some .free ->
  ((names.map λ(n,k)=>if (k == wcx && env.scope.kind == .function && env.kindOf n == some .cell) then(n,weK) else(n,k)).lookup x=some .cell \/
   (names.map λ(n,k)=>if (k == wcx && env.scope.kind == .function && env.kindOf n == some .cell) then(n,weK) else(n,k)).lookup x=some .free):=by
  intro names
  induction names with
  |nil=>grind
  |cons y r a=>
   grind
 exact key scope.names h
section
variable{X:Cx}{pins:List (Addr×Obj)}{σ:St}{H:Hp}{s₂:Shared}{scope:wcQ}{x:Str}{xs ys:List Str}{ix:List Nat}{cl:List (Str×Addr)}{fp:List Addr}{L:Addr}
theorem IV(B:bK X scope x ys ix)(I:Inv X pins σ H s₂)(j:∀b∈fp,uZ X pins H b)(l:∀b∈fp,b < s₂.heap.objs.size)(r:s₂.heap.objs.size<=L)
 (g:∀y c,cl.lookup y=some c->X.env.cells.lookup y=some c) (p:∀y∈scope.names,y.2=.free->∃c,cl.lookup y.1=some c):(bb X scope N cl L s₂ H fp (X.pn++pins)).Ok where
 mod:=I.ok.mod
 kind:=B.kind
 glob:=I.ok.glob
 blt:=I.ok.blt
 above:=r
 inj:=λa b c i m=>I.ok.inj a b c (g a c i) (g b c m)
 has:=λa ha=>by
  obtain⟨k,f,n⟩:=xR (env:=X.env) B.FR (x:=a) ha;exact p (a,k) f n
 L7:=λ_ _ h=>nomatch h
 hd:=I.ok.hd
 frames:=I.ok.frames
 MV:=.inl rfl
 Q8:=λb d=>⟨war (wan (l b d) r),λy c h=>(j b d).2.2.2.2.1 y c (g y c h)⟩
 bs:=I.bs
 Fb:=wal I.ok.Fb I.sz
 AF:=λb o e d=>by
  rcases(j b d).2.2.2.1 with z |z
  ·exact I.ok.AF b o e z
  ·exact absurd (wan (wan (wad e) I.ok.Fb) z) (wb4 _)
 DG:=λb d f=>by
  rcases waH.mp (I.rV b f) with z |z
  ·exact(j b d).2.1 z
  ·exact(j b d).2.2.1 z
 mJ:=I.stack
 Ih:=I.nD
theorem FT{m₁:Str->Option Value}(B:bK X scope x ys ix)(I:Inv X pins σ H s₂)(hf:∀b∈fp,uZ X pins H b)(T:∀b∈fp,b < s₂.heap.objs.size)(U:s₂.heap.objs.size<=L)
 (g:∀y c,cl.lookup y=some c->X.env.cells.lookup y=some c) (J:∀y∈scope.names,y.2=.free->∃c,cl.lookup y.1=some c)
 (kp:∀b o,s₂.heap.get? b=some o->C.get? b=some o) (WW:C.Ns L m₁) (hl:l=s₂.heap.objs.size) (Rz:l≠L) (ho:C.get? l=some {cls:=.type "list",data:=.seq ([]:List Value).toArray n₀}) :
 Inv (bb X scope (xs++ys) cl L s₂ H fp (X.pn++pins)) [] (wam xs.length none++pick σ ix) (upd H l (.lst [])) {s₂ with heap:=C,toks:=tk}:=by
 subst hl;have N:=I.aW.fresh (wab s₂.heap.objs.size);refine⟨IV B I hf T U g J,rfl,I.bare,Un.laid kp (wab _) N,⟨m₁,WW,λi y v A D S=>?_⟩,λy c e=>?_,?_,λy c e=>?_,λp K=>?_,I.aW.laid kp (wab _) ⟨waM _,[],n₀,.nil,ho⟩,?_⟩
 ·obtain⟨j,rfl⟩:∃j,i=xs.length + j:=by
   by_cases z:i < xs.length
   ·rw[waE (by simpa using z)]at D;simp[z]at D
   ·exact⟨i - xs.length,by omega⟩
  have E:ys[j]?=some y:=by
   have A:(xs++ys)[xs.length + j]?=some y:=A;rwa[waF (Nat.le_add_right _ _),wcj]at A
  obtain⟨i,hi,O,M,a⟩:=B.slots j y E
  have f:(σ[i]?).join=some v:=by
   have:(pick σ ix)[j]?=some (some v):=by rwa[waF (by simp),wbB,wcj]at D
   unfold pick at this;rw[wa4,hi]at this;exact wah this
  have s:σ[i]?=some (some v):=by
   cases q:σ[i]? with
   |none=>rw[q]at f;cases f
   |some z=>rw[q]at f;rw[show z=some v from f]
  obtain⟨m,hn,F⟩:=I.loc;have G:MU X.env.scope y:=.inr (M.imp id id);obtain⟨u,r,l⟩:=F i y v O s G;refine⟨u,r,.inr ⟨sx a,?_⟩⟩;rcases l with⟨k,_⟩ |⟨_,c,hc,h⟩
  ·have w:X.env.scope.names.lookup y=some .local:=k;rcases M with z |z
   ·rw[z]at w;cases w
   ·rw[z]at w;cases w
  ·obtain⟨P,t⟩:=J (y,.free) (wcl a) rfl;have:=g y P t;rw[hc]at this;cases this;obtain⟨o,q,d⟩:=h;exact⟨c,t,o,kp c o q,d⟩
 ·obtain⟨v,o,q,d⟩:=I.cell y c (g y c e);exact⟨v,o,kp c o q,d⟩
 ·show upd H s₂.heap.objs.size (.lst []) L=none;rw[aa (wbc Rz)];exact I.aW.fresh U
 ·obtain⟨v,o,q,d⟩:=I.cell y c (g y c e);rw[aa (war (wad q))];exact I.gY y c (g y c e)
 ·rw[waX]at K;obtain⟨q,n,ne,Q,d⟩:=I.pin p K;have lt:=wad q;refine⟨kp _ _ q,by rw[aa (war lt)];exact n,war (wan lt U),λR=>?_,d⟩;rcases waH.mp (I.rV p.1 R) with z |z
  ·exact ne z
  ·exact Q z
 ·simp[pick,B.len,bb]
theorem wm{tn:Nat->Heap->Prop}{Qd:Addr->Hp->Prop}{RR:Value->Addr->wcR->Shared->Prop}{E:Value->Shared->Prop}
 (hc:X.calm=true) (B:bK X scope x ys ix) (I:Inv X pins σ H s₂) (T:Turn X.prog X.w X.K tg J fp it tn) (Uw:tn 0 s₂.heap) (U:∀b∈fp,uZ X pins H b)
 (AB:∀y c,cl.lookup y=some c->X.env.cells.lookup y=some c) (WX:∀y∈scope.names,y.2=.free->∃c,cl.lookup y.1=some c)
 (ht:∀L s H ex pn,Ii (bb X scope (xs++ys) cl L s H ex pn) ifs tt) (he:∀L s H ex pn,PE (bb X scope (xs++ys) cl L s H ex pn) elt te)
 (hg:∀L s H ex pn,PG (bb X scope (xs++ys) cl L s H ex pn) tg g) (hw:∀l,H l=none->wk g xs.length J l (pick σ ix) tt te H (Qd l))
 (WY:∀D L H' s' m,Inv X pins σ H' s'->s'.heap.Ns L m->H' L=none->L≠X.env.locals->X.s₀.heap.objs.size<=L->(∀y c,X.env.cells.lookup y=some c->c≠L)->(∀p∈X.pn++pins,p.1≠L)->Qd D H'->RR (.ref D) L (.ok .next) s') :
 wpAny (model X.prog X.w) X.A (newList []) (λacc C=>wpAny (model X.prog X.w) X.A (newFunctionEnv scope X.env.globals cl [] X.env.qual none .none (some X.env)) (λO7 s₄=>
  codeAny (model X.prog X.w) X.A (.compStart (.ListComp elt [⟨tg,iter,ifs,0⟩] scope pos) 0 (.ref it) acc {O7 with scope:=relabel scope X.env}) (RR acc O7.locals) s₄) E C) E s₂:=by
 refine weS (wpAny_newFunctionEnv B.FR (by intro y hy;simp at hy) (λk j a=>?_) B.kind);dsimp only at j a ⊢;generalize N:s₂.heap.push {cls:=.type "list",dict:=none,data:=.seq ([]:List Value).toArray}=t at j a ⊢;have hC:t.objs.size=s₂.heap.objs.size + 1:=by rw[<-N,wbK]
 have Y:s₂.heap.objs.size≠t.objs.size:=by rw[hC];exact war (wbS _)
 have f:s₂.heap.objs.size<=t.objs.size:=by rw[hC];exact wcp _
 have old:∀b o,s₂.heap.get? b=some o->k.get? b=some o:=λb o e=>a.extBut b o (war (wan (wad e) f)) (wa8 _ (N ▸ wa8 _ e));have Z:k.get? s₂.heap.objs.size=some {cls:=.type "list",data:=.seq ([]:List Value).toArray}:=a.extBut _ _ Y (wa8 _ (N ▸ wax _ rfl));have O:∀b∈fp,b < s₂.heap.objs.size:=λb h=>let ⟨o,e,_⟩:=T.obj 0 _ Uw b h;wad e
 have WZ:∀b∈fp,∀o,s₂.heap.get? b=some o->k.get? b=some o:=λb _ o e=>old b o e;have Ux:tn 0 k:=T.keep 0 _ _ Uw WZ;obtain⟨W,⟨m0,w0⟩,turn⟩:=hw s₂.heap.objs.size (I.aW.fresh (wab _))
 have M:∀C:Shared,C={s₂ with heap:=k,toks:=s₂.toks + ([]:List (Str×Value)).length} ->
  codeAny (model X.prog X.w) X.A (.compLoop (.ListComp elt [⟨tg,iter,ifs,0⟩] scope pos) 0 (.ref it) (.ref s₂.heap.objs.size) (compEnvC scope cl t.objs.size X.env))
   (RR (.ref s₂.heap.objs.size) t.objs.size) C:=by
  rintro C rfl;have I0:=FT (xs:=xs) (tk:=s₂.toks + ([]:List (Str×Value)).length) (n₀:=0) (m₁:=_) (L:=t.objs.size) B I U O f AB WX old j rfl Y Z
  refine DT (env:=compEnvC scope cl t.objs.size X.env)
   (λn s'=>∃i F vs H',vs.length=xs.length/\Inv (bb X scope (xs++ys) cl t.objs.size s₂ H fp (X.pn++pins)) [] (vs++pick σ ix) H' s'/\tn i s'.heap/\(∀b∈fp,H' b=none)/\W i n F H') ?_ m0
   ⟨0,[],_,_,wbB,I0,Ux,λb h=>by rw[aa (war (O b h))];exact(U b h).1,w0⟩
  rintro n s3 ⟨i,F,vs,H3,hv,I3,Uy,Uz,w3⟩;obtain⟨FU,alt⟩:=turn i n F H3 w3
  have G:∀{H':Hp},(∀b∈fp,H' b=none)->∀b∈fp,uZ (bb X scope (xs++ys) cl t.objs.size s₂ H fp (X.pn++pins)) [] H' b:=λhn b h=>
   ⟨hn b h,war (wan (O b h) f),λhm=>by
     rcases waH.mp (I.rV b hm) with z |z
     ·exact(U b h).2.1 z
     ·exact(U b h).2.2.1 z,.inl h,λy c e=>(U b h).2.2.2.2.1 y c (AB y c e),λp hp=>(U b h).2.2.2.2.2 p (by simpa [bb] using hp)⟩
  rcases alt with⟨stop,qd⟩ |⟨go,hsz,step⟩
  ·refine bP (T.done (bb X scope (xs++ys) cl t.objs.size s₂ H fp (X.pn++pins)) rfl rfl rfl hc i [] s3 _ H3 _ I3 (G Uz) Uy stop) λr s4 ⟨hr,S⟩=>?_;subst hr;obtain⟨m,hn,_⟩:=S.loc;refine WY s₂.heap.objs.size t.objs.size H3 s4 m ?_ hn S.free (wcq (wan I.lt f)) (wal I.sz f) (λy c e=>?_) (λp hp=>?_) qd
   ·exact I.rX S.os S.base S.aW S.bare λb h=>⟨(U b h).2.2.2.1,(U b h).2.1,(U b h).2.2.2.2.1,(U b h).2.2.2.2.2⟩
   ·obtain⟨v,o,q,d⟩:=I.cell y c e;exact war (wan (wad q) f)
   ·exact war (wan (wad (I.pin p hp).1) f)
  ·refine bP (T.item (bb X scope (xs++ys) cl t.objs.size s₂ H fp (X.pn++pins)) rfl rfl rfl hc i [] s3 _ H3 _ I3 (G Uz) Uy go) λr s4 ⟨u,hr,h4⟩=>?_;subst hr;refine bP h4 λ_ s5 ⟨xv,H5,I5,r5,y5,P,X0⟩=>?_;have X1:=I5.pinned (G X0) (T.obj _ _ P);refine waV (hg _ _ _ _ _ _ s5 _ H5 xv u _ X1 r5 (step xv _ vs hv y5)) (λ_ s6 ⟨σ6,H6,I6,⟨O4,UA,e6⟩,q6⟩=>?_) λ_ _ z=>waS z;subst e6;refine waV (ht _ _ _ _ _ _ s6 _ _ _ I6 q6) (λb s7 ⟨H7,I7,q7⟩=>?_) λ_ _ z=>waS z
   have again:∀{Q:St} {R:Hp} {V:Shared},Inv (bb X scope (xs++ys) cl t.objs.size s₂ H fp (X.pn++pins)) ([]++sf fp s5.heap) Q R V ->
    Inv (bb X scope (xs++ys) cl t.objs.size s₂ H fp (X.pn++pins)) [] Q R V/\tn (i + 1) V.heap/\∀b∈fp,R b=none:=λ{Q R V} I8=>by
    refine⟨I8.nE,T.keep _ _ _ P λb h o e=>(I8.pin (b,o) (waU _ (waU _ (je h e)))).1,λb h=>?_⟩;obtain⟨o,e,d⟩:=T.obj _ _ P b h;exact(I8.pin (b,o) (waU _ (waU _ (je h e)))).2.1
   cases b with
   |false=>
    rw[if_neg waq]at q7 ⊢;obtain⟨m',hm,w7⟩:=q7;obtain⟨a1,a2,a3⟩:=again I7;exact⟨m',hm,i + 1,F,O4,H7,UA,a1,a2,a3,w7⟩
   |true=>
    rw[if_pos rfl]at q7 ⊢;refine waV (he _ _ _ _ _ _ s7 _ _ _ I7 q7) (λuy V ⟨y,R,I8,r8,Qk,m',hm,w8⟩=>?_) λ_ _ z=>waS z
    refine waV (cH (X:=bb X scope (xs++ys) cl t.objs.size s₂ H fp (X.pn++pins)) _ V _ R (.ref s₂.heap.objs.size) [y] (.ref s₂.heap.objs.size) [uy] (λ_ H9=>H9=upd R s₂.heap.objs.size (.lst (F++[y]))) I8 rfl (.cons r8 .nil) ⟨_,F,y,rfl,rfl,Qk,hsz,rfl⟩)
     (λ_ s9 ⟨v9,H9,I9,_,e9⟩=>?_) λ_ _ z=>waS z
    subst e9;obtain⟨a1,a2,a3⟩:=again I9;exact⟨m',hm,i + 1,F++[y],O4,_,UA,a1,a2,a3,w8⟩
 exact codeAny_compStart_list (M _ rfl) (T.self X.A 0 _ _ _ Ux (M _ rfl))
theorem sy{C:It->Addr->St->Hp->(Hp->Prop)->Prop}(hc:X.calm=true)(B:bK X scope x ys ix)(hg:∀cl L s H ex pn,PG (bb X scope (xs++ys) cl L s H ex pn) U g)(hC:∀J l j H Q,C J l j H Q->wk g xs.length J l j tt te H Q)(hi:PI X U iter wi)
 (ht:∀cl L s H ex pn,Ii (bb X scope (xs++ys) cl L s H ex pn) p tt) (he:∀cl L s H ex pn,PE (bb X scope (xs++ys) cl L s H ex pn) r te)
 (hs:∀v,wc0 iter X.env v=pure v:=by intro _;rfl):PE X (.ListComp r [⟨U,iter,p,0⟩] scope pos) (λσ H Q=>wi σ H λJ H1=>∀l,H1 l=none->C J l (pick σ ix) H1 (λH2=>Q (.ref l) H2)):=by
 intro pins s σ H Q I h;obtain⟨cl,a,d,f⟩:=mc (scope:=scope) (env:=X.env) (λy F i=>I.ok.has y.1 (B.free y F i));rw[eval_ListComp];refine wf9 (use:=none) rfl hs a B.kind B.names (bP (hi pins s σ H _ I h) λS V k=>bP k λG W n=>?_);obtain⟨it,fp,Y,J,H2,e,K,T,t,f2,hw⟩:=n;subst e;refine wm (RR:=λu C=>compPost (model X.prog X.w) X.A X.xe none (EP X pins σ Q) u C) (Qd:=λl z=>Q (.ref l) z) hc B K T t f2 d f (ht cl) (he cl) (hg cl) (λl h=>hC _ _ _ _ _ (hw l h)) ?_;intro D L z M m N hn c k n O P q;exact⟨m,hn,λZ E=>⟨.ref D,z,N.turned (it:=L) (t':=M.toks) (λb o R e=>(E.2 b R).trans e) c k (.inr n) O P,rfl,q⟩⟩
theorem CV(B:bK X scope x ys ix)(cl L s H ex pn):PG (bb X scope ([x]++ys) cl L s H ex pn) (.Name x g) (d4 0):=
 have a:(relabel scope X.env).names.lookup x=some .local:=wce B.var
 jd B.nd rfl (.inl a) (.inr a)
theorem cA(hc:X.calm=true)(B:bK X scope x ys ix)(hi:PI X (.Name x r) iter I)
 (T:∀cl L s H ex pn,Ii (bb X scope (x :: ys) cl L s H ex pn) g o) (U:∀cl L s H ex pn,PE (bb X scope (x :: ys) cl L s H ex pn) j p)
 (hs:∀v,wc0 iter X.env v=pure v:=by intro _;rfl):PE X (.ListComp j [⟨.Name x r,iter,g,0⟩] scope pos) (O6 I ix o p):=
 sy (C:=λJ l a H Q=>md J l a o p H Q) (xs:=[x]) hc B (CV B) (λ_ _ _ _ _=>CU) hi T U hs
end
section
variable{X:Cx}{scope:wcQ}{x:Str}{xs ys:List Str}{ix:List Nat}
theorem qi{C:It->Addr->St->Hp->(Hp->Prop)->Prop}(hc:X.calm=true)(B:bK X scope x ys ix)(hN:X.N.Nodup)(hy:X.N[i]?=some y)(r:X.env.scope.names.lookup y=some .local)(hg:∀cl L s H ex pn,PG (bb X scope (xs++ys) cl L s H ex pn) tg g)(hC:∀J l U H Q,C J l U H Q->wk g xs.length J l U tt te H Q)(hi:PI X tg iter wi)
 (ht:∀cl L s H ex pn,Ii (bb X scope (xs++ys) cl L s H ex pn) j tt) (he:∀cl L s H ex pn,PE (bb X scope (xs++ys) cl L s H ex pn) p te)
 (O8:wbO (.ListComp p [⟨tg,iter,j,0⟩] scope pos) (some (.Name y py)) RA.line X.env=pure true:=by rfl)
 (hs:∀v,wc0 iter X.env v=pure v:=by intro _;rfl):PS X (.Assign [.Name y py] (.ListComp p [⟨tg,iter,j,0⟩] scope pos) RA) (λD σ H=>wi σ H λJ H1=>∀l,H1 l=none->C J l (pick σ ix) H1 (λH2=>D.nx (σ.set i (some (.ref l))) H2)):=by
 intro c s σ H D I h;obtain⟨cl,d,t,u⟩:=mc (scope:=scope) (env:=X.env) (λy hy E=>I.ok.has y.1 (B.free y hy E));rw[exec_Assign_Name_used _ _ _ _ O8];refine wa3 (wdh (wa3 ?_));show wpAny _ X.A (do let _ <-comprehension (.ListComp p [⟨tg,iter,j,0⟩] scope pos) scope X.env _ (newList []) false (eval iter X.env) (some (assign (.Name y py) X.env))) _ _ s
 refine wa3 (waV (wf9 (use:=some (assign (.Name y py) X.env)) (Q:=λ_ k=>SP X c D .next k) rfl hs d B.kind B.names
  (bP (hi c s σ H _ I h) λxv s1 n=>bP n λY s2 F=>?_)) (λ_ k Z=>wap (wap Z)) λ_ _ e=>e)
 obtain⟨it,fp,tn,J,H2,e,I2,T,G,f2,hw⟩:=F;subst e;refine wm (RR:=λK C=>compPost (model X.prog X.w) X.A X.xe (some (assign (.Name y py) X.env)) (λ_ k=>SP X c D .next k) K C) (Qd:=λl M=>D.nx (σ.set i (some (.ref l))) M) hc B I2 T G f2 t u (ht cl) (he cl) (hg cl) (λl h=>hC _ _ _ _ _ (hw l h)) ?_;intro V L M k m I' hn f n F W h4 q;show wpAny _ X.A (assign (.Name y py) X.env (.ref V)) _ _ _;refine wpAny_assign_Name (vS I' hN hy (.inl r) (v:=.ref V) rfl (λO P sb=>?_) (.inr r));obtain⟨a,R,ha⟩:=sb
 have hL:L≠a:=by
  rcases ha with z |z
  ·rw[z];exact n
  ·exact(W y a z).symm
 refine⟨m,hn.sameBut R hL,λh' S=>⟨_,M,P.turned (it:=L) (t':=O.toks) (λb o hb e=>(S.2 b hb).trans e) f n (.inr F) W h4,q⟩⟩
theorem eu(hc:X.calm=true)(B:bK X scope x ys ix)(hN:X.N.Nodup)(hy:X.N[i]?=some y)(p:X.env.scope.names.lookup y=some .local)(hi:PI X (.Name x I) iter wi)
 (ht:∀cl L s H ex pn,Ii (bb X scope (x :: ys) cl L s H ex pn) g T) (he:∀cl L s H ex pn,PE (bb X scope (x :: ys) cl L s H ex pn) j U)
 (r:wbO (.ListComp j [⟨.Name x I,iter,g,0⟩] scope pos) (some (.Name y py)) o.line X.env=pure true:=by rfl)
 (hs:∀v,wc0 iter X.env v=pure v:=by intro _;rfl):PS X (.Assign [.Name y py] (.ListComp j [⟨.Name x I,iter,g,0⟩] scope pos) o) (Lv wi ix T U i):=
 qi (C:=λJ l a H Q=>md J l a T U H Q) (xs:=[x]) hc B hN hy p (CV B) (λ_ _ _ _ _=>CU) hi ht he r hs
end
theorem d8{Ok:Hp->Prop}{Q:Hp->Prop}(p:V->Bool)(g:V->V)(U:lY J Ok xs)(hl:H l=none)(hz:xs.length<=sizeLine)(C:∀j,a9 H j->Ok j)
 (ht:∀x r I,x∈xs->a9 H r->(∀j,a9 r j->I (p x) j)->tt (some x :: T) r I)
 (he:∀x r I,x∈xs->p x=true->a9 H r->(∀j,a9 r j->I (g x) j)->te (some x :: T) r I)
 (hd:∀j,a9 H j->j l=some (.lst ((xs.filter p).map g))->Q j):md J l T tt te H Q:=by
 refine⟨λi m n d=>m=xs.length - i/\i<=xs.length/\a9 H d/\d l=some (.lst n)/\n=((xs.take i).filter p).map g,⟨xs.length,by simp,waM _,a9.upd hl,a6,by simp⟩,?_⟩;rintro i m n d ⟨rfl,hi,c,h,k⟩;refine⟨h,?_⟩
 by_cases a:i < xs.length
 ·refine .inr ⟨U.go i d (C _ c) a,?_,λx r y=>?_⟩
  ·rw[k,wa0];refine wba (wbi _ _) ?_;rw[wau];omega
  ·obtain⟨e,s⟩:=U.uW i d x r (C _ c) a y;subst e;have mem:x∈xs:=wak s;have t:xs.take (i + 1)=xs.take i++[x]:=by rw[wb1,s];rfl
   refine ht x _ _ mem c λv f=>?_
   cases q:p x with
   |false=>
    rw[if_neg waq];refine⟨xs.length - (i + 1),by omega,rfl,a,c.trans f,f _ _ h,?_⟩;rw[t,wbo,k];simp[q]
   |true=>
    rw[if_pos rfl];refine he x _ _ mem q (c.trans f) λw u=>?_;refine⟨u _ _ (f _ _ h),xs.length - (i + 1),by omega,rfl,a,?_,a6,?_⟩
    ·intro b o e;rw[aa (ae e hl)];exact u _ _ (f _ _ (c _ _ e))
    ·rw[t,wbo,k];simp[q]
 ·have e:i=xs.length:=by omega
  subst e;refine .inl ⟨U.stop d (C _ c),hd d c ?_⟩;rw[h,k,waI]
theorem qj:∀{us:List Value},Vals (bs.map V.bl) us->LSm.BoolsAre us bs:=by
 induction bs with
 |nil=>intro us r;rw[weg]at r;cases r;exact .nil
 |cons n ns a=>
  intro us r;rw[waw]at r
  cases r with
  |cons b c=>
   cases b;exact .cons n (a c)
theorem B4:∀{us:List Value},Vals (ns.map V.str) us->StrsAre us ns:=by
 induction ns with
 |nil=>intro us r;rw[weg]at r;cases r;exact .nil
 |cons n ns a=>
  intro us r;rw[waw]at r
  cases r with
  |cons b c=>
   obtain⟨t,e⟩:=b;subst e;exact .cons n t (a c)
theorem wo:∀{vs:List Value} {ns:List Str},StrsAre vs ns->Vals (ns.map V.str) vs
 |_,_,.nil=>.nil
 |_,_,.cons n t h=>.cons ⟨t,rfl⟩ (wo h)
section
variable{X:Cx}
theorem sA(hc:X.calm=true):d5 X (.builtin "any") (λxs H Q=>∃p bs,xs=[.ref p]/\aH X.K H p (wcZ V.bl bs)/\Q (.bl (bs.any id)) H):=by
 intro d s σ H xs t Q I r h;obtain⟨p,bs,rfl,j,q⟩:=h;obtain⟨u,rfl,k⟩:=vals1 r;cases k;obtain⟨a,l,pl,w⟩:=I.list j;have f:=qj l;have hl:=pl.isList;have m:=I.ok.hd hc;have c:p < s.heap.objs.size:=by obtain⟨_,e,_⟩:=hl;exact wad e
 refine call_any_walk (wcz hl ?_)
 refine⟨s.heap.objs.size,[s.heap.objs.size,p],[s.heap.objs.size],a.toArray.size,_,_,λi=>(bs[i]?).getD false,rfl,weZ (A:=X.A.in1) m _ p (war c) a.toArray,
  ⟨⟨_,wax _ rfl,rfl,rfl⟩,hl.push _⟩,λi v x y z n g=>?_,λB C o=>?_⟩
 ·obtain⟨b,e,rfl⟩:=f.get i v (by simpa using n);simp only[e,wh9]at g;exact wbN g
 ·have e:((waJ a.toArray.size).any λi=>(bs[i]?).getD false)=bs.any id:=by
   rw[waD,f.length];exact LSm.range_any bs
  rw[e];exact⟨.bl _,H,I.kept (LSm.kept_iter o),rfl,q⟩
theorem z6(hc:X.calm=true):d5 X (.builtin "all") (λxs H Q=>∃p bs,xs=[.ref p]/\aH X.K H p (wcZ V.bl bs)/\Q (.bl (bs.all id)) H):=by
 intro d s σ H xs t Q I r h;obtain⟨p,bs,rfl,j,q⟩:=h;obtain⟨u,rfl,k⟩:=vals1 r;cases k;obtain⟨a,l,pl,w⟩:=I.list j;have f:=qj l;have hl:=pl.isList;have m:=I.ok.hd hc;have c:p < s.heap.objs.size:=by obtain⟨_,e,_⟩:=hl;exact wad e
 refine call_all_walk (wcz hl ?_)
 refine⟨s.heap.objs.size,[s.heap.objs.size,p],[s.heap.objs.size],a.toArray.size,_,_,λi=>(bs[i]?).getD true,rfl,weZ (A:=X.A.in1) m _ p (war c) a.toArray,
  ⟨⟨_,wax _ rfl,rfl,rfl⟩,hl.push _⟩,λi v x y z n g=>?_,λB C o=>?_⟩
 ·obtain⟨b,e,rfl⟩:=f.get i v (by simpa using n);simp only[e,wh9]at g;exact wbN g
 ·have e:((waJ a.toArray.size).all λi=>(bs[i]?).getD true)=bs.all id:=by
   rw[waD,f.length];exact LSm.range_all bs
  rw[e];exact⟨.bl _,H,I.kept (LSm.kept_iter o),rfl,q⟩
theorem FV(l:kvs.map (·.1)=g.map (waz:Str->Key))(rel:KV kvs vs)(hl:us.length=vs.length)
 (o:∀(j:Nat) (u:Value),us[j]?=some u->∃k x,vs[j]?=some (k,x)/\(bf P w).is k u=true):StrsAre us g:=by
 have e:vs.map (·.1)=g.map (waz:Str->Key):=rel.keys ▸ l;clear l rel
 induction g generalizing us vs with
 |nil=>
  have:vs=[]:=by cases vs with |nil=>rfl |cons a b=>simp at e
  subst this;have:us=[]:=wfm.mp hl;subst this;exact .nil
 |cons k g i=>
  cases vs with
  |nil=>simp at e
  |cons v vs=>
   cases us with
   |nil=>simp at hl
   |cons u us=>
    rw[waw,waw]at e;injection e with m n
    obtain⟨f,x,p,q⟩:=o 0 u rfl;have c:v=(f,x):=by simpa using p
    subst c;have d:f=(waz k:Key):=m;subst d;obtain⟨t,rfl⟩:=wgq (x:=k) (v:=u) q;exact .cons k t (i (by simpa using hl) (λj r h=>o (j + 1) r (by simpa using h)) n)
theorem xS(hc:X.calm=true):d5 X (.builtin "sorted") (λxs H Q=>∃d kvs g,xs=[.ref d]/\H d=some (.dK kvs)/\kvs.map (·.1)=wcZ (waz:Str->Key) g/\g.length < 64 /\
 ∀l ss,H l=none->ss.Perm g->wfk ss=true->Q (.ref l) (upd H l (.lst (ss.map V.str)))):=by
 intro k s σ H xs U Q I r h;obtain⟨d,kvs,g,rfl,hd,D,v,q⟩:=h;obtain⟨u,rfl,M⟩:=vals1 r;cases M;obtain⟨E,lo,x,rel,N⟩:=sq I.aW hd;obtain⟨ep,y⟩:=N.dictAt;have O:=I.ok.hd hc;have n:kvs.length=g.length:=by have:=congrArg wdl D;simpa using this
 have hn:x.length<=sizeLine:=by rw[<-rel.length];exact E
 refine Calls.call_function_entry kind_sorted plain_sorted entry_sorted (args_sorted1 _) ?_;unfold wdG.«sorted»;refine wa3 (m:=checkCount "sorted" 1 1 _) (wap ?_);refine wa3 (PySem.W.kdu_collect (A:=X.A.in1) (wha (knd:=bf X.prog X.w) (kvs:=x) (ep:=ep) lo) O y hn λi F a z c=>?_);have hl:a.toList.length=x.length:=by rw[wck];exact c.1
 refine wa3 (wpAny_newList ?_ (by rw[hl];exact hn));have B:StrsAre a.toList g:=FV (P:=X.prog) (w:=X.w) D rel hl λj u e=>c.2 j u (by rw[<-wcw];exact e);have f:(i.push (seqObj "list" a.toList.toArray 0)).get? i.objs.size=some (seqObj "list" a.toList.toArray 0):=wax _ rfl;have p:a.toList.length < 64:=by rw[hl,<-rel.length,n];exact v
 refine wa3 (waY (wpAny_call_entry slot_list_sort ⟨_,f,rfl⟩ entry_list_sort (list_sort_treeK strKind_oneLt f B.keysOf (λG J rest e=>keyKind_strs (by rw[<-e];exact B)) p λC a1 a2=>⟨_,rfl,?_⟩) (args_list_sort _)));obtain⟨t,R,K,S⟩:=sorted_out_str B a1 a2;have L:Inv X k σ H {s with heap:=i,toks:=F}:=I.kept z;obtain⟨e,T⟩:=sortedHeap_at (out:=(arrOf C).map (·.2)) f;refine wap ⟨_,rfl,⟨.ref i.objs.size,upd H i.objs.size (.lst (t.map V.str)),L.laid (t':=F) (λb o q=>?_) (wab _) ⟨?_,_,e,wo R,?_⟩,rfl,q _ t (L.aW.fresh (wab _)) K S⟩⟩
 ·have lt:b < i.objs.size:=wad q;rw[sortedHeap_old (war lt) (by rw[size_push'];exact wdK lt)];exact wa8 _ q
 ·rw[wa0,K.length_eq,<-n];exact E
 ·rw[wdc];exact T
theorem wq:∀{kvs:List (Key×V)} {vs:List (Key×Value)} {us:List Value},KV kvs vs->us.length=vs.length ->
 (∀(j:Nat) (u:Value),us[j]?=some u->∃k x,vs[j]?=some (k,x)/\(bf P w).is k u=true)->Vals (kvs.map λg=>kV g.1) us
 |_,_,us,.nil,hl,_=>by
  have:us=[]:=wfm.mp hl;subst this;exact .nil
 |_,_,us,.cons (a:=p) (b:=q) r t,hl,d=>by
  cases us with
  |nil=>simp at hl
  |cons u us=>
   obtain⟨f,x,l,m⟩:=d 0 u rfl;have c:q=(f,x):=by simpa using l
   subst c;refine .cons ?_ (wq t (by simpa using hl) λj n h=>d (j + 1) n (by simpa using h));have e:p.1=f:=r.1;show RelV (kV p.1) u;rw[e];rcases bT m with⟨i,t,rfl,rfl⟩ |⟨y,t,rfl,rfl⟩
   ·exact⟨t,rfl⟩
   ·exact⟨t,rfl⟩
theorem mQ(hc:X.calm=true):d5 X (.type "list") (λxs H Q=>∃d kvs,xs=[.ref d]/\H d=some (.dK kvs)/\∀l,H l=none->Q (.ref l) (upd H l (.lst (kvs.map λg=>kV g.1)))):=by
 intro k s σ H xs y Q I r h;obtain⟨d,kvs,rfl,hd,q⟩:=h;obtain⟨u,rfl,n⟩:=vals1 r;cases n;obtain⟨m,lo,f,rel,o⟩:=sq I.aW hd;obtain⟨ep,i⟩:=o.dictAt;have p:=I.ok.hd hc;have hn:f.length<=sizeLine:=by rw[<-rel.length];exact m
 refine whb (wha (knd:=bf X.prog X.w) (kvs:=f) (ep:=ep) lo) p i hn λt v b c kp x a=>?_;have hl:b.toList.length=f.length:=by rw[wck];exact a.1
 refine⟨.ref s.heap.objs.size,_,I.laid (t':=v) kp (wab _) (show bG X.prog X.w _ t _ (.lst (kvs.map λg=>kV g.1)) from ⟨?_,b.toList,c,wq (P:=X.prog) (w:=X.w) rel hl λj u e=>a.2 j u (by rw[<-wcw];exact e),?_⟩),rfl,q _ (I.aW.fresh (wab _))⟩
 ·rw[wa0];exact m
 ·rw[wdc];exact x
noncomputable def ki(v d:Addr):HO:=.ext λh=>h.IsValuesView v d
theorem wt:Kp X "dict.values" (λx xs H Q=>∃d kvs,x=.ref d/\xs=[]/\H d=some (.dK kvs)/\∀v,H v=none->Q (.ref v) (upd H v (ki v d))):=by
 intro a s σ H x xs v j Q I f g h;obtain⟨d,kvs,rfl,rfl,hd,q⟩:=h;cases f;have:=g.zero;subst this;obtain⟨l,lo,i,rel,c⟩:=sq I.aW hd;refine call_meetsIn wdz c.typeIs PySem.F.entry_dict_values (PySem.F.args_dict_values_1 _) (meets_dict_values (bf X.prog X.w) d lo) ⟨⟨i,c⟩,?_⟩;refine⟨.ref s.heap.objs.size,_,I.laid (t':=s.toks) (o:=ki s.heap.objs.size d) (λb o e=>wa8 _ e) (wab _) ⟨⟨_,wax _ rfl,rfl,rfl⟩,⟨_,wax _ rfl⟩,λm n ⟨o,e,r⟩ k=>⟨o,k o e,r⟩⟩,rfl,q _ (I.aW.fresh (wab _))⟩
theorem B5(hc:X.calm=true):d5 X (.type "list") (λxs H Q=>∃v d kvs,xs=[.ref v]/\H v=some (ki v d)/\H d=some (.dK kvs)/\∀l,H l=none->Q (.ref l) (upd H l (.lst (kvs.map (·.2))))):=by
 intro k s σ H xs D Q I r h;obtain⟨v,d,kvs,rfl,n,hd,q⟩:=h;obtain⟨u,rfl,o⟩:=vals1 r;cases o;obtain⟨m,lo,b,rel,p⟩:=sq I.aW hd;obtain⟨ep,i⟩:=p.dictAt;obtain⟨g,_⟩:=(show bG X.prog X.w H s.heap v (ki v d) from I.aW v _ n);have x:=I.ok.hd hc;have hn:b.length<=sizeLine:=by rw[<-rel.length];exact m
 refine whb (wgG (knd:=bf X.prog X.w) (kvs:=b) (ep:=ep)) x ⟨g,i⟩ hn λy z a c kp A f=>?_;have hl:a.toList.length=b.length:=by rw[wck];exact f.1
 have e:a.toList=b.map (·.2):=PySem.W.kdl_vals_eq a.toList hl λj u e=>f.2 j u (by rw[<-wcw];exact e)
 have B:∀{kvs:List (Key×V)} {b:List (Key×Value)},KV kvs b->Vals (kvs.map (·.2)) (b.map (·.2)):=λ{kvs b} r=>by
  induction r with
  |nil=>exact .nil
  |cons r t C=>exact .cons r.2 C
 refine⟨.ref s.heap.objs.size,_,I.laid (t':=z) kp (wab _) (show bG X.prog X.w _ y _ (.lst (kvs.map (·.2))) from ⟨?_,a.toList,c,by rw[e];exact B rel,?_⟩),rfl,q _ (I.aW.fresh (wab _))⟩
 ·rw[wa0];exact m
 ·rw[wdc];exact A
noncomputable def ph:List V->List V->Bool
 |[],[]=>true
 |x :: xs,y :: ys=>pf x y && ph xs ys
 |_,_=>false
theorem z7(h:xs.length≠ys.length):ph xs ys=false:=by
 induction xs generalizing ys with
 |nil=>cases ys with
  |nil=>exact absurd rfl h
  |cons _ _=>rfl
 |cons x xs a=>cases ys with
  |nil=>rfl
  |cons y ys=>
   show (pf x y && ph xs ys)=false;rw[a (by simpa using h),wcF]
theorem mR:∀{xs ys:List V},xs.length=ys.length->ph xs ys=(waJ xs.length).all λj=>pf (xs.getD j .non) (ys.getD j .non)
 |[],[],_=>rfl
 |[],_ :: _,h=>by simp at h
 |_ :: _,[],h=>by simp at h
 |x :: xs,y :: ys,h=>by
  show (pf x y && ph xs ys)=_;rw[waK,List.range_succ_eq_map,weI,wfa,mR (by simpa using h)];rfl
inductive RB(K:wa1)(x y:V)(H:Hp)(Q:VK):Prop
 |mk (a b xs ys) (_:x=.ref a) (_:y=.ref b) (_:aH K H a xs) (_:aH K H b ys) (_:xs.all cN=true) (_:ys.all cN=true) (_:Q (.bl (ph xs ys)) H)
theorem FW(l:X.A.units < wcH):lX X (wbr .Eq) (RB X.K):=by
 intro m s σ H x y v u Q I C D h;obtain⟨a,b,f,g,rfl,rfl,ha,E,F,G,q⟩:=h;cases C;cases D;obtain⟨d,n,o,_⟩:=I.list ha;obtain⟨c,p,r,_⟩:=I.list E;have J:=n.length;have S:=p.length
 by_cases hl:f.length=g.length
 ·refine SeqAt.eq_listAt (e:=λj=>pf (f.getD j .non) (g.getD j .non)) o.isList r.isList (by simp only[waD];omega) l (λj L M=>?_) ?_
  ·have i:j < d.length:=by simpa using L
   have k:j < c.length:=by simpa using M
   have t:f[j]?=some (f.getD j .non):=by rw[wa5];simp[show j < f.length by omega]
   have w:g[j]?=some (g.getD j .non):=by rw[wa5];simp[show j < g.length by omega]
   obtain⟨N,z,O⟩:=n.get t;obtain⟨P,B,R⟩:=p.get w
   have g1:d.toArray[j]=N:=by
    have:d[j]?=some d[j]:=by simp[i]
    rw[this]at z;simpa using wah z
   have g2:c.toArray[j]=P:=by
    have:c[j]?=some c[j]:=by simp[k]
    rw[this]at B;simpa using wah B
   rw[g1,g2];exact xO O R (waP.mp F _ (wak t)) (waP.mp G _ (wak w))
  ·rw[mR hl]at q;refine⟨.bl _,H,I,rfl,?_⟩;rw[waD,<-J];exact q
 ·refine SeqAt.eq_list_lengthsAt o.isList r.isList (by simp only[waD,bne_iff_ne];omega) l ⟨.bl false,H,I,rfl,?_⟩;rw[z7 hl]at q;exact q
theorem cO:d5 X (.builtin "isinstance") (λxs H Q=>∃x T t b,xs=[x,.ty T]/\d7 X.K H x t/\wcE X.K t (.type T)=some b/\Q (.bl b) H):=by
 intro a s σ H xs g Q I r h;obtain⟨x,T,t,b,rfl,ty,e,q⟩:=h;obtain⟨u,i,rfl,c,d⟩:=vals2 r;cases d;exact pe I c ty e λf=>⟨.bl b,H,I.tok f,rfl,q⟩
theorem B6:Rn X (λx lo hi H Q=>∃z,x=.str z/\z.length<=sizeLine/\Q (.str (wbV z lo hi)) H):=by
 intro a s σ H x v p r lo hi sl Q I m n pl f h;obtain⟨z,rfl,b,q⟩:=h;obtain⟨t,rfl⟩:=m;refine⟨"str",_,slot_str_getitem.lookup,typeIs_str s z t,?_⟩;have fin:∀d k,EP X a σ Q (.str (wbV z lo hi) d) {s with toks:=k}:=λd k=>⟨.str _,H,I.tok k,⟨d,rfl⟩,q⟩;obtain⟨o,c,hc,hd⟩:=n
 cases pl with
 |none=>cases f with
  |none=>exact wcJ (l:=none) (u:=none) (st:=none) ⟨o,c,hc,hd⟩ rfl (weh ⟨wal (wei z _ _) b,fin⟩)
  |int j e=>exact wcJ (l:=none) (u:=some (j,e)) (st:=none) ⟨o,c,hc,hd⟩ rfl (weh ⟨wal (wei z _ _) b,fin⟩)
 |int i g=>cases f with
  |none=>exact wcJ (l:=some (i,g)) (u:=none) (st:=none) ⟨o,c,hc,hd⟩ rfl (weh ⟨wal (wei z _ _) b,fin⟩)
  |int j e=>exact wcJ (l:=some (i,g)) (u:=some (j,e)) (st:=none) ⟨o,c,hc,hd⟩ rfl (weh ⟨wal (wei z _ _) b,fin⟩)
theorem CW:Kp X "str.join" (λx xs H Q=>∃z p ts,x=.str z/\xs=[.ref p]/\aH X.K H p (wcZ V.str ts)/\(ts.map (·.length)).sum + ts.length * z.length<=16777216/\Q (.str (wdd z ts)) H):=by
 intro a s σ H x xs v l Q I b c h;obtain⟨z,p,ts,rfl,rfl,d,e,q⟩:=h;obtain⟨t,rfl⟩:=b;obtain⟨u,rfl,f⟩:=c.one;cases f;obtain⟨g,i,pl,_⟩:=I.list d;exact join_list pl.isList (by simpa using B4 i) e λj k=>⟨.str _,H,I.tok k,⟨j,rfl⟩,q⟩
end
noncomputable def MZ(K:wa1)(a:Addr):It:=
 ⟨λi H=>∃xs x,aH K H a xs/\xs[i]?=some x,λi H x H'=>∃T xv,H T=none/\x=.ref T/\H'=upd H T (.tup [.int (i:Nat),xv])/\∀xs,aH K H a xs->xs[i]?=some xv,λi H=>∃xs,aH K H a xs/\xs.length<=i⟩
theorem DU{P:wat}{w:World}{K:wa1}{C:List Expr}{k:Nat}{pos:Pos}(a e it:Addr)(J:e≠it):Turn P w K (.Tuple C k pos) (MZ K a) [e,it] e (λi h=>(∃old,IsEnum h e it (i:Nat) old)/\h.IsListIter it a i) where
 mem:=by simp
 obj:=λi h st b d=>by
  obtain⟨⟨old,f⟩,o,M,hc,hd⟩:=st;rcases waH.mp d with rfl |d
  ·exact⟨_,f,λv z=>by
    have z':wgZ _=whu v:=z
    cases z'⟩
  ·have A:b=it:=by simpa using d
   subst A;exact⟨o,M,λv z=>by rw[hd]at z;cases z⟩
 keep:=λi h h' st k=>⟨st.1.imp λold f=>k e (by simp) _ f,st.2.at λo q=>k it (by simp) o q⟩
 item:=by
  intro X N hw O hc i l s σ H E I B st Q;subst N hw O;obtain⟨xs,x,L,R⟩:=Q;obtain⟨S,T,p,hz⟩:=I.list L;obtain⟨u,hu,ru⟩:=T.get R;obtain⟨⟨old,f⟩,hit⟩:=st;obtain⟨f0,f1,f2,f3,f4,f5⟩:=B e (by simp);obtain⟨U,g1,g2,g3,V,Y⟩:=B it (by simp);refine wpAny_pyNext_enum_item f hit p.isList (x:=u) (by simpa using hu) J λh' M D hT hsz hk=>?_;refine⟨_,rfl,weL M λg Z t=>?_⟩;have kp:∀b o,b≠e->b≠it->s.heap.get? b=some o->g.get? b=some o:=λb o h1 h2 q=>(t.2 b h1).trans (hk b o h1 h2 q);have F:e < s.heap.objs.size:=wad f;have Lw:s.heap.objs.size≠e:=wcq F;have RC:g.get? s.heap.objs.size=some {cls:=.type "tuple",data:=.seq #[.int i s.toks,u]}:=(t.2 _ Lw).trans hT;have y:=I.aW.fresh (wab s.heap.objs.size);have j:∀b o,H b=some o->b≠e/\b≠it:=λb o q=>⟨(λz=>by rw[z,f0]at q;cases q),(λz=>by rw[z,U]at q;cases q)⟩
  have G:j8 X.prog X.w (upd H s.heap.objs.size (.tup [.int (i:Nat),x])) g:=by
   intro b o q
   by_cases d:b=s.heap.objs.size
   ·subst d;rw[a6]at q;cases q;exact⟨by show 2<=sizeLine;decide,[.int i s.toks,u],.cons ⟨_,rfl⟩ (.cons ru .nil),⟨_,RC,rfl,_,rfl⟩⟩
   ·rw[aa d]at q;refine(I.aW b o q).p8 (λc v hc r=>?_) (λc r=>by rw[aa (ae r y)];exact r) λc ys r=>by rw[aa (ae r y)];exact r
    rcases hc with z |z
    ·rw[z]at r ⊢;exact kp b v (j b o q).1 (j b o q).2 r
    ·exact kp c v (j c _ z).1 (j c _ z).2 r
  have I1:Inv X l σ (upd H s.heap.objs.size (.tup [.int (i:Nat),x])) {s with heap:=g,gens:=s.gens,drawn:=s.drawn,toks:=s.toks + 1}:=by
   refine I.step (ch:=[e,it]) (λb d=>?_) (λb o _ _ hc q _=>kp b o (λz=>hc (by simp[z])) (λz=>hc (by simp[z])) q) (λb o _ _ hc q _=>⟨o.slots,kp b o (λz=>hc (by simp[z])) (λz=>hc (by simp[z])) q⟩)
    (λb o _ q n=>by rw[aa (war (wad q))];exact n) (λb o hc q=>⟨o,kp b o (λz=>hc (by simp[z])) (λz=>hc (by simp[z])) q⟩)
    (λb ys r=>by rw[aa (ae r y)];exact r) (λb o u r=>by rw[aa (ae r y)];exact r) (λb ps r=>⟨#[],by rw[aa (ae r y),r];simp⟩)
    (λm ⟨o,es,ep,RD,r⟩=>⟨o,es,ep,kp _ o (wbc f1) (wbc g1) RD,r⟩) G I.bare
   rcases waH.mp d with rfl |d
   ·exact⟨f3,f1,f4,f5⟩
   ·have A:b=it:=by simpa using d
    subst A;exact⟨g3,g1,V,Y⟩
  refine⟨.ref s.heap.objs.size,_,I1,rfl,⟨s.heap.objs.size,x,y,rfl,rfl,λys hy=>by rw[I.rY hy L];exact R⟩,⟨⟨u,by simpa using Z⟩,?_⟩,λb d=>?_⟩
  ·exact D.at λo q=>(t.2 it (wbc J)).trans q
  ·have:b < s.heap.objs.size:=by
    rcases waH.mp d with rfl |d
    ·exact F
    ·have A:b=it:=by simpa using d
     subst A;obtain⟨o,q,_⟩:=hit;exact wad q
   rw[aa (war this)];exact(B b d).1
 done:=by
   intro X N hw O hc i l s σ H E I B st Q;subst N hw O;obtain⟨xs,L,R⟩:=Q;obtain⟨S,T,p,hz⟩:=I.list L;have hl:=T.length;obtain⟨⟨old,f⟩,hit⟩:=st;obtain⟨U,g1,g2,g3,V,Y⟩:=B it (by simp);exact wpAny_pyNext_enum_end (I.ok.hd hc) f hit p.isList (wfJ (by simp;omega)) λh' eb=>⟨rfl,I.turned (t':=s.toks) (λb o d e=>eb b o d e) U g1 g3 V Y⟩
 self:=λ_ _ _ _ _ st h=>let ⟨⟨_,f⟩,_⟩:=st;wdL f h
theorem jK:waR "enumerate"=some (.type "enumerate"):=by decide+kernel
section
variable{X:Cx}
def O9(K:wa1)(ta:TA):TI:=λσ H R=>ta σ H λvs H1=>∃a xs,vs=[.ref a]/\aH K H1 a xs/\R (MZ K a) H1
theorem lM{g:List Expr}{k:Nat}{j:Pos}{l:Expr}{o:TA}{p pos:Pos}(r:Gl X "enumerate")(C:X.mg "enumerate"=none)(ha:PA X [l] o)(hs:starEach [l] X.env=[(false,eval l X.env)]:=by rfl) :
 PI X (.Tuple g k j) (.Call (.Name "enumerate" p) [l] [] pos) (O9 X.K o):=by
 intro c s σ H R I h;refine Call_ (iJ I r C jK (wcr (bP (ha pos c s σ H _ I h) λD d ⟨E,m,i,t,v⟩=>?_) hs rfl));obtain⟨a,F,e,w,q⟩:=v;subst e;obtain⟨u,rfl,x⟩:=vals1 t;cases x;obtain⟨y,G,pl,J⟩:=i.list w;refine call_enumerate_list pl.isList λz n hit A kp=>wdL n ?_;have B:Inv X c σ m {d with heap:=z}:=i.kept (t':=d.toks) kp;refine⟨d.heap.objs.size + 1,[d.heap.objs.size + 1,d.heap.objs.size],_,_,m,rfl,B,DU a _ _ (wcq (wbS _)),⟨⟨_,n⟩,hit⟩,λb L=>?_,q⟩
 have f:d.heap.objs.size<=b:=by
  grind
 exact i.DH f (i.aW.fresh f)
end
theorem kj{K:wa1}{a:Addr}{xs:List V}{g:TG}{C:TS}{D:Ends}{σ:St}{H:Hp}(Pv:Nat->St->Hp->Prop)(J:Pv 0 σ H)(hl:∀i σ H,i<=xs.length->Pv i σ H->aH K H a xs)
 (hs:∀i x σ H T,xs[i]?=some x->Pv i σ H->H T=none->g (.ref T) σ (upd H T (.tup [.int (i:Nat),x])) λj r=>C {D with nx:=Pv (i + 1),ct:=Pv (i + 1),bk:=D.nx} j r) (hd:∀σ H,Pv xs.length σ H->D.nx σ H) :
 ∃W:Nat->Nat->St->Hp->Prop,(∃m,W 0 m σ H)/\∀i m σ H,W i m σ H ->
  ((MZ K a).stop i H/\D.nx σ H)\/((MZ K a).go i H/\∃N:St->Hp->Prop,(∀l o,N l o->∃I,I < m/\W (i + 1) I l o)/\∀x o,(MZ K a).uW i H x o->g x σ o λj r=>C {D with nx:=N,ct:=N,bk:=D.nx} j r):=by
 refine⟨λi m σ H=>m=xs.length - i/\i<=xs.length/\Pv i σ H,⟨xs.length,by simp,waM _,J⟩,?_⟩;rintro i m σ H ⟨rfl,hi,p⟩;have q:=hl i σ H hi p
 by_cases b:i < xs.length
 ·refine .inr ⟨⟨xs,xs[i],q,by simp[b]⟩,Pv (i + 1),λl o c=>⟨xs.length - (i + 1),by omega,rfl,b,c⟩,λx o y=>?_⟩;obtain⟨T,d,f,h,k,y⟩:=y;subst h k;exact hs i d σ _ T (y xs q) p f
 ·have e:i=xs.length:=by omega
  subst e;exact .inl ⟨⟨xs,q,wab _⟩,hd σ H p⟩
noncomputable def qk(σ:List Str)(v:Str):List Str:=if σ.any (· == v)=true then σ else σ++[v]
noncomputable def cD(val:Nat->Str)(i:Nat):List Str:=((waJ i).map val).foldl qk []
theorem iB(val:Nat->Str)(i:Nat):cD val (i + 1)=qk (cD val i) (val i):=by
 unfold cD;rw[wdq,waj,weT];rfl
theorem wu(val:Nat->Str):∀i,(cD val i).length<=i
 |0=>wab _
 |i + 1=>by
  rw[iB];unfold qk;have a:=wu val i;split
  ·omega
  ·grind
theorem DV(σ:List Str)(v k:Str):(qk σ v).any (· == k)=(σ.any (· == k) ||decide (k=v)):=by
 unfold qk
 by_cases h:σ.any (· == v)=true
 ·rw[if_pos h]
  by_cases e:k=v
  ·subst e;rw[h];simp
  ·simp[e]
 ·rw[if_neg h,List.any_append]
  by_cases e:k=v
  ·subst e;simp
  ·have a:(v == k)=false:=by simpa [beq_iff_eq] using(λb:v=k=>e b.symm)
   simp[a,e]
theorem xT(σ:List Str)(v:Str):(qk σ v).length=if σ.any (· == v) then σ.length else σ.length + 1:=by
 unfold qk;split <;> simp
theorem sub_str_set:isSubtype (.type "str") (.type "set")=pure false:=by rw[isSubtype_type];kernel_rfl
theorem sub_str_frozenset:isSubtype (.type "str") (.type "frozenset")=pure false:=by rw[isSubtype_type];kernel_rfl
theorem Ku(P:wat)(w:World)(x:Str)(t:Tok):(wbI P w).is x (.str x t)=true:=by simp[wbI,wgk]
section
variable{prog:wat}{w:World}{A:Around}{R:wcR->Shared->Prop}{I:Addr}{fp wr:List Addr}{G:Array wcX->Array wcX->Prop}{n:Nat}{P:Nat->Value->Prop}{St:Nat->Shared->Prop}
theorem z8(W:WalksS prog w A.in1 I fp wr G n P St)(S:Addr)(l:S∉fp)
 (val:Nat->Str) (p:∀i v,P i v->∃t,v=.str (val i) t) (j:n + 1 < wdA) :
 ∀(k i:Nat) (s:Shared),n - i=k->i<=n->St i s ->
  s.heap.SetOf (wbI prog w) S (λg=>(cD val i).any (· == g)) (cD val i).length ->
  (∀s',Moved (S :: wr) G s s'->s'.heap.SetOf (wbI prog w) S (λg=>(cD val n).any (· == g)) (cD val n).length->R (.ok (.ret .none)) s') ->
  codeAny (model prog w) A (.builtin "set.update.loop" ⟨[.ref S,.ref I],[]⟩) R s:=by
 have f:S∉wr:=λh=>l (W.sub _ h);have a:∀b∈wr,b∈S :: wr:=λb j=>wac _ j;intro k
 induction k with
 |zero=>
  intro i s N hi c z B;have C:i=n:=by omega
  subst C;refine wbF wdB ?_;rw[wbv wcs _];show wpAny _ A.in1 (pyNext (.ref I) >>= _) _ _ s;refine wa3 (W.done s _ _ c λs' m=>?_);show wpAny _ A.in1 (ret wby) _ _ s'
  exact wap (B s' (m.mono a) (by
   obtain⟨o,D,E,t,H,rest⟩:=z
   exact⟨o,D,E,t,m.heap S _ f H,rest⟩))
 |succ k O=>
  intro i s N hi c z B;have q:i < n:=by omega
  refine wbF wdB ?_;rw[wbv wcs _];show wpAny _ A.in1 (pyNext (.ref I) >>= _) _ _ s;refine wa3 (W.item i s _ _ q c λv s' Q r m=>?_);obtain⟨t,rfl⟩:=p i v Q
  have J:s'.heap.SetOf (wbI prog w) S (λg=>(cD val i).any (· == g)) (cD val i).length:=by
   obtain⟨o,D,E,T,H,rest⟩:=z;exact⟨o,D,E,T,m.heap S _ f H,rest⟩
  show wpAny _ A.in1 (holding [wfs (val i) t] (setAdd S (.str (val i) t)) >>= _) _ _ s';refine wa3 (waY ?_);unfold setAdd;refine waY ?_;refine wa3 ((wbI prog w).pyHash (k:=val i) (Ku _ _ _ _) ?_);have d:(cD val i).length + 1 < wdA:=by have:=wu val i;omega
  refine wpAny_setAddHashed_of (knd:=wbI prog w) (s:={s' with toks:=s'.toks + 1}) (Ku _ _ _ _) rfl J d λU u K=>?_
  have L:U.SetOf (wbI prog w) S (λg=>(cD val (i + 1)).any (· == g)) (cD val (i + 1)).length:=
   SetOf_congr K (λg=>by rw[iB,DV]) (by rw[iB,xT])
  refine wap ⟨wc5 wcs _,O (i + 1) _ (by omega) q (W.frame _ s' _ _ r (wcp _) λb j o e=>?_) L λM x y=>?_⟩
  ·rw[u.2 b (λh:b=S=>l (by rw[<-h];exact j))];exact e
  ·refine B M (Moved.trans W.gtrans ((m.mono a).then_heap (wcp _) λb o j e=>?_) x) y;rw[u.2 b (λh:b=S=>j (by rw[h];exact wag))];exact e
end
section
variable{prog:wat}{w:World}{A:Around}{E:Value->Shared->Prop}{s:Shared}
noncomputable def dq(x:Str)(i:Nat):Str:=⟨#[x.cps.getD i 0]⟩
set_option maxRecDepth 100000 in
set_option maxHeartbeats 3200000 in
theorem xU{Q:Value->Shared->Prop}
 (hh:A.handled=none) (p:x.cps.size + 1 < wdA)
 (h:∀(h':Heap) (tk:Nat),h'.SetOf (wbI prog w) s.heap.objs.size (λC=>(cD (dq x) x.cps.size).any (· == C)) (cD (dq x) x.cps.size).length ->
   (∀b o,b < s.heap.objs.size->s.heap.get? b=some o->h'.get? b=some o)->Q (.ref s.heap.objs.size) {s with heap:=h',toks:=tk}) :
 wpAny (model prog w) A (call (.type "set") [.str x I]) Q E s:=by
 obtain⟨c,tl,P⟩:=wbW.mro;have y:=wbW.made;have S:=wbW.sub;refine wc4 (wfz ?_);show wpAny _ _ (callAny (.type "set") _) _ _ _;refine wap ⟨wdC _ (by decide+kernel),wbF wgc ?_⟩;rw[wgH (wfX "set" [.str x I] []) rfl];have h1:=wbW.notType;have h2:=wbW.canCreate;have W:=PySem.F.typeCall_set_1 (.str x I)
 repeat (any_goals (first |assumption |wp_step))
 refine wbT (code_set_new_1 (.str x I) (E:=E) (Q₁:=λobj f=>∃a:Bool,obj=.ref s.heap.objs.size/\f={s with heap:=s.heap.push {cls:=.type "set",dict:=none,data:=.set #[] 0 (.fresh 0 0 a)}}) λa=>⟨a,rfl,rfl⟩) λr f z=>?_
 cases r with
 |error e=>exact z
 |ok fl=>
  cases fl with
  |ret obj=>
   obtain⟨a,rfl,rfl⟩:=z;have T:(s.heap.push {cls:=.type "set",dict:=none,data:=.set #[] 0 (.fresh 0 0 a)}).get? s.heap.objs.size=some {cls:=.type "set",dict:=none,data:=.set #[] 0 (.fresh 0 0 a)}:=wax _ rfl;have X:whw {s with heap:=s.heap.push {cls:=.type "set",dict:=none,data:=.set #[] 0 (.fresh 0 0 a)}} (.ref s.heap.objs.size) "set":=⟨_,T,rfl⟩;have Y:=wbW.init.lookup;have Z:=wbW.init.bind (.ref s.heap.objs.size)
   repeat (any_goals (first |assumption |wp_step))
   refine wbT (wbZ (R:=wants (λr g=>r=.none/\∃h' tk,g={s with heap:=h',toks:=tk} /\
    h'.SetOf (wbI prog w) s.heap.objs.size (λC=>(cD (dq x) x.cps.size).any (· == C)) (cD (dq x) x.cps.size).length /\
    (∀b o,b < s.heap.objs.size->s.heap.get? b=some o->h'.get? b=some o)) E) wbW.init.plain PySem.F.entry_set_init (check_set_init_1 X ?_)) λl g d=>?_
   ·have U:=sub_str_set;have V:=sub_str_frozenset;have z9:(we4 "str" == we4 "dict")=false:=by decide
    unfold wdG.«set.__init__» noKeywords wht;generalize B:pyIter=PI
    wp_walk
    subst B;refine wpAny_pyIter_str λo St hW D=>?_;refine wa3 (wpAny_runValue ?_);have G:A.in1.in1.in1.handled=none:=by simp[hh]
    have H:s.heap.objs.size∉[(s.heap.push {cls:=.type "set",dict:=none,data:=.set #[] 0 (.fresh 0 0 a)}).objs.size]:=by
     rw[wbK];simp only[waH,wao,wbH,or_false,not_or];exact war (wbS _)
    have m:∀(i:Nat) (v:Value),SignAt x i v->∃t,v=.str (dq x i) t:=λi v hv=>by
     obtain⟨c,u,hc,e⟩:=hv;refine⟨u,?_⟩;rw[e];unfold dq;rw[wd7,hc];rfl
    refine z8 ((hW _ G).toS) s.heap.objs.size H (dq x) m p (x.cps.size - 0) 0 _ (by omega) (waM _) D ?J ?hR
    case J=>
     have n:((s.heap.push {cls:=.type "set",dict:=none,data:=.set #[] 0 (.fresh 0 0 a)}).push o).get? s.heap.objs.size
      =some {cls:=.type "set",dict:=none,data:=.set #[] 0 (.fresh 0 0 a)}:=wa8 _ T
     exact SetOf_congr ((setObjOf_fresh (knd:=wbI prog w) a).setOf n (by unfold wdA;omega)) (λ_=>rfl) rfl
    case hR=>
     intro s' q j;obtain⟨h',g',d',K,L⟩:=s';have eg:g'=s.gens:=q.gens;have ed:d'=s.drawn:=q.drawn;have eo:L=s.os:=q.os;subst eg;subst ed;subst eo;show wpAny _ _ _ _ _ _;refine wap ?_;show wpAny _ _ (ret wby) _ _ _;refine wap ⟨rfl,h',K,rfl,j,λb o' p e=>?_⟩;have M:b≠s.heap.objs.size:=war p
     have N:b≠(s.heap.push {cls:=.type "set",dict:=none,data:=.set #[] 0 (.fresh 0 0 a)}).objs.size:=by
      rw[wbK];exact war (wdK p)
     exact q.heap b o' (by simp only[waH,wao,wbH,or_false,not_or];exact⟨M,N⟩) (wa8 _ (wa8 _ e))
   ·cases l with
    |error e=>exact d
    |ok k=>
     cases k with
     |ret r=>
      obtain⟨rfl,h',tk,rfl,j,O⟩:=d
      repeat (any_goals (first |assumption |wp_step))
      exact h _ _ j O
     |_=>exact d.elim
  |_=>exact z.elim
end
section
variable{X:Cx}
noncomputable def IW(P:wat)(w:World)(a:Addr)(n:Nat):HO:=.ext λh=>∃S,h.SetOf (wbI P w) a S n
theorem za(hc:X.calm=true):d5 X (.type "set") (λxs H Q=>∃z,xs=[.str z]/\z.cps.size + 1 < wdA/\∀p,H p=none->Q (.ref p) (upd H p (IW X.prog X.w p (cD (dq z) z.cps.size).length))):=by
 intro c s σ H xs n Q I r h;obtain⟨z,rfl,f,q⟩:=h;obtain⟨u,rfl,t,rfl⟩:=vals1 r;refine xU (I.ok.hd hc) f λg i d kp=>?_;have a:∀b o,s.heap.get? b=some o->g.get? b=some o:=λb o e=>kp b o (wad e) e;refine⟨.ref s.heap.objs.size,_,I.laid (t':=i) (o:=IW X.prog X.w s.heap.objs.size (cD (dq z) z.cps.size).length) a (wab _) ⟨⟨_,d⟩,?_,?_⟩,rfl,q _ (I.aW.fresh (wab _))⟩
 ·obtain⟨o,_,_,_,e,_⟩:=d;exact⟨o,e⟩
 ·rintro v x ⟨S,o,j,l,m,e,rest⟩ k;exact⟨S,o,j,l,m,k o e,rest⟩
theorem zb:d5 X (.builtin "len") (λxs H Q=>∃p n,xs=[.ref p]/\H p=some (IW X.prog X.w p n)/\Q (.int n) H):=by
 intro b s σ H xs g Q I r h;obtain⟨p,n,rfl,c,q⟩:=h;obtain⟨u,rfl,d⟩:=vals1 r;cases d;obtain⟨⟨S,o,i,j,k,e,hex,hd,_,_,f,a,hn⟩,_⟩:=(show bG X.prog X.w H s.heap p (IW X.prog X.w p n) from I.aW p _ c);refine call_len_set e hex hd a (by grind [wdA]) ⟨.int n,H,I.tok _,⟨s.toks + 1,?_⟩,q⟩;rw[hn]
end
section
variable{X:Cx}{pins:List (Addr×Obj)}{σ:St}{H:Hp}{s:Shared}
end
section
variable{X:Cx}{st:Stmt}{rest:List Stmt}{t u:TS}{pos:Pos}
end
end L2
namespace Bs
open PySem PySem.Spec PyProof.Rows
noncomputable abbrev ch(x:Str):List Nat:=x.cps.toList
theorem aX(x:Str):(ch x).length=x.length:=by simp[ch,wda]
theorem ez(h:ch x=ch y):x=y:=by
 obtain⟨a⟩:=x;obtain⟨b⟩:=y;have:a=b:=wfb.mp h;rw[this]
theorem aQ(a b:Str):ch (a++b)=ch a++ch b:=by grind [Str.cps_append,Array.toList_append]
theorem xV(c:Nat):ch ⟨#[c]⟩=[c]:=rfl
theorem jq(h:z.length=0):ch z=[]:=by grind [aX]
theorem nL(x:Str)(l u:Option Int):wbV x l u=StrLaws.sliceText x l u:=rfl
theorem FX(x:Str)(j:Nat):ch (wbV x none (some (j:Int)))=(ch x).take j:=by
 by_cases h:j<=x.length
 ·grind [nL,wgd,wda]
 ·have hn:wbG none (some (j:Int)) 1 x.length=wbG none (some ((x.length:Nat):Int)) 1 x.length:=by
   grind [wbG]
  have e:wbV x none (some (j:Int))=wbV x none (some ((x.length:Nat):Int)):=by
   grind [wbV]
  rw[e,nL,wgd ⟨by omega,by simp[wda]⟩];have a:(ch x).length<=j:=by rw[aX];omega
  rw[wbx a];have b:x.cps.toList.take x.cps.size=x.cps.toList:=wbx (by simp);simp[wda,b]
theorem sC(x:Str)(i:Nat):ch (wbV x (some (i:Int)) none)=(ch x).drop i:=by
 by_cases h:i<=x.length
 ·rw[nL,wfK ⟨by omega,by simp[wda]at h ⊢;omega⟩];show ((x.cps.toList.drop (i:Int).toNat).take ((x.cps.toList.length:Int) - (i:Int)).toNat).toArray.toList=(ch x).drop i;rw[List.toList_toArray,waG,wbx];rw[wbw];omega
 ·have hn:wbG (some (i:Int)) none 1 x.length=wbG (some ((x.length:Nat):Int)) none 1 x.length:=by
   have a:¬((i:Int) < 0):=by omega
   have b:¬(((x.length:Nat):Int) < 0):=by omega
   have c:max (0:Int) (min (i:Int) (x.length:Int))=max 0 (min ((x.length:Nat):Int) (x.length:Int)):=by omega
   simp[wbG,a,b,c]
  have e:wbV x (some (i:Int)) none=wbV x (some ((x.length:Nat):Int)) none:=by
   unfold wbV;rw[hn]
  rw[e,nL,wfK ⟨by omega,by simp[wda]⟩];have d:(ch x).length<=i:=by rw[aX];omega
  rw[wfL d];simp[wda]
noncomputable def me(c:Nat)(l:List Nat):List Nat:=l.filter λk=>decide (k≠c)
theorem mS(c:Nat)(l:List Nat)(h:c∉l):me c l=l:=by
 unfold me;refine wb5.mpr λa ha=>decide_eq_true λe=>h (e ▸ ha)
theorem sD(c:Nat)(g:z.length=0):∀parts:List Str,(∀p∈parts,c∉ch p)->me c (ch (whc ⟨#[c]⟩ parts))=ch (whc z parts)
 |[],_=>rfl
 |[p],h=>mS c _ (h p (wao.mpr rfl))
 |p :: q :: r,h=>by
  have d:=sD c g (q :: r) λa ha=>h a (wac _ ha);show me c (ch (p++⟨#[c]⟩++whc ⟨#[c]⟩ (q :: r)))=ch (p++z++whc z (q :: r));rw[aQ,aQ,aQ,aQ,<-d,jq g,waX];unfold me;rw[wbo,wbo];have b:=mS c _ (h p (wag ..));unfold me at b;rw[b];simp
theorem xW(g:z.length=0)(x:Str)(c:Nat):ch (wh2 x ⟨#[c]⟩ z)=me c (ch x):=by
 grind [StrLaws.replace_one,sD,StrLaws.split_free,StrLaws.join_split]
theorem pj(g:z.length=0):∀ts:List Str,ch (wdd z ts)=(ts.map ch).flatten:=by
 intro ts;unfold wdd Builtin.Str.glued
 have b:z.cps=#[]:=by
  have:=jq g;exact wfb.mp this
 have key:∀(l:List Str) (a:Array Nat),(l.foldl (λa p=>a++z.cps++p.cps) a).toList=a.toList++(l.map ch).flatten:=by
  intro l
  induction l with
  |nil=>grind
  |cons p l c=>
   grind
 cases ts with
 |nil=>rfl
 |cons p l=>
  show ((List.drop 1 (p :: l)).foldl (λa q=>a++z.cps++q.cps) p.cps).toList=_;rw[List.drop_one,List.tail_cons,key];rfl
noncomputable def dN:Str:="abcdefghijklmnopqrstuvwxyz0123456789"
structure wx(x:Str):Prop where
 lo:2<=x.length
 hi:x.length<=4
 nd:(ch x).Nodup
 sub:∀c∈ch x,c∈ch dN
structure Drawn(i:Nat)(IX found:Str):Prop where
 pl:IX.length + i=36
 fl:found.length=i
 pn:(ch IX).Nodup
 fn:(ch found).Nodup
 ps:∀c∈ch IX,c∈ch dN
 fs:∀c∈ch found,c∈ch dN
 ap:∀c∈ch found,c∉ch IX
theorem B8:(ch dN).Nodup:=by decide+kernel
theorem sE:dN.length=36:=by decide+kernel
theorem Drawn.zero(g:e.length=0):Drawn 0 dN e:=
 ⟨sE,g,B8,(by rw[jq g];exact wbj),(λ_ h=>h),(λc h=>by grind [jq]),(λc h=>by grind [jq])⟩
theorem pk:∀{l:List Nat},l.Nodup->c∈l->(me c l).length + 1=l.length:=by
 intro l
 induction l with
 |nil=>intro _ h;cases h
 |cons a r b=>
  intro nd h;obtain⟨d,f⟩:=wb0.mp nd;unfold me at b ⊢
  by_cases e:a=c
  ·subst e;have:r.filter (λk=>decide (k≠a))=r:=mS a r d;rw[wdV,if_neg (by simp),this];rfl
  ·have hc:c∈r:=(waH.mp h).resolve_left (λz=>e z.symm);rw[wdV,if_pos (by simp[e]),waK,waK,b f hc]
theorem Drawn.step(d:Drawn i g found)(j:z.length=0)(hc:c∈ch g):Drawn (i + 1) (wh2 g ⟨#[c]⟩ z) (found++⟨#[c]⟩):=by
 have e:=xW j g c;have p:=pk d.pn hc;have q:(wh2 g ⟨#[c]⟩ z).length=(me c (ch g)).length:=by rw[<-aX,e]
 have r:=aX g;refine⟨by have:=d.pl;omega,?_,?_,?_,λk f=>?_,λk f=>?_,λk f=>?_⟩
 ·rw[<-aX,aQ,wa7,aX,d.fl];rfl
 ·rw[e];exact d.pn.filter _
 ·rw[aQ];refine wch.mpr ⟨d.fn,by simp[ch],λa ha b l=>?_⟩;have:b=c:=by simpa [ch] using l
  subst this;rintro rfl;exact d.ap a ha hc
 ·rw[e]at f;exact d.ps k (waC.mp f).1
 ·rw[aQ]at f;rcases waA.mp f with h |h
  ·exact d.fs k h
  ·have:k=c:=by simpa [ch] using h
   subst this;exact d.ps k hc
 ·rw[e];intro m;obtain⟨n,o⟩:=waC.mp m;rw[aQ]at f;rcases waA.mp f with h |h
  ·exact d.ap k h n
  ·have:k=c:=by simpa [ch] using h
   subst this;simp at o
theorem Drawn.signs(d:Drawn i g found)(j:2<=i)(l:i<=4):wx found:=⟨by rw[d.fl];exact j,by rw[d.fl];exact l,d.fn,d.fs⟩
structure xX(sg w:Str):Prop where
 lo:1<=w.length
 hi:w.length<=5
 sub:∀c∈ch w,c∈ch sg
theorem DW(j:z.length=0)(o:1<=ts.length)(p:ts.length<=5)(h:∀t∈ts,∃c,t=⟨#[c]⟩/\c∈ch g):xX g (wdd z ts):=by
 have e:=pj j ts
 have hl:∀(l:List Str),(∀t∈l,∃c,t=⟨#[c]⟩/\c∈ch g)->((l.map ch).flatten).length=l.length/\∀c∈(l.map ch).flatten,c∈ch g:=by
  intro l
  induction l with
  |nil=>intro _;exact⟨rfl,λc h=>by cases h⟩
  |cons t l d=>
   intro a;obtain⟨c,rfl,hc⟩:=a t (wag ..);obtain⟨f,i⟩:=d λt h=>a t (wac _ h);refine⟨by rw[waw,wcg,wa7,f,waK];exact Nat.add_comm 1 _,λk b=>?_⟩;rw[waw,wcg]at b;rcases waA.mp b with h |h
   ·have:k=c:=by simpa [ch] using h
    subst this;exact hc
   ·exact i k h
 obtain⟨m,n⟩:=hl ts h;have q:(wdd z ts).length=ts.length:=by rw[<-aX,e,m]
 exact⟨by omega,by omega,λc hc=>n c (e ▸ hc)⟩
noncomputable def Lx(y x:Str):Bool:=!(wfl x y 0 x.length 1).isEmpty
theorem IY(x:Str)(c:Nat):Lx ⟨#[c]⟩ x=decide (c∈ch x):=StrLaws.found_one x c
noncomputable def bears(ws:List Str)(r:Str):Bool:=ws.any λw=>Lx w r
noncomputable def eB(w:Str)(n:Nat):Str:=wbV w none (some (n:Int))
theorem DX(w:Str)(n:Nat):(eB w n).length<=w.length:=wei _ _ _
noncomputable def xY(ks:List Str)(b:Str):List Str:=if b∈ks then ks else ks++[b]
noncomputable def pq(ws:List Str)(ks:List Str)(b:Str):List Str:=if bears ws b=true then ks else xY ks b
theorem FY(ws g:List Str)(b:Str):(pq ws g b).length<=g.length + 1:=by
 unfold pq xY;split
 ·omega
 ·split
  ·omega
  ·simp
noncomputable def upTo(ws:List Str)(w:Str)(ks:List Str)(n:Nat):List Str:=((waJ n).map λi=>eB w (1 + i)).foldl (pq ws) ks
theorem fD(ws:List Str)(w:Str)(g:List Str)(n:Nat):upTo ws w g (n + 1)=pq ws (upTo ws w g n) (eB w (1 + n)):=by
 unfold upTo;rw[wdq,waj,weT];rfl
theorem sF(ws:List Str)(w:Str)(g:List Str):∀n,(upTo ws w g n).length<=g.length + n
 |0=>wab _
 |n + 1=>by
  rw[fD];have:=sF ws w g n;have:=FY ws (upTo ws w g n) (eB w (1 + n));omega
noncomputable def addW(ws:List Str)(ks:List Str)(w:Str):List Str:=upTo ws w ks (w.length - 1)
noncomputable def cJ(ws:List Str)(e:Str)(us:List Str):List Str:=us.foldl (addW ws) [e]
theorem B9(ws:List Str)(e:Str)(us:List Str)(w:Str):cJ ws e (us++[w])=addW ws (cJ ws e us) w:=by
 unfold cJ;rw[weT];rfl
theorem lN(h:∀w∈us,w.length<=5):(cJ ws e us).length<=1 + 4 * us.length:=by
 have key:∀(us a:List Str),(∀w∈us,w.length<=5)->(us.foldl (addW ws) a).length<=a.length + 4 * us.length:=by
  intro us
  induction us with
  |nil=>grind
  |cons w us b=>
   grind [addW,wac,sF]
 exact key us [e] h
theorem Ba(h:g.Nodup):(xY g b).Nodup:=by
 unfold xY;split
 ·exact h
 ·rename_i d;refine wch.mpr ⟨h,by simp,λa ha c hc=>?_⟩;have:c=b:=by simpa using hc
  subst this;rintro rfl;exact d ha
theorem Bb(h:g.Nodup):(pq ws g b).Nodup:=by
 unfold pq;split
 ·exact h
 ·exact Ba h
theorem sG(h:g.Nodup):∀n,(upTo ws w g n).Nodup
 |0=>h
 |n + 1=>by rw[fD];exact Bb (sG h n)
theorem ql(us:List Str):(cJ ws e us).Nodup:=by
 have key:∀(us a:List Str),a.Nodup->(us.foldl (addW ws) a).Nodup:=by
  intro us
  induction us with
  |nil=>intro a h;exact h
  |cons w us b=>intro a h;exact b _ (sG h _)
 exact key us [e] (by simp)
theorem FZ(h:k∈g):k∈pq ws g b:=by grind [pq,xY,wbt]
theorem mem_upTo(h:k∈g):∀n,k∈upTo ws w g n
 |0=>h
 |n + 1=>by rw[fD];exact FZ (mem_upTo h n)
theorem cP(us:List Str):e∈cJ ws e us:=by
 have key:∀(us a:List Str),e∈a->e∈us.foldl (addW ws) a:=by
  intro us
  induction us with
  |nil=>intro a h;exact h
  |cons w us b=>intro a h;exact b _ (mem_upTo h _)
 exact key us [e] (by simp)
end Bs
namespace L2
open PySem PySem.Spec PyProof.Rows
noncomputable def mU(sc scope:wcQ)(N:List Str)(x:Str)(ys:List Str)(ix:List Nat):Bool:=
 (match scope.kind with |.function=>true |_=>false) &&
 (scope.names.all λy=>!decide (y.2=.cell)) && (scope.names.all λy=>!decide (y.2=.local) ||decide (scope.names.lookup y.1=some .local)) &&
 (scope.names.all λy=>!decide (y.2=.free) ||decide (sc.names.lookup y.1=some .cell) ||decide (sc.names.lookup y.1=some .free)) &&
 decide (scope.names.lookup x=some .local) && decide ((x :: ys).Nodup) && decide (ix.length=ys.length) &&
 ((waJ ys.length).all λj=>match ys[j]?,ix[j]? with
   |some y,some i=>decide (N[i]?=some y) && (decide (sc.names.lookup y=some .cell) ||decide (sc.names.lookup y=some .free)) && decide (scope.names.lookup y=some .free)
   |_,_=>false)
theorem Bc{X:Cx}(g:X.env.scope=l)(p:X.N=N)(h:mU l scope N x ys o=true):bK X scope x ys o:=by
 unfold mU at h;simp only[wc7]at h;obtain⟨⟨⟨⟨⟨⟨⟨b,d⟩,f⟩,k⟩,m⟩,n⟩,r⟩,s⟩:=h;refine⟨?_,λy a=>?_,λy a e=>?_,of_decide_eq_true m,λy a e=>?_,of_decide_eq_true n,of_decide_eq_true r,λj y c=>?_⟩
 ·cases e:scope.kind <;> rw[e]at b <;> first |rfl |cases b
 ·have:=waP.mp d y a;simpa using this
 ·have:=waP.mp f y a;simpa [e] using this
 ·have:=waP.mp k y a;have q:l.names.lookup y.1=some .cell\/l.names.lookup y.1=some .free:=by simpa [e] using this
  show X.env.scope.names.lookup y.1=some .cell\/X.env.scope.names.lookup y.1=some .free;rw[g];exact q
 ·have hl:j < ys.length:=(wa6.mp c).1;have:=waP.mp s j (wbd.mpr hl);rw[c]at this
  cases e:o[j]? with
  |none=>rw[e]at this;cases this
  |some i=>
   rw[e]at this;simp only[wc7,Bool.or_eq_true,decide_eq_true_eq]at this;exact⟨i,rfl,by rw[p];exact this.1.1,by rw[g];exact this.1.2,this.2⟩
theorem comp_map{Ok:Hp->Prop}{Q:Hp->Prop}(g:V->V)(I:lY J Ok xs)(hl:H l=none)(T:xs.length<=sizeLine)(r:∀j,a9 H j->Ok j)
 (U:∀x o p,x∈xs->a9 H o->(∀j,a9 o j->p (g x) j)->te (some x :: C) o p)
 (hd:∀j,a9 H j->j l=some (.lst (xs.map g))->Q j):md J l C vh te H Q:=
 d8 (λ_=>true) g I hl T r (λx o p _ _ q=>q o (a9.refl _)) (λx o p a _ s q=>U x o p a s q) (λj s h=>hd j s (by rw[h,wb5.mpr (λ_ _=>rfl)]))
structure FnAt(K:wa1)(mg:Str->Option Value)(nm:Str)(st:Stmt)(ps:List Str)(f:Addr)(fd:wae):Prop where
 F:yM K nm nm st f fd
 b:Binds K fd ps []
 g:mg nm=some (.ref f)
theorem hE{X:Cx}{K:wa1}(g:X.K=K):lX X (wbr .In) (Qh K false):=by
 subst g;exact w9
theorem vi{X:Cx}{K:wa1}(g:X.K=K):lX X (wbr .NotIn) (Qh K true):=by
 subst g;exact jl
theorem gf{X:Cx}{K:wa1}(g:X.K=K):MY X (NV K):=by
 subst g;exact bx
theorem vj{X:Cx}{K:wa1}(g:X.K=K):d5 X (.builtin "len") (λxs H Q=>∃p ys,xs=[.ref p]/\(aH K H p ys\/ir K H p ys)/\Q (.int ys.length) H):=by
 subst g;exact bg
theorem CY{X:Cx}{K:wa1}{o:Expr}{C:TE}{name:Str}{apos g:Pos}{T id:String}{r:V->List V->Hp->VK->Prop}(I:X.K=K)(J:wgb T)(slot:Slot T name id)(p:typeOf (.builtin id)=pure (.type "method_descriptor"))(U:Kp X id r)(ho:PE X o C)
 (j:wci o name X.env (eval o X.env)=eval o X.env:=by rfl) (l:(apos.endLine == g.line)=true:=by rfl):PE X (.Call (.Attribute o name apos) [] [] g) (NY K T r C):=by
 subst I;exact FH J slot p U ho j l
theorem lO{X:Cx}{K:wa1}{e:Expr}{f:Str}{pos:Pos}{g:TE}(j:X.K=K)(l:PE X e g)(o:wci e f X.env (eval e X.env)=eval e X.env):PE X (.Attribute e f pos) (NP K g f):=by
 subst j;exact aO l o
theorem G0{c A B:Prop}[Decidable c](h:¬c)(b:B):if c then A else B:=by
 grind
theorem RE{c A B:Prop}[Decidable c](h:c)(a:A):if c then A else B:=by
 grind
theorem au(h:n<=1000000):n<=sizeLine:=wal h (by rw[wc2];decide)
theorem iR(y:Str)(ps:List Str):nJ (.str y) (ps.map V.str)=decide (y∈ps):=by
 unfold nJ;rw[wfc]
 induction ps with
 |nil=>rfl
 |cons p ps a=>
  rw[wcM,a];show ((p == y) ||decide (y∈ps))=decide (y∈p :: ps)
  by_cases e:p=y
  ·subst e;simp
  ·grind
theorem eC(ps:List Str):(ps.map V.str).all cN=true:=by
 rw[wfa];exact waP.mpr λ_ _=>rfl
noncomputable def Ql(r:Str):V->V:=λv=>match v with
 |.str y=>.bl (Bs.Lx y r)
 |_=>.non
theorem G6(r:Str)(ws:List Str):(ws.map V.str).map (Ql r)=(ws.map λw=>Bs.Lx w r).map V.bl:=by
 rw[wai,wai];rfl
theorem DY(a b:Str):(dQ a).map (Ql b)=((Bs.ch a).map λc=>decide (c∈Bs.ch b)).map V.bl:=by
 unfold dQ;rw[wai,wai];refine wb6 λc _=>?_;show V.bl (Bs.Lx ⟨#[c]⟩ b)=V.bl (decide (c∈Bs.ch b));rw[Bs.IY]
noncomputable def jL(ks:List Str):List (Key×V):=ks.map λk=>((waz k:Key),V.bl true)
theorem Bd(g:List Str):(jL g).map (·.1)=g.map (waz:Str->Key):=by
 unfold jL;rw[wai];rfl
theorem DZ(g:List Str)(b:Str):putK (jL g) (waz b:Key) (.bl true)=jL (Bs.xY g b):=by
 unfold putK Bs.xY
 by_cases h:b∈g
 ·have a:((jL g).any λc=>decide (c.1=(waz b:Key)))=true:=by
   refine wco.mpr ⟨(waz b,.bl true),?_,decide_eq_true rfl⟩;exact waa.mpr ⟨b,h,rfl⟩
  rw[if_pos a,if_pos h];unfold jL;rw[wai];refine wb6 λk _=>?_;show (if (waz k:Key)=waz b then((waz k:Key),V.bl true) else((waz k:Key),V.bl true))=_;split <;> rfl
 ·have a:¬((jL g).any λc=>decide (c.1=(waz b:Key)))=true:=by
   intro z;obtain⟨p,d,e⟩:=wco.mp z;obtain⟨k,f,rfl⟩:=waa.mp d;have:(waz k:Key)=waz b:=of_decide_eq_true e;have:k=b:=wcY this;subst this;exact h f
  rw[if_neg a,if_neg h];unfold jL;rw[waj];rfl
theorem E1(g:List Str):(jL g).length=g.length:=by unfold jL;rw[wa0]
theorem nM(h:(Bs.ch x).Nodup):∀i,i<=x.cps.size->cD (dq x) i=(waJ i).map (dq x)
 |0,_=>rfl
 |i + 1,hi=>by
  have d:=nM h i (by omega);rw[iB,d,wdq,waj];unfold qk;rw[if_neg]
  ·rfl
  ·intro z;obtain⟨y,f,e⟩:=wco.mp z;obtain⟨j,l,rfl⟩:=waa.mp f;have m:j < i:=wbd.mp l;have b:dq x j=dq x i:=eq_of_beq e;unfold dq at b
   have c:x.cps.getD j 0=x.cps.getD i 0:=by
    injection b with n
    have:=congrArg Array.toList n;simpa using this
   have g:∀k,(a:k < x.cps.size)->x.cps.getD k 0=(Bs.ch x)[k]'(by simpa using a):=λk a=>by
    simp[Array.getD,a]
   rw[g j (by omega),g i (by omega)]at c;have:=(wd8 h).mp c;omega
theorem zc(h:(Bs.ch x).Nodup):(cD (dq x) x.cps.size).length=x.length:=by
 rw[nM h _ (wab _),wa0,wb2];rfl
section
variable{X:Cx}
end
theorem G7{κ:Type}(f:κ->V)(g:κ->Str)(j:∀a b,g a=g b->f a=f b):∀{l:List κ} {c:κ},c∈l->bz (l.map λc=>((waz (g c):Key),f c)) (waz (g c):Key)=some (f c):=by intro a;induction a <;> grind [bL,bM,wcY]
end L2
namespace L2
open PySem
structure fA(K:wa1)(C:Addr)(nm qual:Str)(st:Stmt)(ps:List Str)(f:Addr)(fd:wae):Prop where
 F:yM K nm qual st f fd
 b:Binds K fd ps []
 m:Fx K C nm f
end L2
namespace Sx
open PySem L2 Bs
theorem Oa:waR "all"=some (.builtin "all"):=by decide+kernel
theorem Ly:waR "any"=some (.builtin "any"):=by decide+kernel
theorem IZ:waR "sorted"=some (.builtin "sorted"):=by decide+kernel
theorem gq:waR "isinstance"=some (.builtin "isinstance"):=by decide+kernel
theorem J0:waR "str"=some (.type "str"):=by decide+kernel
theorem iC:waR "list"=some (.type "list"):=by decide+kernel
theorem RF:waR "set"=some (.type "set"):=by decide+kernel
section
variable{P:wat}{w:World}{K:wa1}{mg:Str->Option Value}{base:Heap}{f:Addr}{fd:wae}
inductive J1(vs:List V)(H:Hp)(Q:VK)(eL:XK):Prop
 |mk (a b) (_:vs=[.str a,.str b]) (_:a.length<=1000) (_:∀H',a9 H H'->Q (.bl ((ch a).all λc=>decide (c∈ch b))) H')
inductive J4(K:wa1)(vs:List V)(H:Hp)(Q:VK)(eL:XK):Prop
 |mk (r a ws) (_:vs=[.str r,.ref a]) (_:aH K H a (ws.map V.str)) (_:ws.length<=1000) (_:∀H',a9 H H'->Q (.bl (bears ws r)) H')
end
section
variable{P:wat}{w:World}{K:wa1}{mg:Str->Option Value}{base:Heap}{f:Addr}{fd:wae}
inductive Ob(vs:List V)(H:Hp)(Q:VK)(eL:XK):Prop
 |mk (x) (_:vs=[.str x]) (_:wx x) (_:∀H',a9 H H'->Q (.bl true) H')
inductive Oc(vs:List V)(H:Hp)(Q:VK)(eL:XK):Prop
 |mk (t g) (_:vs=[.str t,.str g]) (_:xX g t) (_:∀H',a9 H H'->Q (.bl true) H')
inductive J5(K:wa1)(vs:List V)(H:Hp)(Q:VK)(eL:XK):Prop
 |mk (a:Addr) (g:Str) (ws:List Str) (_:vs=[.ref a,.str g]) (_:aH K H a (ws.map V.str)) (_:ws.length<=6) (_:(∀w∈ws,xX g w)) (_:∀H',a9 H H'->Q .non H')
end
end Sx
namespace Bs
open PySem
noncomputable def gg(r:Str)(n:Nat):Str:=wbV r (some (n:Int)) none
theorem pw(r:Str):gg r r.length="":=by
 refine ez ?_;show ch (wbV r (some (r.length:Int)) none)=[];rw[sC];exact wfL (wec (aX r))
noncomputable def G8(ps:List Str)(r:Str):Nat:=((waJ (r.length + 1)).find? λn=>decide (gg r n∈ps)).getD 0
noncomputable def lend(ps:List Str)(r:Str):Str:=gg r (G8 ps r)
theorem zf(g:gg r n∈ps)(j:∀m,m < n->gg r m∉ps)(l:n<=r.length):G8 ps r=n:=by
 unfold G8
 have e:(waJ (r.length + 1)).find? (λn=>decide (gg r n∈ps))=some n:=by
  grind [List.find?_range_eq_some]
 rw[e];rfl
end Bs
namespace L2
open PySem Bs
noncomputable def uX(ws ps:List Str)(p:Str)(c:Nat):V:=if bears ws (p++⟨#[c]⟩)=true then .non else .str (lend ps (p++⟨#[c]⟩))
noncomputable def rowOf(g:Str)(ws ps:List Str)(p:Str):List (Key×V):=(ch g).map λc=>((waz (⟨#[c]⟩:Str):Key),uX ws ps p c)
theorem E2(g:Str)(ws ps:List Str)(p:Str):(rowOf g ws ps p).length=g.length:=by unfold rowOf;rw[wa0,aX]
theorem Be(g:Str)(ws ps:List Str)(p:Str):((rowOf g ws ps p).map (·.2)).all cN=true:=by
 unfold rowOf;rw[wai];refine waP.mpr λv a=>?_;obtain⟨c,_,rfl⟩:=waa.mp a;show cN (uX ws ps p c)=true;unfold uX;split <;> rfl
end L2
namespace Sx
open PySem L2 Bs
section
variable{P:wat}{w:World}{K:wa1}{mg:Str->Option Value}{base:Heap}{f:Addr}{fd:wae}
inductive G9(K:wa1)(vs:List V)(H:Hp)(Q:VK)(eL:XK):Prop
 |mk (a ws) (_:vs=[.ref a]) (_:aH K H a (ws.map V.str)) (_:ws.length<=6) (_:(∀w∈ws,w.length<=5)) (_:∀(l:Addr) (ss:List Str) (H':Hp),a9 H H'->H l=none->H' l=some (.lst (ss.map V.str))->ss.Perm (cJ ws "" ws)->wfk ss=true->Q (.ref l) H')
inductive Lz(K:wa1)(vs:List V)(H:Hp)(Q:VK)(eL:XK):Prop
 |mk (r a ps) (_:vs=[.str r,.ref a]) (_:aH K H a (ps.map V.str)) (_:("":Str)∈ps) (_:r.length<=1000) (_:∀H',a9 H H'->Q (.str (lend ps r)) H')
inductive J6(K:wa1)(vs:List V)(H:Hp)(Q:VK)(eL:XK):Prop
 |mk (p g a b ws ps) (_:vs=[.str p,.str g,.ref a,.ref b]) (_:aH K H a (ws.map V.str)) (_:aH K H b (ps.map V.str)) (_:("":Str)∈ps) (_:p.length<=100) (_:g.length<=10) (_:(ch g).Nodup) (_:ws.length<=1000) (_:∀(d:Addr) (H':Hp),a9 H H'->H d=none->H' d=some (.dK (rowOf g ws ps p))->Q (.ref d) H')
end
end Sx
namespace L2
open PySem Bs
noncomputable def kl(es:List (Key×V))(LA:List Str):Bool:=(es.map (·.2)).any λe=>nJ e (LA.map V.str)
theorem Ga{e:V}{a b:List Str}(h:∀k∈a,k∈b)(q:nJ e (a.map V.str)=true):nJ e (b.map V.str)=true:=by grind [nJ]
theorem Bg{g:List (Key×V)}{a b:List Str}(h:∀k∈a,k∈b)(q:kl g a=true):kl g b=true:=by
 unfold kl at q ⊢;obtain⟨y,c,d⟩:=wco.mp q;exact wco.mpr ⟨y,c,Ga h d⟩
structure Od(ks:List Str)(es:Str->List (Key×V))(ls:List Str):Prop where
 sub:ls.Sublist ks
 X2:∀k∈ls,kl (es k) ls=true
 most:∀LA:List Str,(∀k∈LA,k∈ks/\kl (es k) LA=true)->∀k∈LA,k∈ls
theorem wy:∀(a b:List Str),ph (a.map V.str) (b.map V.str)=decide (a=b)
 |[],[]=>rfl
 |[],_ :: _=>rfl
 |_ :: _,[]=>rfl
 |x :: c,y :: d=>by
  show ((x == y) && ph (c.map V.str) (d.map V.str))=_;rw[wy c d]
  by_cases e:x=y
  ·grind
  ·grind
noncomputable def bI(mv:List (Str×Addr)):List (Key×V):=mv.map λm=>((waz m.1:Key),V.ref m.2)
theorem hF(mv:List (Str×Addr)):((bI mv).map λg=>kV g.1)=(mv.map (·.1)).map V.str:=by
 unfold bI;rw[wai,wai];rfl
theorem iS(h:k∈mv.map (·.1)):∃a,(k,a)∈mv/\bz (bI mv) (waz k:Key)=some (.ref a):=by
 induction mv with
 |nil=>simp at h
 |cons m mv b=>
  grind [bL,bI,bM]
theorem jr(h:k∉mv.map (·.1)):bz (bI mv) (waz k:Key)=none:=by
 cases q:bz (bI mv) (waz k:Key) with
 |none=>rfl
 |some v=>
  have:=rJ q;unfold bI at this;rw[wai]at this;obtain⟨m,a,e⟩:=waa.mp this;have b:m.1=k:=wcY e;exact absurd (waa.mpr ⟨m,a,b⟩) h
end L2
namespace Sx
open PySem L2 Bs
section
variable{P:wat}{w:World}{K:wa1}{mg:Str->Option Value}{base:Heap}{f:Addr}{fd:wae}
noncomputable def Oe(ls:List V):V->V:=λv=>.bl (nJ v ls)
inductive J7(K:wa1)(vs:List V)(H:Hp)(Q:VK)(eL:XK):Prop
 |mk (a b es ls) (_:vs=[.ref a,.ref b]) (_:aH K H a es) (_:aH K H b ls) (_:es.all cN=true) (_:ls.all cN=true) (_:es.length<=1000) (_:∀H',a9 H H'->Q (.bl (es.any λe=>nJ e ls)) H')
inductive LC(K:wa1)(vs:List V)(H:Hp)(Q:VK)(eL:XK):Prop
 |mk (d mv es) (_:vs=[.ref d]) (_:H d=some (.dK (bI mv))) (_:mv.length<=1000) (_:(∀m∈mv,H m.2=some (.dK (es m.1)))) (_:(∀k,((es k).map (·.2)).all cN=true)) (_:(∀k,(es k).length<=1000)) (_:∀(l:Addr) (ls:List Str) (H':Hp),a9 H H'->H l=none->H' l=some (.lst (ls.map V.str))->Od (mv.map (·.1)) es ls->Q (.ref l) H')
end
noncomputable def Bh(g:Str)(b d q:Addr):List (Str×V):=[("signs",.str g),("barred",.ref b),("moves",.ref d),("lasting",.ref q)]
noncomputable def Qm(g:Str):List (Str×V):=[("signs",.str g)]
noncomputable def N0(g:Str)(b:Addr):List (Str×V):=[("signs",.str g),("barred",.ref b)]
noncomputable def LD(g:Str)(b d:Addr):List (Str×V):=[("signs",.str g),("barred",.ref b),("moves",.ref d)]
theorem LI(g:Str):cx "signs" (.str g) []=Qm g:=rfl
theorem put2(g:Str)(b:Addr):cx "barred" (.ref b) (Qm g)=N0 g b:=by
 show (if ("signs":Str)="barred" then(("signs":Str),V.ref b) :: [] else(("signs":Str),V.str g) :: cx "barred" (.ref b) [])=_;rw[if_neg (by decide+kernel)];rfl
theorem put3(g:Str)(b d:Addr):cx "moves" (.ref d) (N0 g b)=LD g b d:=by
 show (if ("signs":Str)="moves" then(("signs":Str),V.ref d) :: [(("barred":Str),V.ref b)] else(("signs":Str),V.str g) :: (if ("barred":Str)="moves" then(("barred":Str),V.ref d) :: [] else(("barred":Str),V.ref b) :: cx "moves" (.ref d) []))=_;rw[if_neg (by decide+kernel),if_neg (by decide+kernel)];rfl
theorem E3(g:Str)(b d q:Addr):cx "lasting" (.ref q) (LD g b d)=Bh g b d q:=by
 show (if ("signs":Str)="lasting" then(("signs":Str),V.ref q) :: [(("barred":Str),V.ref b),(("moves":Str),V.ref d)] else(("signs":Str),V.str g) :: (if ("barred":Str)="lasting" then(("barred":Str),V.ref q) :: [(("moves":Str),V.ref d)] else(("barred":Str),V.ref b) :: (if ("moves":Str)="lasting" then(("moves":Str),V.ref q) :: [] else(("moves":Str),V.ref d) :: cx "lasting" (.ref q) [])))=_;rw[if_neg (by decide+kernel),if_neg (by decide+kernel),if_neg (by decide+kernel)];rfl
theorem km(g:Str)(b d:Addr):(LD g b d).lookup ("moves":Str)=some (.ref d):=by
 rw[<-put3,aB,if_pos rfl]
theorem mV(g:Str)(b d q:Addr):(Bh g b d q).lookup ("moves":Str)=some (.ref d):=by
 rw[<-E3,aB,if_neg (by decide+kernel)];exact km g b d
structure aY(C:Addr)(H:Hp)(x:Addr)(g:Str)(ws ss ls:List Str):Prop where
 ex:∃(dx b d q:Addr) (mv:List (Str×Addr)),H x=some (.ins C dx (Bh g b d q))/\H b=some (.lst (ws.map V.str))/\H d=some (.dK (bI mv))/\mv.map (·.1)=ss/\(∀m∈mv,H m.2=some (.dK (rowOf g ws ss m.1)))/\H q=some (.lst (ls.map V.str))
 pm:ss.Perm (cJ ws "" ws)
 so:wfk ss=true
 lv:Od ss (rowOf g ws ss) ls
theorem aY.same(B:aY C H x g ws ss ls)(s:a9 H j):aY C j x g ws ss ls:=by
 obtain⟨⟨a,b,d,q,c,e,f,h,i,k,n⟩,p,o,l⟩:=B;exact⟨⟨a,b,d,q,c,s _ _ e,s _ _ f,s _ _ h,i,λm r=>s _ _ (k m r),s _ _ n⟩,p,o,l⟩
section
variable{P:wat}{w:World}{K:wa1}{mg:Str->Option Value}{base:Heap}{f:Addr}{fd:wae}
inductive LJ(K:wa1)(C:Addr)(vs:List V)(H:Hp)(Q:VK)(eL:XK):Prop
 |mk (x dx g a ws) (_:vs=[.ref x,.str g,.ref a]) (_:H x=some (.ins C dx [])) (_:aH K H a (ws.map V.str)) (_:wx g) (_:ws.length<=6) (_:(∀w∈ws,xX g w)) (_:∀(ss ls:List Str) (H':Hp),aY C H' x g ws ss ls->(∀b o,H b=some o->b≠x->H' b=some o)->Q .non H')
theorem E4(hw:∀w∈ws,w.length<=5):∀k∈cJ ws "" ws,k.length<=5:=by
 have h1:∀(w:Str),w.length<=5->∀(n:Nat) (ks:List Str),(∀k∈ks,k.length<=5)->∀k∈upTo ws w ks n,k.length<=5:=by
  intro w Bi n
  induction n with
  |zero=>intro ks h;exact h
  |succ n ih=>
   intro ks h k hk;rw[fD]at hk;unfold pq xY at hk;split at hk
   ·exact ih ks h k hk
   ·split at hk
    ·exact ih ks h k hk
    ·rcases waA.mp hk with z |z
     ·exact ih ks h k z
     ·have:k=eB w (1 + n):=by simpa using z
      rw[this];exact wal (DX _ _) Bi
 have h2:∀(us ks:List Str),(∀w∈us,w.length<=5)->(∀k∈ks,k.length<=5)->∀k∈us.foldl (addW ws) ks,k.length<=5:=by
  intro us
  induction us with
  |nil=>intro ks _ h;exact h
  |cons w us ih=>intro ks hu h;exact ih _ (λv hv=>hu v (wac _ hv)) (h1 w (hu w (wag ..)) _ ks h)
 exact h2 ws [""] hw (λk hk=>by have:k="":=by simpa using hk
                                subst this
                                decide+kernel)
inductive Gb(C:Addr)(vs:List V)(H:Hp)(Q:VK)(eL:XK):Prop
 |mk (x g ws ss ls) (_:vs=[.ref x]) (_:aY C H x g ws ss ls) (_:∀(l:Addr) (H':Hp),a9 H H'->H l=none->H' l=some (.lst (ss.map V.str))->Q (.ref l) H')
end
section
variable{P:wat}{w:World}{K:wa1}{mg:Str->Option Value}{base:Heap}{f:Addr}{fd:wae}
end
end Sx
namespace L2
open PySem PySem.Spec PyProof.Rows
theorem Gd{Ok:Hp->Prop}{Q:Hp->Prop}(R:V->Prop)(r:lY J Ok xs)(hl:H l=none)(I:xs.length<=sizeLine)(j:∀g,a9 H g->Ok g)
 (U:∀x p T,x∈xs->a9 H p->(∀y g,R y->a9 p g->T y g)->te (some x :: C) p T)
 (hd:∀ys g,a9 H g->ys.length=xs.length->(∀y∈ys,R y)->g l=some (.lst ys)->Q g):md J l C vh te H Q:=by
 refine⟨λi m ys a=>m=xs.length - i/\i<=xs.length/\a9 H a/\a l=some (.lst ys)/\ys.length=i/\∀y∈ys,R y,⟨xs.length,by simp,waM _,a9.upd hl,a6,rfl,λy f=>(nomatch f)⟩,?_⟩;rintro i m ys a ⟨rfl,hi,d,h,k,n⟩;refine⟨h,?_⟩
 by_cases c:i < xs.length
 ·refine .inr ⟨r.go i a (j _ d) c,by omega,λx p y=>?_⟩;obtain⟨e,t⟩:=r.uW i a x p (j _ d) c y;subst e;unfold vh;dsimp only;rw[if_pos rfl];refine U x _ _ (wak t) d λz u I s=>?_;refine⟨s _ _ h,xs.length - (i + 1),by omega,rfl,c,?_,a6,by simp[k],λy f=>?_⟩
  ·intro b o e;rw[aa (ae e hl)];exact s _ _ (d _ _ e)
  ·rcases waA.mp f with q |q
   ·exact n y q
   ·have:y=z:=by simpa using q
    subst this;exact I
 ·have e:i=xs.length:=by omega
  subst e;exact .inl ⟨r.stop a (j _ d),hd ys a d k n h⟩
theorem CZ{R:Str->Prop}:∀{ys:List V},(∀y∈ys,∃t,y=.str t/\R t)->∃ts:List Str,ys=ts.map V.str/\∀t∈ts,R t
 |[],_=>⟨[],rfl,λ_ h=>nomatch h⟩
 |y :: ys,h=>by
  obtain⟨t,rfl,c⟩:=h y (wag ..);obtain⟨ts,rfl,a⟩:=CZ (R:=R) (ys:=ys) λy d=>h y (wac _ d);refine⟨t :: ts,rfl,λu b=>?_⟩;rcases waH.mp b with rfl |b
  ·exact c
  ·exact a u b
end L2
namespace Sx
open PySem L2 Bs
section
variable{P:wat}{w:World}{K:wa1}{mg:Str->Option Value}{base:Heap}{f:Addr}{fd:wae}
end
end Sx
namespace L2
open PySem Bs
noncomputable def roundF(ss:List Str)(es:Str->List (Key×V))(LA:List Str):List Str:=ss.filter λp=>kl (es p) LA
noncomputable def rounds(ss:List Str)(es:Str->List (Key×V)):Nat->List Str
 |0=>ss
 |n + 1=>roundF ss es (rounds ss es n)
theorem J8(h:c∈ch g):bz (rowOf g ws ps p) (waz (⟨#[c]⟩:Str):Key)=some (uX ws ps p c):=
 G7 (uX ws ps p) (λc=>(⟨#[c]⟩:Str)) (λa b e=>by
  grind) h
end L2
namespace Sx
open PySem L2 Bs
theorem wA(g:Str)(b d q:Addr):(Bh g b d q).lookup ("lasting":Str)=some (.ref q):=by
 rw[<-E3,aB,if_pos rfl]
theorem Ij(g:Str)(b d q:Addr){m:Str}(j:¬m="signs")(l:¬m="barred")(o:¬m="moves")(p:¬m="lasting"):(Bh g b d q).lookup m=none:=by
 rw[<-E3,aB,if_neg p,<-put3,aB,if_neg o,<-put2,aB,if_neg l,<-LI,aB,if_neg j];rfl
theorem aY.nd(B:aY C H x g ws ss ls):ss.Nodup:=B.pm.nodup_iff.mpr (ql ws)
section
variable{P:wat}{w:World}{K:wa1}{mg:Str->Option Value}{base:Heap}{f:Addr}{fd:wae}
inductive J9(C:Addr)(vs:List V)(H:Hp)(Q:VK)(eL:XK):Prop
 |mk (x g ws ss ls) (_:vs=[.ref x]) (_:aY C H x g ws ss ls) (_:∀(l:Addr) (H':Hp),a9 H H'->H l=none->H' l=some (.lst (ls.map V.str))->Q (.ref l) H')
inductive RG(C:Addr)(vs:List V)(H:Hp)(Q:VK)(eL:XK):Prop
 |mk (x p g ws ss ls) (_:vs=[.ref x,.str p]) (_:aY C H x g ws ss ls) (_:p∈ss) (_:Q .non H)
inductive Of(C:Addr)(vs:List V)(H:Hp)(Q:VK)(eL:XK):Prop
 |mk (x p c g ws ss ls) (_:vs=[.ref x,.str p,.str ⟨#[c]⟩]) (_:aY C H x g ws ss ls) (_:p∈ss) (_:c∈ch g) (_:Q (uX ws ss p c) H)
end
structure Raw(K:wa1)(nm qual:Str)(st:Stmt)(f:Addr):Prop where
 ex:∃(oc:Value) (od:Option Addr) (kV doc pm:Value) (an:Option Addr) (gK ct:Value) (FP:Array (Option Value)),
  K.lookup f=some ⟨oc,od,.func (wcd nm qual (cU st) (bR st) (aD st) .none kV doc pm an gK ct),FP⟩/\wdH K gK qual=true
 kp:wcD K (.ref f)=true
theorem Bj{K:wa1}{nm g:Str}{st:Stmt}{f:Addr}{r:Value}{od C:Option Addr}{o:Array (Option Value)}{kV p pm j ct:Value}(l:K.lookup f=some ⟨r,od,.func (wcd nm g (cU st) (bR st) (aD st) .none kV p pm C j ct),o⟩)
 (c:wdH K j g=true) (k:wcD K (.ref f)=true):Raw K nm g st f:=⟨⟨r,od,kV,p,pm,C,j,ct,o,l,c⟩,k⟩
theorem Raw.fn(R:Raw K nm g st f)
 (h:∀(kV j pm:Value) (p:Option Addr) (o ct:Value) (us:List Value),us.length=ps.length->bindArgs (wcd nm g (cU st) (bR st) (aD st) .none kV j pm p o ct) ⟨us,[]⟩=pure (ps.zip us)) :
 ∃fd,yM K nm g st f fd/\Binds K fd ps []:=by
 obtain⟨⟨b,d,kV,j,pm,p,o,ct,a,l,c⟩,k⟩:=R;have F:=FQ (st:=st) l c k;exact⟨_,F,F.binds h⟩
theorem Raw.at_{mg:Str->Option Value}(X:K.In l)(G:l.Ns waL mg)(a:PySem.W.nsIn K waL nm=some (some (.ref f)))(R:Raw K nm nm st f)
 (h:∀(kV g pm:Value) (o:Option Addr) (j ct:Value) (us:List Value),us.length=ps.length->bindArgs (wcd nm nm (cU st) (bR st) (aD st) .none kV g pm o j ct) ⟨us,[]⟩=pure (ps.zip us)) :
 ∃fd,FnAt K mg nm st ps f fd:=by
 obtain⟨fd,F,b⟩:=R.fn h;exact⟨fd,F,b,PySem.W.mg_of X G a⟩
theorem gi{ss:List Str}{i:Nat}{y:V}(h:(ss.map V.str)[i]?=some y):∃p,ss[i]?=some p/\y=.str p/\i < ss.length/\p∈ss/\ss.take (i + 1)=ss.take i++[p]:=by
 rw[wa4]at h
 cases e:ss[i]? with
 |none=>rw[e]at h;cases h
 |some z=>
  rw[e]at h;exact⟨z,rfl,(wah h).symm,(wa6.mp e).1,wak e,by rw[wb1,e];rfl⟩
theorem E5(h:(dQ g)[i]?=some y):∃c,(ch g)[i]?=some c/\y=.str ⟨#[c]⟩/\i < (ch g).length/\c∈ch g/\(ch g).take (i + 1)=(ch g).take i++[c]:=by
 unfold dQ at h;rw[wa4]at h
 cases e:(ch g)[i]? with
 |none=>rw[show g.cps.toList[i]?=none from e]at h;cases h
 |some z=>
  rw[show g.cps.toList[i]?=some z from e]at h;exact⟨z,rfl,(wah h).symm,(wa6.mp e).1,wak e,by rw[wb1,e];rfl⟩
theorem Bk(g:Str):(dQ g).length=g.length:=by grind [dQ,aX]
inductive D0(K:wa1)(vs:List V)(H:Hp)(Q:VK)(eL:XK):Prop
 |mk (a:Addr) (ns:List Int) (_:vs=[.ref a]) (_:aH K H a (ns.map V.int)) (_:ns.length<=63) (_:∀H',Q (.bl true) H')
end Sx
namespace L2
open PySem PySem.Spec PyProof.Rows
section
variable{X:Cx}{st:Stmt}{rest:List Stmt}{t u:TS}
inductive RH(t u:TS)(D:Ends)(σ:St)(H:Hp):Prop
 |mk (Z) (_:t {D with nx:=Z} σ H) (_:∀σ' H',Z σ' H'->u D σ' H')
theorem D1(g:PS X st t)(j:uY X rest u):uY X (st :: rest) (RH t u):=by
 intro a s σ H D I h;obtain⟨Z,d,e⟩:=h;refine wcn (bP (g a s σ H {D with nx:=Z} I d) λf i q=>?_)
 cases f with
 |next=>
  obtain⟨b,c,k,q⟩:=q;exact j a i b c D k (e b c q)
 |ret v=>exact q
 |brk=>exact q
 |cont=>exact q
end
theorem D2(xs:List V)(n:Nat):ji xs none (some (n:Int))=xs.take n:=by simp_all [ji,HT.yL,wfY,Nat.sub_zero,if_neg,wfA,Nat.min_eq_right,waI,wbx]
end L2
namespace Sx
open PySem L2 Bs
noncomputable def one(c:Nat):Str:=⟨#[c]⟩
theorem fE(nx:g x=none)(j:g l=none):a9 g (upd (upd g l p) x o2):=λb o e=>by rw[aa (ae e nx),aa (ae e j)];exact e
theorem aY.few(B:aY C H x g ws ss ls)(hl:ws.length<=6)(hw:∀w∈ws,xX g w):ss.length<=25:=by
 have:=lN (ws:=ws) (e:="") (us:=ws) λw a=>(hw w a).hi;rw[B.pm.length_eq];omega
end Sx
namespace L2
open PySem PySem.Spec PyProof.Rows PySem.W
section
variable{prog:wat}{w:World}{A:Around}{R:wcR->Shared->Prop}{h:Heap}{g:Array wcX}{d:Drawn}{t:Nat}{os:wbJ}
variable{nm q:Str}{C N:Addr}{bs bm ZW:List Value}{hdct:Bool}{sn:List Str}{sub:List Value}{ab:Bool}{col:Option Bool}{dd:Option Addr}{k0 k1 k2 k3 k5:Option Value}{B newId RJ:String}
noncomputable abbrev eA(C t:Addr):Obj:={cls:=.ref C,data:=.fields #[.ref t,.none,.none,.none,.bool false,.none]}
noncomputable abbrev pz(vs:List Value):Obj:={cls:=.type "tuple",data:=.seq vs.toArray}
end
end L2
namespace L2
open PySem PySem.Spec PyProof.Rows PySem.W
open Builtin Builtin.ObjectAttr
noncomputable abbrev N1:List Value:=[.type "ValueError",.type "Exception",.type "BaseException",.type "object"]
noncomputable abbrev jM(CB:Addr):List Value:=.ref CB :: N1
section
variable{prog:wat}{w:World}{A:Around}{E:Value->Shared->Prop}{s:Shared}{K:wa1}{x dx C CB f:Addr}{mA:Str->Option Value}{name:Str}{v:Value}{R:wcR->Shared->Prop}
theorem wB(X:K.In s.heap)(I:InstAt s.heap x ox C od)(hc:clsIn K C=some cd)(hm:cd.mro=.ref C :: jM CB)(ha:findIn K (.ref C) name=some none)
 (h:wpAny (model prog w) A.in1 (storeInOwnDict (.ref x) (.ref C) (.str name tk) name v false)
   (λfin s'=>match fin with |.done f=>R (.ok f) s' |.again c'=>c'.quiet=true/\codeAny (model prog w) A c' R s') (λe s'=>R (.error e) s') s) :
 codeAny (model prog w) A (.call (.builtin "object.__setattr__") ⟨[.ref x,.str name tk,v],[]⟩) R s:=by
 have SF:=PySem.F.store_object;have sub:Looks (model prog w) s.heap (wf0 (.ref x) (.type "object")) true:=I.type.andThen (wfM X (by unfold mroIn;rw[hc,wdW,hm];rfl));refine wbZ SF.slot.plain SF.entry (@wgs (model prog w) _ _ s "object.__setattr__" "object" "__setattr__" (.ref x) [.str name tk,v] [] _ SF.kind SF.split sub (SF.args (.ref x) (.str name tk) v) ?_);have RK:Looks (model prog w) s.heap (mroOf (.ref C)) cd.mro:=(wdJ X hc).andThen .now;have L3:Looks (model prog w) s.heap (storeTaker? none) none:=.now;rw[osa_eq,refuse_eq];refine wa3 (wa3 (I.type.here (wa3 (RK.here ?_))));rw[hm,refuseLoop_ref,refuseLoop_ref,PySem.F.store_ValueError.passes];refine wap (wa3 (I.type.here (wa3 ((wd9 X ha).here (wa3 (L3.here ?_))))));exact h
theorem Ge{Q:Unit->Shared->Prop}(X:K.In s.heap)(hx:s.heap.get? x=some (eA C t))(hc:clsIn K C=some cd)(hm:cd.mro=.ref C :: jM CB)(hh:cd.hasDict=true)(ha:findIn K (.ref C) name=some none)
 (hs:findIn K (.ref C) "__setattr__"=some (some (.builtin "object.__setattr__")))
 (h:∀h' d tk,s.heap.objs.size<=d->(∀b o,b≠x->s.heap.get? b=some o->h'.get? b=some o)->h'.get? x=some {cls:=.ref C,dict:=some d,data:=.fields #[.ref t,.none,.none,.none,.bool false,.none]}->h'.Ns1 d (λy=>if y=name then some v else none)->Q () {s with heap:=h',toks:=tk}) :
 wpAny (model prog w) A (setAttr (.ref x) name v) Q E s:=by
 have J:InstAt s.heap x (eA C t) C none:=⟨hx,rfl,rfl,trivial⟩;refine weQ X J hs (wB (s:={s with toks:=s.toks + 1}) X J hc hm ha ?_);unfold storeInOwnDict;refine wa3 (wap ?_);rw[if_neg (by simp)];unfold ownDictForStores instanceDict;refine wa3 (wa3 (wew hx ?_));dsimp only;refine wa3 (weA (s:={s with toks:=s.toks + 1}) (wdJ X hc) ?_);rw[hh];have UB:(s.heap.push {cls:=.type "dict",data:=.dict #[]}).get? x=some (eA C t):=wa8 _ hx;have UC:x≠s.heap.objs.size:=war (wad hx);simp only[wgn,wbU,if_false,Bool.not_false,weJ];rw[if_neg (by simp[typeHasDict])];refine wa3 (wpAny_alloc ?_);refine wa3 (wpAny_update UB ?_);refine wap ?_
 have Qn:((s.heap.push {cls:=.type "dict",data:=.dict #[]}).update x λo=>{cls:=o.cls,dict:=some s.heap.objs.size,data:=o.data,slots:=o.slots}).get? s.heap.objs.size
  =some {cls:=.type "dict",data:=.dict #[]}:=(wgt _ _ _ _ UC.symm).trans (Heap.get?_push_at rfl rfl)
 have RL:((s.heap.push {cls:=.type "dict",data:=.dict #[]}).update x λo=>{cls:=o.cls,dict:=some s.heap.objs.size,data:=o.data,slots:=o.slots}).Ns s.heap.objs.size (λ_=>none):=
  ⟨_,#[],_,Qn,rfl,λe he=>absurd he (by simp),λ_=>rfl⟩
 show wpAny _ _ (storeInDict s.heap.objs.size (.str name s.toks) name v) _ _ _;unfold storeInDict newKeyGuard;refine wa3 (wap (wa3 (wgC (wgN RL) λh' AD N2=>?_)));obtain⟨oD,X3,X4,RM,UD,UE⟩:=AD.count (wfv name v Within.nil);refine wa3 (wf5 RM (by rw[UD];exact wf6 (wal UE (by grind))) ?_)
 wp_walk
 refine h h' s.heap.objs.size _ (wab _) (λb ob X5 hb=>?_) ?_ AD
 ·exact(N2.2 b (war (wad hb))).trans ((wgt _ _ _ _ X5).trans (wa8 _ hb))
 ·exact(N2.2 x UC).trans (wbC _ UB rfl)
end
section
variable{prog:wat}{w:World}{A:Around}{E:Value->Shared->Prop}{s:Shared}{K:wa1}{x dx C CB f:Addr}{mA:Str->Option Value}{name:Str}{v:Value}{R:wcR->Shared->Prop}
theorem Gf{Q:Value->Shared->Prop}(X:K.In s.heap)(I:InstAt s.heap x ox C (some od))(hc:clsIn K C=some cd)(p:cd.mro=.ref C :: jM CB)(j:cd.hasDict=true)
 (g:findIn K (.ref C) "__getattribute__"=some (some (.builtin "BaseException.__getattribute__"))) (l:findIn K (.ref C) "__getattr__"=some none) (ha:findIn K (.ref C) name=some none)
 (hl:lookIn name od=some (some v)) (o:handedIn v=true) (h:Q v {s with toks:=s.toks + 1}):wpAny (model prog w) A (getAttr (.ref x) name expr) Q E s:=by
 have G:=weM.ga;refine wa3 (wpAny_mkText (waY (wa3 (I.type _ _ _ _ (λ_ _ e=>e) (wa3 (wd9 X g _ _ _ _ (λ_ _ e=>e) ?_))))));dsimp only;rw[show (weB (waf C) && wcy "BaseException.__getattribute__" == wcy "object.__getattribute__")=false from by grind,if_neg (by decide)];have a:Looks (model prog w) s.heap (hookBefore (.ref C)) none:=looks_hook X (by grind);refine wa3 (a _ _ _ _ (λ_ _ e=>e) (wa3 (wgo (waY ?_))));unfold callGetattribute;rw[show (expr && weB (wcy "BaseException.__getattribute__"))=false from wcF _,if_neg (by decide)];unfold boundAndCalled;rw[G.bind];refine wa3 (wap ?_);show wpAny _ _ (call (.builtin "BaseException.__getattribute__") [.ref x,.str name s.toks]) _ _ _;refine wc4 ?_;have sub:Looks (model prog w) s.heap (wf0 (.ref x) (.type "BaseException")) true:=I.type.andThen (wfM X (by grind [mroIn]));refine wbZ G.plain wfZ ?_;refine @wgs (model prog w) _ _ {s with toks:=s.toks + 1} "BaseException.__getattribute__" "BaseException" "__getattribute__" (.ref x) [.str name s.toks] [] _ (by decide+kernel) (by decide+kernel) sub (wge (.ref x) (.str name s.toks)) ?_
 have b:findObj K C (some od) name=some (.value v):=by
  unfold findObj;rw[hc,ha];simp only[wdW];unfold PySem.W.ownOf;rw[j,if_pos rfl];dsimp only;rw[hl];rfl
 have c:=I.type (M:=model prog w);have d:=looks_find (M:=model prog w) X I b;unfold wdG.«object.__getattribute__»;refine wa3 (wap ?_);refine wa3 (wap (wa3 (c _ _ _ _ (λ_ _ e=>e) (wa3 (d _ _ _ _ (λ_ _ e=>e) ?_)))));refine wap ?_;show wpAny _ _ (handedOut v) _ _ _;rw[handedOut_of o];exact wap h
end
section
variable{prog:wat}{w:World}{A:Around}{E:Value->Shared->Prop}{s:Shared}{K:wa1}{x dx C CB f:Addr}{mA:Str->Option Value}{name:Str}{v:Value}{R:wcR->Shared->Prop}{nm q:Str}{N:Addr}{bs:List Value}{sn:List Str}{sub:List Value}{ab:Bool}{col:Option Bool}{dd:Option Addr}{k0 k1 k2 k3 k5:Option Value}
theorem sH(X:K.In s.heap)(j:s.heap.get? x=some (eA C t))(l:K.lookup C=some (wbf nm q C N bs (jM CB) true sn sub ab col dd k0 k1 k2 k3 k5 "ValueError.__new__"))
 (h:∀h' t',(∀b o,b≠x->s.heap.get? b=some o->h'.get? b=some o)->h'.get? x=some (eA C t')->R (.ok (.ret .none)) {s with heap:=h'}) :
 codeAny (model prog w) A (.call (.builtin "ValueError.__init__") ⟨[.ref x,u],[]⟩) R s:=by
 have F:=wc6;have f:=X _ _ l;have J:InstAt s.heap x (eA C t) C none:=⟨j,rfl,rfl,trivial⟩;have sub:Looks (model prog w) s.heap (wf0 (.ref x) (.type "ValueError")) true:=J.type.andThen (wfM X (by unfold mroIn clsIn;rw[l];rfl));refine wbZ F.init.plain F.initEntry ?_;simp only[wdX,F.initKind,F.initSplit,F.initRow];refine wa3 (sub.here ?_);simp only[wgn,wbU,if_false];have a:=F.noStar;obtain⟨c,g,d,m,os⟩:=s
 repeat (first |with_reducible refine waW f ?_ |wp_step)
 have i:x≠c.objs.size:=war (wad j);refine h _ c.objs.size (λb o k e=>?_) ?_
 ·rw[waN _ _ (wbc k)];exact wa8 _ e
 ·exact wbC _ (wa8 _ j) rfl
theorem Bl{Q:Value->Shared->Prop}(X:K.In s.heap)(g:s.heap.get? x=some (eA C t))(j:K.lookup C=some (wbf nm q C N bs (jM CB) true sn sub ab col dd k0 k1 k2 k3 k5 "ValueError.__new__"))
 (h:∀h' t',(∀b o,b≠x->s.heap.get? b=some o->h'.get? b=some o)->h'.get? x=some (eA C t')->Q .none {s with heap:=h'}) :
 wpAny (model prog w) A (call (.builtin "ValueError.__init__") [.ref x,u]) Q E s:=wc4 (sH X g j h)
end
end L2
namespace L2
open PySem PySem.Spec PyProof.Rows
structure Ik(lo:Nat)(H:Hp)(h:Heap)(e C:Addr)(od:Option Addr):Prop where
 ge:lo<=e
 nt:H e=none
 ob:∃vs sl,h.get? e=some ⟨.ref C,od,.fields vs,sl⟩/\1 < vs.size /\
  (vs[1]?=some .none\/∃T oT ts,vs[1]?=some (.ref T)/\lo<=T/\H T=none/\T≠e/\h.get? T=some oT/\oT.data=.fields ts/\ts[3]?=some .none)
theorem Ik.low{lo j:Nat}{H:Hp}{h:Heap}{e C:Addr}{od:Option Addr}(F:Ik lo H h e C od)(hl:j<=lo):Ik j H h e C od:=by
 obtain⟨g,n,i,sl,k,l,f⟩:=F;refine⟨wal hl g,n,i,sl,k,l,?_⟩;rcases f with f |⟨T,m,o,a,b,c,d⟩
 ·exact .inl f
 ·exact .inr ⟨T,m,o,a,wal hl b,c,d⟩
section
variable{M:Model}{A:Around}{E:Value->Shared->Prop}{s:Shared}{base:Heap}{env:Env}{outer:List Env}{L e C:Addr}{od:Option Addr}{lo:Nat}{H:Hp}
structure Bm(lo:Nat)(H:Hp)(fs:List Addr)(h h':Heap):Prop where
 keep:∀b o,h.get? b=some o->(b < lo\/H b≠none)->b∉fs->h'.get? b=some o
 slot:∀b o,h.get? b=some o->b∈fs->∃sl,h'.get? b=some {o with slots:=sl}
theorem wC{Q:Unit->Shared->Prop}
 (Og:A.frames=some (env :: outer)) (hl:s.heap.FunFrames base (env :: outer)) (hf:env.frame=some L) (LK:lo<=s.heap.objs.size) (Oh:∀b,s.heap.objs.size<=b->H b=none) (UG:lo<=e) (UH:H e=none)
 (he:s.heap.get? e=some oe) (AB:oe.cls=.ref C) (UI:oe.dict=od) (hd:oe.data=.fields vs) (hsz:1 < vs.size)
 (h:∀h',Ik lo H h' e C od->Bm lo H ((env :: outer).filterMap (·.frame)) s.heap h'->Q () {s with heap:=h'}) :
 wpAny M A (do let a <-frameOf env;let pl <-entryPlaceOf L Qo;let b <-wgu head a .none (rawInt L) .none pl;setField (.ref e) 1 b) (λ_ s'=>wpAny M A (wfB (.ref e) none) Q E s') E s:=by
 have Oi:e∉(env :: outer).filterMap (·.frame):=λhm=>by
  obtain⟨_,o,ho,RN⟩:=hl.mem hm;rw[he]at ho;injection ho with ho;subst ho;exact RN vs hd
 refine wa3 (wpAny_frameOf_fun Og hl hf λh₁ Oj=>?_);refine wa3 (wpAny_entryPlaceOf λpl Ja=>?_);unfold wgu newFields;refine wa3 (weS ?_ (Ja.sizeOk5 _ _ _ _ _));have UJ:h₁.get? e=some oe:=(Oj.2.1 e Oi).trans he;have UK:=wa8 (h:=h₁) {cls:=.type "traceback",dict:=none,data:=.fields ([head,.ref L,.none,rawInt L,.none]++(if pl.isEmpty then wam 6 wby else pl)).toArray} UJ;refine wex UK hd hsz ?_;have Lw:h₁.objs.size≠e:=wcq (wad UJ);have UL:=wcU hd (·.setIfInBounds 1 (waf h₁.objs.size));have UM:=wbC (wcN (·.setIfInBounds 1 (waf h₁.objs.size))) UK (we1 UL)
 have UN:=(waN (h₁.push {cls:=.type "traceback",dict:=none,data:=.fields ([head,.ref L,.none,rawInt L,.none]++(if pl.isEmpty then wam 6 wby else pl)).toArray})
  (wcN (·.setIfInBounds 1 (waf h₁.objs.size))) (wbc Lw)).trans (wax h₁ rfl)
 unfold wfB;refine wa3 (wdO UM UL (x:=.ref h₁.objs.size) (by simp[hsz]) ?_);rw[if_pos (show (waf h₁.objs.size != wby)=true from by simp)];refine wex UN rfl (by simp only[waD,wa7,waK,wfy] <;> omega) (h _ ?_ ?_)
 ·refine⟨UG,UH,vs.setIfInBounds 1 (.ref h₁.objs.size),oe.slots,?_,by simpa using hsz,.inr ⟨h₁.objs.size,_,_,by simp[hsz],by rw[Oj.1];exact LK,Oh _ (by rw[Oj.1];exact wab _),Lw,
   wbC _ UN (we1 (wcU rfl _)),wcU rfl _,by first |(simp;done) |(rcases Ja with rfl |⟨_,_,_,_,_,_,_,rfl⟩ <;> simp)⟩⟩
  rw[waN _ _ Lw,UM];obtain⟨c,d,dt,sl⟩:=oe;dsimp only at AB UI hd;subst AB UI hd;rfl
 ·have keep:∀b o,b≠e->h₁.get? b=some o ->
   (((h₁.push {cls:=.type "traceback",dict:=none,data:=.fields ([head,.ref L,.none,rawInt L,.none]++(if pl.isEmpty then wam 6 wby else pl)).toArray}).update e (wcN (·.setIfInBounds 1 (waf h₁.objs.size)))).update h₁.objs.size
     (wcN (·.setIfInBounds 3 ((none:Option Addr).elim wby λf=>rawInt f)))).get? b=some o:=λb o X6 hb=>by
   have X7:h₁.objs.size≠b:=wcq (wad hb);rw[waN _ _ X7,waN _ _ (wbc X6)];exact wa8 _ hb
  refine⟨λb o hb hx RN=>keep b o ?_ ((Oj.2.1 b RN).trans hb),λb o hb hm=>?_⟩
  ·rintro rfl;rcases hx with hx |hx
   ·exact absurd (wan hx UG) (wb4 _)
   ·exact hx UH
  ·obtain⟨sl,hs⟩:=Oj.2.2 b o hb;exact⟨sl,keep b _ (λz=>Oi (z ▸ hm)) hs⟩
theorem sI{Q:Unit->Shared->Prop}(p:A.frames=some (env :: outer))(hl:s.heap.FunFrames base (env :: outer))(I:env.frame=some L)(r:lo<=s.heap.objs.size)(g:∀b,s.heap.objs.size<=b->H b=none)
 (F:Ik lo H s.heap e C od) (h:∀h',Ik lo H h' e C od->Bm lo H ((env :: outer).filterMap (·.frame)) s.heap h'->Q () {s with heap:=h'}) :
 wpAny M A (noteFrame (.ref e) env) (λ_ s'=>wpAny M A (wfB (.ref e) none) Q E s') E s:=by
 obtain⟨m,n,z,sl,v,t,k⟩:=F;unfold noteFrame;simp only[I];rcases k with k |⟨T,K,B,G,u,x,y,w,i,k⟩
 ·refine wa3 (wdO v rfl k ?_);rw[if_neg (by decide)];exact wC p hl I r g m n v rfl rfl rfl t h
 ·refine wa3 (wdO v rfl G ?_);rw[if_pos (show (waf T != wby)=true from by simp)];refine wa3 (wdO w i k ?_);rw[if_neg (show ¬((wby == rawInt L)=true) from by simp[rawInt])];refine wa3 (wex w i (weN.mp k).1 ?_);have other:∀b,b≠T->(s.heap.update T (wcN (·.setIfInBounds 3 wby))).get? b=s.heap.get? b:=λb a=>waN _ _ (wbc a)
  have c:∀b o,s.heap.get? b=some o->(∀z,o.data≠.fields z)->b≠T:=λb o a d q=>by
   rw[q,w]at a;injection a with a;subst a;exact d B i
  have f:(s.heap.update T (wcN (·.setIfInBounds 3 wby))).objs.size=s.heap.objs.size:=Heap.size_after_update ..;refine wC (s:={s with heap:=s.heap.update T (wcN (·.setIfInBounds 3 wby))}) p (hl.of_keeps λb o a d=>⟨o,(other b (c b o a d)).trans a,rfl⟩) I (by show lo<=_;rw[f];exact r) (λb a=>g b (by rw[<-f];exact a)) m n ((other e (wbc y)).trans v) rfl rfl rfl t λh' J P=>h h' J ⟨λb o a l hn=>P.keep b o ((other b ?_).trans a) l hn,λb o a D=>P.slot b o ((other b ?_).trans a) D⟩
  ·rintro rfl;rcases l with l |l
   ·exact absurd (wan l u) (wb4 _)
   ·exact l x
  ·rintro rfl;obtain⟨_,N,j,d⟩:=hl.mem D;rw[w]at j;injection j with j;subst j
   exact d B i
end
noncomputable def vk(P:wat)(w:World):CI:=λouter H s E ev s'=>∃e C od H',ev=.ref e/\s'.os=s.os/\AllBare s'.gens/\Un (p7 outer) [] H H' s.heap s'.heap/\j8 P w H' s'.heap/\Ik s.heap.objs.size H' s'.heap e C od/\E (.ref C) od H'
def D3(X:Cx)(E:XK):Prop:=∀(pins:List (Addr×Obj)) (σ:St) (H:Hp) (s:Shared) (e C:Addr) (od:Option Addr),Inv X pins σ H s->Ik X.s₀.heap.objs.size H s.heap e C od->E (.ref C) od H->X.xe (.ref e) s
theorem sJ{X:Cx}(g:D3 X E):Passes (vk X.prog X.w) X E:=λa σ H s k d I h=>by
 obtain⟨e,C,f,i,rfl,c,bare,un,aW,F,j⟩:=h;exact g a σ i d e C f (I.rX c un aW bare λb z=>absurd z (by simp)) (F.low I.sz) j
section
variable{P:wat}{w:World}{K:wa1}{mg:Str->Option Value}{base:Heap}{N:List Str}{qual:Str}{scope:wcQ}{f:Addr}{cd:Value}{A:Around}{outer:List Env}{s:Shared}{H:Hp}{E:XK}
theorem j8.past{lo:Nat}{H:Hp}{fs:List Addr}{h h':Heap}(x:j8 P w H h)(p:Bm lo H fs h h')(g:∀b∈fs,H b=none):j8 P w H h':=λa o e=>
 (x a o e).p8 (λb u c q=>p.keep b u q (.inr (by grind)) λd=>by
   grind) (λ_ q=>q) λ_ _ q=>q
theorem bV:D3 (vd (vk P w) P w K mg base N qual scope f cd A outer s H E) E:=by
 intro v σ l x e C y I F B;show wpAny (model P w) _ («leaving» _ (.ref e)) (λ_ d=>vk P w outer H s E (.ref e) d) (λD d=>vk P w outer H s E D d) x;unfold «leaving»;have g:∀b,x.heap.objs.size<=b->l b=none:=λb a=>I.aW.fresh a;refine wa3 (sI (lo:=s.heap.objs.size) (H:=l) (base:=base) (outer:=outer) I.ok.frames I.stack rfl I.sz g F λJ G p=>?_);have m:=I.nD
 have h:∀b o,s.heap.get? b=some o->b∉p7 outer->b∉(envOfC qual scope s.heap.objs.size f cd :: outer).filterMap (·.frame):=λb o a hn j=>by
  rcases waH.mp (show b∈s.heap.objs.size :: p7 outer from j) with z |z
  ·exact absurd (wad a) (by rw[z];exact wb4 _)
  ·exact hn z
 refine⟨e,C,y,l,rfl,I.os,I.bare,?_,I.aW.past p m,G,B⟩;have u:=I.base;refine⟨λb o a n c i=>?_,λb o a n c i=>?_,λb o a n i=>u.free b o a n i,λb o a i=>?_,u.k9,u.ja,u.kc⟩
 ·exact p.keep b o (u.keep b o a n c i) (.inl (wad a)) (h b o a c)
 ·obtain⟨sl,k⟩:=u.slot b o a n c i;obtain⟨q,r⟩:=p.slot b _ k (show b∈s.heap.objs.size :: p7 outer from wac _ c);exact⟨q,r⟩
 ·obtain⟨t,k⟩:=u.there b o a i
  by_cases j:b∈(envOfC qual scope s.heap.objs.size f cd :: outer).filterMap (·.frame)
  ·obtain⟨sl,r⟩:=p.slot b t k j;exact⟨_,r⟩
  ·exact⟨t,p.keep b t k (.inl (wad a)) j⟩
theorem yM.X8{x qual:Str}{st:Stmt}{f:Addr}{fd:wae}{N ps:List Str}{k:Nat}{sp:Sp}(F:yM K x qual st f fd)(S:rH N ps (aD st))(len:∀vs H Q E,sp vs H Q E->vs.length=ps.length)
 (j:∀(g:Value) (A:Around) (outer:List Env) (s:Shared) (H:Hp) (vs:List V) (Q:VK) (E:XK),cT k (A.deeper (envOfC qual (aD st) s.heap.objs.size f g))->sp vs H Q E ->
   ∃t,uY (vd (vk P w) P w K mg base N qual (aD st) f g A outer s H E) (bR st) t/\t {nx:=λ_ l=>Q .non l,rt:=Q} (start N vs) H):aN P w K mg base (vk P w) (k + 1) f fd ps sp:=by
 obtain⟨h,i,kV,c,pm,m,g,ct,d,rfl,lk,a⟩:=F.ex;exact Ko lk a S len λA outer s H vs Q E e b=>j g A outer s H vs Q E e b
end
open PySem.W (Looks looks_findIn looks_typeIn InitBack bind_fn findIn clsIn specialIn readsIn findCls keepIn isFn typeIn InstAt)
section
variable{prog:wat}{w:World}{A:Around}{R:wcR->Shared->Prop}{h:Heap}{g:Array wcX}{d:Drawn}{t:Nat}{os:wbJ}
variable{nm q:Str}{C CB N:Addr}{bs:List Value}{hdct:Bool}{sn:List Str}{sub:List Value}{ab:Bool}{col:Option Bool}{dd:Option Addr}{k0 k1 k2 k3 k5:Option Value}
theorem Jb{M:Model}{E:Value->Shared->Prop}{rest:List Value}{Q:Unit->Shared->Prop}(j:h.get? C=some (wbf nm q C N bs (jM CB) hdct sn sub ab col dd k0 k1 k2 k3 k5 "ValueError.__new__"))
 (l:Q () ⟨h,g,d,t,os⟩):wpAny M A (wdX "ValueError.__new__" ⟨.ref C :: rest,[]⟩) Q E ⟨h,g,d,t,os⟩:=by
 have F:=wc6;have a:(waf C :: jM CB).contains (.type "ValueError")=true:=rfl;have b:=F.noStar;simp only[wdX,F.newKind,F.newSplit,F.newRow]
 repeat (first |refine waW j ?_ |(refine wbq j ?_;rw[a]) |refine wpAny_staticBase_exc j ?_ |refine wpAny_madeBy_exc j ?_ |simp only[bne_self_eq_false,wbU,if_false] |wp_step)
 exact l
theorem Jc{rest:List Value}(j:h.get? C=some (wbf nm q C N bs (jM CB) hdct sn sub ab col dd k0 k1 k2 k3 k5 "ValueError.__new__"))
 (o:R (.ok (.ret (.ref (h.objs.size + 1)))) ⟨(h.push {cls:=.type "tuple",data:=.seq rest.toArray}).push
   {cls:=.ref C,data:=.fields #[.ref h.objs.size,.none,.none,.none,.bool false,.none]},g,d,t,os⟩) (l:rest.length<=sizeLine:=by size_fits) :
 codeAny (model prog w) A (.builtin "ValueError.__new__" ⟨.ref C :: rest,[]⟩) R ⟨h,g,d,t,os⟩:=by
 have F:=wc6;have a:=F.ends;have b:(waf C :: jM CB).contains (.type "ValueError")=true:=rfl;have c:(waf C :: jM CB).contains (.type "AttributeError")=false:=rfl;have e:(waf C :: jM CB).contains (.type "NameError")=false:=rfl;refine codeAny_builtinAt F.entry ?_;unfold wdG.«BaseException.__new__»;refine whm ?_;show PySem.wpAt _ _ _ (PySem.stack >>= _) _ _ _;refine whm (PySem.wpAt_stack λp f=>wgv ?_)
 wp_walk
 refine wgv ?_;rw[F.owner]
 repeat (first |with_reducible refine wpAny_madeHere_exc F.canon j ?_ |with_reducible refine waW j ?_ |(with_reducible refine wbq j ?_;first |rw[b] |rw[c] |rw[e]) |wp_step)
 show R _ _;rw[wbK];exact o
theorem Gg{rest:List Value}{init:Value}{p:Around}(l:h.get? C=some (wbf nm q C N bs (jM CB) hdct sn sub ab col dd k0 k1 k2 k3 k5 "ValueError.__new__"))
 (hi:Looks (model prog w) h (weY (.ref C) "__init__") (some init)) (J:∀self,Looks (model prog w) h (bindSpecial init self) (init,[self])) (j:rest.length<=sizeLine)
 (T:codeAny (model prog w) p (.call init ⟨.ref (h.objs.size + 1) :: rest,[]⟩) (InitBack (h.objs.size + 1) R) ⟨(h.push (pz rest)).push (eA C h.objs.size),g,d,t,os⟩) :
 wpAny (model prog w) p (wdG.«type.__call__» ⟨.ref C :: rest,[]⟩) (λfin s'=>match fin with |.done f=>R (.ok f) s' |.again I=>I.quiet=true/\codeAny (model prog w) A I R s') (λe s'=>R (.error e) s') ⟨h,g,d,t,os⟩:=by
 have F:=wc6
 repeat (first |with_reducible refine waW l ?_ |with_reducible refine wpAny_madeBy_exc l ?_ |wp_step)
 refine codeAny_call_builtin_code (wdC _ F.quiet) (Jb l ?_);refine Jc l ?_ j;show wpAny _ _ _ _ _ _;have k:∀b o,h.get? b=some o->((h.push (pz rest)).push (eA C h.objs.size)).get? b=some o:=λb o e=>wa8 _ (wa8 _ e)
 have a:=wa8 {cls:=.ref C,data:=.fields #[.ref h.objs.size,.none,.none,.none,.bool false,.none]}
  (wa8 {cls:=.type "tuple",data:=.seq rest.toArray} l)
 have c:((h.push {cls:=.type "tuple",data:=.seq rest.toArray}).push {cls:=.ref C,data:=.fields #[.ref h.objs.size,.none,.none,.none,.bool false,.none]}).get? (h.objs.size + 1)=some {cls:=.ref C,data:=.fields #[.ref h.objs.size,.none,.none,.none,.bool false,.none]}:=by heap_get
 have i:(waf C :: jM CB).contains (.ref C)=true:=by simp
 have m:=hi.keeps k;have n:=(J (.ref (h.objs.size + 1))).keeps k;unfold wf0
 repeat (first |with_reducible refine waW c ?_ |(with_reducible refine wbq a ?_;rw[i]) |wp_step)
 show wpAny _ _ (weY (.ref C) _) _ _ _;refine m.at ?_;refine waY (wa3 (n.at ?_));refine wa3 (wc4 (wbT T λr s' z=>?_));rcases r with e |(v |_ |_ |_) <;> first |exact z |exact z.elim |skip
 obtain⟨rfl,z⟩:=z
 wp_walk
 exact z
theorem zg{rest:List Value}{init:Value}(l:h.get? C=some (wbf nm q C N bs (jM CB) hdct sn sub ab col dd k0 k1 k2 k3 k5 "ValueError.__new__"))
 (hi:Looks (model prog w) h (weY (.ref C) "__init__") (some init)) (o:∀self,Looks (model prog w) h (bindSpecial init self) (init,[self])) (j:rest.length<=sizeLine)
 (p:codeAny (model prog w) (A.under (.builtin "type.__call__" ⟨.ref C :: rest,[]⟩)) (.call init ⟨.ref (h.objs.size + 1) :: rest,[]⟩) (InitBack (h.objs.size + 1) R) ⟨(h.push (pz rest)).push (eA C h.objs.size),g,d,t,os⟩) :
 codeAny (model prog w) A (.call (.ref C) ⟨rest,[]⟩) R ⟨h,g,d,t,os⟩:=by
 have f1:=tc_lookup;have f2:=PySem.tc_bind (.ref C);have a:(⟨h,g,d,t,os⟩:Shared).TypeIs (.ref C) "type":=⟨_,l,rfl⟩;refine wfz ?_;show wpAny _ _ (callAny (.ref C) _) _ _ _
 repeat (any_goals (first |assumption |with_reducible refine waW l ?_ |wp_step))
 refine⟨rfl,?_⟩;exact codeAny_call_builtin_at (wdC _ (by decide+kernel)) entry_typeCall (wpAny_check_type_call_sub l (Gg l hi o j p))
theorem qm{E:Value->Shared->Prop}{Q:Flow->Shared->Prop}(l:A.handled=none)
 (h:wpAny M A (eval x env) (λv j=>∃e od t,v=.ref e/\j.heap.get? C=some (wbf nm q C N bs (jM CB) hdct sn sub ab col dd k0 k1 k2 k3 k5 "ValueError.__new__") /\
   j.heap.get? e=some {cls:=.ref C,dict:=od,data:=.fields #[.ref t,.none,.none,.none,.bool false,.none]}/\E (.ref e) j) E s) :
 wpAny M A (exec (.Raise (some x) none pos) env) Q E s:=by
 have key:wpAny M A (raiseStmt env (some (do let v <-eval x env;standAt pos;pure v)) none) Q E s:=by
  have b:(waf C :: jM CB).contains (.type "BaseException")=true:=rfl;unfold raiseStmt;refine wa3 (wa3 (waV h (λv j a=>wa3 (wdh (wap ?_))) λ_ _ x=>x));obtain⟨e,od,t,rfl,c,f,i⟩:=a;obtain⟨k,g,d,m,os⟩:=j
  repeat (first |with_reducible refine waW f ?_ |with_reducible refine waW c ?_ |(with_reducible refine wbq c ?_;rw[b]) |wp_step)
  exact wpAny_raiseNew_none l i
 rw[arm_exec_Raise];exact wa3 (wdh key)
end
end L2
namespace L2
open PySem PySem.Spec PyProof.Rows
open PySem.W (Looks looks_findIn looks_typeIn InitBack bind_fn findIn clsIn specialIn readsIn findCls keepIn isFn typeIn InstAt)
structure bB(K:wa1)(C CB:Addr)(nm:Str):Prop where
 lk:∃(q:Str) (N:Addr) (bs:List Value) (sn:List Str) (sub:List Value) (ab:Bool) (col:Option Bool) (dd:Option Addr) (k0 k1 k2 k3 k5:Option Value),
  K.lookup C=some (wbf nm q C N bs (jM CB) true sn sub ab col dd k0 k1 k2 k3 k5 "ValueError.__new__")
 sa:findIn K (.ref C) "__setattr__"=some (some (.builtin "object.__setattr__"))
 ga:findIn K (.ref C) "__getattribute__"=some (some (.builtin "BaseException.__getattribute__"))
 gh:findIn K (.ref C) "__getattr__"=some none
 kp:keepIn K (.ref C)=true
structure Gh(K:wa1)(CB:Addr):Prop where
 sp:weG K (.ref CB) "__getattribute__"=some (some (.builtin "type.__getattribute__"))
 rd:readsIn K CB (.type "type")=true
 fc:findCls K (.ref CB) (.type "type") "__init__"=some (.val (.builtin "ValueError.__init__"))
noncomputable def XN(x C:Addr):HO:=.ext λh=>∃t,h.get? x=some (eA C t)
noncomputable abbrev rK(C d t:Addr):Obj:={cls:=.ref C,dict:=some d,data:=.fields #[.ref t,.none,.none,.none,.bool false,.none]}
noncomputable def XD(x C d:Addr):HO:=.ext λh=>∃t,h.get? x=some (rK C d t)
section
variable{P:wat}{w:World}{H:Hp}{h:Heap}{x C d t:Addr}
theorem LL(e:h.get? x=some (eA C t)):bG P w H h x (XN x C):=⟨⟨t,e⟩,⟨_,e⟩,λc d ⟨a,b⟩ k=>⟨a,k _ b⟩⟩
theorem RO(e:h.get? x=some (rK C d t)):bG P w H h x (XD x C d):=⟨⟨t,e⟩,⟨_,e⟩,λc f ⟨a,b⟩ k=>⟨a,k _ b⟩⟩
end
theorem LN(h:H x=some o):upd H x o=H:=by grind [upd]
noncomputable def del(H:Hp)(x:Addr):Hp:=λb=>if b=x then none else H b
theorem gj:del H x x=none:=if_pos rfl
theorem hH(h:b≠x):del H x b=H b:=if_neg h
theorem D4(h:H x=none):del (upd H x o) x=H:=by grind [gj,hH,aa]
theorem Bn(h:d≠x):del (upd H d o) x=upd (del H x) d o:=by
 funext b
 by_cases e:b=x
 ·subst e;rw[gj,aa (wbc h),gj]
 ·rw[hH e]
  by_cases a:b=d
  ·subst a;rw[a6,a6]
  ·rw[aa a,aa a,hH e]
theorem xZ:del (upd H x o) x=del H x:=by grind [gj,hH,aa]
section
variable{X:Cx}{pins:List (Addr×Obj)}{σ:St}{H:Hp}{s:Shared}{x:Addr}{φ:Heap->Prop}
theorem Inv.del(I:Inv X pins σ H s)(g:H x=some (.ext φ)):Inv X pins σ (L2.del H x) s:=by
 have ne:∀{b:Addr} {o:HO},H b=some o->(∀ψ,o≠.ext ψ)->b≠x:=λe n z=>by rw[z,g]at e;exact n φ (wah e).symm
 have nn:∀{b:Addr},H b=none->L2.del H x b=none:=λ{b} e=>by
  by_cases z:b=x
  ·rw[z];exact gj
  ·rw[hH z];exact e
 have u:=I.base;refine⟨I.ok,I.os,I.bare,⟨u.keep,u.slot,λb o q n d=>nn (u.free b o q n d),u.there,λb f q=>?_,λb o v q=>?_,λb ps q=>?_⟩,I.loc,I.cell,nn I.free,λy c e=>nn (I.gY y c e),λp h=>?_,λa o e=>?_,I.len⟩
 ·have e:=u.k9 b f q;rw[hH (ne e λψ z=>by cases z)];exact e
 ·have e:=u.ja b o v q;rw[hH (ne e λψ z=>by cases z)];exact e
 ·obtain⟨m,e⟩:=u.kc b ps q;exact⟨m,by rw[hH (ne e λψ z=>by cases z)];exact e⟩
 ·obtain⟨a1,a2,a3⟩:=I.pin p h;exact⟨a1,nn a2,a3⟩
 ·have i:H a=some o:=by
   by_cases z:a=x
   ·rw[z,gj]at e;cases e
   ·rw[hH z]at e;exact e
  refine(I.aW a o i).p8 (λb u _ q=>q) (λb q=>?_) λb f q=>?_
  ·rw[hH (ne q λψ z=>by cases z)];exact q
  ·rw[hH (ne q λψ z=>by cases z)];exact q
end
def LO(K:wa1)(CB:Addr)(t:TA):TE:=λσ H Q=>t σ H λvs H1=>∃x C nm m,vs=[.ref x,m]/\H1 x=some (XN x C)/\bB K C CB nm/\Q .non H1
section
variable{X:Cx}{CB C f:Addr}{p pos apos gZ:Pos}{e e2:Expr}{es:List Expr}{t:TA}{E6 name:Str}{ta tv:TE}{o value:Expr}{pos':Pos}
theorem zh(J:Gl X E6)(T:X.mg E6=some (.ref CB))(B:Gh X.K CB)(ha:PA X [e,e2] t)(g:(E6 == ("__debug__":Str))=false:=by decide)
 (he:starEach [e,e2] X.env=(false,eval e X.env) :: starEach [e2] X.env:=by rfl) (j:(backTo pos (starEach [e2] X.env)).any (·.1)=false:=by rfl)
 (l:eval (.Call (.Attribute (.Name E6 p) "__init__" apos) [e,e2] [] pos) X.env=(do
   let r <-eval (.Name E6 p) X.env
   standAt apos.atName
   let (f,first) <-holding [r] (wez r "__init__" pl)
   callWith pos f first (backTo pos (starEach [e,e2] X.env)) (backToKw pos (wdk [] X.env))):=by rfl) :
 PE X (.Call (.Attribute (.Name E6 p) "__init__" apos) [e,e2] [] pos) (LO X.K CB t):=by
 intro a s σ H Q I h;refine wd2 (pl:=pl) (eM I J T ?_ g) l;refine PySem.W.method_cls I.fv B.sp (PySem.W.cls_value I.fv B.rd B.fc rfl ?_);refine wed (bP (ha pos a _ σ H _ (I.tok _) h) λF i n=>?_) he j;obtain⟨G,v,c,w,x,C,L,m,y,d,U,q⟩:=n;subst y;obtain⟨M,O,rfl,A,P⟩:=vals2 w;cases A;obtain⟨⟨t,l⟩,_⟩:=c.aW x _ d;obtain⟨R,N,bs,S,sub,ab,D,V,Y,Z,k2,k3,k5,lk⟩:=U.lk;refine Bl c.fv l lk λh' t' k ex=>⟨.non,v,?_,rfl,q⟩;have:=c.write (x:=x) (e:=x) (o:=XN x C) (h':=h') (t':=i.toks) (by rw[d];exact wbz) (.inl rfl) (λb u E z=>k b u E z) ⟨_,ex⟩ (LL ex);rw[LN d]at this;exact this
def Ol(K:wa1)(CB:Addr)(ta tv:TE)(name:Str):TS:=λD σ H=>tv σ H λy H1=>ta σ H1 λz H2=>∃x C nm,z=.ref x/\H2 x=some (XN x C)/\bB K C CB nm/\findIn K (.ref C) name=some none /\
 ∀d,H2 d=none->D.nx σ (upd (upd H2 d (.xd [(name,y)])) x (XD x C d))
theorem D5(ha:PE X o ta)(J:PE X value tv)(hs:wbO value (some (.Attribute o name pos')) pos.line X.env=pure false):PS X (.Assign [.Attribute o name pos'] value pos) (Ol X.K CB ta tv name):=by
 intro g s σ H D I h;refine wcI (bP (J g s σ H _ I h) λu L ⟨y,M,O,P,q⟩=>bP (ha g L σ M _ O q) λQ F R=>?_) hs;obtain⟨z,m,i,S,x,C,T,V,l,U,hn,W⟩:=R;subst V;obtain rfl:Q=waf x:=S;obtain⟨⟨t,Y⟩,_⟩:=i.aW x _ l;obtain⟨Z,N,bs,sn,sub,ab,r,dd,k0,k1,k2,k3,k5,lk⟩:=U.lk;refine Ge (CB:=CB) i.fv Y (cd:={name:=T,bases:=bs,mro:=.ref C :: jM CB,ns:=N,qualname:=Z,hasDict:=true,slotNames:=sn,subclasses:=sub,abstract:=ab,collection:=r,hasDel:=false}) (by unfold clsIn;rw[lk]) rfl rfl hn U.sa λA d tk hd k ex ns=>⟨σ,_,?_,W d (i.aW.fresh hd)⟩;have UO:d≠x:=λz=>by rw[z]at hd;exact absurd (wan (i.aW.lt l) hd) (wb4 _)
 have c:=i.aW.fresh hd
 have un:Un (p7 X.stack) [] m (upd (upd m d (.xd [(name,y)])) x (XD x C d)) F.heap A:=by
  have nx:∀{b:Addr} {o:HO},m b=some o->(∀ψ,o≠.ext ψ)->b≠x:=λe n z=>by rw[z,l]at e;exact n _ (wah e).symm
  have B:∀{b:Addr},m b=none->b≠x:=λe z=>by rw[z,l]at e;cases e
  refine⟨λb o q n _ _=>k b o (B n) q,λb o q n _ _=>⟨o.slots,k b o (B n) q⟩,λb o q n _=>?_,λb o q _=>?_,λb vs q=>?_,λb o v q=>?_,λb ps q=>?_⟩
  ·rw[aa (B n),aa (λz=>by rw[z]at q;exact absurd (wan (wad q) hd) (wb4 _))];exact n
  ·by_cases z:b=x
   ·rw[z];exact⟨_,ex⟩
   ·exact⟨o,k b o z q⟩
  ·rw[aa (nx q λψ z=>by cases z),aa (ae q c)];exact q
  ·rw[aa (nx q λψ z=>by cases z),aa (ae q c)];exact q
  ·exact⟨#[],by rw[aa (nx q λψ z=>by cases z),aa (ae q c),q];simp⟩
 have aW:j8 X.prog X.w (upd (upd m d (.xd [(name,y)])) x (XD x C d)) A:=λa o e=>by
  by_cases z:a=x
  ·subst z;rw[a6]at e;cases e;exact RO ex
  ·rw[aa z]at e
   by_cases G:a=d
   ·subst G;rw[a6]at e;cases e;refine⟨_,ns,λf=>?_⟩
    by_cases p:f=name
    ·have j:(f == name)=true:=beq_iff_eq.mpr p;simp only[wfE,j,if_pos p];exact P
    ·have j:(f == name)=false:=beq_eq_false_iff_ne.mpr p;simp only[wfE,j,if_neg p]
     trivial
   ·rw[aa G]at e;refine(i.aW a o e).p8 (λb u j q=>k b u ?_ q) (λb q=>?_) λb vs q=>?_
    ·rintro rfl;rcases j with rfl |j
     ·exact z rfl
     ·rw[l]at j;cases j
    ·have:b≠x:=λE=>by rw[E,l]at q;cases q
     rw[aa this,aa (ae q c)];exact q
    ·have:b≠x:=λE=>by rw[E,l]at q;cases q
     rw[aa this,aa (ae q c)];exact q
 exact i.rX (s':={F with heap:=A,toks:=tk}) rfl un aW i.bare λb z=>absurd z (by simp)
end
end L2
namespace L2
open PySem PySem.Spec PyProof.Rows
open PySem.W (Looks looks_findIn looks_typeIn InitBack bind_fn findIn clsIn specialIn readsIn findCls keepIn isFn typeIn InstAt)
def LQ(K:wa1)(C:Addr)(sp:Sp)(E:XK)(t:TA):TS:=λ_ σ H=>t σ H λvs H1=>vs.length<=sizeLine/\∀x,H1 x=none ->
 sp (.ref x :: vs) (upd H1 x (XN x C)) (λv H2=>v=.non/\((H2 x=some (XN x C)/\E (.ref C) none (del H2 x))\/∃d,H2 x=some (XD x C d)/\E (.ref C) (some d) (del H2 x))) E0
def Jd(C:Addr)(E:XK)(t:TA):TS:=λ_ σ H=>t σ H λvs H1=>vs.length=1/\E (.ref C) none H1
section
variable{X:Cx}{CB C f:Addr}{fd:wae}{ps:List Str}{sp:Sp}{E:XK}{k:Nat}{p pos gZ:Pos}{e:Expr}{es:List Expr}{t:TA}{x nm:Str}
theorem Inv.newExc(I:Inv X g σ H s)(us:List Value)(C:Addr) :
 Inv X g σ (upd H (s.heap.objs.size + 1) (XN (s.heap.objs.size + 1) C)) {s with heap:=(s.heap.push (pz us)).push (eA C s.heap.objs.size)}:=by
 have c:=I.kept (h':=s.heap.push (pz us)) (t':=s.toks) λb u q=>wa8 _ q;refine c.laid (a:=s.heap.objs.size + 1) (t':=s.toks) (λb u q=>wa8 _ q) (wec (wbK _ _)) (LL (t:=s.heap.objs.size) ?_);have:=wax (s.heap.push (pz us)) (o:=eA C s.heap.objs.size) rfl;rwa[wbK]at this
theorem sL(hT:D3 X E)(hc:X.calm=true)(U:bB X.K C CB nm)(hi:findIn X.K (.ref C) "__init__"=some (some (.ref f)))(J:isFn X.K (.ref f)=true)
 (F:aN X.prog X.w X.K X.mg X.base dm k f fd ps sp) (hr:cT (k + 1) X.A) (hb:Binds X.K fd ps []) (hg:Gl X x) (hm:X.mg x=some (.ref C)) (ha:PA X (e :: es) t)
 (T:(x == ("__debug__":Str))=false:=by decide) (he:starEach (e :: es) X.env=(false,eval e X.env) :: starEach es X.env:=by rfl) (Ja:(backTo gZ (starEach es X.env)).any (·.1)=false:=by rfl) :
 PS X (.Raise (some (.Call (.Name x p) (e :: es) [] gZ)) none pos) (LQ X.K C sp E t):=by
 intro a s σ H D I h;obtain⟨Y,N,bs,sn,sub,ab,col,dd,k0,k1,k2,k3,k5,lk⟩:=U.lk;refine qm (C:=C) (CB:=CB) (nm:=nm) (q:=Y) (N:=N) (bs:=bs) (hdct:=true) (sn:=sn) (sub:=sub) (ab:=ab) (col:=col) (dd:=dd) (k0:=k0) (k1:=k1) (k2:=k2) (k3:=k3) (k5:=k5) (I.ok.hd hc) ?_;refine wbu (eM I hg hm ?_ T);refine wc8 (h₀:=X.base) I.ok.mod.Iw U.kp (bP (ha gZ a s σ H _ I h) λc i ⟨Z,H1,j,r,m,q⟩=>⟨j.fv,?_⟩) he Ja;have B:=j.aW.fresh (wcp i.heap.objs.size);have P:=q (i.heap.objs.size + 1) B;have G:=Inv.newExc j c C;have Q:Vals (V.ref (i.heap.objs.size + 1) :: Z) (waf (i.heap.objs.size + 1) :: c):=.cons rfl r
 have hl:(waf (i.heap.objs.size + 1) :: c++[]).length=ps.length:=by
  have R:=Q.length;rw[F.len _ _ _ _ P]at R;rw[waX];exact R.symm
 have n:=hb _ (waf (i.heap.objs.size + 1) :: c) G.fv hl;rw[waX]at n;obtain⟨L,g,dr,tk,os⟩:=i;refine wc4 (zg (j.fv _ _ lk) (wd9 j.fv hi) (λself=>bind_fn j.fv self (beq_iff_eq.mp J)) (by show c.length<=sizeLine;rw[<-r.length];exact m) ?_);refine wbT (F.run _ X.stack _ _ ⟨waf (L.objs.size + 1) :: c,[]⟩ (waf (L.objs.size + 1) :: c) _ _ E0 (hr.make C c []) (G.Fz.make C c []) n Q P) λrr S b=>?_
 cases rr with
 |error e=>exact waS b
 |ok fl=>
  cases fl with
  |next=>exact waS b
  |brk=>exact waS b
  |cont=>exact waS b
  |ret u=>
   obtain⟨v,H',l,rv,ev,q3⟩:=G.after b;subst ev;refine⟨rv,?_⟩;have o:X.s₀.heap.objs.size<=L.objs.size + 1:=wal j.sz (wcp _);rcases q3 with⟨y,M⟩ |⟨d,y,M⟩
   ·obtain⟨⟨O,z⟩,_⟩:=l.aW _ _ y;exact⟨_,none,O,rfl,l.fv _ _ lk,z,hT a σ _ S _ C none (l.del y) ⟨o,gj,_,_,z,by show 1 < 6;decide,.inl rfl⟩ M⟩
   ·obtain⟨⟨O,z⟩,_⟩:=l.aW _ _ y;exact⟨_,some d,O,rfl,l.fv _ _ lk,z,hT a σ _ S _ C (some d) (l.del y) ⟨o,gj,_,_,z,by show 1 < 6;decide,.inl rfl⟩ M⟩
theorem fF(T:D3 X E)(hc:X.calm=true)(U:bB X.K C CB nm)(hi:findIn X.K (.ref C) "__init__"=some (some (.builtin "ValueError.__init__")))(hg:Gl X x)(hm:X.mg x=some (.ref C))(ha:PA X (e :: es) t)
 (l:(x == ("__debug__":Str))=false:=by decide) (he:starEach (e :: es) X.env=(false,eval e X.env) :: starEach es X.env:=by rfl) (J:(backTo gZ (starEach es X.env)).any (·.1)=false:=by rfl) :
 PS X (.Raise (some (.Call (.Name x p) (e :: es) [] gZ)) none pos) (Jd C E t):=by
 intro a s σ H D I h;obtain⟨y,N,bs,sn,sub,ab,col,dd,k0,k1,k2,k3,k5,lk⟩:=U.lk;refine qm (C:=C) (CB:=CB) (nm:=nm) (q:=y) (N:=N) (bs:=bs) (hdct:=true) (sn:=sn) (sub:=sub) (ab:=ab) (col:=col) (dd:=dd) (k0:=k0) (k1:=k1) (k2:=k2) (k3:=k3) (k5:=k5) (I.ok.hd hc) ?_;refine wbu (eM I hg hm ?_ l);refine wc8 (h₀:=X.base) I.ok.mod.Iw U.kp (bP (ha gZ a s σ H _ I h) λA c ⟨P,B,d,r,f,q⟩=>⟨d.fv,?_⟩) he J
 obtain⟨u,rfl⟩:∃u,A=[u]:=by
  have:=r.length;rw[f]at this;exact List.length_eq_one_iff.mp this.symm
 have m:=Inv.newExc d [u] C;have i:(upd B (c.heap.objs.size + 1) (XN (c.heap.objs.size + 1) C)) (c.heap.objs.size + 1)=some (XN (c.heap.objs.size + 1) C):=a6;have j:=d.aW.fresh (wcp c.heap.objs.size);obtain⟨k,g,Q,G,os⟩:=c;refine wc4 (zg (d.fv _ _ lk) (wd9 d.fv hi) (λself=>Looks.of_pure (wc6.init.bind self)) (by show 1<=sizeLine;decide) ?_);obtain⟨⟨R,L⟩,_⟩:=m.aW _ _ i;refine sH m.fv L lk λh' t' M ex=>⟨rfl,?_⟩;have w:=m.write (x:=k.objs.size + 1) (e:=k.objs.size + 1) (o:=XN (k.objs.size + 1) C) (h':=h') (t':=G) (by rw[i];exact wbz) (.inl rfl) (λb u O z=>M b u O z) ⟨_,ex⟩ (LL ex);rw[Cz]at w;have n:=w.del (x:=k.objs.size + 1) a6;rw[D4 j]at n;have v:X.s₀.heap.objs.size<=k.objs.size + 1:=wal d.sz (wcp _);exact⟨_,none,t',rfl,n.fv _ _ lk,ex,T a σ _ _ _ C none n ⟨v,j,_,_,ex,by show 1 < 6;decide,.inl rfl⟩ q⟩
end
end L2
namespace L2
open PySem PySem.Spec PyProof.Rows
noncomputable abbrev TJ:=Str->St->Hp->(Str->Hp->Prop)->Prop
def PJ(X:Cx)(es:List Expr)(t:TJ):Prop:=∀(pins:List (Addr×Obj)) (s:Shared) (σ:St) (H:Hp) (acc:Str) (Q:Str->Hp->Prop),Inv X pins σ H s->t acc σ H Q ->
 wpAny (model X.prog X.w) X.A (joinParts acc (evalEach es X.env)) (λu s'=>∃z H',Inv X pins σ H' s'/\(∃tk,u=.str z tk)/\Q z H') X.xe s
section
variable{X:Cx}{e:Expr}{es:List Expr}{te:TE}{t:TJ}{pos:Pos}
noncomputable def RP:TJ:=λacc _ H Q=>acc.length<=sizeLine/\Q acc H
theorem Gi:PJ X [] RP:=λb s σ H a Q I h=>joinParts_nil ⟨a,H,I.tok _,⟨_,rfl⟩,h.2⟩ h.1
noncomputable def RQ(z:Str)(t:TJ):TJ:=λacc σ H Q=>(acc++z).length<=sizeLine/\t (acc++z) σ H Q
theorem sM(h:PJ X es t):PJ X (.Constant (.str z) j pos :: es) (RQ z t):=λa s σ H b Q I q=>
 wg0 (wgB ⟨q.1,h a _ σ H _ Q (I.tok _) q.2⟩)
noncomputable def RT(te:TE)(t:TJ):TJ:=λacc σ H Q=>te σ H λv H1=>(∃i,v=.int i/\i.natAbs.log2 < 1920/\(acc++(toString i:String)).length<=sizeLine/\t (acc++(toString i:String)) σ H1 Q)\/(∃z,v=.str z/\z.length<=sizeLine/\(acc++z).length<=sizeLine/\t (acc++z) σ H1 Q)
theorem Gj(j:PE X e te)(h:PJ X es t):PJ X (.FormattedValue e (-1) none pos :: es) (RT te t):=λa s σ H k Q I q=>by
 refine wg0 (wgf (bP (j a s σ H _ I q) λv o ⟨y,d,f,g,l⟩=>?_));rcases l with⟨i,rfl,hl,b,c⟩ |⟨z,rfl,hl,b,c⟩
 ·obtain⟨m,rfl⟩:=g;exact wg1 hl ⟨b,h a _ σ d _ Q (f.tok _) c⟩
 ·obtain⟨m,rfl⟩:=g;exact formatField_str (λp n=>⟨b,h a _ σ d _ Q (f.tok _) c⟩) hl
theorem D6(h:PJ X (e :: g :: es) t):PE X (.JoinedStr (e :: g :: es) pos) (λσ H Q=>t whv σ H λz j=>Q (.str z) j):=λa s σ H Q I q=>
 JoinedStr_many (bP (h a s σ H _ _ I q) λu f ⟨z,b,c,r,d⟩=>⟨.str z,b,c,r,d⟩)
end
noncomputable abbrev N3:=XK->TE
noncomputable abbrev Il:=(St->XK)->TS
def RU(X:Cx)(pins:List (Addr×Obj))(σ:St)(E:XK)(ev:Value)(s':Shared):Prop:=∃H0 s0,Inv X pins σ H0 s0/\vk X.prog X.w X.stack H0 s0 E ev s'
def UP(X:Cx)(pins:List (Addr×Obj))(E:St->XK)(ev:Value)(s':Shared):Prop:=∃σ,RU X pins σ (E σ) ev s'
def Qp(X:Cx)(e:Expr)(t:N3):Prop:=∀(pins:List (Addr×Obj)) (s:Shared) (σ:St) (H:Hp) (Q:VK) (E:XK),Inv X pins σ H s->t E σ H Q->wpAny (model X.prog X.w) X.A (eval e X.env) (EP X pins σ Q) (RU X pins σ E) s
def RV(X:Cx)(st:Stmt)(t:Il):Prop:=∀(pins:List (Addr×Obj)) (s:Shared) (σ:St) (H:Hp) (D:Ends) (E:St->XK),Inv X pins σ H s->t E D σ H->wpAny (model X.prog X.w) X.A (exec st X.env) (SP X pins D) (UP X pins E) s
def LR(X:Cx)(st:List Stmt)(t:Il):Prop:=∀(pins:List (Addr×Obj)) (s:Shared) (σ:St) (H:Hp) (D:Ends) (E:St->XK),Inv X pins σ H s->t E D σ H->wpAny (model X.prog X.w) X.A (execs st X.env) (SP X pins D) (UP X pins E) s
section
variable{X:Cx}{k:Nat}{f C:Addr}{fd:wae}{ps:List Str}{sp:Sp}{x m:Str}{p pos apos:Pos}{e o:Expr}{es:List Expr}{ta:TE}{t:TA}{st:Stmt}{rest:List Stmt}
theorem E7{α:Type}{M:Model}{A:Around}{m:Sem α}{Q:α->Shared->Prop}{E:Value->Shared->Prop}{s:Shared}(h:wpAny M A m Q (λ_ _=>False) s):wpAny M A m Q E s:=waV h (λ_ _ x=>x) λ_ _ z=>z.elim
theorem AP.df{E:Value->Shared->Prop}{Q:List V->Hp->Prop}(h:AP (X.jc E) g σ Q us s'):AP X g σ Q us s':=by
 obtain⟨a,b,I,r,q⟩:=h;exact⟨a,b,I.df,r,q⟩
theorem Je(F:aN X.prog X.w X.K X.mg X.base (vk X.prog X.w) k f fd ps sp)(j:cT k X.A)(l:Binds X.K fd ps [])
 (I:Inv X g σ H s) (r:Vals vs us) (h:sp vs H Q E):wpAny (model X.prog X.w) X.A (call (.ref f) us) (EP X g σ Q) (RU X g σ E) s:=by
 have hl:(us++[]).length=ps.length:=by rw[waX,<-r.length];exact F.len _ _ _ _ h
 have a:=l s us I.fv hl;rw[waX]at a;refine wc4 (wbT (F.run X.A X.stack s H ⟨us,[]⟩ us vs Q E j I.Fz a r h) λr c b=>?_)
 cases r with
 |error e=>exact⟨H,s,I,b⟩
 |ok fl=>
  cases fl with
  |ret u=>exact I.after b
  |next=>exact waS b
  |brk=>exact waS b
  |cont=>exact waS b
noncomputable def LU(C:Addr)(m:Str)(sp:Sp)(ta:TE)(t:TA):N3:=λE σ H Q=>ta σ H λx H1=>Ur C m x H1 (t σ H1 λvs H2=>sp (x :: vs) H2 Q E)
theorem Gk{pl:Sem Bool}(U:PE X.AJ o ta)(c:AA X.K C)(J:Fx X.K C m f)(F:aN X.prog X.w X.K X.mg X.base (vk X.prog X.w) k f fd ps sp)(hr:cT k X.A)(hb:Binds X.K fd ps [])(ha:PA X.AJ (e :: es) t)
 (g:starEach (e :: es) X.env=(false,eval e X.env) :: starEach es X.env:=by rfl) (j:(backTo pos (starEach es X.env)).any (·.1)=false:=by rfl)
 (ht:eval (.Call (.Attribute o m apos) (e :: es) [] pos) X.env=(do
   let T <-eval o X.env
   standAt apos.atName
   let (f,first) <-holding [T] (wez T m pl)
   callWith pos f first (backTo pos (starEach (e :: es) X.env)) (backToKw pos (wdk [] X.env))):=by rfl) :
 Qp X (.Call (.Attribute o m apos) (e :: es) [] pos) (LU C m sp ta t):=by
 intro b s σ H Q E I h;refine wd2 (pl:=pl) (E7 (bP (U b s σ H _ (I.jc _) h) λu n ⟨x,p,d,v,a,D,fs,ex,y,l,q⟩=>?_)) ht;have d:=d.df;subst ex;obtain rfl:u=waf a:=v;refine mM d y c J l ?_;refine wc8 (first:=[.ref a]) (h₀:=X.base) I.ok.mod.Iw J.kp (E7 (bP (ha pos b n σ p _ (d.jc _) q) λus G z=>?_)) g j;obtain⟨vs,L,i,r,B⟩:=z.df;exact⟨i.fv,Je (us:=.ref a :: us) (vs:=.ref a :: vs) F hr hb i (.cons rfl r) B⟩
noncomputable def LV(C:Addr)(sp:Sp)(t:TA):N3:=λE σ H Q=>t σ H λvs H1=>∀x dx,H1 x=none->H1 dx=none->dx≠x ->
 sp (.ref x :: vs) (upd (upd H1 dx (.own x)) x (.ins C dx [])) (λv H2=>v=.non/\Q (.ref x) H2) E
theorem Gm(M:Mk X.K C f)(F:aN X.prog X.w X.K X.mg X.base (vk X.prog X.w) k f fd ps sp)(T:cT (k + 1) X.A)(U:Gl X x)(hm:X.mg x=some (.ref C))(hb:Binds X.K fd ps [])
 (ha:PA X.AJ (e :: es) t) (l:(x == ("__debug__":Str))=false:=by decide) (he:starEach (e :: es) X.env=(false,eval e X.env) :: starEach es X.env:=by rfl) (J:(backTo pos (starEach es X.env)).any (·.1)=false:=by rfl) :
 Qp X (.Call (.Name x p) (e :: es) [] pos) (LV C sp t):=by
 intro d s σ H Q E I h;refine wbu (eM I U hm ?_ l);refine wc8 (h₀:=X.base) I.ok.mod.Iw M.kp (E7 (bP (ha pos d s σ H _ (I.jc _) h) λc b o=>?_)) he J;obtain⟨y,N,g,r,q⟩:=o.df;refine⟨g.fv,?_⟩;have m:=q (b.heap.objs.size + 1) b.heap.objs.size (g.aW.fresh (wcp _)) (g.aW.fresh (wab _)) (war (wbS _));have j:=Inv.made (C:=C) g;have n:Vals (V.ref (b.heap.objs.size + 1) :: y) (waf (b.heap.objs.size + 1) :: c):=.cons rfl r
 have hl:(waf (b.heap.objs.size + 1) :: c++[]).length=ps.length:=by
  have e:=n.length;rw[F.len _ _ _ _ m]at e;rw[waX];exact e.symm
 have i:=hb _ (waf (b.heap.objs.size + 1) :: c) j.fv hl;rw[waX]at i
 refine wc4 (yT (f:=f) g.fv M.makes M.init (beq_iff_eq.mp M.fn) (wbT (F.run _ X.stack _ _ ⟨waf (b.heap.objs.size + 1) :: c,[]⟩ (waf (b.heap.objs.size + 1) :: c) _ _ E (T.make C c [])
  (j.Fz.make C c []) i n m) λr O a=>?_))
 cases r with
 |error e=>exact⟨_,_,j,a⟩
 |ok fl=>
  cases fl with
  |ret u=>
   obtain⟨v,z,B,D,G,L⟩:=j.after a;subst G;exact⟨D,⟨V.ref (b.heap.objs.size + 1),z,B,rfl,L⟩⟩
  |next=>exact waS a
  |brk=>exact waS a
  |cont=>exact waS a
variable{te:N3}{i:Nat}{pos':Pos}{tx ty:Il}{tc:TT}{c:Expr}{a b:List Stmt}{ts:TS}
noncomputable def RW(te:N3)(i:Nat):Il:=λE D σ H=>te (E σ) σ H λv H1=>D.nx (σ.set i (some v)) H1
theorem Jf(g:X.N.Nodup)(hi:X.N[i]?=some x)(j:Loc X.env.scope x)(l:Qp X e te)(hs:wbO e (some (.Name x pos')) pos.line X.env=pure false:=by rfl)(r:X.fn x=true\/X.env.scope.names.lookup x=some .local:=by first |exact .inl rfl |exact .inr rfl |assumption) :
 RV X (.Assign [.Name x pos'] e pos) (RW te i):=by
 intro a s σ H D E I h;refine wd1 (waV (l a s σ H _ (E σ) I h) (λv b ⟨y,c,d,f,k⟩=>?_) λn b z=>⟨σ,z⟩) hs;exact g8 d g hi j f (λo m=>⟨_,c,m,k⟩) r
noncomputable def Om(te:N3):Il:=λE D σ H=>te (E σ) σ H λ_ H1=>D.nx σ H1
theorem Gn(g:Qp X e te)(hs:wbO e none pos.line X.env=pure false:=by rfl):RV X (.Expr e pos) (Om te):=by
 intro a s σ H D E I h;exact wpAny_Expr_any (waV (g a s σ H _ (E σ) I h) (λv b ⟨x,c,d,i,f⟩=>⟨σ,c,d,f⟩) λj b z=>⟨σ,z⟩) I.quiet hs
theorem zi(g:RV X st tx):LR X [st] tx:=by
 intro a s σ H D E I h;refine wcn (waV (g a s σ H D E I h) (λf b q=>?_) λ_ _ z=>z)
 cases f with
 |next=>exact wbR q
 |ret v=>exact q
 |brk=>exact q
 |cont=>exact q
end
section
variable{M:Model}{A:Around}{E:Value->Shared->Prop}{s:Shared}{e C CB:Addr}{od:Option Addr}{lo:Nat}{H:Hp}
theorem mW{Q:Unit->Shared->Prop}(F:Ik lo H s.heap e C od)(h:∀h',Ik lo H h' e C od->(∀b o,s.heap.get? b=some o->(b < lo\/H b≠none)->h'.get? b=some o)->Q () {s with heap:=h'}) :
 wpAny M A (wfB (.ref e) none) Q E s:=by
 obtain⟨g,i,p,sl,n,j,f⟩:=F;unfold wfB;rcases f with f |⟨T,v,u,r,a,k,l,t,d,f⟩
 ·refine wa3 (wdO n rfl f ?_);rw[if_neg (by decide)];exact wap (h _ ⟨g,i,p,sl,n,j,.inl f⟩ λb o q _=>q)
 ·have c:3 < u.size:=(weN.mp f).1;refine wa3 (wdO n rfl r ?_);rw[if_pos (show (waf T != wby)=true from by simp)];refine wex t d c (h _ ⟨g,i,p,sl,?_,j,.inr ⟨T,_,_,r,a,k,l,wbC _ t (we1 (wcU d _)),wcU d _,by simp[c]⟩⟩ λb o q m=>?_)
  ·exact(waN _ _ l).trans n
  ·refine(waN _ _ ?_).trans q;rintro rfl;rcases m with m |m
   ·exact absurd (wan m a) (wb4 _)
   ·exact m k
variable{nm q E6 qB:Str}{N NB:Addr}{bs X9:List Value}{hdct Xa:Bool}{sn Xb:List Str}{sub subB:List Value}{ab Xc:Bool}{col RX:Option Bool}{dd Xd:Option Addr}{k0 k1 k2 k3 k5 l0 l1 l2 l3 l5:Option Value}
theorem LW{h:Heap}{g:Array wcX}{d:Drawn}{t:Nat}{os:wbJ}{l:Obj}{Q:Bool->Shared->Prop}(o:h.get? C=some (wbf nm q C N bs (jM CB) hdct sn sub ab col dd k0 k1 k2 k3 k5 "ValueError.__new__"))
 (p:h.get? CB=some (wbf E6 qB CB NB X9 N1 Xa Xb subB Xc RX Xd l0 l1 l2 l3 l5 "ValueError.__new__")) (r:h.get? e=some l) (j:l.cls=.ref C) (I:Q true ⟨h,g,d,t,os⟩) :
 wpAny M A (wej (.ref e) (.ref CB)) Q E ⟨h,g,d,t,os⟩:=by
 have a:(waf CB :: N1).contains (.type "BaseException")=true:=rfl;have b:(waf C :: jM CB).contains (.ref CB)=true:=by grind
 have f:=wh3;unfold wej
 repeat (first |(with_reducible refine waW r ?_;rw[j]) |with_reducible refine waW o ?_ |with_reducible refine waW p ?_ |(with_reducible refine wbq o ?_;rw[b]) |(with_reducible refine wbq p ?_;rw[a]) |wp_step)
 exact I
end
noncomputable abbrev Cx.marked(X:Cx)(e:Addr):Cx:={X with A:=X.A.mark (some (.ref e)),calm:=false}
section
variable{X:Cx}{pins:List (Addr×Obj)}{σ:St}{H:Hp}{s:Shared}{e:Addr}
theorem Cx.Ok.marked(ok:X.Ok):(X.marked e).Ok:=
 ⟨ok.mod,ok.kind,ok.glob,ok.blt,ok.above,ok.inj,ok.has,ok.L7,λz=>Bool.noConfusion z,ok.frames,ok.MV,ok.Q8,ok.bs,ok.Fb,ok.AF,ok.DG,ok.mJ,ok.Ih⟩
theorem Inv.marked(I:Inv X pins σ H s):Inv (X.marked e) pins σ H s:=⟨I.ok.marked,I.os,I.bare,I.base,I.loc,I.cell,I.free,I.gY,I.pin,I.aW,I.len⟩
theorem Inv.unmarked(ok:X.Ok)(I:Inv (X.marked e) pins σ H s):Inv X pins σ H s:=⟨ok,I.os,I.bare,I.base,I.loc,I.cell,I.free,I.gY,I.pin,I.aW,I.len⟩
theorem Inv.sN{l g:Hp}{j s1:Shared}{h':Heap}(I:Inv X pins σ l j)(r:s1.os=j.os)(bare:AllBare s1.gens)(un:Un (p7 X.stack) [] l g j.heap s1.heap)(aW:j8 X.prog X.w g s1.heap)
 (p:Bm j.heap.objs.size g (p7 X.stack) s1.heap h') (C:∀b∈p7 X.stack,g b=none):Un (p7 X.stack) [] l g j.heap h'/\j8 X.prog X.w g h'/\∀tk,Inv X pins σ g {s1 with heap:=h',toks:=tk}:=by
 have e:Un (p7 X.stack) [] l g j.heap h':=by
  refine⟨λb o d n a f=>p.keep b o (un.keep b o d n a f) (.inl (wad d)) a,λb o d n a f=>?_,un.free,λb o d f=>?_,un.k9,un.ja,un.kc⟩
  ·obtain⟨sl,h⟩:=un.slot b o d n a f;obtain⟨i,k⟩:=p.slot b _ h a;exact⟨i,k⟩
  ·obtain⟨m,h⟩:=un.there b o d f
   by_cases q:b∈p7 X.stack
   ·obtain⟨sl,k⟩:=p.slot b m h q;exact⟨_,k⟩
   ·exact⟨m,p.keep b m h (.inl (wad d)) q⟩
 have c:=aW.past p C;exact⟨e,c,λtk=>I.rX (s':={s1 with heap:=h',toks:=tk}) r e c bare λb z=>absurd z (by simp)⟩
noncomputable def XC(x C:Addr)(od:Option Addr):HO:=.ext λh=>∃vs sl,h.get? x=some ⟨.ref C,od,.fields vs,sl⟩
theorem RY(e:h.get? x=some ⟨.ref C,od,.fields vs,sl⟩):bG P w H h x (XC x C od):=
 ⟨⟨vs,sl,e⟩,⟨_,e⟩,λd f ⟨a,b,c⟩ k=>⟨a,b,k _ c⟩⟩
theorem Inv.Oo{φ:Heap->Prop}(I:Inv X pins σ H s)(hn:H x=none)(g:X.s₀.heap.objs.size<=x)(hl:x≠X.env.locals)(hc:∀y c,X.env.cells.lookup y=some c->c≠x)(j:∀p∈X.pn++pins,p.1≠x)(ok:bG X.prog X.w (upd H x (.ext φ)) s.heap x (.ext φ)) :
 Inv X pins σ (upd H x (.ext φ)) s:=by
 have u:=I.base;refine⟨I.ok,I.os,I.bare,⟨u.keep,u.slot,λb o q n h=>?_,u.there,λb f q=>?_,λb o v q=>?_,λb ps q=>?_⟩,I.loc,I.cell,by rw[aa (wbc hl)];exact I.free,λy c e=>by rw[aa (hc y c e)];exact I.gY y c e,λp d=>?_,λa o e=>?_,I.len⟩
 ·rw[aa (λz=>by rw[z]at q;exact absurd (wan (wad q) g) (wb4 _))];exact u.free b o q n h
 ·have e:=u.k9 b f q;rw[aa (ae e hn)];exact e
 ·have e:=u.ja b o v q;rw[aa (ae e hn)];exact e
 ·obtain⟨m,e⟩:=u.kc b ps q;exact⟨m,by rw[aa (ae e hn)];exact e⟩
 ·obtain⟨a1,a2,a3⟩:=I.pin p d;exact⟨a1,by rw[aa (j p d)];exact a2,a3⟩
 ·by_cases z:a=x
  ·subst z;rw[a6]at e;cases e;exact ok
  ·rw[aa z]at e;refine(I.aW a o e).p8 (λb u _ q=>q) (λb q=>?_) λb f q=>?_
   ·rw[aa (ae q hn)];exact q
   ·rw[aa (ae q hn)];exact q
theorem Inv.Go{m:Str->Option Value}(I:Inv X pins σ H s)(J:X.N.Nodup)(C:X.N[j]?=some n)(U:X.env.scope.names.lookup n=some .local)
 (T:∃m,s.heap.Ns X.env.locals m/\(∀(i:Nat) (x:Str) (v:V),X.N[i]?=some x->σ[i]?=some (some v)->MU X.env.scope x->∃u,RelV v u/\Look X.env s.heap m x u)/\h'.Ns X.env.locals (λx=>if x=n then v else m x))
 (hs:we6 X.env.locals s.heap h'):Inv X pins (σ.set j none) H {s with heap:=h',toks:=tk}:=by
 obtain⟨m,hn,hl,r⟩:=T;have Fj:=I.Fj;obtain⟨M,_,_,A,_⟩:=id hn;refine⟨I.ok,I.os,I.bare,⟨λb o e n t h=>?_,λb o e n t h=>?_,I.base.free,λb o e h=>?_,I.base.k9,I.base.ja,I.base.kc⟩,⟨_,r,λi y B g l D=>?_⟩,λy c e=>?_,I.free,I.gY,λp E=>?_,λb ob e=>?_,by simpa using I.len⟩
 ·exact(hs.2 b (war (wan (wad e) I.ok.above))).trans (I.base.keep b o e n t h)
 ·obtain⟨sl,g⟩:=I.base.slot b o e n t h;exact⟨sl,(hs.2 b (war (wan (wad e) I.ok.above))).trans g⟩
 ·obtain⟨F,g⟩:=I.base.there b o e h;exact⟨F,(hs.2 b (war (wan (wad e) I.ok.above))).trans g⟩
 ·by_cases f:i=j
  ·subst f;have:i < σ.length:=by rw[I.len];exact(wa6.mp C).1
   rw[wc1 this]at l;cases l
  ·rw[wcc (wbc f)]at l;obtain⟨G,K,q⟩:=hl i y B g l D;refine⟨G,K,?_⟩;rcases q with⟨k,e⟩ |⟨k,c,e,z⟩
   ·refine .inl ⟨k,?_⟩;have:y≠n:=λe=>f (rW J g (e ▸ C));simp[this,e]
   ·exact .inr ⟨k,c,e,z.sameBut hs (Fj y c e)⟩
 ·obtain⟨w,z⟩:=I.cell y c e;exact⟨w,z.sameBut hs (Fj y c e)⟩
 ·obtain⟨e,n,ne,L,d⟩:=I.pin p E;exact⟨(hs.2 p.1 ne).trans e,n,ne,L,d⟩
 ·refine(I.aW b ob e).p8 (λc w hc q=>(hs.2 c ?_).trans q) (λ_ q=>q) λ_ _ q=>q;rintro rfl;have a:=I.free;rcases hc with rfl |hc
  ·rw[a]at e;cases e
  ·rw[a]at hc;cases hc
end
structure vm(K:wa1)(CB:Addr)(nm:Str):Prop where
 lk:∃(q:Str) (N:Addr) (bs:List Value) (hd:Bool) (sn:List Str) (sub:List Value) (ab:Bool) (col:Option Bool) (dd:Option Addr) (k0 k1 k2 k3 k5:Option Value),
  K.lookup CB=some (wbf nm q CB N bs N1 hd sn sub ab col dd k0 k1 k2 k3 k5 "ValueError.__new__")
def RZ(K:wa1)(CB:Addr)(tb:Il)(j i:Nat):TS:=λD σ H=>tb (λσ' cv od H'=>∃C nm,cv=.ref C/\bB K C CB nm/\∀e,H' e=none->D.nx (((σ'.set j (some (.ref e))).set i (some (.ref e))).set j none) (upd H' e (XC e C od))) D σ H
section
variable{X:Cx}{CB:Addr}{E6 n x Jg:Str}{body:List Stmt}{tb:Il}{i j:Nat}{p1 p2 p3 p4 Jh pos:Pos}
theorem LX(r:X.stack=X.env :: X.outer/\X.env.frame=some X.env.locals)(l:LR X body tb)(hg:Gl X E6)(hm:X.mg E6=some (.ref CB))(TB:vm X.K CB Jg)(T:X.N.Nodup)(J:X.N[j]?=some n)(hi:X.N[i]?=some x)
 (g:X.env.scope.names.lookup n=some .local) (hx:Loc X.env.scope x) (Xe:(E6 == ("__debug__":Str))=false:=by decide) (Xf:(n == ("__debug__":Str))=false:=by decide) (Xg:(n == ("__classdict__":Str))=false:=by decide)
 (hf:X.fn x=true\/X.env.scope.names.lookup x=some .local:=by first |exact .inl rfl |exact .inr rfl |assumption) (O8:wbO (.Name n p3) (some (.Name x p2)) p4.line X.env=pure false:=by rfl) :
 PS X (.Try body [.ExceptHandler (some (.Name E6 p1)) (some n) [.Assign [.Name x p2] (.Name n p3) p4] Jh] [] [] pos) (RZ X.K CB tb j i):=by
 intro a s σ H D I h;refine wpAny_Try_except (waV (l a s σ H D _ I h) (λf s1 q=>?_) λev s1 q=>?_)
 ·cases f with
  |next=>exact wbR q
  |ret v=>exact q
  |brk=>exact q
  |cont=>exact q
 obtain⟨k,H0,w,d,e,L,M,u,rfl,t,bare,un,aW,F,C,UQ,O,U,hD⟩:=q;cases O;have I1:Inv X a k u s1:=d.rX t un aW bare λb z=>absurd z (by simp);have P:(X.env :: X.outer).filterMap (·.frame)=p7 X.stack:=by rw[r.1];rfl
 have A:=I1.nD
 have B:w.heap.objs.size<=s1.heap.objs.size:=wf8 λz=>by
  obtain⟨Q,_,vs,sl,he,_⟩:=F;exact absurd (wan (wba Q (wad he)) (we5 z)) (wb4 _)
 refine sI (lo:=w.heap.objs.size) (H:=u) (base:=X.base) (outer:=X.outer) (by rw[<-r.1];exact d.ok.frames) (by rw[<-r.1];exact I1.stack) r.2 B (λb l=>aW.fresh l) F λh2 F2 p=>?_;rw[P]at p;obtain⟨R,E,J2⟩:=d.sN t bare un aW p A;have S:=J2 s1.toks;obtain⟨qC,NC,Xh,Xi,S0,Xj,S2,Xk,c0,c1,c2,c3,c5,V⟩:=U.lk;obtain⟨qT,NT,ZX,ZY,ZZ,Xl,abT,Xm,ddT,t0,t1,t2,t3,t5,W⟩:=TB.lk;obtain⟨UR,Xn,Y,_⟩:=id F2.ob;refine wdn (wd3 (eM (X:=X.marked e) (S.marked (e:=e)) hg hm ?_ Xe)) (by intro z;cases z);refine LW (S.fv _ _ V) (S.fv _ _ W) Y rfl ?_;refine codeAny_handlers_suite_as ?_;refine mW F2 λh3 F3 k3=>?_;have Z:Bm w.heap.objs.size u (p7 X.stack) h2 h3:=⟨λb o q l _=>k3 b o q l,λb o q l=>⟨o.slots,k3 b o q (.inl ?_)⟩⟩
 rotate_left
 ·
  have:∃o,w.heap.get? b=some o:=by
   obtain⟨_,o,G,_⟩:=d.stack.mem l;exact⟨o,G⟩
  obtain⟨o,G⟩:=this;exact wad G
 obtain⟨UT,Xo,J3⟩:=d.sN (s1:={s1 with heap:=h2}) t bare R E Z A;have I3:=J3 s1.toks;obtain⟨UU,sl3,Xp,_⟩:=id F3.ob;have old:∀{b:Addr},b < w.heap.objs.size->b≠e:=λl z=>by rw[z]at l;exact absurd (wan l F.ge) (wb4 _)
 have Xq:Inv X a k (upd u e (XC e L M)) {s1 with heap:=h3}:=I3.Oo F.nt (wal d.sz F.ge) (wbc (old d.lt)) (λy c hc=>old (by
  obtain⟨v,o,G,_⟩:=d.cell y c hc
  exact wad G)) (λp hp=>old (wad (d.pin p hp).1)) (RY Xp)
 refine g8 (v:=.ref e) Xq T J (.inl g) rfl (λs4 I4=>?_) (.inr g);have Sa:j < k.length:=by rw[d.len];exact(wa6.mp J).1
 have ev:=Fl (X:=(X.marked e).AJ) (pos:=p3) J (.inl g) Xf Xg a s4 _ (upd u e (XC e L M)) (λv Xr=>v=.ref e/\Xr=upd u e (XC e L M)) ((I4.marked (e:=e)).jc _) ⟨.ref e,wc1 Sa,rfl,rfl⟩;refine wcn (wd1 (E7 (bP ev λv s5 ⟨y,H5,I5,r5,ey,eH⟩=>?_)) O8);subst ey;subst eH;have I5:=(I5.df).unmarked d.ok;refine g8 I5 T hi hx r5 (λs6 I6=>wbR ?_) hf;obtain⟨m,hn,hl⟩:=id I6.loc;refine wpAny_nameGoes_keeps g hn (by rw[I6.ok.kind];rfl) λh7 v7 Xs Xu=>?_;exact⟨_,_,I6.Go (m:=m) (tk:=s6.toks + 1) T J g ⟨m,hn,hl,Xs⟩ Xu,hD e F.nt⟩
end
open PySem.W (Looks looks_findIn looks_typeIn looks_find looks_hook looks_mroIn findIn clsIn specialIn takesIn mroIn typeIn subIn InstAt KitX kitOne kitCls kia_one findObj findObj_data class_get handed_on handedOut_of)
open Builtin Builtin.ObjectAttr
theorem bB.ne{K:wa1}{C D CB j:Addr}{nm g:Str}(U:bB K C CB nm)(l:bB K D j g)(h:¬nm=g):C≠D:=λe=>by
 subst e;obtain⟨q,N,bs,s,sub,ab,d,t,u,v,w,x,y,f⟩:=U.lk;obtain⟨z,A,i,k,b,m,c,n,B,p,E,F,G,a⟩:=l.lk;rw[f]at a;have:=congrArg (λo=>match o with |some (⟨_,_,.cls r,_⟩:Obj)=>r.name |_=>nm) a;exact h this
theorem bB.neT{K:wa1}{C CB g:Addr}{nm j:Str}(U:bB K C CB nm)(T:vm K g j)(h:¬nm=j):C≠g:=λe=>by
 subst e;obtain⟨q,N,bs,s,sub,ab,d,t,u,v,w,x,y,f⟩:=U.lk;obtain⟨z,A,i,k,l,b,m,c,n,B,p,D,E,F,a⟩:=T.lk;rw[f]at a;have:=congrArg (λo=>match o with |some (⟨_,_,.cls r,_⟩:Obj)=>r.name |_=>nm) a;exact h this
section
variable{prog:wat}{w:World}{A:Around}{E:Value->Shared->Prop}{s:Shared}{K:wa1}{x C CB D:Addr}{nm yN Jg:Str}{od:Option Addr}
def ExcAt(x C:Addr)(od:Option Addr)(h:Heap):Prop:=(∃vs sl,h.get? x=some ⟨.ref C,od,.fields vs,sl⟩)/\∀d,od=some d->∃o,h.get? d=some o
theorem ExcAt.inst(e:ExcAt x C od h):∃ox o,InstAt h x ox C o:=by
 obtain⟨⟨c,sl,a⟩,hd⟩:=e
 cases od with
 |none=>exact⟨_,none,a,rfl,rfl,trivial⟩
 |some d=>
  obtain⟨o,b⟩:=hd d rfl;exact⟨_,some o,a,rfl,rfl,b⟩
structure vn(K:wa1)(C:Addr):Prop where
 ha:findIn K (.ref C) "__class__"=some (some (.builtin "object.__class__"))
 hn:weG K (.builtin "object.__class__") "__get__"=some (some (.builtin "getset_descriptor.__get__"))
 nF:takesIn K (.builtin "object.__class__")=some true
theorem E8{Q:Option Value->Shared->Prop}(U:bB K C CB nm)(Y:vn K C)(X:K.In s.heap)(I:ExcAt x C od s.heap)(h:Q (some (.ref C)) {s with toks:=s.toks + 1}):wpAny (model prog w) A (getAttr? (.ref x) "__class__") Q E s:=by
 obtain⟨ox,o,I⟩:=I.inst;obtain⟨q,N,bs,k,sub,ab,c,l,m,n,p,r,t,lk⟩:=U.lk;have hc:∃b,clsIn K C=some b:=⟨_,by unfold clsIn;rw[lk]⟩;have d:mroIn K C (.type "object")=some true:=by unfold mroIn clsIn;rw[lk];rfl
 have a:mroIn K C (.type "BaseException")=some true:=by unfold mroIn clsIn;rw[lk];rfl
 have G:=weM.ga
 have f:findObj K C o "__class__"=some (.bind (.builtin "getset_descriptor.__get__") (.builtin "object.__class__")):=by
  obtain⟨b,hc⟩:=hc;unfold findObj;rw[hc,Y.ha];simp only[wdW];rw[Y.hn];simp only[wdW];rw[Y.nF];rfl
 unfold getAttr? getAttrBy? getAttrBy;refine wa3 (wpAny_mkText (wa3 (wgo (waY (wa3 (I.type _ _ _ _ (λ_ _ e=>e) (wa3 (wd9 X U.ga _ _ _ _ (λ_ _ e=>e) ?_))))))));dsimp only;rw[show (weB (waf C) && wcy "BaseException.__getattribute__" == wcy "object.__getattribute__")=false from by rw[show (wcy "BaseException.__getattribute__" == wcy "object.__getattribute__")=false from by decide+kernel,wcF],if_neg (by decide)];have g:Looks (model prog w) s.heap (hookBefore (.ref C)) none:=looks_hook X (by show (if weB (waf C) then findIn K (.ref C) "__getattr__" else some none)=some none;rw[if_pos (show weB (waf C)=true from rfl)];exact U.gh);refine wa3 (g _ _ _ _ (λ_ _ e=>e) (wa3 (wgo (waY ?_))));unfold callGetattribute;rw[show (false && weB (wcy "BaseException.__getattribute__"))=false from rfl,if_neg (by decide)];unfold boundAndCalled;rw[G.bind];refine wa3 (wap ?_);show wpAny _ _ (call (.builtin "BaseException.__getattribute__") [.ref x,.str "__class__" s.toks]) _ _ _;refine wc4 ?_;have sub:Looks (model prog w) s.heap (wf0 (.ref x) (.type "BaseException")) true:=I.type.andThen (wfM X a);refine wbZ G.plain wfZ ?_;refine @wgs (model prog w) _ _ {s with toks:=s.toks + 1} "BaseException.__getattribute__" "BaseException" "__getattribute__" (.ref x) [.str "__class__" s.toks] [] _ (by decide+kernel) (by decide+kernel) sub (wge (.ref x) (.str "__class__" s.toks)) ?_;have i:=I.type (M:=model prog w);have j:=looks_find (M:=model prog w) X I f;unfold wdG.«object.__getattribute__»;refine wa3 (wap ?_);refine wa3 (wap (wa3 (i _ _ _ _ (λ_ _ e=>e) (wa3 (j _ _ _ _ (λ_ _ e=>e) ?_)))));show wpAny _ _ (holding [.builtin "object.__class__"] (call (.builtin "getset_descriptor.__get__") [.builtin "object.__class__",.ref x,.ref C]) >>= ret) _ _ _;refine wa3 (waY (wc4 (class_get (s:={s with toks:=s.toks + 1}) (ox:=ox) (od:=o) X I d ?_)));refine wap ?_;exact handed_on rfl (wap h)
theorem zj(U:bB K C CB nm)(Y:vn K C):KitX K (.ref x) (.ref C) (ExcAt x C od) where
 ty:=λM h X I=>by
  obtain⟨r,o,I⟩:=I.inst;exact I.type
 it:=λM h X I=>by
  obtain⟨q,N,bs,c,sub,ab,a,d,f,g,i,j,l,lk⟩:=U.lk;intro s t u v k q;unfold isType loadHead;exact wa3 (wew (k _ _ (X _ _ lk)) (wap q))
 ne:=λh tp m p n sl X b=>by
  obtain⟨q,N,bs,c,sub,ab,a,d,f,g,i,j,l,lk⟩:=U.lk;refine Bool.eq_false_iff.mpr λq=>?_;have e:C=tp:=Value.ref.inj (beq_iff_eq.mp q);subst e;have z:=congrArg (λo=>o.map (·.cls)) ((X _ _ lk).symm.trans b);simp at z
 ca:=λX I k=>E8 U Y X I k
theorem Gp:kitOne K (.ref C) (.ref C)=some true:=by
 unfold kitOne;rw[if_pos (by simp)]
theorem bB.cls(V:bB K D CB yN):(clsIn K D).isSome=true/\typeIn K (.ref D)=some (.type "type"):=by
 obtain⟨h,i,d,e,b,f,c,g,j,k,l,m,n,a⟩:=V.lk;refine⟨by unfold clsIn;rw[a];rfl,?_⟩;show Option.map (λx=>x.cls) (K.lookup D)=some (.type "type");rw[a];rfl
theorem sO(U:bB K C CB nm)(V:bB K D CB yN)(T:vm K CB Jg)(g:¬yN=Jg)(e:¬nm=yN):kitOne K (.ref C) (.ref D)=some false:=by
 unfold kitOne;have ne:=U.ne V e;rw[if_neg (by grind)];obtain⟨q,N,bs,h,sub,ab,a,i,j,k,l,m,n,lk⟩:=U.lk;obtain⟨b,c⟩:=V.cls;unfold kitCls;dsimp only;rw[b,c,if_pos (by rfl)];unfold subIn mroIn clsIn;dsimp only;rw[lk];show some ((waf C :: jM CB).contains (.ref D))=some false;have d:(waf D == waf C)=false:=by grind
 have f:(waf D == waf CB)=false:=by simpa using V.neT T g
 simp only[wdD,d,f,weJ];rfl
theorem E9(U:bB K C CB nm):kitOne K (.ref C) (.type "ValueError")=some true:=by
 unfold kitOne;rw[if_neg (by simp)];obtain⟨q,N,bs,b,sub,ab,a,c,d,e,f,g,h,lk⟩:=U.lk;unfold kitCls;dsimp only;rw[if_pos (by decide+kernel)];unfold subIn mroIn clsIn;dsimp only;rw[lk];rfl
end
set_option genInjectivity true in
inductive Ea(K:wa1)(H:Hp):V->V->Bool->Prop where
 |exc {e C CB:Addr} {od:Option Addr} {nm:Str} {D:Addr} {b:Bool} (h:H e=some (XC e C od)) (hd:∀d,od=some d->∃fs,H d=some (.xd fs)) (U:bB K C CB nm) (Y:vn K C) (k:kitOne K (.ref C) (.ref D)=some b):Ea K H (.ref e) (.ref D) b
 |val {e C CB:Addr} {od:Option Addr} {nm:Str} {T:String} {b:Bool} (h:H e=some (XC e C od)) (hd:∀d,od=some d->∃fs,H d=some (.xd fs)) (U:bB K C CB nm) (Y:vn K C) (k:kitOne K (.ref C) (.type T)=some b):Ea K H (.ref e) (.ty T) b
 |oth {x:V} {t:Value} {D:Addr} {b:Bool} (h:d7 K H x t) (k:kitOne K t (.ref D)=some b):Ea K H x (.ref D) b
 |otb {x:V} {t:Value} {T:String} {b:Bool} (h:d7 K H x t) (k:kitOne K t (.type T)=some b):Ea K H x (.ty T) b
section
variable{X:Cx}
theorem bp:d5 X (.builtin "isinstance") (λxs H Q=>∃x c b,xs=[x,c]/\Ea X.K H x c b/\Q (.bl b) H):=by
 intro j s σ H xs v Q I r h;obtain⟨x,c,b,rfl,l,q⟩:=h;obtain⟨u,w,rfl,f,g⟩:=vals2 r
 have at_:∀{e C:Addr} {i:Option Addr},H e=some (XC e C i)->(∀d,i=some d->∃fs,H d=some (.xd fs))->ExcAt e C i s.heap:=λ{e C i} h hd=>by
  obtain⟨⟨m,sl,n⟩,_⟩:=I.aW e _ h;refine⟨⟨m,sl,n⟩,λd e=>?_⟩;obtain⟨fs,p⟩:=hd d e;obtain⟨y,⟨o,_,_,t,_⟩,_⟩:=I.aW d _ p;exact⟨o,t⟩
 cases l with
 |exc h hd U Y k=>
  cases f;cases g;exact kia_one (zj U Y) I.fv (at_ h hd) k (λz=>nomatch z) λa=>⟨.bl b,H,I.tok a,rfl,q⟩
 |val h hd U Y k=>
  cases f;cases g;exact kia_one (zj U Y) I.fv (at_ h hd) k (λz=>nomatch z) λa=>⟨.bl b,H,I.tok a,rfl,q⟩
 |oth h k=>
  cases g;exact pe I f h k λa=>⟨.bl b,H,I.tok a,rfl,q⟩
 |otb h k=>
  cases g;exact pe I f h k λa=>⟨.bl b,H,I.tok a,rfl,q⟩
def Oq(K:wa1)(ta:TE)(f:Str):TE:=λσ H Q=>ta σ H λy H1=>∃e C CB d nm fs v,y=.ref e/\H1 e=some (XC e C (some d))/\H1 d=some (.xd fs)/\bB K C CB nm/\findIn K (.ref C) f=some none/\fs.lookup f=some v/\Q v H1
theorem Ji(j:PE X e l)(p:wci e f X.env (eval e X.env)=eval e X.env):PE X (.Attribute e f pos) (Oq X.K l f):=by
 intro a s σ H Q I h;refine CH p (bP (j a s σ H _ I h) λu F ⟨y,i,b,k,e,C,CB,d,m,fs,v,n,t,w,U,ha,hl,q⟩=>?_);subst n;obtain rfl:u=waf e:=k;obtain⟨⟨x,sl,z⟩,_⟩:=b.aW e _ t;obtain⟨A,ns,r⟩:=b.aW d _ w;obtain⟨o,hd,look⟩:=vV ns;obtain⟨B,N,bs,D,sub,ab,c,G,J,L,M,O,P,lk⟩:=U.lk;obtain⟨R,E,g⟩:=iu.rF (v:=v) (o:=A f) (by rw[<-hl];exact r f);refine Gf (CB:=CB) (ox:=⟨.ref C,some d,.fields x,sl⟩) (od:=o) b.fv ⟨z,rfl,rfl,hd⟩ (cd:={name:=m,bases:=bs,mro:=.ref C :: jM CB,ns:=N,qualname:=B,hasDict:=true,slotNames:=D,subclasses:=sub,abstract:=ab,collection:=c,hasDel:=false}) (by unfold clsIn;rw[lk]) rfl rfl U.ga U.gh ha (by rw[look,E]) (vW g) ?_;exact⟨v,i,b.tok _,g,q⟩
end
end L2
namespace L2
open PySem
theorem Gq{X:Cx}:Passes (vk P w) X E0:=λ_ _ _ _ _ _ _ h=>by
 obtain⟨_,_,_,_,_,_,_,_,_,_,a⟩:=h;exact a.elim
end L2
namespace Sx
open PySem L2 Bs
theorem Xv:waR "ValueError"=some (.type "ValueError"):=by decide+kernel
theorem Sb:waR "int"=some (.type "int"):=by decide+kernel
theorem LY:waR "tuple"=some (.type "tuple"):=by decide+kernel
theorem Ot:waR "dict"=some (.type "dict"):=by decide+kernel
theorem Kv:waR "bool"=some (.type "bool"):=by decide+kernel
theorem Eb:waR "sum"=some (.builtin "sum"):=by decide+kernel
theorem LZ:waR "min"=some (.builtin "min"):=by decide+kernel
structure hO(K:wa1)(C CB:Addr)(nm:Str):Prop where
 lk:∃(q:Str) (N:Addr) (bs:List Value) (sn:List Str) (sub:List Value) (ab:Bool) (col:Option Bool) (dd:Option Addr) (k0 k1 k2 k3 k5:Option Value),
  K.lookup C=some (wbf nm q C N bs (jM CB) true sn sub ab col dd k0 k1 k2 k3 k5 "ValueError.__new__")
theorem D7
 (l:K.lookup C=some (wbf nm q C N bs (jM CB) true sn sub ab col dd k0 k1 k2 k3 k5 "ValueError.__new__")):hO K C CB nm:=⟨q,N,bs,sn,sub,ab,col,dd,k0,k1,k2,k3,k5,l⟩
theorem Jj
 (l:K.lookup CB=some (wbf nm q CB N bs N1 hd sn sub ab col dd k0 k1 k2 k3 k5 "ValueError.__new__")):vm K CB nm:=⟨q,N,bs,hd,sn,sub,ab,col,dd,k0,k1,k2,k3,k5,l⟩
inductive Sd(C:Addr)(name:Str)(ok:V->Prop)(vs:List V)(H:Hp)(Q:VK)(eL:XK):Prop
 |mk (x v) (_:vs=[.ref x,v]) (_:ok v) (_:H x=some (XN x C)) (_:∀d,H d=none->Q .non (upd (upd H d (.xd [(name,v)])) x (XD x C d)))
end Sx
namespace Sx
open PySem PySem.Spec PyProof.Rows L2
open PySem.W (clsIn mroIn typeIn subIn kitOne kitCls)
section
variable{K:wa1}{C CB D:Addr}{nm yN Jg:Str}
theorem hO.ne(U:bB K C CB nm)(V:hO K D CB yN)(h:¬nm=yN):C≠D:=λe=>by
 subst e;obtain⟨q,N,bs,n,sub,ab,d,p,r,s,t,u,v,f⟩:=U.lk;obtain⟨w,x,g,i,b,j,c,k,y,l,z,A,B,a⟩:=V.lk;rw[f]at a;have:=congrArg (λo=>match o with |some (⟨_,_,.cls m,_⟩:Obj)=>m.name |_=>nm) a;exact h this
theorem hO.neT(V:hO K D CB yN)(T:vm K CB Jg)(h:¬yN=Jg):D≠CB:=λe=>by
 subst e;obtain⟨q,N,bs,p,sub,ab,d,r,s,t,u,v,w,f⟩:=V.lk;obtain⟨x,y,g,i,j,b,k,c,l,z,m,A,B,C,a⟩:=T.lk;rw[f]at a;have:=congrArg (λo=>match o with |some (⟨_,_,.cls n,_⟩:Obj)=>n.name |_=>yN) a;exact h this
theorem hO.cls(V:hO K D CB yN):(clsIn K D).isSome=true/\typeIn K (.ref D)=some (.type "type"):=by grind [cases hO,K,typeIn,clsIn,Option.map]
theorem cw(U:bB K C CB nm)(V:hO K D CB yN)(T:vm K CB Jg)(g:¬yN=Jg)(e:¬nm=yN):kitOne K (.ref C) (.ref D)=some false:=by
 unfold kitOne;have ne:=hO.ne U V e;rw[if_neg (by grind)];obtain⟨q,N,bs,h,sub,ab,a,i,j,k,l,m,n,lk⟩:=U.lk;obtain⟨b,c⟩:=V.cls;unfold kitCls;dsimp only;rw[b,c,if_pos (by rfl)];unfold subIn mroIn clsIn;dsimp only;rw[lk];show some ((waf C :: jM CB).contains (.ref D))=some false;have d:(waf D == waf C)=false:=by grind
 have f:(waf D == waf CB)=false:=by simpa using V.neT T g
 simp only[wdD,d,f,weJ];rfl
end
end Sx
namespace AC
section
variable{W:List (List Nat)}{P:List Nat->Bool}{l m p q u:List Nat}{c:Nat}
def Good(W:List (List Nat))(l:List Nat):Prop:=∀w∈W,¬w <:+: l
def Pl(W:List (List Nat))(p:List Nat):Prop:=p=[]\/((∃w∈W,p <+: w/\p.length < w.length)/\Good W p)
theorem Good.sub(h:Good W l)(hs:m <:+: l):Good W m:=λw hw hi=>h w hw (hi.trans hs)
theorem Pl.init(h:Pl W (u++[c])):Pl W u:=by
 rcases h with h |⟨⟨w,hw,a,hl⟩,b⟩
 ·simp at h
 ·by_cases e:u=[]
  ·exact .inl e
  ·refine .inr ⟨⟨w,hw,(weC u [c]).trans a,?_⟩,b.sub (weC u [c]).isInfix⟩;rw[wa7]at hl;simp at hl;omega
noncomputable def js(P:List Nat->Bool):List Nat->List Nat
 |[]=>[]
 |a :: l=>if P (a :: l)=true then a :: l else js P l
theorem iT:∀l,js P l <:+ l
 |[]=>wfd _
 |a :: l=>by
  unfold js;split
  ·exact wfd _
  ·exact(iT l).trans (List.suffix_cons a l)
theorem sP(g:P []=true):∀l,P (js P l)=true
 |[]=>g
 |a :: l=>by
  unfold js;split
  ·assumption
  ·exact sP g l
theorem iU(g:P q=true):∀{l},q <:+ l->q <:+ js P l
 |[],h=>h
 |a :: l,h=>by
  unfold js;split
  ·exact h
  ·rename_i hn;rcases List.suffix_cons_iff.mp h with e |h
   ·grind
   ·exact iU g h
theorem Gr(g:p <:+ q)(j:q <:+ p):p=q:=g.eq_of_length (wfC g.length_le j.length_le)
theorem zk:∀{q l:List Nat},q <:+ l++[c]->q=[]\/∃u,q=u++[c]/\u <:+ l:=λ{q l} h=>by
 rcases wg2 q with e |⟨u,d,e⟩
 ·exact .inl e
 ·right
  rw[List.concat_eq_append]at e;obtain⟨t,a⟩:=h;subst e;rw[<-wb9]at a;have b:=whd a rfl;have hd:d=c:=by grind
  exact⟨u,by rw[hd],t,b.1⟩
theorem Bo(h:w <:+: l++[c]):w <:+: l\/w <:+ l++[c]:=by
 obtain⟨a,b,e⟩:=h;rcases wg2 b with f |⟨g,d,f⟩
 ·grind
 ·grind [whd]
theorem Ec(o:∀x,P x=true↔Pl W x)(j:Good W l)(g:∀w∈W,w≠[]):Good W (js P l++[c])↔Good W (l++[c]):=by
 have f:=iT (P:=P) l;constructor
 ·intro h w hw hi;rcases Bo hi with z |z
  ·exact j w hw z
  ·rcases zk z with e |⟨u,rfl,d⟩
   ·exact g w hw e
   ·have a:Pl W u:=by
     by_cases e:u=[]
     ·exact .inl e
     ·exact .inr ⟨⟨_,hw,weC u [c],by simp⟩,j.sub d.isInfix⟩
    have:=iU ((o u).mpr a) d;obtain⟨t,b⟩:=this;exact h _ hw (show u++[c] <:+ js P l++[c] from ⟨t,by rw[<-wb9,b]⟩).isInfix
 ·intro h;obtain⟨t,b⟩:=f;exact h.sub (show js P l++[c] <:+ l++[c] from ⟨t,by rw[<-wb9,b]⟩).isInfix
theorem Bp(g:∀x,P x=true↔Pl W x)(j:Good W l):js P (js P l++[c])=js P (l++[c]):=by
 have f:=iT (P:=P) l;have b:P []=true:=(g []).mpr (.inl rfl)
 have d:js P l++[c] <:+ l++[c]:=by
  obtain⟨t,h⟩:=f;exact⟨t,by grind⟩
 refine Gr (iU (sP b _) ((iT _).trans d)) (iU (sP b _) ?_);rcases zk (iT (P:=P) (l++[c])) with e |⟨u,e,i⟩
 ·rw[e];exact List.nil_suffix
 ·have a:=(g _).mp (sP b (l++[c]));rw[e]at a ⊢;obtain⟨t,h⟩:=iU ((g u).mpr a.init) i;exact⟨t,by grind⟩
end
end AC
namespace Bs
open PySem AC
theorem wD(x y:Str)(i:Nat):wgQ x y i=true↔((ch x).drop i).take y.length=ch y:=by
 unfold wgQ;rw[beq_iff_eq];constructor
 ·intro h;have:=congrArg Array.toList h;rw[wgg,wf1,wcj]at this;exact this
 ·intro h;refine wfb.mp ?_;rw[wgg,wf1,wcj];exact h
theorem Jk(y x:Str):Lx y x=true↔ch y <:+: ch x:=by
 unfold Lx;rw[StrLaws.found_iff];constructor
 ·grind [wD,whe,whf]
 ·rintro⟨a,b,e⟩;refine⟨a.length,?_,(wD x y _).mpr ?_⟩
  ·rw[<-aX x,<-e,wa7,wa7,aX];omega
  ·rw[<-e,wb9,List.drop_left,<-aX y,List.take_left]
noncomputable def wl(ws:List Str):List (List Nat):=ws.map ch
theorem d9(ws:List Str)(r:Str):bears ws r=false↔Good (wl ws) (ch r):=by simp_all [bears,Good,wl,wgM,Jk,ch]
theorem jt(w:Str)(n:Nat):ch (eB w n)=(ch w).take n:=FX w n
theorem rL(w:Str)(n:Nat):ch (gg w n)=(ch w).drop n:=sC w n
theorem y2:k∈pq ws g b↔k∈g\/(k=b/\bears ws b=false):=by
 unfold pq xY
 by_cases a:bears ws b=true
 ·grind
 ·grind
theorem nN:∀n,k∈upTo ws w g n↔k∈g\/∃i,i < n/\k=eB w (1 + i)/\bears ws k=false
 |0=>by
  show k∈g↔_;simp
 |n + 1=>by
  rw[fD,y2,nN n];constructor
  ·grind
  ·grind
theorem mh(us:List Str):k∈cJ ws e us↔k=e\/∃w∈us,∃i,i < w.length - 1/\k=eB w (1 + i)/\bears ws k=false:=by
 have key:∀(us b:List Str),k∈us.foldl (addW ws) b↔k∈b\/∃w∈us,∃i,i < w.length - 1/\k=eB w (1 + i)/\bears ws k=false:=by
  intro us
  induction us with
  |nil=>intro b;simp
  |cons w us d=>
   intro b;rw[wfx,d];unfold addW;rw[nN];constructor
   ·rintro((h |⟨i,h⟩) |⟨c,a,h⟩)
    ·exact .inl h
    ·exact .inr ⟨w,wag ..,i,h⟩
    ·exact .inr ⟨c,wac _ a,h⟩
   ·rintro(h |⟨c,a,h⟩)
    ·exact .inl (.inl h)
    ·rcases waH.mp a with rfl |a
     ·exact .inl (.inr h)
     ·exact .inr ⟨c,a,h⟩
 unfold cJ;rw[key];simp
theorem mem_keys:k∈cJ ws "" ws↔Pl (wl ws) (ch k):=by
 rw[mh];constructor
 ·rintro(rfl |⟨w,hw,i,hi,e,b⟩)
  ·exact .inl rfl
  ·right
   refine⟨⟨ch w,waa.mpr ⟨w,hw,rfl⟩,?_,?_⟩,(d9 ws k).mp b⟩
   ·rw[e,jt];exact whe _ _
   ·rw[e,jt,wau,aX];omega
 ·rintro(h |⟨⟨v,c,d,hl⟩,f⟩)
  ·exact .inl (ez h)
  ·by_cases a:ch k=[]
   ·exact .inl (ez a)
   obtain⟨w,hw,rfl⟩:=waa.mp c
   right
   rw[aX,aX]at hl;have g:k.length≠0:=λz=>a (jq z);refine⟨w,hw,k.length - 1,by omega,ez ?_,(d9 ws k).mpr f⟩;rw[jt,show 1 + (k.length - 1)=k.length by omega,<-aX k];exact(List.prefix_iff_eq_take.mp d)
noncomputable def Ou(ss:List Str)(l:List Nat):Bool:=decide (l∈ss.map ch)
theorem ju:Ou ss (ch k)=true↔k∈ss:=by
 unfold Ou;rw[decide_eq_true_iff];constructor
 ·grind [ez]
 ·grind
theorem Gs(g:ss.Perm (cJ ws "" ws))(l:List Nat):Ou ss l=true↔Pl (wl ws) l:=by
 have e:ch ⟨l.toArray⟩=l:=rfl;rw[<-e,ju,g.mem_iff,mem_keys]
theorem wF{P:List Nat->Bool}(g:P []=true):∀{l:List Nat} {n:Nat},P (l.drop n)=true->(∀m,m < n->P (l.drop m)=false)->js P l=l.drop n
 |[],n,_,_=>by simp[js]
 |a :: l,0,b,_=>by
  unfold js;rw[wfY]at b;rw[if_pos b];rfl
 |a :: l,n + 1,b,c=>by
  have:=c 0 (by omega);rw[wfY]at this;unfold js;rw[this,if_neg (by simp),List.drop_succ_cons];exact wF g (by grind) λm d=>by grind
theorem lP(g:("":Str)∈ss)(r:Str):ch (lend ss r)=js (Ou ss) (ch r):=by
 have d:∃n,n<=r.length/\gg r n∈ss/\∀m,m < n->gg r m∉ss:=by
  have i:∃n,gg r n∈ss:=⟨r.length,by rw[pw];exact g⟩
  have key:∀k,(∃n,n < k/\gg r n∈ss/\∀m,m < n->gg r m∉ss)\/∀m,m < k->gg r m∉ss:=by
   intro k
   induction k with
   |zero=>right;intro m a;omega
   |succ k f=>
    rcases f with⟨n,hn,h⟩ |h
    ·exact .inl ⟨n,by omega,h⟩
    ·by_cases c:gg r k∈ss
     ·exact .inl ⟨k,by omega,c,h⟩
     ·right
      intro m a
      by_cases e:m=k
      ·rw[e];exact c
      ·exact h m (by omega)
  rcases key (r.length + 1) with⟨n,hn,h⟩ |h
  ·exact⟨n,by omega,h⟩
  ·exact absurd (by rw[pw];exact g) (h r.length (by omega))
 obtain⟨n,hn,a,hl⟩:=d;unfold lend;rw[zf a hl hn,rL];refine(wF (ju (k:="").mpr g) ?_ λm b=>?_).symm
 ·rw[<-rL];exact ju.mpr a
 ·rw[<-rL];have:=hl m b;rw[<-ju]at this;simpa using this
section
variable{ws ss:List Str}{r:Str}{c:Nat}
theorem Ed(g:ss.Perm (cJ ws "" ws))(j:bears ws r=false):lend ss (lend ss r++⟨#[c]⟩)=lend ss (r++⟨#[c]⟩):=by
 have a:("":Str)∈ss:=g.mem_iff.mpr (cP ws);refine ez ?_;rw[lP a,aQ,lP a,lP a,aQ];exact Bp (Gs g) ((d9 ws r).mp j)
theorem Bq(g:ss.Perm (cJ ws "" ws))(j:bears ws r=false)(hw:∀w∈ws,1<=w.length):bears ws (lend ss r++⟨#[c]⟩)=bears ws (r++⟨#[c]⟩):=by
 have b:("":Str)∈ss:=g.mem_iff.mpr (cP ws)
 have a:∀w∈wl ws,w≠[]:=by
  intro w d z;obtain⟨v,e,rfl⟩:=waa.mp d;have:=hw v e;rw[<-aX,z]at this;simp at this
 have:=Ec (c:=c) (Gs g) ((d9 ws r).mp j) a;rw[show [c]=ch (⟨#[c]⟩:Str) from rfl,<-lP b,<-aQ,<-aQ,<-d9,<-d9]at this;cases f:bears ws (lend ss r++⟨#[c]⟩) <;> cases h:bears ws (r++⟨#[c]⟩) <;> simp[f,h]at this ⊢
theorem wG(h:ch a <:+: ch b)(g:bears ws b=false):bears ws a=false:=(d9 ws a).mpr (((d9 ws b).mp g).sub h)
end
end Bs
namespace L2
open PySem PySem.Spec PyProof.Rows
section
variable{X:Cx}
theorem zm:d5 X (.type "range") (λxs H Q=>∃j:Int,xs=[.int j]/\∀p,H p=none->Q (.ref p) (upd H p (.rng 0 j))):=by
 intro a s σ H xs c Q I r h;obtain⟨j,rfl,q⟩:=h;obtain⟨u,rfl,t,rfl⟩:=vals1 r;refine call_range_1 ⟨.ref s.heap.objs.size,_,I.laid (λb ob q=>wa8 _ q) (wab _) (show bG X.prog X.w _ _ _ (.rng 0 j) from ⟨_,_,_,wax _ rfl⟩),rfl,q _ (I.aW.fresh (wab _))⟩
theorem Br(hc:X.calm=true):d5 X (.type "list") (λxs H Q=>∃(p:Addr) (n:Nat),xs=[.ref p]/\H p=some (.rng 0 (n:Int))/\n<=sizeLine/\∀l,H l=none->Q (.ref l) (upd H l (.lst ((waJ n).map λi=>V.int (i:Nat))))):=by
 intro m s σ H xs b Q I r h;obtain⟨p,n,rfl,x,hn,q⟩:=h;obtain⟨u,rfl,y⟩:=vals1 r;cases y;obtain⟨t,u,v,e⟩:=I.aW p _ x;have f:n<=2 ^ 24:=by rw[wc2]at hn;omega
 refine call_list_range (I.ok.hd hc) (n:=n) (show IsRange s.heap p 0 (n:Int) 1 t u v from e) (small_one (by omega) (by omega) (by omega) (by omega)) (by rw[rangeSize_one];split <;> omega) f λg z d c kp A a=>?_
 have B:∀(b:List Value) (k:Nat),(∀(j:Nat) (u:Value),b[j]?=some u->∃t,u=.int ((k + j:Nat):Int) t)->Vals ((wfN k b.length).map λi=>V.int (i:Nat)) b:=by
  intro b
  induction b with
  |nil=>intro k _;exact .nil
  |cons u b C=>
   intro k h;obtain⟨t,e⟩:=h 0 u rfl;rw[waK,whg,waw];refine .cons ⟨t,e⟩ (C (k + 1) λj u g=>?_);obtain⟨t,e⟩:=h (j + 1) u (by simpa using g);exact⟨t,by rw[e];congr 1;omega⟩
 have hl:d.toList.length=n:=by rw[wck];exact a.1
 have o:=B d.toList 0 λj u e=>by
  obtain⟨t,D⟩:=a.2 j u (by rw[<-wcw];exact e);exact⟨t,by rw[D];congr 1;omega⟩
 rw[hl,<-List.range_eq_range']at o;refine⟨.ref s.heap.objs.size,_,I.laid (t':=z) kp (wab _) (show bG X.prog X.w _ g _ (.lst ((waJ n).map λi=>V.int (i:Nat))) from ⟨?_,d.toList,c,o,?_⟩),rfl,q _ (I.aW.fresh (wab _))⟩
 ·rw[wa0,wb2];exact hn
 ·rw[wdc];exact A
end
section
variable{X:Cx}
end
end L2
namespace Sx
open PySem L2
theorem Gu:waR "max"=some (.builtin "max"):=by decide+kernel
theorem Jl:waR "range"=some (.type "range"):=by decide+kernel
end Sx
namespace Sx
open PySem L2 Bs
set_option genInjectivity true in
inductive Thing(H:Hp):V->Prop where
 |flat {v:V} (h:cN v=true):Thing H v
 |lst {a:Addr} {xs:List V} (h:H a=some (.lst xs)) (f:xs.all cN=true):Thing H (.ref a)
 |tup {a:Addr} {xs:List V} (h:H a=some (.tup xs)) (f:xs.all cN=true):Thing H (.ref a)
 |dic {a:Addr} (h:H a=some (.dK [])):Thing H (.ref a)
theorem Thing.same(t:Thing H v)(s:a9 H g):Thing g v:=by
 cases t with
 |flat h=>exact .flat h
 |lst h f=>exact .lst (s _ _ h) f
 |tup h f=>exact .tup (s _ _ h) f
 |dic h=>exact .dic (s _ _ h)
theorem hU(j:H e=none)(hd:(upd H e g) d=none):d≠e/\H d=none/\del (upd (upd (upd H e g) d o2) e o3) e=upd H d o2:=by grind [a6,aa,xZ,Bn,D4]
section
variable{P:wat}{w:World}{K:wa1}{mg:Str->Option Value}{base:Heap}{f:Addr}{fd:wae}
end
end Sx
namespace PySem.SeqAt
open AutoSeq1 (wpAny_loadPart')
open MeetsSeq
section
variable{A:Around}{s:Shared}
end
end PySem.SeqAt
namespace L2
open PySem PySem.Spec PyProof.Rows Sx
section
variable{X:Cx}
end
end L2
namespace L2
open PySem PySem.Spec PyProof.Rows
section
variable{X:Cx}
end
theorem Bt(v:V):V.bl (decide (v=v))=V.bl true:=by simp
end L2
namespace Bs
open PySem AC
theorem sQ(g:("":Str)∈ss)(r:Str):lend ss r∈ss:=by
 rw[<-ju,lP g];exact sP (ju (k:="").mpr g) _
theorem take_zero(r:Str):eB r 0="":=ez (by rw[jt];rfl)
theorem take_all(r:Str):eB r r.length=r:=ez (by rw[jt,<-aX,waI])
theorem wH(hw:∀w∈ws,1<=w.length):bears ws ""=false:=by
 refine(d9 ws "").mpr λw a hi=>?_;obtain⟨v,b,rfl⟩:=waa.mp a;have d:=hw v b;have c:=hi.length_le;rw[aX]at c;have:(ch ("":Str)).length=0:=rfl;omega
end Bs
namespace L2
open PySem Bs
end L2
namespace Sx
open PySem L2 Bs
theorem mX(g:Str)(b d q:Addr):(Bh g b d q).lookup ("signs":Str)=some (.str g):=by
 rw[<-E3,aB,if_neg (by decide+kernel),<-put3,aB,if_neg (by decide+kernel),<-put2,aB,if_neg (by decide+kernel),<-LI,aB,if_pos rfl]
section
variable{P:wat}{w:World}{K:wa1}{mg:Str->Option Value}{base:Heap}{f:Addr}{fd:wae}
end
end Sx
namespace L2
open PySem PySem.Spec PyProof.Rows
section
variable{X:Cx}
end
end L2
namespace Bs
open PySem
theorem len_app(a b:Str):(a++b).length=a.length + b.length:=by grind [aX,aQ]
structure Out(g r:Str)(i:Nat):Prop where
 at_:∃c,(ch r)[i]?=some c/\c∉ch g
 lo:∀j c,j < i->(ch r)[j]?=some c->c∈ch g
structure Bad(ws:List Str)(r:Str)(n:Nat):Prop where
 lt:n < r.length
 good:bears ws (eB r n)=false
 bad:bears ws (eB r (n + 1))=true
theorem Out.lt(o:Out g r i):i < r.length:=by grind [cases Out,aX]
theorem Out.one(o:Out g r i)(p:Out g r j):i=j:=by grind [cases Out,weU]
theorem wI(h:i<=j)(g:bears ws (eB r j)=false):bears ws (eB r i)=false:=by
 refine wG ?_ g;rw[jt,jt];exact(List.take_prefix_take_left h).isInfix
theorem Bad.one(a:Bad ws r n)(b:Bad ws r m):n=m:=by
 rcases weU n m with h |h |h
 ·have:=wI (j:=m) (i:=n + 1) h b.good;rw[a.bad]at this;cases this
 ·exact h
 ·have:=wI (j:=n) (i:=m + 1) h a.good;rw[b.bad]at this;cases this
theorem Bad.ex(hw:∀w∈ws,1<=w.length)(h:bears ws r=true):∃n,Bad ws r n:=by
 have key:∀m,m<=r.length->bears ws (eB r m)=true->∃n,Bad ws r n:=by
  intro m
  induction m with
  |zero=>grind [take_zero,wH]
  |succ m a=>
   intro b q
   cases e:bears ws (eB r m) with
   |true=>exact a (by omega) e
   |false=>exact⟨m,by omega,e,q⟩
 exact key r.length (wab _) (by rw[take_all];exact h)
end Bs
namespace Sx
open PySem L2 Bs
def Se(CN:Addr)(nm:Str)(v:V)(H:Hp)(E:XK):Prop:=∀(d:Addr) (H':Hp),a9 H H'->H d=none->H' d=some (.xd [(nm,v)])->E (.ref CN) (some d) H'
theorem none_of(s:a9 H g)(h:g d=none):H d=none:=by
 cases q:H d with
 |none=>rfl
 |some o=>rw[s _ _ q]at h;cases h
theorem Se.same(n:Se g nm v H E)(s:a9 H j):Se g nm v j E:=λd a b c e=>n d a (s.trans b) (none_of s c) e
end Sx
namespace Bs
open PySem
end Bs
namespace Sx
open PySem L2 Bs
theorem zo(g:Str)(b d q:Addr):(Bh g b d q).lookup ("barred":Str)=some (.ref b):=by
 rw[<-E3,aB,if_neg (by decide+kernel),<-put3,aB,if_neg (by decide+kernel),<-put2,aB,if_pos rfl]
end Sx
namespace L2
open PySem
end L2
namespace L2
open PySem PySem.Spec PyProof.Rows
section
variable{P:wat}{w:World}{K:wa1}{mg:Str->Option Value}{base:Heap}{x qual:Str}{st:Stmt}{f:Addr}{fd:wae}{N ps:List Str}{k:Nat}{sp:Sp}
theorem yM.ee(F:yM K x qual st f fd)
 (l:∀(j:Value) (A:Around) (outer:List Env) (s:Shared) (H:Hp) (vs:List V) (Q:VK) (E:XK),N.Nodup->cT k (A.deeper (envOfC qual (aD st) s.heap.objs.size f j))->sp vs H Q E ->
   ∃t,uY (vd dm P w K mg base N qual (aD st) f j A outer s H E).AJ (bR st) t/\t {nx:=λ_ o=>Q .non o,rt:=Q} (start N vs) H)
 (a:(aD st).kind=.function:=by rfl) (b:(aD st).isCoroutine=false:=by rfl) (c:(aD st).isGenerator=false:=by rfl) (nd:N.Nodup:=by decide+kernel) (e:N.take ps.length=ps:=by rfl)
 (g:∀x∈ps,(aD st).names.lookup x=some .local\/(aD st).names.lookup x=some .cell:=by decide+kernel) (h:∀y∈(aD st).names,y.2≠.free:=by decide+kernel)
 (len:∀vs H Q E,sp vs H Q E->vs.length=ps.length:=by intro _ _ _ _ h;cases h;subst_vars;rfl):aN P w K mg base dm (k + 1) f fd ps sp:=
 F.ok ⟨a,b,c,nd,e,g,h⟩ len λj A outer s H vs Q E=>l j A outer s H vs Q E nd
theorem yM.zp(F:yM K x qual st f fd)
 (l:∀(j:Value) (A:Around) (outer:List Env) (s:Shared) (H:Hp) (vs:List V) (Q:VK) (E:XK),N.Nodup->cT k (A.deeper (envOfC qual (aD st) s.heap.objs.size f j))->sp vs H Q E ->
   ∃t,uY (vd (vk P w) P w K mg base N qual (aD st) f j A outer s H E) (bR st) t/\t {nx:=λ_ o=>Q .non o,rt:=Q} (start N vs) H)
 (a:(aD st).kind=.function:=by rfl) (b:(aD st).isCoroutine=false:=by rfl) (c:(aD st).isGenerator=false:=by rfl) (nd:N.Nodup:=by decide+kernel) (e:N.take ps.length=ps:=by rfl)
 (g:∀x∈ps,(aD st).names.lookup x=some .local\/(aD st).names.lookup x=some .cell:=by decide+kernel) (h:∀y∈(aD st).names,y.2≠.free:=by decide+kernel)
 (len:∀vs H Q E,sp vs H Q E->vs.length=ps.length:=by intro _ _ _ _ h;cases h;subst_vars;rfl):aN P w K mg base (vk P w) (k + 1) f fd ps sp:=
 F.X8 ⟨a,b,c,nd,e,g,h⟩ len λj A outer s H vs Q E=>l j A outer s H vs Q E nd
end
section
variable{X:Cx}
theorem aj(F:aN X.prog X.w X.K X.mg X.base dm k f fd ps sp)(a:FnAt X.K X.mg x sm ps f fd)(ha:PA X (e :: j) t)(r:cT k X.A:=by exact cT.mono (by assumption) (by decide))(C:Gl X x:=by rfl)(l:(x == ("__debug__":Str))=false:=by decide)
 (I:starEach (e :: j) X.env=(false,eval e X.env) :: starEach j X.env:=by rfl) (o:(backTo pos (starEach j X.env)).any (·.1)=false:=by rfl):PE X (.Call (.Name x p) (e :: j) [] pos) (Km sp [] E0 t):=
 iA F r C a.g a.F.kp a.b .nil eO ha l I o
theorem ag{i:Nat}{x:Str}{e:Expr}{j:TE}{g:Pos}(l:PE X e j)(o:X.N.Nodup:=by assumption)(hi:X.N[i]?=some x:=by rfl)(p:Loc X.env.scope x:=by first |exact wdi rfl |exact Or.inr rfl)(hs:wbO e (some (.Name x g)) pos.line X.env=pure false:=by rfl)
 (r:X.fn x=true\/X.env.scope.names.lookup x=some .local:=by first |exact .inl rfl |exact .inr rfl |assumption):PS X (.Assign [.Name x g] e pos) (IA j (d4 i)):=
 Fq o hi p l hs r
theorem aA{i:Nat}{x:Str}(g:X.N.Nodup:=by assumption)(hi:X.N[i]?=some x:=by rfl)(j:Loc X.env.scope x:=by first |exact wdi rfl |exact Or.inr rfl)(l:X.fn x=true\/X.env.scope.names.lookup x=some .local:=by first |exact .inl rfl |exact .inr rfl |assumption):PG X (.Name x pos) (d4 i):=
 jd g hi j l
end
section
variable{X:Cx}
theorem jv:∀{ns:List Int} {g:List Value},Vals (ns.map V.int) g->∃xs:List (Int×Tok),g=xs.map (λp=>wfr p.1 p.2)/\xs.map (·.1)=ns
 |[],g,r=>by cases r;exact⟨[],rfl,rfl⟩
 |n :: ns,g,r=>by
  cases r with
  |cons h t=>
   obtain⟨a,rfl⟩:=h;obtain⟨xs,rfl,e⟩:=jv t;exact⟨(n,a) :: xs,rfl,by grind⟩
theorem kn(hc:X.calm=true):d5 X (.builtin "sum") (λxs H Q=>∃p ns,xs=[.ref p]/\aH X.K H p (wcZ V.int ns)/\Q (.int ns.sum) H):=by
 intro b s σ H xs k Q I r h;obtain⟨p,ns,rfl,d,q⟩:=h;obtain⟨u,rfl,f⟩:=vals1 r;cases f;obtain⟨a,g,pl,l⟩:=I.list d;obtain⟨c,e,rfl⟩:=jv g
 have hl:s.heap.IsList p (intItems c.toArray):=by
  have:intItems c.toArray=a.toArray:=by rw[e];unfold intItems;simp
  rw[this];exact pl.isList
 refine sum_intListG (I.ok.hd hc) hl λm n i j=>?_;refine⟨.int _,H,I.kept j,⟨i,?_⟩,q⟩;rw[preSum_eq,wbx (by simp)]
end
theorem Inv.freeze{X:Cx}(I:Inv X g σ H s)(e:H d=some (.dK kvs)):∃o,s.heap.get? d=some o/\Inv X g σ (upd H d (.frz o (.dK kvs))) s:=by
 have ok:=I.aW d _ e;obtain⟨z,y,f,rel,o,h,i,a,j⟩:=id ok;refine⟨o,a,?_⟩;exact I.write (x:=d) (e:=d) (h':=s.heap) (t':=s.toks) (by rw[e];exact trivial) (.inl rfl) (λb u _ c=>c) ⟨_,a⟩ ⟨a,ok⟩
noncomputable def Jm(d:Addr)(o:Obj)(kvs:List (Key×V)):It:=⟨λi H=>H d=some (.frz o (.dK kvs))/\i < kvs.length,λi H x H'=>H'=H/\∃kv,kvs[i]?=some kv/\x=kV kv.1,λi H=>H d=some (.frz o (.dK kvs))/\kvs.length<=i⟩
theorem iV(d:Addr)(o:Obj)(kvs:List (Key×V)):lY (Jm d o kvs) (λH=>H d=some (.frz o (.dK kvs))) (kvs.map λg=>kV g.1) where
 go:=λi H ok h=>⟨ok,by rwa[wa0]at h⟩
 uW:=λi H x a ok h q=>by
  obtain⟨rfl,g,e,rfl⟩:=q;refine⟨rfl,?_⟩;rw[wa4,e];rfl
 stop:=λH ok=>⟨ok,by rw[wa0];exact wab _⟩
theorem Gv{κ:Type}:∀{kvs:List (κ×V)} {vs:List (κ×Value)},KV kvs vs->∀{i:Nat} {p:κ×V},kvs[i]?=some p->∃q,vs[i]?=some q/\p.1=q.1/\RelV p.2 q.2
 |_,_,.nil,i,p,h=>by simp at h
 |_,_,.cons r t,i,p,h=>by
  cases i with
  |zero=>exact⟨_,rfl,by have:=wah h;subst this;exact r⟩
  |succ i=>exact Gv t h
theorem Bu{X:Cx}(I:Inv X g σ H s)(e:H d=some (.frz o (.dK kvs)))(j:o.data=.dict p ep) :
 ∃vs,KV kvs vs/\s.heap.DictAt (bf X.prog X.w) d vs ep:=by
 obtain⟨f,_⟩:=I.aW d _ e;obtain⟨_,_,vs,rel,h,a,i,b,k,c,l⟩:=m9 I.aW (.inr ⟨o,e⟩);refine⟨vs,rel,h,a,b,k,?_,l⟩;rw[f]at b;cases b;rw[c]at j;cases j;exact c
theorem Ee{P:wat}{w:World}{K:wa1}{T:Expr}(d it:Addr)(o:Obj)(kvs:List (Key×V))(U:Array DictEntry)(ep:Nat)(J:o.data=.dict U ep):Turn P w K T (Jm d o kvs) [it] it (λi h=>h.IsKeyIter it d i kvs.length ep) where
 mem:=by simp
 obj:=λi h st b j=>by
  have e:b=it:=by grind
  subst e;obtain⟨o,e,c,D⟩:=st;exact⟨o,e,λv z=>by grind⟩
 keep:=λi h m st k=>st.at λo e=>k it (by simp) o e
 item:=by
  intro X p hw q hc i a s σ H E I n st r;subst p hw q;obtain⟨u,hi⟩:=r;obtain⟨G,rel,f⟩:=Bu I u J;have F:kvs[i]?=some kvs[i]:=by simp[hi]
  obtain⟨⟨k,v⟩,L,M,_⟩:=Gv rel F;obtain⟨x,f1,f2,A,B,C⟩:=n it (by simp);rw[rel.length]at st;refine wpAny_pyNext_dict_item st f L λkey m l g sb=>?_;have N:Inv X a σ H {s with heap:=m}:=I.turned (t':=s.toks) (λb o j e=>(sb.2 b j).trans e) x f1 A B C;obtain⟨R,e,c,D⟩:=id g;rw[<-rel.length]at g;refine⟨key,rfl,CC (s:={s with heap:=m}) e c D (by decide) ⟨kV kvs[i].1,H,N,?_,⟨rfl,_,F,rfl⟩,g,λb j=>(n b j).1⟩⟩;have O:kvs[i].1=k:=M;rw[O];rcases bT l with⟨i,t,rfl,rfl⟩ |⟨y,t,rfl,rfl⟩
  ·exact⟨t,rfl⟩
  ·exact⟨t,rfl⟩
 done:=by
   intro X p hw q hc i a s σ H E I n st r;subst p hw q;obtain⟨u,hi⟩:=r;obtain⟨G,rel,f⟩:=Bu I u J;obtain⟨x,f1,f2,A,B,C⟩:=n it (by simp);rw[rel.length]at st hi;exact wpAny_pyNext_dict_end (I.ok.hd hc) st f (by simp;omega) λm Q=>⟨rfl,I.turned (t':=s.toks) (λb o j e=>Q b o j e) x f1 A B C⟩
 self:=λ_ _ _ _ _ st h=>wpAny_pyIter_keyiter st h
section
variable{X:Cx}{tg:Expr}
def Ov(tl:TE):TI:=λσ H R=>tl σ H λx H1=>∃d kvs,x=.ref d/\((H1 d=some (.dK kvs)/\∀o,R (Jm d o kvs) (upd H1 d (.frz o (.dK kvs))))\/∃o,H1 d=some (.frz o (.dK kvs))/\R (Jm d o kvs) H1)
theorem rM{l:Expr}{p:TE}(hl:PE X l p):PI X tg l (Ov p):=by
 intro a s σ H R I h;refine bP (hl a s σ H _ I h) λv g ⟨x,D,m,t,j⟩=>?_;obtain⟨d,f,e,q⟩:=j;subst e;cases t
 have key:∀{i:Hp} {o:Obj},Inv X a σ i g->i d=some (.frz o (.dK f))->R (Jm d o f) i->wpAny (model X.prog X.w) X.A (pyIter (.ref d)) (Qe X a σ tg R) X.xe g:=λ{i o} c hd u=>by
  obtain⟨E,lo,y,n,F,z,B,j,G,r,J⟩:=m9 c.aW (.inr ⟨o,hd⟩);obtain⟨C,_⟩:=c.aW d _ hd;rw[C]at j;cases j;obtain⟨K,rel,k⟩:=Bu c hd r;refine wpAny_pyIter_dict lo k ?_;refine⟨g.heap.objs.size,[g.heap.objs.size],_,_,i,rfl,c.kept (t':=g.toks) λb o e=>wa8 _ e,Ee d _ o f z B r,⟨_,wax _ rfl,rfl,by rw[rel.length];rfl⟩,λb L=>?_,u⟩;have e:b=g.heap.objs.size:=by grind
  subst e;exact c.DH (wab _) (c.aW.fresh (wab _))
 rcases q with⟨hd,q⟩ |⟨o,hd,q⟩
 ·obtain⟨o,M,c⟩:=m.freeze hd;exact key c a6 (q o)
 ·exact key m hd q
end
end L2
namespace L2
open PySem Bs
theorem dW.f{H:Hp}{a:Addr}{o:Obj}{kvs:List (Key×V)}{k:Key}(e:H a=some (.frz o (.dK kvs))):dW H a (kV k) (bz kvs k):=.inl ⟨kvs,k,.inr ⟨o,e⟩,rfl,rfl⟩
noncomputable def eP(g:Str)(ws ss:List Str)(p:Str):List Str:=(ch g).filterMap λc=>if bears ws (p++⟨#[c]⟩)=true then none else some (lend ss (p++⟨#[c]⟩))
noncomputable def Bv(v:V):Bool:=!decide (v=.non)
theorem zq(ws ss:List Str)(p:Str)(cs:List Nat):((cs.map (uX ws ss p)).filter Bv)=(cs.filterMap λc=>if bears ws (p++⟨#[c]⟩)=true then none else some (lend ss (p++⟨#[c]⟩))).map V.str:=by
 induction cs with
 |nil=>rfl
 |cons c cs a=>
  grind [uX,lend,Bv]
theorem Bw(g:Str)(ws ss:List Str)(p:Str):(eP g ws ss p).length<=g.length:=by
 unfold eP;have:=wdE (λc=>if bears ws (p++⟨#[c]⟩)=true then none else some (lend ss (p++(⟨#[c]⟩:Str)))) (ch g);rw[aX]at this;exact this
theorem Bx(j:("":Str)∈ss)(h:t∈eP g ws ss p):t∈ss:=by grind [eP,sQ]
noncomputable def gL(g:Str)(ws ss:List Str):Nat->Str->Int
 |0,_=>1
 |n + 1,p=>((eP g ws ss p).map (gL g ws ss n)).sum
noncomputable def pA(f:Str->V)(ks:List Str):List (Key×V):=ks.map λp=>((waz p:Key),f p)
theorem sR(f:Str->V)(h:k∈g):bz (pA f g) (waz k:Key)=some (f k):=by
 induction g with
 |nil=>simp at h
 |cons j g a=>
  by_cases e:j=k
  ·subst e;exact bL rfl
  ·unfold pA;rw[waw,bM (λz=>e (wcY z))];exact a (by grind)
theorem wJ(f:Str->V)(h:k∉g):bz (pA f g) (waz k:Key)=none:=by
 cases q:bz (pA f g) (waz k:Key) with
 |none=>rfl
 |some v=>
  have:=rJ q;unfold pA at this;rw[wai]at this;obtain⟨m,a,e⟩:=waa.mp this;have b:m=k:=wcY e;subst b;exact absurd a h
theorem zr(f:Str->V)(g:List Str):(pA f g).length=g.length:=by unfold pA;rw[wa0]
theorem wK(f:Str->V)(g:List Str)(k:Str):pA f (g++[k])=pA f g++[((waz k:Key),f k)]:=by unfold pA;rw[waj];rfl
theorem hV{ss:List Str}(nd:ss.Nodup){i:Nat}{p:Str}(h:ss[i]?=some p):p∉ss.take i:=by
 intro b;obtain⟨j,c,a⟩:=wde.mp b;rw[weV]at a;rw[wau]at c;have d:=(wa6.mp h).2;have:=(wd8 nd).mp (a.trans d.symm);omega
noncomputable abbrev M0(g:Str)(ws ss:List Str)(n:Nat):List (Key×V):=pA (λp=>.int (gL g ws ss n p)) ss
noncomputable def UW(ws ss:List Str)(p:Str):V->V:=λv=>match v with
 |.str z=>uX ws ss p (z.cps.getD 0 0)
 |_=>.non
theorem Ef(g:Str)(ws ss:List Str)(p:Str):(dQ g).map (UW ws ss p)=(ch g).map (uX ws ss p):=by
 unfold dQ;rw[wai];rfl
noncomputable def Jn(f:Str->Int):V->V:=λv=>match v with
 |.str z=>.int (f z)
 |_=>.non
theorem pB(f:Str->Int)(g:List Str):(g.map V.str).map (Jn f)=(g.map f).map V.int:=by
 rw[wai,wai];rfl
end L2
namespace Sx
open PySem L2 Bs
inductive By(C:Addr)(vs:List V)(H:Hp)(Q:VK)(eL:XK):Prop
 |mk (x p g ws ss ls) (_:vs=[.ref x,.str p]) (_:aY C H x g ws ss ls) (_:p∈ss) (_:g.length<=10) (_:∀(l:Addr) (H':Hp),a9 H H'->H l=none->H' l=some (.lst ((eP g ws ss p).map V.str))->Q (.ref l) H')
inductive Eg(C:Addr)(vs:List V)(H:Hp)(Q:VK)(eL:XK):Prop
 |mk (x g ws ss ls) (_:vs=[.ref x]) (_:aY C H x g ws ss ls) (_:g.length<=10) (_:ss.length<=900) (_:∀(d:Addr) (ev:List (Str×Addr)) (H':Hp),a9 H H'->H d=none->H' d=some (.dK (bI ev))->ev.map (·.1)=ss->(∀m∈ev,H' m.2=some (.lst ((eP g ws ss m.1).map V.str)))->(∀m∈ev,H m.2=none)->Q (.ref d) H')
inductive Jo(C:Addr)(vs:List V)(H:Hp)(Q:VK)(eL:XK):Prop
 |mk (x n g ws ss ls) (_:vs=[.ref x,.int n]) (_:aY C H x g ws ss ls) (_:g.length<=10) (_:ss.length<=900) (_:0<=n) (_:n<=100000) (_:∀(l:Addr) (ts:List Addr) (H':Hp),a9 H H'->H l=none->H' l=some (.lst (ts.map V.ref))->ts.length=n.toNat + 1->(∀i t,ts[i]?=some t->H' t=some (.dK (M0 g ws ss i)))->Q (.ref l) H')
inductive Jp(C:Addr)(vs:List V)(H:Hp)(Q:VK)(eL:XK):Prop
 |mk (x n g ws ss ls) (_:vs=[.ref x,.int n]) (_:aY C H x g ws ss ls) (_:g.length<=10) (_:ss.length<=900) (_:0<=n) (_:n<=100000) (_:∀H',a9 H H'->Q (.int (gL g ws ss n.toNat "")) H')
end Sx
namespace L2
open PySem PySem.Spec PyProof.Rows
section
variable{X:Cx}
noncomputable def Xw:Nw:=λx y H Q=>∃i j,x=.int i/\y=.int j/\IC i j/\Q (.int (i * j)) H
theorem Gw:Qc X .Mult Xw:=by
 intro a s σ H x y v u Q I b c h;obtain⟨i,j,d,e,hc,q⟩:=h;subst d;subst e;obtain⟨t,rfl⟩:=b;obtain⟨f,rfl⟩:=c;exact imul_int ⟨.int _,H,I.tok _,⟨_,rfl⟩,q⟩ hc.ok
end
end L2
namespace Sx
open PySem L2 Bs
inductive Eh(C:Addr)(vs:List V)(H:Hp)(Q:VK)(eL:XK):Prop
 |mk (x n g ws ss ls) (_:vs=[.ref x,.int n]) (_:aY C H x g ws ss ls) (_:g.length<=10) (_:0<=n) (_:n<=10) (_:Q (.int ((g.length:Int) ^ n.toNat)) H)
structure fG(m:Nat)(many wide:Int):Prop where
 a:2<=many
 b:many<=8
 c:1<=wide
 d:wide<=6
 e:(m:Int) ^ wide.toNat<=64
inductive zt(C:Addr)(vs:List V)(H:Hp)(Q:VK)(eL:XK):Prop
 |mk (x many wide g ws ss ls) (_:vs=[.ref x,.int many,.int wide]) (_:aY C H x g ws ss ls) (_:g.length<=10) (_:fG g.length many wide) (_:Q (.bl true) H)
end Sx
namespace L2
open PySem PySem.Spec PyProof.Rows
theorem zu(ns:List Int)(lo hi:Option Int):∃g:List Int,ji (ns.map V.int) lo hi=g.map V.int/\g.length<=ns.length:=by
 refine⟨_,by unfold ji;rw[<-wdR,<-wdj],?_⟩;rw[wau,wbw];omega
section
variable{X:Cx}
inductive Sf(K:wa1)(x y:V)(H:Hp)(Q:VK):Prop
 |mk (a b xs ys) (_:x=.ref a) (_:y=.ref b) (_:aH K H a xs) (_:aH K H b ys) (_:xs.all cN=true) (_:ys.all cN=true) (_:Q (.bl (!ph xs ys)) H)
theorem Gx(l:X.A.units < wcH):lX X (wbr .NotEq) (Sf X.K):=by
 intro m s σ H x y v u Q I D E h;obtain⟨a,b,f,g,rfl,rfl,ha,F,G,J,q⟩:=h;cases D;cases E;obtain⟨d,n,o,_⟩:=I.list ha;obtain⟨c,p,r,_⟩:=I.list F;have L:=n.length;have T:=p.length
 by_cases hl:f.length=g.length
 ·refine SeqAt.RcNeAt.lists (e:=λj=>pf (f.getD j .non) (g.getD j .non)) o.isList r.isList (by simp only[waD];omega) l (λj M N=>?_) X.prog X.w _ _ ?_
  ·have i:j < d.length:=by simpa using M
   have k:j < c.length:=by simpa using N
   have t:f[j]?=some (f.getD j .non):=by rw[wa5];simp[show j < f.length by omega]
   have z:g[j]?=some (g.getD j .non):=by rw[wa5];simp[show j < g.length by omega]
   obtain⟨O,B,P⟩:=n.get t;obtain⟨R,C,S⟩:=p.get z
   have g1:d.toArray[j]=O:=by
    have:d[j]?=some d[j]:=by simp[i]
    rw[this]at B;simpa using wah B
   have g2:c.toArray[j]=R:=by
    have:c[j]?=some c[j]:=by simp[k]
    rw[this]at C;simpa using wah C
   rw[g1,g2];exact xO P S (waP.mp G _ (wak t)) (waP.mp J _ (wak z))
  ·rw[mR hl]at q;refine⟨.bl _,H,I,rfl,?_⟩;rw[waD,<-L];exact q
 ·refine SeqAt.RcNeAt.lists_lengths o.isList r.isList (by simp only[waD,bne_iff_ne];omega) l X.prog X.w _ _ ⟨.bl true,H,I,rfl,?_⟩;rw[z7 hl]at q;exact q
theorem Ei(hc:X.calm=true):d5 X (.builtin "max") (λxs H Q=>∃p ns,xs=[.ref p]/\aH X.K H p (wcZ V.int ns)/\ns≠[]/\∀M,M∈ns->(∀a∈ns,a<=M)->Q (.int M) H):=by
 intro g s σ H xs x Q I r h;obtain⟨p,ns,rfl,i,c,q⟩:=h;obtain⟨u,rfl,k⟩:=vals1 r;cases k;obtain⟨d,l,pl,y⟩:=I.list i;obtain⟨b,e,rfl⟩:=jv l
 have hl:s.heap.IsList p (intItems b.toArray):=by
  have:intItems b.toArray=d.toArray:=by grind [intItems]
  rw[this];exact pl.isList
 have f:0 < b.toArray.size:=by
  rw[waD];exact Nat.pos_of_ne_zero λz=>c (by grind)
 refine max_intList (I.ok.hd hc) hl f λv A B m n=>?_;obtain⟨t,rfl⟩:=wh4 m;obtain⟨C,o⟩:=argBest_gt (numAt b.toArray) (b.toArray.size - 1);refine⟨.int _,H,I.kept n,⟨t,rfl⟩,q _ ?_ λa ha=>?_⟩
 ·rw[numAt_eq];exact getD_mem (by grind)
 ·obtain⟨j,w,rfl⟩:=mem_getD ha;rw[wa0]at w;have:=o j (by grind);rw[numAt_eq]at this;exact this
end
end L2
namespace Bs
open PySem L2
noncomputable def kq(st sp n:Nat):List Nat:=(waJ n).map λk=>(ch dN).getD ((st + k * sp) % 36) 0
theorem zv{P:Nat->Prop}:∀{ts:List Str},(∀t∈ts,∃c,t=⟨#[c]⟩/\P c)->(ts.map (·.length)).sum=ts.length
 |[],_=>rfl
 |t :: ts,h=>by
  obtain⟨c,rfl,_⟩:=h t (wag ..);rw[waw,wbs,zv λt a=>h t (wac _ a),waK];show 1 + ts.length=_;omega
noncomputable def Jq(st sp:Nat):V->V:=λv=>match v with
 |.int k=>.str ⟨#[(ch dN).getD ((st + k.toNat * sp) % 36) 0]⟩
 |_=>.non
end Bs
namespace Sx
open PySem L2 Bs
inductive Ow(K:wa1)(vs:List V)(H:Hp)(Q:VK)(eL:XK):Prop
 |mk (a:Addr) (ns:List Int) (p:Int) (_:vs=[.ref a,.int p]) (_:aH K H a (ns.map V.int)) (_:∀(c:Int) (H':Hp),a9 H H'->Q (.int c) H')
end Sx
namespace Bs
noncomputable def zx(k:Nat)(l:List Nat):List Nat:=l.drop (l.length - k)
theorem Ej(k:Nat)(l:List Nat):zx k l <:+ l:=whf _ _
theorem Ek(k:Nat)(l:List Nat):(zx k l).length<=k:=by grind [zx]
theorem hX{α:Type}[DecidableEq α]:∀{g l:List α},g.Nodup->(∀k∈g,k∈l)->g.length<=l.length
 |[],l,_,_=>waM _
 |k :: g,l,nd,h=>by
  rw[wb0]at nd;have a:=h k (wag ..);have:=hX (l:=l.erase k) nd.2 λj b=>(List.mem_erase_of_ne (λz=>nd.1 (by rw[<-z];exact b))).mpr (h j (wac _ b));rw[List.length_erase_of_mem a]at this;have:0 < l.length:=List.length_pos_of_mem a;rw[waK];omega
noncomputable def kr(cs:List Nat):Nat->List (List Nat)
 |0=>[[]]
 |n + 1=>[] :: cs.flatMap λc=>(kr cs n).map (c :: ·)
theorem wL(cs:List Nat):∀(n:Nat) (l:List Nat),l.length<=n->(∀c∈l,c∈cs)->l∈kr cs n
 |0,l,h,_=>by
  rw[wbm (Nat.le_zero.mp h)];exact wao.mpr rfl
 |n + 1,[],_,_=>wag ..
 |n + 1,c :: l,h,hc=>by
  refine wac _ (wdY.mpr ⟨c,hc c (wag ..),waa.mpr ⟨l,?_,rfl⟩⟩);exact wL cs n l (by grind) λd hd=>hc d (wac _ hd)
theorem nO{α β:Type}(f:α->List β)(b:Nat):∀(cs:List α),(∀c∈cs,(f c).length<=b)->(cs.flatMap f).length<=cs.length * b
 |[],_=>waM _
 |c :: cs,h=>by
  rw[wdM,wa7,waK,Nat.succ_mul];have:=nO f b cs λd hd=>h d (wac _ hd);have:=h c (wag ..);omega
theorem lQ(cs:List Nat)(h:cs.length<=4):∀n b g,(kr cs n).length<=b->g=1 + 4 * b->(kr cs (n + 1)).length<=g:=by
 intro n b g d a;unfold kr;rw[waK];have e:=nO (λc=>(kr cs n).map (c :: ·)) b cs λc _=>by grind
 have f:cs.length * b<=4 * b:=wdf _ h;omega
theorem M1(cs:List Nat)(h:cs.length<=4):(kr cs 4).length<=341:=
 lQ cs h 3 85 _ (lQ cs h 2 21 _ (lQ cs h 1 5 _ (lQ cs h 0 1 _ (wab 1) rfl) rfl) rfl) rfl
section
variable{κ:Type}[DecidableEq κ]
noncomputable def bump:List (κ×Int)->κ->Int->List (κ×Int)
 |[],k,v=>[(k,v)]
 |(j,u) :: m,k,v=>if j=k then(j,u + v) :: m else(j,u) :: bump m k v
theorem dG(k:κ)(v:Int):∀m:List (κ×Int),(bump m k v).map (·.1)=if k∈m.map (·.1) then m.map (·.1) else m.map (·.1)++[k]
 |[]=>rfl
 |(j,u) :: m=>by
  unfold bump
  by_cases h:j=k
  ·rw[if_pos h,if_pos (by grind)];rfl
  ·rw[if_neg h,waw,dG k v m,waw]
   by_cases a:k∈m.map (·.1)
   ·grind
   ·grind
end
end Bs
namespace Bs
open PySem L2 AC
variable{ws ss:List Str}
noncomputable def Gy(L:Nat)(r:Str):Str:=gg r (r.length - (L - 1))
theorem Jr(L:Nat)(r:Str):ch (Gy L r)=zx (L - 1) (ch r):=by unfold Gy zx;rw[rL,aX]
noncomputable def Js(ws:List Str)(L:Nat)(e:Str)(v:Int)(m:List (Str×Int))(c:Nat):List (Str×Int):=if bears ws (e++⟨#[c]⟩)=true then m else bump m (Gy L (e++⟨#[c]⟩)) v
noncomputable def Ox(g:Str)(ws:List Str)(L:Nat)(m:List (Str×Int))(p:Str×Int):List (Str×Int):=(ch g).foldl (Js ws L p.1 p.2) m
noncomputable def Oy(g:Str)(ws:List Str)(L:Nat)(hs:List (Str×Int)):List (Str×Int):=hs.foldl (Ox g ws L) []
noncomputable def Kw(g:Str)(ws:List Str)(L:Nat):Nat->List (Str×Int)
 |0=>[("",1)]
 |n + 1=>Oy g ws L (Kw g ws L n)
structure cg(g:Str)(L:Nat)(m:List (Str×Int)):Prop where
 nd:(m.map (·.1)).Nodup
 sh:∀k∈m.map (·.1),(∀c∈ch k,c∈ch g)/\k.length<=L - 1
theorem cg.nil(g:Str)(L:Nat):cg g L []:=⟨wbj,λk h=>nomatch h⟩
theorem cg.bump(h:cg g L m)(l:(∀c∈ch k,c∈ch g)/\k.length<=L - 1):cg g L (bump m k v):=by
 by_cases d:k∈m.map (·.1)
 ·exact⟨by rw[dG,if_pos d];exact h.nd,by rw[dG,if_pos d];exact h.sh⟩
 ·refine⟨?_,?_⟩
  ·rw[dG,if_neg d];exact wch.mpr ⟨h.nd,wb0.mpr ⟨λz=>(nomatch z),wbj⟩,λa ha b e z=>d (by rw[<-wao.mp e,<-z];exact ha)⟩
  ·rw[dG,if_neg d];intro j f;rcases waA.mp f with z |z
   ·exact h.sh j z
   ·rw[wao.mp z];exact l
theorem El(j:∀c∈ch e,c∈ch g)(hc:c∈ch g):(∀d∈ch (Gy L (e++⟨#[c]⟩)),d∈ch g)/\(Gy L (e++⟨#[c]⟩)).length<=L - 1:=by grind [aX,Jr,Ek,Ej,aQ,xV]
theorem cg.add(h:cg g L m)(j:∀c∈ch e,c∈ch g)(hc:c∈ch g):cg g L (Js ws L e v m c):=by
 unfold Js;split
 ·exact h
 ·exact h.bump (El j hc)
theorem cg.fold(j:∀c∈ch e,c∈ch g):∀{cs:List Nat} {m:List (Str×Int)},cg g L m->(∀c∈cs,c∈ch g)->cg g L (cs.foldl (Js ws L e v) m)
 |[],m,h,_=>h
 |c :: cs,m,h,hc=>cg.fold (cs:=cs) j (h.add j (hc c (wag ..))) λd hd=>hc d (wac _ hd)
theorem cg.steps:∀{hs m:List (Str×Int)},cg g L m->(∀p∈hs,∀c∈ch p.1,c∈ch g)->cg g L (hs.foldl (Ox g ws L) m)
 |[],m,h,_=>h
 |p :: hs,m,h,hc=>cg.steps (hs:=hs) (cg.fold (hc p (wag ..)) h λc hc=>hc) λq a=>hc q (wac _ a)
theorem cg.here:∀n,cg g L (Kw g ws L n)
 |0=>⟨wb0.mpr ⟨λz=>(nomatch z),wbj⟩,λk a=>by
   rw[wao.mp a]
   exact⟨λc hc=>(nomatch hc),waM _⟩⟩
 |n + 1=>cg.steps (cg.nil g L) λp b=>((cg.here n).sh p.1 (waa.mpr ⟨p,b,rfl⟩)).1
theorem cg.len(h:cg g L m)(j:g.length<=4)(o:L<=5):m.length<=341:=by
 have d:((m.map (·.1)).map ch).Nodup:=by
  refine wgR _ ?_ h.nd;intro a b c z;exact c (ez z)
 have e:=hX (l:=kr (ch g) 4) d λk f=>by
  obtain⟨x,i,rfl⟩:=waa.mp f;obtain⟨a,b⟩:=h.sh x i;exact wL _ _ _ (by rw[aX];omega) a
 have n:=M1 (ch g) (by rw[aX];exact j);rw[wa0,wa0]at e;omega
noncomputable def bc(m:List (Str×Int)):List (Key×V):=m.map λp=>((waz p.1:Key),V.int p.2)
theorem iW(m:List (Str×Int)):(bc m).length=m.length:=wa0 ..
noncomputable def ku:List (Str×Int)->Str->Option Int
 |[],_=>none
 |(j,u) :: m,k=>if j=k then some u else ku m k
theorem dH(k:Str):∀m:List (Str×Int),bz (bc m) (waz k:Key)=(ku m k).map V.int
 |[]=>rfl
 |(j,u) :: m=>by
  unfold ku
  by_cases h:j=k
  ·rw[if_pos h,h];exact bL rfl
  ·rw[if_neg h,<-dH k m];exact bM (λz=>h (wcY z))
theorem sS:∀{m:List (Str×Int)},k∉m.map (·.1)->ku m k=none
 |[],_=>rfl
 |(j,u) :: m,h=>by
  unfold ku;rw[if_neg (λz=>h (by rw[z];exact wag ..))];exact sS λz=>h (wac _ z)
end Bs
namespace L2
open PySem
theorem zy{R:It->Hp->Prop}(h:g d=some (.dK kvs)\/∃o,g d=some (.frz o (.dK kvs)))
 (k:∀o j,j d=some (.frz o (.dK kvs))->(∀c,c≠d->j c=g c)->R (Jm d o kvs) j) :
 (g d=some (.dK kvs)/\∀o,R (Jm d o kvs) (upd g d (.frz o (.dK kvs))))\/∃o,g d=some (.frz o (.dK kvs))/\R (Jm d o kvs) g:=by
 rcases h with h |⟨o,h⟩
 ·exact .inl ⟨h,λo=>k o _ a6 λc hc=>aa hc⟩
 ·exact .inr ⟨o,h,k o _ h λc _=>rfl⟩
end L2
namespace Sx
open PySem L2 Bs
end Sx
namespace L2
open PySem PySem.Spec PyProof.Rows
def jw(K:wa1)(J:It)(l:Addr)(σf:St)(tt:TT)(te:TE)(H:Hp)(Q:Hp->Prop):Prop:=
 ∃W:Nat->Nat->List V->Hp->Prop,(∃m,W 0 m [] (upd H l (.lst [])))/\∀i m ys H2,W i m ys H2->H2 l=some (.lst ys) /\
  ((J.stop i H2/\Q H2)\/(J.go i H2/\ys.length < sizeLine/\∀x H3,J.uW i H2 x H3->∃p a b,x=.ref p/\ir K H3 p [a,b]/\tt (some a :: some b :: σf) H3 λok H4=>
    if ok=true then te (some a :: some b :: σf) H4 λy H5=>H5 l=some (.lst ys)/\∃m',m' < m/\W (i + 1) m' (ys++[y]) (upd H5 l (.lst (ys++[y])))
    else ∃m',m' < m/\W (i + 1) m' ys H4))
def M3(K:wa1)(wi:TI)(ix:List Nat)(tt:TT)(te:TE):TE:=λσ H Q=>wi σ H λJ H1=>∀l,H1 l=none->jw K J l (pick σ ix) tt te H1 (λH2=>Q (.ref l) H2)
section
variable{X:Cx}{pins:List (Addr×Obj)}{σ:St}{H:Hp}{s₂:Shared}{scope:wcQ}{x x2:Str}{ys:List Str}{ix:List Nat}{cl:List (Str×Addr)}{fp:List Addr}{L:Addr}
theorem zz(hc:X.calm=true)(B:bK X scope x ys ix)(g:bK X scope x2 ys ix)(j:x≠x2)(cl L s H ex pn):PG (bb X scope ([x,x2]++ys) cl L s H ex pn) (.Tuple [.Name x o,.Name x2 l] p pt) (Fo X.K 2 (ke (d4 0) (ke (d4 1) Fn))):=by
 have c:(relabel scope X.env).names.lookup x=some .local:=wce B.var;have a:(relabel scope X.env).names.lookup x2=some .local:=wce g.var
 have b:(x :: x2 :: ys).Nodup:=by
  have:=B.nd;have:=g.nd
  grind
 exact fC hc (aU (jd b rfl (.inl c) (.inr c)) (aU (jd b rfl (.inl a) (.inr a)) dC))
theorem zA{K:wa1}{J:It}(h:jw K J l g j o H Q):wk (Fo K 2 (ke (d4 0) (ke (d4 1) Fn))) 2 J l g j o H Q:=
 let ⟨W,a,t⟩:=h
 ⟨W,a,λi m ys f w=>let ⟨p,q⟩:=t i m ys f w;⟨p,q.imp id λ⟨a,b,c⟩=>⟨a,b,λx k n u y=>by revert n;refine iw 2 _ ?_;exact λ_ _=>let ⟨p,v,d,e,r,s⟩:=c x k y;⟨p,[v,d],e,r,rfl,v,[d],rfl,d,[],rfl,rfl,⟨[some v,some d],rfl,rfl⟩,s⟩⟩⟩⟩
theorem gk(hc:X.calm=true)(B:bK X scope x ys ix)(T:bK X scope x2 ys ix)(g:x≠x2)(hi:PI X (.Tuple [.Name x U,.Name x2 j] kt pt) iter wi)
 (ht:∀cl L s H ex pn,Ii (bb X scope (x :: x2 :: ys) cl L s H ex pn) o r) (he:∀cl L s H ex pn,PE (bb X scope (x :: x2 :: ys) cl L s H ex pn) p I)
 (hs:∀v,wc0 iter X.env v=pure v:=by intro _;rfl):PE X (.ListComp p [⟨.Tuple [.Name x U,.Name x2 j] kt pt,iter,o,0⟩] scope pos) (M3 X.K wi ix r I):=
 sy (C:=λJ l a H Q=>jw X.K J l a r I H Q) (xs:=[x,x2]) hc B (zz hc B T g) (λ_ _ _ _ _=>zA) hi ht he hs
end
def cp(H:Hp)(rs:List Addr)(UX:List (List V)):Prop:=rs.length=UX.length/\∀(i:Nat) (r:Addr) (xs:List V),rs[i]?=some r->UX[i]?=some xs->H r=some (.tup xs)
theorem cp.nil(H:Hp):cp H [] []:=⟨rfl,λi r a h=>by simp at h⟩
theorem cp.keep(t:cp H j g)(k:∀r xs,H r=some (.tup xs)->l r=some (.tup xs)):cp l j g:=⟨t.1,λi r xs a b=>k _ _ (t.2 i r xs a b)⟩
theorem cp.same(t:cp H j g)(s:a9 H l):cp l j g:=t.keep λr a h=>s _ _ h
theorem cp.snoc(t:cp H g j)(h:H r=some (.tup xs)):cp H (g++[r]) (j++[xs]):=by
 refine⟨by rw[wa7,wa7,t.1];rfl,λi a b c d=>?_⟩
 by_cases hi:i < g.length
 ·rw[waE hi]at c;rw[waE (by rw[<-t.1];exact hi)]at d;exact t.2 i a b c d
 ·have e:i=g.length:=by
   have:=(wa6.mp c).1;rw[wa7,wc9]at this;omega
  subst e;rw[waF (wab _),wbX]at c;rw[waF (by rw[t.1];exact wab _),t.1,wbX]at d;cases c;cases d;exact h
theorem cp.mem(t:cp H j g)(h:r∈j):∃xs∈g,H r=some (.tup xs):=by
 obtain⟨i,hi,e⟩:=wde.mp h;have a:i < g.length:=by rw[<-t.1];exact hi
 exact⟨g[i],waQ a,t.2 i r _ (by grind) (wa2 a)⟩
noncomputable def ky(q:V×V):List V:=[q.1,q.2]
theorem mY{K:wa1}{J:It}{Ok:Hp->Prop}{j:List Addr}{prs:List (V×V)}{l:Addr}{I:St}{tt:TT}{te:TE}{H:Hp}{Q:Hp->Prop}(p:V×V->Bool)(g:V×V->V)(hJ:lY J Ok (j.map V.ref))(hT:cp H j (prs.map ky))(hl:H l=none)(hz:j.length<=sizeLine)(T:∀r,a9 H r->Ok r)
 (ht:∀q C U,q∈prs->a9 H C->(∀r,a9 C r->U (p q) r)->tt (some q.1 :: some q.2 :: I) C U)
 (he:∀q C U,q∈prs->p q=true->a9 H C->(∀r,a9 C r->U (g q) r)->te (some q.1 :: some q.2 :: I) C U)
 (hd:∀r,a9 H r->r l=some (.lst ((prs.filter p).map g))->Q r):jw K J l I tt te H Q:=by
 have f:j.length=prs.length:=by rw[hT.1,wa0]
 refine⟨λi m s d=>m=j.length - i/\i<=j.length/\a9 H d/\d l=some (.lst s)/\s=((prs.take i).filter p).map g,⟨j.length,by simp,waM _,a9.upd hl,a6,by simp⟩,?_⟩;rintro i m s d ⟨rfl,hi,c,k,n⟩;refine⟨k,?_⟩
 by_cases a:i < j.length
 ·refine .inr ⟨hJ.go i d (T _ c) (by rw[wa0];exact a),?_,λx C y=>?_⟩
  ·rw[n,wa0];refine wba (wbi _ _) ?_;rw[wau];omega
  ·obtain⟨e,u⟩:=hJ.uW i d x C (T _ c) (by rw[wa0];exact a) y;subst e;have v:prs[i]?=some prs[i]:=wa2 (by omega);have w:j[i]?=some j[i]:=wa2 a;rw[wa4,w]at u;obtain rfl:V.ref j[i]=x:=wah u;have mem:prs[i]∈prs:=waQ _;have z:prs.take (i + 1)=prs.take i++[prs[i]]:=by rw[wb1,v];rfl
   refine⟨j[i],prs[i].1,prs[i].2,rfl,ir.of (c _ _ (hT.2 i j[i] _ w (by rw[wa4,v];rfl))),ht prs[i] _ _ mem c λB h=>?_⟩
   cases t:p prs[i] with
   |false=>
    rw[if_neg waq];refine⟨j.length - (i + 1),by omega,rfl,a,c.trans h,h _ _ k,?_⟩;rw[z,wbo,n];simp[t]
   |true=>
    rw[if_pos rfl];refine he prs[i] _ _ mem t (c.trans h) λD A=>⟨A _ _ (h _ _ k),j.length - (i + 1),by omega,rfl,a,λb o e=>?_,a6,?_⟩
    ·rw[aa (ae e hl)];exact A _ _ (h _ _ (c _ _ e))
    ·rw[z,wbo,n];simp[t]
 ·have e:i=j.length:=by omega
  subst e;refine .inl ⟨?_,hd d c ?_⟩
  ·have:=hJ.stop d (T _ c);rwa[wa0]at this
  ·rw[k,n,f,waI]
theorem Em{K:wa1}{J:It}{Ok:Hp->Prop}{j:List Addr}{prs:List (V×V)}{l:Addr}{T:St}{tt:TT}{te:TE}{H:Hp}{Q:Hp->Prop}(p:V×V->Bool)(g:V×V->List V)(hJ:lY J Ok (j.map V.ref))(hT:cp H j (prs.map ky))(hl:H l=none)(hz:j.length<=sizeLine)(U:∀C,a9 H C->Ok C)
 (ht:∀q I Q',q∈prs->a9 H I->(∀C,a9 I C->Q' (p q) C)->tt (some q.1 :: some q.2 :: T) I Q')
 (he:∀q I Q',q∈prs->p q=true->a9 H I->(∀r C,a9 I C->C r=some (.tup (g q))->Q' (.ref r) C)->te (some q.1 :: some q.2 :: T) I Q')
 (hd:∀ys C,a9 H C->C l=some (.lst (ys.map V.ref))->cp C ys ((prs.filter p).map g)->Q C):jw K J l T tt te H Q:=by
 have h:j.length=prs.length:=by rw[hT.1,wa0]
 refine⟨λi m A d=>m=j.length - i/\i<=j.length/\a9 H d/\∃ys:List Addr,A=ys.map V.ref/\d l=some (.lst (ys.map V.ref))/\cp d ys (((prs.take i).filter p).map g),⟨j.length,by simp,waM _,a9.upd hl,[],rfl,a6,by simpa using cp.nil _⟩,?_⟩;rintro i m A d ⟨rfl,hi,c,ys,rfl,k,n⟩;refine⟨k,?_⟩
 by_cases a:i < j.length
 ·refine .inr ⟨hJ.go i d (U _ c) (by rw[wa0];exact a),?_,λx I y=>?_⟩
  ·rw[wa0,n.1,wa0];refine wba (wbi _ _) ?_;rw[wau];omega
  ·obtain⟨e,B⟩:=hJ.uW i d x I (U _ c) (by rw[wa0];exact a) y;subst e;have D:prs[i]?=some prs[i]:=wa2 (by omega);have E:j[i]?=some j[i]:=wa2 a;rw[wa4,E]at B;obtain rfl:V.ref j[i]=x:=wah B;have mem:prs[i]∈prs:=waQ _;have F:prs.take (i + 1)=prs.take i++[prs[i]]:=by rw[wb1,D];rfl
   refine⟨j[i],prs[i].1,prs[i].2,rfl,ir.of (c _ _ (hT.2 i j[i] _ E (by rw[wa4,D];rfl))),ht prs[i] _ _ mem c λL f=>?_⟩
   cases t:p prs[i] with
   |false=>
    rw[if_neg waq];refine⟨j.length - (i + 1),by omega,rfl,a,c.trans f,ys,rfl,f _ _ k,?_⟩
    have e:((prs.take (i + 1)).filter p).map g=((prs.take i).filter p).map g:=by
     rw[F,wbo];simp[t]
    rw[e];exact n.same f
   |true=>
    rw[if_pos rfl];refine he prs[i] _ _ mem t (c.trans f) λr M s u=>⟨s _ _ (f _ _ k),j.length - (i + 1),by omega,rfl,a,λb o e=>?_,ys++[r],by rw[waj];rfl,by rw[a6,waj];rfl,?_⟩
    ·rw[aa (ae e hl)];exact s _ _ (f _ _ (c _ _ e))
    ·have e:((prs.take (i + 1)).filter p).map g=((prs.take i).filter p).map g++[g prs[i]]:=by
      rw[F,wbo];simp[t]
     rw[e];have v:=s _ _ (f _ _ k);refine cp.keep ((n.same (f.trans s)).snoc u) λN G w=>?_;rw[aa (λz=>by rw[z,v]at w;cases w)];exact w
 ·have e:i=j.length:=by omega
  subst e;refine .inl ⟨?_,hd ys d c k ?_⟩
  ·have:=hJ.stop d (U _ c);rwa[wa0]at this
  ·rw[h,waI]at n;exact n
theorem Rd.same(h:Rd H a u)(s:a9 H g):Rd g a u:=by
 rcases h with h |⟨o,h⟩
 ·exact .inl (s _ _ h)
 ·exact .inr ⟨o,s _ _ h⟩
theorem dW.rd{H:Hp}{a:Addr}{kvs:List (Key×V)}{k:Key}(e:Rd H a (.dK kvs)):dW H a (kV k) (bz kvs k):=.inl ⟨kvs,k,e,rfl,rfl⟩
def M4(tl:TE):TI:=λσ H R=>tl σ H λx H1=>∃d kvs,x=.ref d/\(H1 d=some (.dK kvs)\/∃o,H1 d=some (.frz o (.dK kvs)))/\∀o H',H' d=some (.frz o (.dK kvs))->(∀c,c≠d->H' c=H1 c)->R (Jm d o kvs) H'
theorem zB{X:Cx}(hl:PE X l g)(p:∀{σ H} {Q o:VK},(∀x j,Q x j->o x j)->g σ H Q->g σ H o:=by intro _ _ _ _ h q;obtain⟨v,e,q⟩:=q;exact⟨v,e,h _ _ q⟩):PI X r l (M4 g):=by
 intro c s σ H R I h;refine rM hl c s σ H R I (p (λx j q=>?_) h);obtain⟨d,f,e,a,b⟩:=q;exact⟨d,f,e,zy a b⟩
noncomputable def hitsD(kb ka:List (Key×V)):Bool:=ka.all λkv=>match bz kb kv.1 with
 |some y=>pf kv.2 y
 |none=>false
noncomputable def Sg(ka kb:List (Key×V)):Bool:=ka.length == kb.length && hitsD kb ka
noncomputable def sT(kvs:List (Key×V)):Bool:=kvs.all λkv=>cN kv.2
theorem En(h:sT kvs=true)(e:bz kvs k=some v):cN v=true:=by
 unfold bz at e
 cases q:kvs.find? λa=>decide (a.1=k) with
 |none=>rw[q]at e;cases e
 |some a=>
  rw[q]at e;have:=waP.mp h a (List.mem_of_find?_eq_some q);cases e;exact this
section
variable{X:Cx}{A:Around}{s:Shared}
theorem sU(o:KV g j)(r:sT g=true):∀{l:List (Key×V)} {C:List (Key×Value)},KV l C->sT l=true->whn A s j C (hitsD g l)
 |_,_,.nil,_=>.nil
 |_,_,@Paired.cons _ _ _ p q ps d h t,c=>by
  obtain⟨k,v⟩:=p;obtain⟨f,u⟩:=q;obtain⟨i,m⟩:=h;obtain rfl:k=f:=i;have f1:cN v=true:=waP.mp c (k,v) (wag ..);have f2:sT ps=true:=waP.mpr λz n=>waP.mp c z (wac _ n);have w:=sU o r t f2;have a:=o.val k;unfold hitsD;rw[weI];show whn A s j ((k,u) :: d) ((match bz g k with |some y=>pf v y |none=>false) && _)
  cases e:bz g k with
  |none=>
   rw[e]at a
   cases b:valueAt j k with
   |none=>exact .miss b
   |some y=>rw[b]at a;exact waS a
  |some y=>
   rw[e]at a
   cases b:valueAt j k with
   |none=>rw[b]at a;exact waS a
   |some x=>
    rw[b]at a;exact .hit b (xO m a f1 (En r e)) w
inductive Sh(x y:V)(H:Hp)(Q:VK):Prop
 |mk (a b ka kb) (_:x=.ref a) (_:y=.ref b) (_:Rd H a (.dK ka)) (_:Rd H b (.dK kb)) (_:sT ka=true) (_:sT kb=true) (_:Q (.bl (Sg ka kb)) H)
theorem M5(g:X.A.units < wcH):lX X (wbr .Eq) Sh:=by
 intro c s σ H x y v u Q I f i h;obtain⟨a,b,r,t,rfl,rfl,ha,j,k,l,q⟩:=h;cases f;cases i;obtain⟨_,m,w,d,n⟩:=m9 I.aW ha;obtain⟨_,o,z,e,p⟩:=m9 I.aW j;refine PySem.W.keq_eq m o n p g (λ_=>sU e l d k) ⟨.bl _,H,I,rfl,?_⟩;rw[<-d.length,<-e.length];exact q
end
end L2
namespace Bs
open PySem L2
noncomputable def pC(g:Str)(ws ss:List Str)(q:Str×Str):List (Str×Str):=(ch g).filterMap λc=>if bears ws (q.2++⟨#[c]⟩)=true then none else some (q.1++⟨#[c]⟩,lend ss (q.2++⟨#[c]⟩))
noncomputable def eQ(g:Str)(ws ss:List Str)(qs:List (Str×Str)):List (Str×Str):=qs.flatMap (pC g ws ss)
noncomputable def sV(g:Str)(ws ss:List Str)(p:Str):Nat->List (Str×Str)
 |0=>[("",p)]
 |n + 1=>eQ g ws ss (sV g ws ss p n)
noncomputable def aP(g:Str)(ws ss ls:List Str)(n:Nat)(p:Str):List (Str×Str):=(sV g ws ss p n).filter λq=>decide (q.2∈ls)
theorem Bz(g:Str)(ws ss:List Str)(q:Str×Str):(pC g ws ss q).length<=g.length:=by
 unfold pC;have:=wdE (λc=>if bears ws (q.2++⟨#[c]⟩)=true then none else some (q.1++(⟨#[c]⟩:Str),lend ss (q.2++(⟨#[c]⟩:Str)))) (ch g);rw[aX]at this;exact this
theorem qo(g:Str)(ws ss:List Str)(j:List (Str×Str)):(eQ g ws ss j).length<=j.length * g.length:=nO _ _ _ λq _=>Bz g ws ss q
theorem nP(g:Str)(ws ss:List Str)(p:Str):∀n,(sV g ws ss p n).length<=g.length ^ n
 |0=>wab 1
 |n + 1=>wal (qo g ws ss _) (by rw[Nat.pow_succ];exact wdf _ (nP g ws ss p n))
theorem BA(j:("":Str)∈ss)(h:r∈pC g ws ss q):r.2∈ss/\r.1.length=q.1.length + 1:=by
 unfold pC at h;obtain⟨c,_,e⟩:=wey.mp h;split at e
 ·cases e
 ·cases e;exact⟨sQ j _,len_app _ _⟩
theorem sW(j:("":Str)∈ss)(l:p∈ss):∀n,∀r∈sV g ws ss p n,r.2∈ss/\r.1.length=n
 |0,r,h=>by
  rw[wao.mp h];exact⟨l,rfl⟩
 |n + 1,r,h=>by
  obtain⟨q,a,b⟩:=wdY.mp h;have:=BA j b;have:=(sW j l n q a).2;exact⟨‹r.2∈ss/\_›.1,by omega⟩
theorem cV(h:r∈aP g ws ss ls n p):r.2∈ls:=of_decide_eq_true (waC.mp h).2
theorem fH(g:Str)(ws ss ls:List Str)(n:Nat)(p:Str):(aP g ws ss ls n p).length<=g.length ^ n:=wal (wbi _ _) (nP g ws ss p n)
noncomputable def qp(q:Str×Str):List V:=[.str q.1,.str q.2]
noncomputable def nQ(q:Str×Str):V×V:=(.str q.1,.str q.2)
theorem D8(g:List (Str×Str)):(g.map nQ).map ky=g.map qp:=by
 rw[wai];rfl
structure cW(H:Hp)(l:Addr)(rs:List Addr)(qs:List (Str×Str)):Prop where
 l:H l=some (.lst (rs.map V.ref))
 t:cp H rs (qs.map qp)
theorem cW.same{H g:Hp}{l:Addr}{j:List Addr}{o:List (Str×Str)}(r:cW H l j o)(s:a9 H g):cW g l j o:=⟨s _ _ r.l,r.t.same s⟩
theorem cW.len{H:Hp}{l:Addr}{g:List Addr}{j:List (Str×Str)}(r:cW H l g j):g.length=j.length:=by rw[r.t.1,wa0]
theorem cW.push{H:Hp}{l:Addr}{g:List Addr}{j:List (Str×Str)}(R:cW H l g j){r:Addr}(o:H r=none)(q:Str×Str):cW (upd (upd H r (.tup (qp q))) l (.lst (g.map V.ref++[.ref r]))) l (g++[r]) (j++[q]):=by
 have hl:(upd H r (.tup (qp q))) l=some (.lst (g.map V.ref)):=a9.upd o _ _ R.l;refine⟨by rw[a6,waj];rfl,?_⟩;rw[waj];refine cp.keep ((R.t.same (a9.upd o)).snoc a6) λa b h=>?_;rw[aa (λz=>by rw[z,hl]at h;cases h)];exact h
theorem cW.upd{H:Hp}{l:Addr}{g:List Addr}{j:List (Str×Str)}(R:cW H l g j){d:Addr}{kvs:List (Key×V)}{u:HO}(h:H d=some (.dK kvs)):cW (L2.upd H d u) l g j:=by
 refine⟨?_,R.t.keep λr a b=>?_⟩
 ·rw[aa (λz=>by have:=R.l;rw[z,h]at this;cases this)];exact R.l
 ·grind [aa]
theorem zC(ls:List Str)(g:List (Str×Str)):((g.map nQ).filter λq=>nJ q.2 (ls.map V.str)).map ky=(g.filter λq=>decide (q.2∈ls)).map qp:=by
 induction g with
 |nil=>rfl
 |cons q g a=>
  have e:nJ (nQ q).2 (ls.map V.str)=decide (q.2∈ls):=iR q.2 ls;rw[waw]
  by_cases h:q.2∈ls
  ·rw[wbb (by rw[e];exact decide_eq_true h),wbb (by exact decide_eq_true h),waw,waw,a];rfl
  ·rw[wbl (by rw[e];simpa using h),wbl (by simpa using h),a]
noncomputable def gE(g:Str)(ws ss ls:List Str)(n:Nat)(f:Str->Int)(p:Str):Int:=((aP g ws ss ls n p).map λq=>f q.2).sum
def Gz(m:List (Str×Int))(ls:List Str)(f:Str->Int):Prop:=∀p∈ls,ku m p=some (f p)
theorem sX(m:List (Str×Int)):sT (bc m)=true:=waP.mpr λa h=>by
 obtain⟨p,_,rfl⟩:=waa.mp h;rfl
theorem pD(h:k∉m.map (·.1))(v:Int):putK (bc m) (waz k:Key) (.int v)=bc (m++[(k,v)]):=by
 rw[cI _ (by rw[dH,sS h];rfl)];unfold bc;rw[waj];rfl
noncomputable def Si(m:List (Str×Int))(p:Str):Int:=(ku m p).getD 0
theorem BC(h:k∈m.map (·.1)):ku m k=some (Si m k):=by
 unfold Si
 induction m with
 |nil=>exact nomatch h
 |cons p m a=>
  obtain⟨j,u⟩:=p;unfold ku
  by_cases e:j=k
  ·grind
  ·grind
theorem Gz.of(h:m.map (·.1)=ls):Gz m ls (Si m):=λp a=>BC (by grind)
structure BD(H:Hp)(db:Addr)(o:Obj)(ev:List (Str×Addr))(Bf:Str->List (Str×Str))(ls:List Str):Prop where
 d:H db=some (.frz o (.dK (bI ev)))
 k:ev.map (·.1)=ls
 r:∀q∈ev,∃rs,cW H q.2 rs (Bf q.1)
 e:∀p,∀q∈Bf p,q.2∈ls
 n:∀p,(Bf p).length<=1000
 nd:ls.Nodup
 few:ls.length<=60
theorem BD.same{g:Str->List (Str×Str)}(b:BD H j o l g ls)(s:a9 H p):BD p j o l g ls:=
 ⟨s _ _ b.d,b.k,λq a=>let ⟨c,h⟩:=b.r q a;⟨c,h.same s⟩,b.e,b.n,b.nd,b.few⟩
theorem wM{f:Str->Int}:∀{os:List Str},k∈os->ku (os.map λp=>(p,f p)) k=some (f k)
 |[],h=>nomatch h
 |j :: os,h=>by
  show (if j=k then some (f j) else ku (os.map λp=>(p,f p)) k)=_
  by_cases e:j=k
  ·rw[if_pos e,e]
  ·rw[if_neg e];rcases waH.mp h with z |z
   ·grind
   ·exact wM z
end Bs
namespace Sx
open PySem L2 Bs
inductive Sj(C:Addr)(vs:List V)(H:Hp)(Q:VK)(eL:XK):Prop
 |mk (x p g ws ss ls) (_:vs=[.ref x,.str p]) (_:aY C H x g ws ss ls) (_:p∈ls) (_:Q .non H)
inductive GA(C:Addr)(vs:List V)(H:Hp)(Q:VK)(eL:XK):Prop
 |mk (x l rs qs g ws ss ls) (_:vs=[.ref x,.ref l]) (_:aY C H x g ws ss ls) (_:cW H l rs qs) (_:(∀q∈qs,q.2∈ss/\q.1.length<=100)) (_:qs.length<=100) (_:g.length<=10) (_:∀(l':Addr) (Sl:List Addr) (H':Hp),a9 H H'->H l'=none->cW H' l' Sl (eQ g ws ss qs)->Q (.ref l') H')
inductive GB(C:Addr)(vs:List V)(H:Hp)(Q:VK)(eL:XK):Prop
 |mk (x:Addr) (p:Str) (n:Nat) (g:Str) (ws ss ls:List Str) (_:vs=[.ref x,.str p,.int (n:Int)]) (_:aY C H x g ws ss ls) (_:p∈ls) (_:g.length ^ n<=100) (_:n<=10) (_:2<=g.length) (_:g.length<=10) (_:∀(l':Addr) (Sl:List Addr) (H':Hp),a9 H H'->H l'=none->cW H' l' Sl (aP g ws ss ls n p)->Q (.ref l') H')
inductive zD(C:Addr)(vs:List V)(H:Hp)(Q:VK)(eL:XK):Prop
 |mk (x:Addr) (n:Nat) (g:Str) (ws ss ls:List Str) (_:vs=[.ref x,.int (n:Int)]) (_:aY C H x g ws ss ls) (_:g.length ^ n<=100) (_:n<=10) (_:2<=g.length) (_:g.length<=10) (_:ss.length<=900) (_:∀(d:Addr) (ev:List (Str×Addr)) (H':Hp),a9 H H'->H d=none->H' d=some (.dK (bI ev))->ev.map (·.1)=ls->(∀m∈ev,H' m.2=some (.lst (((aP g ws ss ls n m.1).map (·.2)).map V.str)))->(∀m∈ev,H m.2=none)->Q (.ref d) H')
inductive GC(K:wa1)(vs:List V)(H:Hp)(Q:VK)(eL:XK):Prop
 |mk (l d es m f) (_:vs=[.ref l,.ref d]) (_:aH K H l (es.map V.str)) (_:es.length<=1000) (_:Rd H d (.dK (bc m))) (_:Gz m es f) (_:∀H',a9 H H'->Q (.int ((es.map f).sum)) H')
end Sx
namespace Bs
open PySem L2 AC
section
variable{g:Str}{ws ss ls:List Str}
theorem BE{α:Type}{a b:α->Int}:∀{l:List α},(∀x∈l,a x<=b x)->(l.map a).sum<=(l.map b).sum
 |[],_=>wdm _
 |x :: l,h=>by
  rw[waw,waw,wbs,wbs];exact Int.add_le_add (h x (wag ..)) (BE λy c=>h y (wac _ c))
theorem sY{α:Type}{a:α->Int}{l:List α}(h:∀x∈l,0<=a x):0<=(l.map a).sum:=by
 have:=BE (a:=λ_=>(0:Int)) (b:=a) h
 have e:∀l:List α,(l.map λ_=>(0:Int)).sum=0:=by
  intro l
  induction l with
  |nil=>rfl
  |cons x l c=>grind
 rw[e]at this;exact this
theorem M6(n:Nat):∀p,0<=gL g ws ss n p:=by
 induction n with
 |zero=>intro p;show (0:Int)<=1;decide
 |succ n a=>intro p;exact sY λe _=>a e
theorem BF(j:ss.Perm (cJ ws "" ws))(hw:∀w∈ws,1<=w.length)(h:p∈ss):bears ws p=false/\lend ss p=p:=by
 have a:("":Str)∈ss:=j.mem_iff.mpr (cP ws);constructor
 ·rcases mem_keys.mp (j.mem_iff.mp h) with z |z
  ·have:p="":=ez (by rw[z];exact(jq rfl).symm);rw[this];exact wH hw
  ·exact(d9 ws p).mpr z.2
 ·refine ez ?_;rw[lP a];have b:Ou ss (ch p)=true:=ju.mpr h;exact Gr (iT _) (iU b (wfd _))
def Fc(g:Str)(ws ss ls:List Str)(many:Int)(n:Nat)(f:Str->Int):Prop:=∀p∈ls,many * f p<=gE g ws ss ls n f p
noncomputable def bZ(f:Str->Int)(ls:List Str):List (Str×Int):=ls.map λp=>(p,f p)
theorem pE(f:Str->Int)(ls:List Str):(bZ f ls).map (·.1)=ls:=by
 unfold bZ;rw[wai];exact List.map_id _
theorem jx(f:Str->Int)(ls:List Str):Gz (bZ f ls) ls f:=λp a=>wM a
theorem Kx{f h:Str->Int}:Sg (bc (bZ f ls)) (bc (bZ h ls))=true↔∀p∈ls,f p=h p:=by
 unfold Sg;rw[iW,iW];have e:(bZ f ls).length=(bZ h ls).length:=by unfold bZ;rw[wa0,wa0]
 rw[e,beq_self_eq_true,wdS];unfold hitsD;rw[waP];constructor
 ·intro q p a;have:=q ((waz p:Key),.int (f p)) (waa.mpr ⟨(p,f p),waa.mpr ⟨p,a,rfl⟩,rfl⟩);have this:(match bz (bc (bZ h ls)) (waz p:Key) with |some y=>pf (.int (f p)) y |none=>false)=true:=this;rw[dH,jx h ls p a]at this;have this:pf (.int (f p)) (.int (h p))=true:=this;unfold pf at this;simpa using this
 ·intro q d b;obtain⟨z,c,rfl⟩:=waa.mp b;obtain⟨p,a,rfl⟩:=waa.mp c;show (match bz (bc (bZ h ls)) (waz p:Key) with |some y=>pf (.int (f p)) y |none=>false)=true;rw[dH,jx h ls p a];show pf (.int (f p)) (.int (h p))=true;rw[q p a];unfold pf;simp
noncomputable def kz(g:Str)(ws ss ls:List Str)(many:Int)(n:Nat)(f:Str->Int)(p:Str):Int:=if gE g ws ss ls n f p / many < f p then gE g ws ss ls n f p / many else f p
theorem GD{n:Nat}{f:Str->Int}(h:∀p∈ls,0<=f p)(p:Str):0<=gE g ws ss ls n f p:=sY λq a=>h _ (cV a)
theorem BG{f h:Str->Int}(e:∀p∈ls,f p<=h p)(p:Str):gE g ws ss ls n f p<=gE g ws ss ls n h p:=BE λq a=>e _ (cV a)
theorem GF(many:Int)(n:Nat)(f:Str->Int)(p:Str):kz g ws ss ls many n f p<=f p:=by
 unfold kz;split <;> omega
theorem GH{f:Str->Int}(j:2<=many)(h:∀p∈ls,0<=f p):∀p∈ls,0<=kz g ws ss ls many n f p:=λp a=>by
 have b:=whp (GD (g:=g) (ws:=ws) (ss:=ss) (n:=n) h p) (show 0<=many by omega);have c:=h p a;unfold kz;split <;> omega
theorem Eo{f h:Str->Int}(l:2<=many)(j:Fc g ws ss ls many n f)(e:∀p∈ls,f p<=h p):∀p∈ls,f p<=kz g ws ss ls many n h p:=λp a=>by
 have b:=j p a;have c:=BG (g:=g) (ws:=ws) (ss:=ss) (n:=n) e p;have d:f p<=gE g ws ss ls n h p / many:=(wfO (by omega)).mpr (by grind);have i:=e p a;unfold kz;split <;> omega
theorem Jt{f:Str->Int}(j:2<=many)(e:∀p∈ls,kz g ws ss ls many n f p=f p):Fc g ws ss ls many n f:=λp a=>by
 have h:=e p a;unfold kz at h
 have b:f p<=gE g ws ss ls n f p / many:=by
  grind
 have:=(wfO (show 0 < many by omega)).mp b;rw[Int.mul_comm]at this;exact this
theorem M7{f:Str->Int}(j:2<=many)(o:∀p∈ls,0<=f p)(e:¬∀p∈ls,kz g ws ss ls many n f p=f p):(ls.map λp=>(kz g ws ss ls many n f p).toNat).sum < (ls.map λp=>(f p).toNat).sum:=by
 have b:∀p∈ls,kz g ws ss ls many n f p<=f p:=λp _=>GF many n f p;have c:=GH (g:=g) (ws:=ws) (ss:=ss) (n:=n) j o;generalize kz g ws ss ls many n f=h at e b c
 have key:∀l:List Str,(∀p∈l,h p<=f p/\0<=h p)->(l.map λp=>(h p).toNat).sum<=(l.map λp=>(f p).toNat).sum/\((∃p∈l,h p≠f p)->(l.map λp=>(h p).toNat).sum < (l.map λp=>(f p).toNat).sum):=by
  intro l
  induction l with
  |nil=>intro _;exact⟨wab _,λ⟨p,a,_⟩=>nomatch a⟩
  |cons x l i=>
   intro hl;obtain⟨m,k⟩:=i λp a=>hl p (wac _ a);obtain⟨r,s⟩:=hl x (wag ..);rw[waw,waw,wbs,wbs];refine⟨by omega,λ⟨p,a,d⟩=>?_⟩;rcases waH.mp a with z |z
   ·rw[z]at d;omega
   ·have:=k ⟨p,z,d⟩;omega
 refine(key ls λp a=>⟨b p a,c p a⟩).2 ?_;apply wf2;intro q;exact e λp a=>wf2 λz=>q ⟨p,a,z⟩
end
end Bs
namespace Sx
open PySem L2 Bs
inductive GI(C:Addr)(vs:List V)(H:Hp)(Q:VK)(eL:XK):Prop
 |mk (x p n g ws ss ls) (_:vs=[.ref x,.str p,.int n]) (_:aY C H x g ws ss ls) (_:p∈ss) (_:g.length<=10) (_:ss.length<=900) (_:0<=n) (_:n<=100000) (_:∀H',a9 H H'->Q (.int (gL g ws ss n.toNat p)) H')
inductive Ep(vs:List V)(H:Hp)(Q:VK)(eL:XK):Prop
 |mk (de dw many n o ev f g ws ss ls) (_:vs=[.ref de,.int many,.ref dw]) (_:H de=some (.frz o (.dK (bI ev)))) (_:ev.map (·.1)=ls) (_:(∀m∈ev,H m.2=some (.lst (((aP g ws ss ls n m.1).map (·.2)).map V.str)))) (_:g.length ^ n<=100) (_:ls.Nodup) (_:ls.length<=900) (_:2<=many) (_:many<=8) (_:Rd H dw (.dK (bc (bZ f ls)))) (_:∀(d:Addr) (H':Hp),a9 H H'->H d=none->H' d=some (.dK (bc (bZ (kz g ws ss ls many n f) ls)))->Q (.ref d) H')
structure gF(g:Str)(ws ss ls:List Str)(many:Int)(n:Nat)(most:Int)(f:Str->Int):Prop where
 nn:∀p∈ls,0<=f p
 le:∀p∈ls,f p<=most
 fit:Fc g ws ss ls many n f
 top:∀h:Str->Int,(∀p∈ls,h p<=most)->Fc g ws ss ls many n h->∀p∈ls,h p<=f p
inductive Ju(C:Addr)(vs:List V)(H:Hp)(Q:VK)(eL:XK):Prop
 |mk (x:Addr) (many:Int) (n:Nat) (most:Int) (g:Str) (ws ss ls:List Str) (_:vs=[.ref x,.int many,.int (n:Int),.int most]) (_:aY C H x g ws ss ls) (_:2<=g.length) (_:g.length<=10) (_:ss.length<=900) (_:fG g.length many n) (_:0<=most) (_:∀(d:Addr) (f:Str->Int) (H':Hp),a9 H H'->H d=none->H' d=some (.dK (bc (bZ f ls)))->gF g ws ss ls many n most f->Q (.ref d) H')
set_option genInjectivity true in
inductive Qq(g:Str)(ws ss:List Str)(many:Int)(n:Nat)(most:Int):V->Prop where
 |some (k:Nat) (a:1<=k) (b:(k:Int)<=most) (c:gL g ws ss (k * n) "" < many ^ k) (d:∀j:Nat,1<=j->j < k->¬gL g ws ss (j * n) "" < many ^ j):Qq g ws ss many n most (.int (k:Nat))
 |none (a:∀j:Nat,1<=j->(j:Int)<=most->¬gL g ws ss (j * n) "" < many ^ j):Qq g ws ss many n most .non
inductive Er(C:Addr)(vs:List V)(H:Hp)(Q:VK)(eL:XK):Prop
 |mk (x many wide most g ws ss ls) (_:vs=[.ref x,.int many,.int wide,.int most]) (_:aY C H x g ws ss ls) (_:g.length<=10) (_:ss.length<=900) (_:fG g.length many wide) (_:0<=most) (_:most<=100) (_:∀v H',a9 H H'->Qq g ws ss many wide.toNat most v->Q v H')
end Sx
namespace Bs
open PySem L2
end Bs
namespace L2
open PySem PySem.Spec PyProof.Rows
section
variable{X:Cx}
theorem BH:d5 X (.type "dict") (λxs H Q=>∃d kvs,xs=[.ref d]/\Rd H d (.dK kvs)/\∀l,H l=none->Q (.ref l) (upd H l (.dK kvs))):=by
 intro a s σ H xs n Q I r h;obtain⟨d,kvs,rfl,hd,q⟩:=h;obtain⟨u,rfl,f⟩:=vals1 r;cases f;obtain⟨c,lo,g,rel,i⟩:=m9 I.aW hd;refine kt_call_dict (knd:=bf X.prog X.w) lo i (by rw[<-rel.length];exact c) λp j k=>?_;have m:=(su (P:=X.prog) (w:=X.w) (H:=H) s.heap I.big);refine⟨.ref s.heap.objs.size,upd H s.heap.objs.size (.dK kvs),I.laid (t':=s.toks) (λb o e=>?_) (wab _) ⟨c,m.2.1,g,rel,j⟩,rfl,q _ (I.aW.fresh (wab _))⟩;exact k.extBut b o (war (wad e)) (wa8 _ e)
end
end L2
namespace Bs
open PySem L2
end Bs
namespace Sx
open PySem L2 Bs
end Sx
namespace Bs
open PySem L2
section
variable{g:Str}{ws ss ls:List Str}
end
end Bs
namespace Sx
open PySem L2 Bs
section
variable{g:Str}{ws ss ls:List Str}{many UY most Ky:Int}{n:Nat}{f f':Str->Int}
theorem gF.D9(G:gF g ws ss ls many n most f)(j:gF g ws ss ls many n Ky f')(h:most<=Ky):∀p∈ls,f p<=f' p:=j.top f (λp a=>wd4 (G.le p a) h) G.fit
theorem gF.one(G:gF g ws ss ls many n most f)(j:gF g ws ss ls many n most f'):∀p∈ls,f p=f' p:=λp a=>Int.le_antisymm (G.D9 j (wdm _) p a) (j.D9 G (wdm _) p a)
end
end Sx
namespace Bs
open PySem L2 AC
section
variable{g:Str}{ws ss:List Str}
theorem Dc(r:Str):r++("":Str)=r:=ez (by rw[aQ,jq (z:="") rfl,waX])
theorem Jv(r:Str):("":Str)++r=r:=ez (by rw[aQ,jq (z:="") rfl,whq])
theorem pF(a b c:Str):a++b++c=a++(b++c):=by grind [ez,aQ,wb9]
noncomputable def M8(g:Str):Nat->List Str
 |0=>[""]
 |n + 1=>(ch g).flatMap λc=>(M8 g n).map λr=>(⟨#[c]⟩:Str)++r
noncomputable def M9(g:Str):Nat->List Str
 |0=>[""]
 |n + 1=>(M9 g n).flatMap λr=>(ch g).map λc=>r++(⟨#[c]⟩:Str)
theorem rN:∀n,M9 g n=M8 g n
 |0=>rfl
 |1=>by
  show ([""]:List Str).flatMap (λr=>(ch g).map λc=>r++(⟨#[c]⟩:Str))=(ch g).flatMap λc=>([""]:List Str).map λr=>(⟨#[c]⟩:Str)++r;rw[List.flatMap_singleton]
  have:∀a:List Nat,(a.map λc=>("":Str)++(⟨#[c]⟩:Str))=a.flatMap λc=>([""]:List Str).map λr=>(⟨#[c]⟩:Str)++r:=by
   intro a
   induction a with
   |nil=>rfl
   |cons c a b=>
    grind [Jv,Dc]
  exact this _
 |n + 2=>by
  show (M9 g (n + 1)).flatMap (λr=>(ch g).map λc=>r++(⟨#[c]⟩:Str))=(ch g).flatMap λc=>(M8 g (n + 1)).map λr=>(⟨#[c]⟩:Str)++r;rw[rN (n + 1)];show ((ch g).flatMap λc=>(M8 g n).map λr=>(⟨#[c]⟩:Str)++r).flatMap (λr=>(ch g).map λc=>r++(⟨#[c]⟩:Str))=_;rw[List.flatMap_assoc];congr 1;funext c;rw[<-rN (n + 1)];show _=((M9 g n).flatMap λr=>(ch g).map λc=>r++(⟨#[c]⟩:Str)).map λr=>(⟨#[c]⟩:Str)++r;rw[rN n,List.map_flatMap,List.flatMap_map];congr 1;funext r;rw[wai];refine wb6 λd _=>?_;exact pF _ _ _
theorem wN(nd:(ch g).Nodup):∀n,(M8 g n).Nodup
 |0=>wb0.mpr ⟨λz=>(nomatch z),wbj⟩
 |n + 1=>by
  show ((ch g).flatMap λc=>(M8 g n).map λr=>(⟨#[c]⟩:Str)++r).Nodup;have l:=wN nd n
  have key:∀f:List Nat,f.Nodup->(f.flatMap λc=>(M8 g n).map λr=>(⟨#[c]⟩:Str)++r).Nodup:=by
   intro f
   induction f with
   |nil=>intro _;exact wbj
   |cons c f i=>
    intro hn;rw[wb0]at hn;rw[wdM];refine wch.mpr ⟨?_,i hn.2,λa ha b m z=>?_⟩
    ·refine wgR _ ?_ l;intro a b j z;have:=congrArg ch z;rw[aQ,aQ]at this;exact j (ez (List.append_cancel_left this))
    ·obtain⟨r,_,rfl⟩:=waa.mp ha;obtain⟨d,hd,k⟩:=wdY.mp m;obtain⟨q,_,rfl⟩:=waa.mp k;have:=congrArg ch z;rw[aQ,aQ,xV,xV]at this
     have e:c=d:=by
      have h:=this;rw[wg3,wg3]at h;exact(wgp h).1
     exact hn.1 (by rw[e];exact hd)
  exact key _ nd
end
end Bs
namespace L2
open PySem PySem.Spec PyProof.Rows
section
variable{X:Cx}
theorem Jw:Qc X .Add (λx y H Q=>∃i j,x=.str i/\y=.str j/\i.length + j.length<=sizeLine/\Q (.str (i++j)) H):=λa s σ H x y v u Q I b c h=>yS a s σ H x y v u Q I b c h
end
end L2
namespace Bs
open PySem L2
end Bs
namespace Sx
open PySem L2 Bs
end Sx
namespace L2
open PySem PySem.Spec PyProof.Rows
section
variable{X:Cx}
def Oz(i j:Int):Prop:=0 < j/\j.natAbs.log2 < 9000
theorem sZ:lX X (binaryOp .FloorDiv) (rI Oz λi j=>.int (i / j)):=Qg λi j _ _ _ _ _ hc q=>by
 have a:(0:Int) < j:=hc.1;exact floordiv_int (by omega) (by grind) (.inl (PyProof.noPylong_of_log2 hc.2))
end
theorem t8(xs:List V)(k:Nat):ji xs (some (k:Int)) none=xs.drop k:=by
 unfold ji HT.yL;simp only;split
 ·omega
 ·by_cases h:k<=xs.length
  ·rw[show min ((k:Int)).toNat xs.length=k by omega];exact wbx (by rw[wbw];exact wab _)
  ·rw[show min ((k:Int)).toNat xs.length=xs.length by omega,wbX,wg4,wdP (by omega)]
theorem Jx(xs:List V){i j:Nat}(h:i<=j):ji xs (some (i:Int)) (some (j:Int))=(xs.drop i).take (j - i):=by
 unfold ji HT.yL;simp only;rw[if_neg (by omega),if_neg (by omega)]
 by_cases a:i<=xs.length
 ·by_cases b:j<=xs.length
  ·rw[show min ((i:Int)).toNat xs.length=i by omega,show min ((j:Int)).toNat xs.length=j by omega]
  ·rw[show min ((i:Int)).toNat xs.length=i by omega,show min ((j:Int)).toNat xs.length=xs.length by omega];rw[wbx (by rw[wbw];exact wab _),wbx (by rw[wbw];omega)]
 ·rw[show min ((i:Int)).toNat xs.length=xs.length by omega,wdP (wab _),wdP (by omega),List.take_nil,List.take_nil]
end L2
namespace Sx
open PySem L2 Bs
inductive GJ(vs:List V)(H:Hp)(Q:VK)(eL:XK):Prop
 |mk (c:Int) (m:Nat) (_:vs=[.int c,.int (m:Int)]) (_:m<=1000) (_:∀(l:Addr) (xs:List Int) (H':Hp),a9 H H'->H l=none->H' l=some (.lst (xs.map V.int))->xs.length=m->Q (.ref l) H')
inductive Jy(K:wa1)(vs:List V)(H:Hp)(Q:VK)(eL:XK):Prop
 |mk (a:Addr) (ns:List Int) (_:vs=[.ref a]) (_:aH K H a (ns.map V.int)) (_:∀(p lw:Addr) (g:Str) (ws:List Str) (H':Hp),a9 H H'->H p=none->H lw=none->H' p=some (.tup [.str g,.ref lw])->H' lw=some (.lst (ws.map V.str))->wx g->ws.length<=6->(∀w∈ws,xX g w)->Q (.ref p) H')
inductive Jz(K:wa1)(vs:List V)(H:Hp)(Q:VK)(eL:XK):Prop
 |mk (a:Addr) (ns:List Int) (g:Str) (_:vs=[.ref a,.str g]) (_:aH K H a (ns.map V.int)) (_:2<=g.length) (_:g.length<=4) (_:∀(p:Addr) (many wide:Int) (H':Hp),a9 H H'->H p=none->H' p=some (.tup [.int many,.int wide])->fG g.length many wide->Q (.ref p) H')
end Sx
namespace L2
open PySem PySem.Spec PyProof.Rows
section
variable{X:Cx}{tg:Expr}
end
end L2
namespace Bs
open PySem L2
section
variable{ws ss:List Str}
noncomputable def addQ(ws ss:List Str)(e:Str)(v:Int)(m:List (Str×Int))(c:Nat):List (Str×Int):=if bears ws (e++⟨#[c]⟩)=true then m else bump m (lend ss (e++⟨#[c]⟩)) v
noncomputable def OA(g:Str)(ws ss:List Str)(m:List (Str×Int))(p:Str×Int):List (Str×Int):=(ch g).foldl (addQ ws ss p.1 p.2) m
noncomputable def Kz(g:Str)(ws ss:List Str):Nat->List (Str×Int)
 |0=>[("",1)]
 |n + 1=>(Kz g ws ss n).foldl (OA g ws ss) []
structure du(ss:List Str)(m:List (Str×Int)):Prop where
 nd:(m.map (·.1)).Nodup
 sh:∀k∈m.map (·.1),k∈ss
theorem du.nil:du ss []:=⟨wbj,λk h=>nomatch h⟩
theorem du.bump(h:du ss m)(g:k∈ss):du ss (bump m k v):=by
 by_cases c:k∈m.map (·.1)
 ·exact⟨by rw[dG,if_pos c];exact h.nd,by rw[dG,if_pos c];exact h.sh⟩
 ·refine⟨?_,?_⟩
  ·rw[dG,if_neg c];exact wch.mpr ⟨h.nd,wb0.mpr ⟨λz=>(nomatch z),wbj⟩,λa ha b d z=>c (by rw[<-wao.mp d,<-z];exact ha)⟩
  ·rw[dG,if_neg c];intro j e;rcases waA.mp e with z |z
   ·exact h.sh j z
   ·rw[wao.mp z];exact g
theorem du.add(g:("":Str)∈ss)(h:du ss m):du ss (addQ ws ss e v m c):=by
 unfold addQ;split
 ·exact h
 ·exact h.bump (sQ g _)
theorem du.fold(g:("":Str)∈ss):∀{cs:List Nat} {m:List (Str×Int)},du ss m->du ss (cs.foldl (addQ ws ss e v) m)
 |[],m,h=>h
 |c :: cs,m,h=>du.fold (cs:=cs) g (h.add g)
theorem du.steps(j:("":Str)∈ss):∀{hs m:List (Str×Int)},du ss m->du ss (hs.foldl (OA g ws ss) m)
 |[],m,h=>h
 |p :: hs,m,h=>du.steps (hs:=hs) j (du.fold j h)
theorem du.here(j:("":Str)∈ss):∀n,du ss (Kz g ws ss n)
 |0=>⟨wb0.mpr ⟨λz=>(nomatch z),wbj⟩,λk a=>by
   rw[wao.mp a]
   exact j⟩
 |n + 1=>du.steps j du.nil
theorem du.len(h:du ss m):m.length<=ss.length:=by
 have:=hX h.nd h.sh;rw[wa0]at this;exact this
end
end Bs
namespace Sx
open PySem L2 Bs
end Sx
namespace L2
open PySem PySem.Spec PyProof.Rows
section
variable{M:Model}{A:Around}{E:Value->Shared->Prop}{e C CB:Addr}{nm q:Str}{N:Addr}{bs:List Value}{hdct:Bool}{sn:List Str}{sub:List Value}{ab:Bool}{col:Option Bool}{dd:Option Addr}{k0 k1 k2 k3 k5:Option Value}
theorem qt{h:Heap}{g:Array wcX}{d:Drawn}{t:Nat}{os:wbJ}{o:Obj}{Q:Bool->Shared->Prop}(l:h.get? C=some (wbf nm q C N bs (jM CB) hdct sn sub ab col dd k0 k1 k2 k3 k5 "ValueError.__new__"))
 (p:h.get? e=some o) (j:o.cls=.ref C) (r:Q true ⟨h,g,d,t,os⟩) :
 wpAny M A (wej (.ref e) (.ref C)) Q E ⟨h,g,d,t,os⟩:=by
 have a:(waf C :: jM CB).contains (.type "BaseException")=true:=by grind
 have b:(waf C :: jM CB).contains (.ref C)=true:=by grind
 have f:=wh3;unfold wej
 repeat (first |(with_reducible refine waW p ?_;rw[j]) |with_reducible refine waW l ?_ |(with_reducible refine wbq l ?_;rw[b]) |(with_reducible refine wbq l ?_;rw[a]) |wp_step)
 exact r
end
section
variable{X:Cx}{CB C:Addr}{OB x nm:Str}{b:Bool}{body:List Stmt}{tb:Il}{i jj:Nat}{p1 p2 p3 p4 Jh pos:Pos}
theorem GK{X:Cx}{K:wa1}{o e:Expr}{l:List Expr}{to:TE}{t:TA}{name:Str}{apos g:Pos}{T id:String}{r:V->List V->Hp->VK->Prop}(hK:X.K=K)(pa:wgb T)(slot:Slot T name id)(U:typeOf (.builtin id)=pure (.type "method_descriptor"))(hm:Kp X id r)(ho:PE X o to)(ha:PA X (e :: l) t)
 (p:wci o name X.env (eval o X.env)=eval o X.env:=by rfl)
 (J:((backTo g (starEach (e :: l) X.env)).all (λx=>!x.1) && (backToKw g (wdk [] X.env)).all (λx=>x.1.isSome)
   && decide ((e :: l).length + ([]:List wf4).length + (if ([]:List wf4).isEmpty then 0 else 1) < 30))=true:=by rfl)
 (I:(apos.endLine == g.line)=true:=by rfl) (hs:starEach (e :: l) X.env=(false,eval e X.env) :: starEach l X.env:=by rfl) (j:(backTo g (starEach l X.env)).any (·.1)=false:=by rfl) :
 PE X (.Call (.Attribute o name apos) (e :: l) [] g) (Ut K T r to t):=by
 subst hK;exact iP pa slot U hm ho ha p J I hs j
end
end L2
namespace Bs
open PySem L2
section
variable{g:Str}{ws ss:List Str}
structure Sn(g r r':Str)(k c d:Nat):Prop where
 eq:∀m,m < k->(ch r)[m]?=(ch r')[m]?
 hc:(ch r)[k]?=some c
 hd:(ch r')[k]?=some d
 lt:∃i j:Nat,(ch g)[i]?=some c/\(ch g)[j]?=some d/\i < j
theorem Sn.cons(h:Sn g r j k c d)(e:Nat):Sn g ((⟨#[e]⟩:Str)++r) ((⟨#[e]⟩:Str)++j) (k + 1) c d:=by
 have a:∀z:Str,ch ((⟨#[e]⟩:Str)++z)=e :: ch z:=λz=>by rw[aQ,xV];rfl
 refine⟨λm b=>?_,?_,?_,h.lt⟩
 ·rw[a,a]
  cases m with
  |zero=>rfl
  |succ m=>exact h.eq m (by omega)
 ·rw[a];exact h.hc
 ·rw[a];exact h.hd
structure eR(H:Hp)(de:Addr)(g:Str)(ws ss:List Str)(ev:List (Str×Addr)):Prop where
 at_:H de=some (.dK (bI ev))
 nd:(ev.map (·.1)).Nodup
 sh:∀k∈ev.map (·.1),k∈ss
 row:∀m∈ev,H m.2=some (.lst ((eP g ws ss m.1).map V.str))
theorem eR.ne(h:eR H o g ws ss j)(hd:H l=some (.dK p)):∀m∈j,m.2≠l:=by grind [cases eR]
theorem eR.len(h:eR H l g ws ss j):j.length<=ss.length:=by
 have:=hX h.nd h.sh;rw[wa0]at this;exact this
theorem eR.keep(h:eR H l g ws ss r)(hd:H p=some (.dK I))(j:l≠p)(k:∀c o,H c=some o->c≠p->C c=some o):eR C l g ws ss r:=
 ⟨k _ _ h.at_ j,h.nd,h.sh,λm a=>k _ _ (h.row m a) (h.ne hd m a)⟩
theorem eR.same(h:eR H j g ws ss l)(s:a9 H o):eR o j g ws ss l:=⟨s _ _ h.at_,h.nd,h.sh,λm a=>s _ _ (h.row m a)⟩
theorem eR.put(h:eR H j g ws ss l)(o:p∈ss)(hn:p∉l.map (·.1))(ha:H a=some (.lst ((eP g ws ss p).map V.str))):eR (upd H j (.dK (putK (bI l) (waz p:Key) (.ref a)))) j g ws ss (l++[(p,a)]):=by
 refine⟨?_,?_,?_,?_⟩
 ·rw[a6,cI _ (jr hn)];unfold bI;rw[waj];rfl
 ·rw[waj];exact wch.mpr ⟨h.nd,wb0.mpr ⟨λz=>(nomatch z),wbj⟩,λy d b f z=>hn (by have e:b=p:=wao.mp f;rw[<-e,<-z];exact d)⟩
 ·intro k c;rw[waj]at c;rcases waA.mp c with z |z
  ·exact h.sh k z
  ·rw[wao.mp z];exact o
 ·intro m i;rcases waA.mp i with z |z
  ·rw[aa (h.ne h.at_ m z)];exact h.row m z
  ·have:m=(p,a):=by simpa using z
   subst this;have:a≠j:=λz=>by rw[z,h.at_]at ha;cases ha
   rw[aa this];exact ha
end
end Bs
namespace Sx
open PySem L2 Bs
end Sx
namespace L2
open PySem PySem.Spec PyProof.Rows
section
variable{prog:wat}{w:World}{A:Around}{R:wcR->Shared->Prop}{s:Shared}{d it l t:Addr}{i:Nat}{items:Array Value}
end
section
variable{prog:wat}{w:World}{K:Type}[DecidableEq K]{knd:KeyKind prog w K}{A:Around}{E:Value->Shared->Prop}{s:Shared}{l:Addr}{o:Obj}{items:Array Value}{n:Nat}
end
section
variable{X:Cx}{A:Around}{pins:List (Addr×Obj)}{σ:St}{H:Hp}{d it l:Addr}{ts:List Addr}{ps:List (Key×V)}{R:wcR->Shared->Prop}
end
end L2
namespace Bs
open PySem L2
end Bs
namespace Sx
open PySem L2 Bs
end Sx
namespace L2
open PySem PySem.Spec PyProof.Rows
section
variable{X:Cx}
end
end L2
namespace Bs
open PySem L2
section
variable{g:Str}{ws ss ss':List Str}
end
noncomputable def isInt:V->Bool
 |.int _=>true
 |_=>false
end Bs
namespace Sx
open PySem L2 Bs
inductive GL(vs:List V)(H:Hp)(Q:VK)(eL:XK):Prop
 |mk (v) (_:vs=[v]) (_:Thing H v) (_:Q (.bl (isInt v)) H)
end Sx
namespace L2
open PySem PySem.Spec PyProof.Rows
noncomputable def rP:List Expr->Option (List Int)
 |[]=>some []
 |.Constant (.int i) _ _ :: es=>(rP es).map (i :: ·)
 |_ :: _=>none
def KA:List Int->TA
 |[]=>Fy
 |i :: is=>yU (tC (.int i)) (KA is)
theorem nR{X:Cx}:∀{g:List Expr} {is:List Int},rP g=some is->PA X g (KA is)
 |[],is,h=>by
  obtain rfl:[]=is:=wah h;exact a8
 |e :: g,is,h=>by
  unfold rP at h;split at h
  ·rename_i heq;exact nomatch heq
  ·rename_i i j p a heq;cases heq
   cases q:rP g with
   |none=>rw[q]at h;cases h
   |some b=>
    rw[q]at h;obtain rfl:=wah h;exact a5 ai (nR q)
  ·cases h
def tf:List (Int×Int)->TA
 |[]=>Fy
 |p :: ps=>yU (NQ (yU (tC (.int p.1)) (yU (tC (.int p.2)) Fy))) (tf ps)
theorem JA{X:Cx}{ps:List (Int×Int)}(h:PA X g (tf ps)):PA X (.Tuple [.Constant (.int i) l o,.Constant (.int j) p r] C pt :: g) (tf ((i,j) :: ps)):=a5 (dP (a5 ai (a5 ai a8))) h
theorem Dd{σ:St}:∀{ps:List (Int×Int)} {H Q},(∀g j,a9 H g->j.length=ps.length->(∀(i:Nat) p,ps[i]?=some p->∃q,j[i]?=some (.ref q)/\g q=some (.tup [.int p.1,.int p.2]))->Q j g)->tf ps σ H Q
 |[],H,_,k=>k H [] (a9.refl _) rfl λ_ _ h=>nomatch h
 |_ :: _,_,_,k=>⟨(by show 2<=sizeLine;decide),λq f=>Dd λg j s e a=>k g (.ref q :: j) ((a9.upd f).trans s) (congrArg (· + 1) e) λ
  |0,_,h=>⟨q,rfl,by cases h;exact s _ _ a6⟩
  |i + 1,p,h=>a i p h⟩
set_option genInjectivity true in
inductive jN where
 |at (v:V)
 |tup (ds:List jN)
 |lst (ds:List jN)
noncomputable def Ma:V->Bool
 |.non=>true
 |.bl _=>true
 |.int _=>true
 |.str _=>true
 |_=>false
mutual
def bC(K:wa1)(H:Hp):jN->V->Prop
 |.at x,v=>v=x/\Ma x=true
 |.tup ds,v=>∃a xs,v=.ref a/\H a=some (.tup xs)/\b6 K H ds xs
 |.lst ds,v=>∃a xs,v=.ref a/\Rd H a (.lst xs)/\b6 K H ds xs
def b6(K:wa1)(H:Hp):List jN->List V->Prop
 |[],xs=>xs=[]
 |d :: ds,xs=>∃v vs,xs=v :: vs/\bC K H d v/\b6 K H ds vs
end
section
variable{K:wa1}{H:Hp}
end
section
variable{X:Cx}{pins:List (Addr×Obj)}{σ:St}{H:Hp}{s:Shared}
end
end L2
namespace L2
open PySem PySem.Spec PyProof.Rows Sx
section
variable{X:Cx}
end
end L2
namespace Bs
open PySem L2 AC
section
variable{g:Str}{ws ss ls:List Str}{p:Str}
noncomputable def kd(ws ss:List Str)(p:Str)(r:Str):Option (Str×Str):=if bears ws (p++r)=true then none else some (r,lend ss (p++r))
theorem GN(h:bears ws (p++a)=true):kd ws ss p (a++c)=none:=by
 unfold kd;rw[if_pos]
 cases e:bears ws (p++(a++c)) with
 |true=>rfl
 |false=>
  have:=wG (a:=p++a) (b:=p++(a++c)) (by rw[<-pF,aQ (p++a) c];exact⟨[],ch c,by simp⟩) e;rw[h]at this;cases this
theorem tj{α β:Type}{f:α->Option β}:∀{l:List α},(∀a∈l,f a=none)->l.filterMap f=[]:=by intro l;induction l <;> grind [wag,wac]
theorem wO(j:ss.Perm (cJ ws "" ws))(hw:∀w∈ws,1<=w.length)(h:bears ws (p++r)=false):∀cs:List Nat,(cs.filterMap λc=>if bears ws (lend ss (p++r)++⟨#[c]⟩)=true then none else some (r++(⟨#[c]⟩:Str),lend ss (lend ss (p++r)++(⟨#[c]⟩:Str))))=(cs.map λc=>r++(⟨#[c]⟩:Str)).filterMap (kd ws ss p)
 |[]=>rfl
 |c :: cs=>by
  rw[waw,wbk,wbk,wO j hw h cs]
  have e:(if bears ws (lend ss (p++r)++⟨#[c]⟩)=true then none else some (r++(⟨#[c]⟩:Str),lend ss (lend ss (p++r)++(⟨#[c]⟩:Str))))=kd ws ss p (r++⟨#[c]⟩):=by
   unfold kd;rw[Bq j h hw,Ed j h,pF]
  rw[e]
theorem zE(j:ss.Perm (cJ ws "" ws))(hw:∀w∈ws,1<=w.length):∀L:List Str,eQ g ws ss (L.filterMap (kd ws ss p))=(L.flatMap λr=>(ch g).map λc=>r++(⟨#[c]⟩:Str)).filterMap (kd ws ss p)
 |[]=>rfl
 |r :: L=>by
  rw[wdM,wg5,<-zE j hw L,wbk]
  cases h:bears ws (p++r) with
  |true=>
   have e:kd ws ss p r=none:=by unfold kd;rw[if_pos h]
   rw[e,tj (l:=(ch g).map λc=>r++(⟨#[c]⟩:Str)) λa ha=>by grind [GN]];rfl
  |false=>
   have e:kd ws ss p r=some (r,lend ss (p++r)):=by unfold kd;rw[if_neg (by rw[h];exact waq)]
   rw[e,<-wO j hw h];exact wdM ..
theorem zF(l:ss.Perm (cJ ws "" ws))(hw:∀w∈ws,1<=w.length)(j:p∈ss):∀n,sV g ws ss p n=(M9 g n).filterMap (kd ws ss p)
 |0=>by
  obtain⟨b,a⟩:=BF l hw j;show [(("":Str),p)]=[("":Str)].filterMap (kd ws ss p);have e:kd ws ss p ""=some (("":Str),p):=by unfold kd;rw[Dc,a,if_neg (by grind)]
  rw[wbk,e];rfl
 |n + 1=>by
  show eQ g ws ss (sV g ws ss p n)=((M9 g n).flatMap λr=>(ch g).map λc=>r++(⟨#[c]⟩:Str)).filterMap (kd ws ss p);rw[zF l hw j n,zE l hw]
noncomputable def JB(ws ss ls:List Str)(p:Str)(r:Str):Option (Str×Str):=if bears ws (p++r)=true then none else if lend ss (p++r)∈ls then some (r,lend ss (p++r)) else none
theorem BI(l:ss.Perm (cJ ws "" ws))(hw:∀w∈ws,1<=w.length)(j:p∈ss)(n:Nat):(M9 g n).filterMap (JB ws ss ls p)=aP g ws ss ls n p:=by
 unfold aP;rw[zF l hw j]
 have:∀L:List Str,L.filterMap (JB ws ss ls p)=(L.filterMap (kd ws ss p)).filter λq=>decide (q.2∈ls):=by
  intro L
  induction L with
  |nil=>rfl
  |cons r L a=>
   rw[wbk,wbk,a];unfold JB kd
   cases h:bears ws (p++r) with
   |true=>rfl
   |false=>
    rw[if_neg waq,if_neg waq]
    by_cases hl:lend ss (p++r)∈ls
    ·rw[if_pos hl,wbb (by exact decide_eq_true hl)]
    ·rw[if_neg hl,wbl (by simpa using hl)]
 exact this _
end
end Bs
namespace L2
open PySem Bs
end L2
namespace Sx
open PySem L2 Bs
end Sx
namespace L2
open PySem PySem.Spec PyProof.Rows Sx
section
variable{X:Cx}
end
theorem b6.pG{K:wa1}{H:Hp}:∀(g:List jN) (ys:List V),g.length=ys.length->(∀(i:Nat) (d:jN) (y:V),g[i]?=some d->ys[i]?=some y->bC K H d y)->b6 K H g ys
 |[],[],_,_=>rfl
 |[],_ :: _,h,_=>by simp at h
 |_ :: _,[],h,_=>by simp at h
 |d :: g,y :: ys,h,r=>⟨y,ys,rfl,r 0 d y rfl rfl,b6.pG g ys (by simpa using h) λi a b c e=>r (i + 1) a b c e⟩
theorem zG{Ok:Hp->Prop}{Q:Hp->Prop}(R:Nat->V->Hp->Prop)(I:∀i y T g ys,R i y T->T l=some (.lst ys)->(∀b o,T b=some o->b≠l->g b=some o)->R i y g)(U:lY J Ok xs)(hl:H l=none)(hz:xs.length<=sizeLine)(r:∀p,a9 H p->Ok p)
 (he:∀i x C ys Q',xs[i]?=some x->a9 H C->C l=some (.lst ys)->(∀y p,a9 C p->R i y p->Q' y p)->te (some x :: σf) C Q')
 (hd:∀ys p,a9 H p->p l=some (.lst ys)->ys.length=xs.length->(∀i y,ys[i]?=some y->R i y p)->Q p):md J l σf vh te H Q:=by
 refine⟨λi m a g=>m=xs.length - i/\i<=xs.length/\a9 H g/\g l=some (.lst a)/\a.length=i/\∀j y,a[j]?=some y->R j y g,⟨xs.length,by simp,waM _,a9.upd hl,a6,rfl,λj y h=>by simp at h⟩,?_⟩;rintro i m a g ⟨rfl,hi,f,k,c,A⟩;refine⟨k,?_⟩
 by_cases d:i < xs.length
 ·refine .inr ⟨U.go i g (r _ f) d,by rw[c];omega,λx C y=>?_⟩;obtain⟨e,B⟩:=U.uW i g x C (r _ f) d y;subst e;unfold vh;dsimp only;rw[if_pos rfl];refine he i x _ a _ B f k λy s t u=>⟨t _ _ k,xs.length - (i + 1),by omega,rfl,d,λb o e=>?_,a6,by rw[wa7,c];rfl,λj z n=>?_⟩
  ·rw[aa (ae e hl)];exact t _ _ (f _ _ e)
  ·have q:=t _ _ k;have kp:∀b o,s b=some o->b≠l->(upd s l (.lst (a++[y]))) b=some o:=λb o e D=>by rw[aa D];exact e
   by_cases v:j < a.length
   ·rw[waE v]at n;exact I j z s _ _ (I j z _ _ _ (A j z n) k λb o e _=>t _ _ e) q kp
   ·rw[waF (by omega)]at n
    have w:j - a.length=0:=by
     have:=(wa6.mp n).1;simp at this;omega
    rw[w]at n;cases n;have:j=i:=by omega
    rw[this];exact I i y s _ _ u q kp
 ·have e:i=xs.length:=by omega
  subst e;exact .inl ⟨U.stop g (r _ f),hd a g f k c A⟩
section
variable{X:Cx}
theorem Es{K:wa1}(J:X.K=K):Kp X "list.index" (λx xs H Q=>∃l g k i,x=.ref l/\xs=[.str k]/\aH K H l (wcZ V.str g)/\g.length<=1000/\g[i]?=some k/\(∀j:Nat,j < i->g[j]?≠some k)/\Q (.int (i:Nat)) H):=by
 subst J;intro A s σ H x xs v U Q I E G h;obtain⟨l,g,k,i,rfl,rfl,L,M,hi,f,q⟩:=h;cases E;obtain⟨u,rfl,N,rfl⟩:=G.one;obtain⟨a,B,pl,Y⟩:=I.list L;obtain⟨⟨cls,O,data,sl⟩,C,hc,n,hd⟩:=pl.isList;simp only at hc hd;subst hc hd;have c:=B.length;rw[wa0]at c;have P:i < g.length:=(wa6.mp hi).1
 have at_:∀m (b:m < a.length),∃t,a[m]=.str (g[m]'(by omega)) t:=λm b=>by
  obtain⟨w,D,R⟩:=B.get (i:=m) (x:=.str (g[m]'(by omega))) (by rw[wa4,wa2 (by omega)];rfl);rw[wa2 b]at D;obtain⟨t,rfl⟩:=R;exact⟨t,wah D⟩
 refine wee wcK ⟨_,C,rfl⟩ wfe (wf3 _ _)
  (wff l a.toArray n O sl (.str k N) (λw=>match w with |.str z _=>z == k |_=>false) i (by simp;omega) (by omega) ?_ ?_) ⟨C,λy S=>?_,?_⟩
 ·obtain⟨t,e⟩:=at_ i (by omega);have T:g[i]=k:=(wa6.mp hi).2;simp only[wdg];rw[e,T];simp
 ·intro m b o;have p:m < a.length:=by simpa using b
  obtain⟨t,e⟩:=at_ m p;simp only[wdg];rw[e];have d:=f m o;rw[wa2 (by omega)]at d;simp only[beq_eq_false_iff_ne,ne_eq];exact λz=>d (by rw[z])
 ·have r:y∈a:=by simpa using S
  obtain⟨m,b,rfl⟩:=wbQ r;obtain⟨t,e⟩:=at_ m b;rw[e];exact wfW _ _ _ _
 ·exact⟨.int (i:Nat),H,I.tok _,⟨_,rfl⟩,q⟩
end
end L2
namespace L2
open PySem PySem.Spec PyProof.Rows Sx Bs
theorem nT(s:a9 H g)(h:Rd H a o):Rd g a o:=by
 rcases h with e |⟨z,e⟩
 ·exact .inl (s _ _ e)
 ·exact .inr ⟨z,s _ _ e⟩
theorem a9.JC{K:wa1}{H g:Hp}{a:Addr}{xs:List V}(s:a9 H g)(h:ir K H a xs):ir K g a xs:=by
 rcases h with e |e
 ·exact .inl (nT s e)
 ·exact .inr e
mutual
theorem bC.same{K:wa1}{H g:Hp}(s:a9 H g):∀(d:jN) (v:V),bC K H d v->bC K g d v
 |.at _,_,h=>h
 |.tup c,_,h=>by
  obtain⟨a,b,e,f,hl⟩:=h;exact⟨a,b,e,s _ _ f,b6.same s c b hl⟩
 |.lst c,_,h=>by
  obtain⟨a,b,e,f,hl⟩:=h;exact⟨a,b,e,nT s f,b6.same s c b hl⟩
theorem b6.same{K:wa1}{H j:Hp}(s:a9 H j):∀(g:List jN) (xs:List V),b6 K H g xs->b6 K j g xs
 |[],_,h=>h
 |d :: g,_,h=>by
  obtain⟨v,a,e,b,hl⟩:=h;exact⟨v,a,e,bC.same s d v b,b6.same s g a hl⟩
end
theorem b6.len{K:wa1}{H:Hp}:∀{g:List jN} {xs:List V},b6 K H g xs->xs.length=g.length
 |[],xs,h=>by
  have e:xs=[]:=h;subst e;rfl
 |d :: g,_,h=>by
  obtain⟨v,a,rfl,_,hl⟩:=h;rw[waK,waK,b6.len hl]
theorem b6.get{K:wa1}{H:Hp}:∀{g:List jN} {xs:List V},b6 K H g xs->∀(i:Nat) (x:V),xs[i]?=some x->∃d,g[i]?=some d/\bC K H d x
 |[],_,h,i,x,e=>by
  rw[show _=[] from h]at e;simp at e
 |d :: g,_,h,i,x,e=>by
  obtain⟨v,a,rfl,b,hl⟩:=h
  cases i with
  |zero=>grind
  |succ i=>exact b6.get hl i x e
theorem b6.at{K:wa1}{H:Hp}{g:List jN}{xs:List V}(h:b6 K H g xs){i:Nat}{d:jN}(e:g[i]?=some d):∃x,xs[i]?=some x/\bC K H d x:=by
 have hi:i < g.length:=(wa6.mp e).1;have a:xs[i]?=some (xs[i]'(by rw[h.len];exact hi)):=wa2 _;obtain⟨c,b,r⟩:=h.get i _ a;rw[e]at b;cases b;exact⟨_,a,r⟩
noncomputable def aG(H H':Hp):Hp:=λa=>match H a with
 |none=>H' a
 |some _=>none
theorem cm(H g:Hp):a9 (aG H g) g:=λa o e=>by
 grind [aG]
theorem dI(s:a9 g H):a9 (aG H j) (aG g j):=λa o e=>by
 unfold aG at e ⊢
 cases h:H a with
 |none=>rw[h]at e;rw[none_of s h];exact e
 |some z=>rw[h]at e;cases e
theorem hZ(s:a9 g j):a9 (aG H g) (aG H j):=by grind [a9,aG]
theorem bD(hl:H l=some o)(kp:∀b o,g b=some o->b≠l->j b=some o):a9 (aG H g) (aG H j):=by grind [a9,aG]
theorem bN(h:H a=none)(e:g a=some o):aG H g a=some o:=by
 grind [aG]
theorem tm{K:wa1}{J:It}{Ok:Hp->Prop}{xs:List V}{l:Addr}{C:St}{te:TE}{H:Hp}{Q:Hp->Prop}(p:List jN)(hJ:lY J Ok xs)(hl:H l=none)(hz:xs.length<=sizeLine)(I:p.length=xs.length)(T:∀g,a9 H g->Ok g)
 (he:∀(i:Nat) (x:V) (d:jN) j U,xs[i]?=some x->p[i]?=some d->a9 H j->(∀y g,a9 j g->bC K (aG j g) d y->U y g)->te (some x :: C) j U)
 (hd:∀g,a9 H g->bC K (aG H g) (.lst p) (.ref l)->Q g):md J l C vh te H Q:=by
 refine zG (λi y g=>∀d,p[i]?=some d->∃j o,a9 H j/\j l=some o/\bC K (aG j g) d y) ?_ hJ hl hz T (λi x j f U k b c m=>?_) (λf g h n e q=>?_)
 ·intro i y u v f r s kp d a;obtain⟨j,o,b,c,r⟩:=r d a;exact⟨j,o,b,c,bC.same (bD c kp) d y r⟩
 ·have hi:i < p.length:=by rw[I];exact(wa6.mp k).1
  refine he i x p[i] j _ k (wa2 hi) b λy g h r=>m y g h λd a=>?_;rw[wa2 hi]at a;cases a;exact⟨j,_,b,c,r⟩
 ·refine hd g h ⟨l,f,rfl,.inl (bN hl n),b6.pG p f (by rw[I,e]) λi d y a t=>?_⟩;obtain⟨j,o,b,c,r⟩:=q i y t d a;exact bC.same (dI b) d y r
theorem lR{K:wa1}{J:It}{Ok:Hp->Prop}{xs:List V}{prs:List (V×V)}{l:Addr}{T:St}{tt:TT}{te:TE}{H:Hp}{Q:Hp->Prop}(p:V×V->Bool)(D:V×V->jN)(hJ:lY J Ok xs)(I:xs.length=prs.length)
 (hT:∀(i:Nat) (q:V×V),prs[i]?=some q->∃r,xs[i]?=some (.ref r)/\ir K H r [q.1,q.2]) (hl:H l=none) (hz:xs.length<=sizeLine) (U:∀C,a9 H C->Ok C)
 (ht:∀q g Q',q∈prs->a9 H g->(∀C,a9 g C->Q' (p q) C)->tt (some q.1 :: some q.2 :: T) g Q')
 (he:∀q g Q',q∈prs->p q=true->a9 H g->(∀y C,a9 g C->bC K (aG g C) (D q) y->Q' y C)->te (some q.1 :: some q.2 :: T) g Q')
 (hd:∀C,a9 H C->bC K (aG H C) (.lst ((prs.filter p).map D)) (.ref l)->Q C):jw K J l T tt te H Q:=by
 refine⟨λi m c s=>m=xs.length - i/\i<=xs.length/\a9 H s/\s l=some (.lst c)/\c.length=((prs.take i).filter p).length/\∀(j:Nat) (d:jN) (y:V),(((prs.take i).filter p).map D)[j]?=some d->c[j]?=some y->∃g o,a9 H g/\g l=some o/\bC K (aG g s) d y,
  ⟨xs.length,by simp,waM _,a9.upd hl,a6,by simp,λj d y h=>by simp at h⟩,?_⟩
 rintro i m c s ⟨rfl,hi,k,L,f,S⟩;refine⟨L,?_⟩
 by_cases n:i < xs.length
 ·have hfl:((prs.take i).filter p).length<=i:=wal (wbi _ _) (by rw[wau];omega);refine .inr ⟨hJ.go i s (U _ k) n,by omega,λx g y=>?_⟩;obtain⟨e,hx⟩:=hJ.uW i s x g (U _ k) n y;subst e;have X:prs[i]?=some prs[i]:=wa2 (by omega);obtain⟨r,w,hr⟩:=hT i _ X;rw[hx]at w;cases w;have mem:prs[i]∈prs:=waQ _;have Y:prs.take (i + 1)=prs.take i++[prs[i]]:=by rw[wb1,X];rfl
  refine⟨r,prs[i].1,prs[i].2,rfl,k.JC hr,ht prs[i] _ _ mem k λZ u=>?_⟩
  have A:∀(j:Nat) (d:jN) (y:V),(((prs.take i).filter p).map D)[j]?=some d->c[j]?=some y->∃g o,a9 H g/\g l=some o/\bC K (aG g Z) d y:=λj d y h1 h3=>by
   obtain⟨M,o,B,h5,N⟩:=S j d y h1 h3;exact⟨M,o,B,h5,bC.same (hZ u) d y N⟩
  cases O:p prs[i] with
  |false=>
   rw[if_neg waq];have E:(prs.take (i + 1)).filter p=(prs.take i).filter p:=by rw[Y,wbo];simp[O]
   exact⟨xs.length - (i + 1),by omega,rfl,n,k.trans u,u _ _ L,by rw[E];exact f,by rw[E];exact A⟩
  |true=>
   rw[if_pos rfl];have E:(prs.take (i + 1)).filter p=(prs.take i).filter p++[prs[i]]:=by rw[Y,wbo];simp[O]
   have v:=u _ _ L;refine he prs[i] _ _ mem O (k.trans u) λy M B N=>⟨B _ _ v,xs.length - (i + 1),by omega,rfl,n,λb o e=>?_,a6,by rw[E,wa7,wa7,f];rfl,λj d z t a=>?_⟩
   ·rw[aa (ae e hl)];exact B _ _ (u _ _ (k _ _ e))
   ·have kp:∀b o,M b=some o->b≠l->(upd M l (.lst (c++[y]))) b=some o:=λb o e hb=>by rw[aa hb];exact e
    rw[E,waj]at t;have P:(((prs.take i).filter p).map D).length=c.length:=by rw[wa0,f]
    by_cases R:j < c.length
    ·rw[waE (by omega)]at t;rw[waE R]at a;obtain⟨H6,o,s6,h6,r6⟩:=A j d z t a;exact⟨H6,o,s6,h6,bC.same ((hZ B).trans (bD h6 kp)) d z r6⟩
    ·rw[waF (by omega)]at t a
     have F:j - c.length=0:=by
      have:=(wa6.mp a).1;simp at this;omega
     rw[P,F]at t;rw[F]at a;cases t;cases a;exact⟨Z,_,k.trans u,v,bC.same (bD v kp) _ _ N⟩
 ·have e:i=xs.length:=by omega
  subst e;refine .inl ⟨hJ.stop s (U _ k),hd s k ⟨l,c,rfl,.inl (bN hl L),b6.pG _ c ?_ λj d y t hy=>?_⟩⟩
  ·rw[I,waI]at f;rw[wa0,f]
  ·have G:=S j d y;rw[I,waI]at G;obtain⟨g,o,s3,h3,r3⟩:=G t hy;exact bC.same (dI s3) d y r3
noncomputable def eS(H:Hp)(x:Addr):Hp:=λd=>if d=x then none else H d
theorem fI(h:H d=some o)(hd:d≠x):eS H x d=some o:=by
 unfold eS;rw[if_neg hd];exact h
theorem fU(kp:∀b o,H b=some o->b≠x->g b=some o):a9 (eS H x) g:=λd o e=>by
 unfold eS at e
 by_cases hd:d=x
 ·grind
 ·grind
theorem Mb(j:H x=some (.ins C g fs))(h:Rd H d o)(l:∀z,o≠.ins C g z)(p:∀a b,HO.frz a b≠.ins C g fs):Rd (eS H x) d o:=by grind [Rd,eS,fI,wah]
theorem y3{K:wa1}{H:Hp}{x C g:Addr}{fs:List (Str×V)}(j:H x=some (.ins C g fs)){d:Addr}{ys:List V}(h:aH K H d ys):aH K (eS H x) d ys:=by
 rcases h with(e |⟨o,e⟩) |e
 ·exact .inl (.inl (fI e λz=>by grind))
 ·exact .inl (.inr ⟨o,fI e λz=>by grind⟩)
 ·exact .inr e
mutual
theorem bC.off{K:wa1}{H:Hp}{x C j:Addr}{fs:List (Str×V)}(g:H x=some (.ins C j fs)):∀(d:jN) (v:V),bC K H d v->bC K (eS H x) d v
 |.at _,_,h=>h
 |.tup c,_,h=>by
  obtain⟨a,b,e,f,hl⟩:=h;exact⟨a,b,e,fI f (λz=>by grind),b6.off g c b hl⟩
 |.lst c,_,h=>by
  obtain⟨a,b,e,f,hl⟩:=h;exact⟨a,b,e,Mb g f (λ_ z=>by cases z) (λ_ _ z=>by cases z),b6.off g c b hl⟩
theorem b6.off{K:wa1}{H:Hp}{x C l:Addr}{fs:List (Str×V)}(j:H x=some (.ins C l fs)):∀(g:List jN) (xs:List V),b6 K H g xs->b6 K (eS H x) g xs
 |[],_,h=>h
 |d :: g,_,h=>by
  obtain⟨v,a,e,b,hl⟩:=h;exact⟨v,a,e,bC.off j d v b,b6.off j g a hl⟩
end
theorem gW{K:wa1}{H:Hp}{d:jN}{v:V}:∀{g:List jN} {xs:List V},b6 K H g xs->bC K H d v->b6 K H (g++[d]) (xs++[v])
 |[],xs,h,r=>by
  have e:xs=[]:=h;subst e;exact⟨v,[],rfl,r,rfl⟩
 |c :: g,_,h,r=>by
  obtain⟨v0,a,rfl,b,hl⟩:=h;exact⟨v0,a++[v],rfl,b,gW hl r⟩
end L2
namespace Bs
open PySem L2 Sx
noncomputable def jO(q:Str×Nat):jN:=.tup [.at (.str q.1),.at (.int (q.2:Int))]
noncomputable def bW(qs:List (Str×Nat)):jN:=.lst (qs.map jO)
noncomputable def kA(lns:List (List (Str×Nat))):jN:=.lst (lns.map bW)
noncomputable def qu(hs:List Str):jN:=.lst (hs.map λh=>.at (.str h))
noncomputable def mj(ws:List Int):jN:=.lst (ws.map λw=>.at (.int w))
theorem GO(h:bC K H (qu hs) v):∃a,v=.ref a/\aH K H a (hs.map V.str):=by
 obtain⟨a,b,rfl,f,hl⟩:=h;refine⟨a,rfl,?_⟩
 have:b=hs.map V.str:=by
  refine wgS λi=>?_
  cases e:b[i]? with
  |none=>
   have:=hl.len;rw[wa0]at this;rw[wg6 (by rw[wa0];have:=wcA.mp e;omega)]
  |some x=>
   obtain⟨d,hd,r⟩:=hl.get i x e;rw[wa4]at hd ⊢
   cases c:hs[i]? with
   |none=>rw[c]at hd;cases hd
   |some z=>
    rw[c]at hd;cases hd;rw[r.1];rfl
 rw[<-this];exact .inl f
theorem i3(h:bC K H (mj ws) v):∃a,v=.ref a/\aH K H a (ws.map V.int):=by
 obtain⟨a,b,rfl,f,hl⟩:=h;refine⟨a,rfl,?_⟩
 have:b=ws.map V.int:=by
  refine wgS λi=>?_
  cases e:b[i]? with
  |none=>
   have:=hl.len;rw[wa0]at this;rw[wg6 (by rw[wa0];have:=wcA.mp e;omega)]
  |some x=>
   obtain⟨d,hd,r⟩:=hl.get i x e;rw[wa4]at hd ⊢
   cases c:ws[i]? with
   |none=>rw[c]at hd;cases hd
   |some z=>
    rw[c]at hd;cases hd;rw[r.1];rfl
 rw[<-this];exact .inl f
theorem nU(h:H a=some (.lst (hs.map V.str))):bC K H (qu hs) (.ref a):=
 ⟨a,_,rfl,.inl h,b6.pG _ _ (by simp) λi d y hd b=>by
   rw[wa4]at hd b
   cases e:hs[i]? with
   |none=>rw[e]at hd;cases hd
   |some z=>rw[e]at hd b;cases hd;cases b;exact⟨rfl,rfl⟩⟩
theorem iX(h:H a=some (.lst (ws.map V.int))):bC K H (mj ws) (.ref a):=
 ⟨a,_,rfl,.inl h,b6.pG _ _ (by simp) λi d y hd b=>by
   rw[wa4]at hd b
   cases e:ws[i]? with
   |none=>rw[e]at hd;cases hd
   |some z=>rw[e]at hd b;cases hd;cases b;exact⟨rfl,rfl⟩⟩
noncomputable def eD(q:Str×Nat):V×V:=(.str q.1,.int (q.2:Int))
theorem mZ(h:bC K H (bW g) v):∃a xs,v=.ref a/\aH K H a xs/\xs.length=(g.map eD).length/\∀(i:Nat) (q:V×V),(g.map eD)[i]?=some q->∃r,xs[i]?=some (.ref r)/\H r=some (.tup [q.1,q.2]):=by
 obtain⟨a,xs,rfl,j,hl⟩:=h;refine⟨a,xs,rfl,.inl j,by rw[hl.len,wa0,wa0],λi q b=>?_⟩;rw[wa4]at b
 cases e:g[i]? with
 |none=>rw[e]at b;cases b
 |some z=>
  rw[e]at b;cases b;obtain⟨x,k,r⟩:=hl.at (i:=i) (d:=jO z) (by grind);obtain⟨l,p,rfl,f,m⟩:=r;obtain⟨v1,s,rfl,⟨rfl,_⟩,n⟩:=m;obtain⟨t,c,rfl,⟨rfl,_⟩,o⟩:=n;rw[show c=[] from o]at f;exact⟨l,k,f⟩
theorem nV(g:H r=none)(q:Str×Nat):bC K (aG H (upd H r (.tup [.str q.1,.int (q.2:Int)]))) (jO q) (.ref r):=
 ⟨r,_,rfl,bN g a6,.str q.1,[.int (q.2:Int)],rfl,⟨rfl,rfl⟩,.int (q.2:Int),[],rfl,⟨rfl,rfl⟩,rfl⟩
noncomputable def qw(a:Addr):List (Str×V):=[("homes",.ref a)]
noncomputable def nW(a b:Addr):List (Str×V):=[("homes",.ref a),("weights",.ref b)]
noncomputable def BJ(a b c:Addr):List (Str×V):=[("homes",.ref a),("weights",.ref b),("lines",.ref c)]
theorem KB(a:Addr):cx "homes" (.ref a) []=qw a:=rfl
theorem GP(a b:Addr):cx "weights" (.ref b) (qw a)=nW a b:=by
 show (if ("homes":Str)="weights" then(("homes":Str),V.ref b) :: [] else(("homes":Str),V.ref a) :: cx "weights" (.ref b) [])=_;rw[if_neg (by decide+kernel)];rfl
theorem De(a b c:Addr):cx "lines" (.ref c) (nW a b)=BJ a b c:=by
 show (if ("homes":Str)="lines" then(("homes":Str),V.ref c) :: [(("weights":Str),V.ref b)] else(("homes":Str),V.ref a) :: (if ("weights":Str)="lines" then(("weights":Str),V.ref c) :: [] else(("weights":Str),V.ref b) :: cx "lines" (.ref c) []))=_;rw[if_neg (by decide+kernel),if_neg (by decide+kernel)];rfl
theorem eE(a b c:Addr):(BJ a b c).lookup ("homes":Str)=some (.ref a):=by
 rw[<-De,aB,if_neg (by decide+kernel),<-GP,aB,if_neg (by decide+kernel),<-KB,aB,if_pos rfl]
theorem ck(a b c:Addr):(BJ a b c).lookup ("weights":Str)=some (.ref b):=by
 rw[<-De,aB,if_neg (by decide+kernel),<-GP,aB,if_pos rfl]
theorem bJ(a b c:Addr):(BJ a b c).lookup ("lines":Str)=some (.ref c):=by
 rw[<-De,aB,if_pos rfl]
structure bS(K:wa1)(C:Addr)(H:Hp)(x:Addr)(hs:List Str)(ws:List Int)(lns:List (List (Str×Nat))):Prop where
 ex:∃dx a b c,H x=some (.ins C dx (BJ a b c))/\bC K H (qu hs) (.ref a)/\bC K H (mj ws) (.ref b)/\bC K H (kA lns) (.ref c)
theorem bS.same(h:bS K C H x hs ws lns)(s:a9 H g):bS K C g x hs ws lns:=by
 obtain⟨d,a,b,c,e,f,i,j⟩:=h;exact⟨d,a,b,c,s _ _ e,bC.same s _ _ f,bC.same s _ _ i,bC.same s _ _ j⟩
end Bs
namespace Sx
open PySem L2 Bs
inductive GQ(K:wa1)(vs:List V)(H:Hp)(Q:VK)(eL:XK):Prop
 |mk (v qs) (_:vs=[v]) (_:bC K H (bW qs) v) (_:qs.length<=10000) (_:∀y H',a9 H H'->bC K (aG H H') (bW qs) y->Q y H')
inductive GR(K:wa1)(C:Addr)(vs:List V)(H:Hp)(Q:VK)(eL:XK):Prop
 |mk (x dx u v w hs ws lns) (_:vs=[.ref x,u,v,w]) (_:H x=some (.ins C dx [])) (_:bC K H (qu hs) u) (_:bC K H (mj ws) v) (_:bC K H (kA lns) w) (_:hs.length<=10000) (_:ws.length<=10000) (_:lns.length<=10000) (_:(∀l∈lns,l.length<=10000)) (_:∀a b c H',H' x=some (.ins C dx (BJ a b c))->bC K (aG H H') (qu hs) (.ref a)->bC K (aG H H') (mj ws) (.ref b)->bC K (aG H H') (kA lns) (.ref c)->(∀b o,H b=some o->b≠x->H' b=some o)->Q .non H')
end Sx
namespace Bs
open PySem L2 Sx
noncomputable def ak(ls:List Str)(f:Str->Int):List Str:=ls.filter λp=>decide (0 < f p)
noncomputable def fJ(g:Str)(ws ss ls:List Str)(n:Nat)(hs:List Str)(p:Str):List (Str×Nat):=((aP g ws ss ls n p).filter λq=>decide (q.2∈hs)).map λq=>(q.1,hs.idxOf q.2)
noncomputable def bE(g:Str)(ws ss ls:List Str)(n:Nat)(hs:List Str):List (List (Str×Nat)):=hs.map (fJ g ws ss ls n hs)
theorem BK(g:Str)(ws ss ls:List Str)(n:Nat)(hs:List Str)(p:Str):(fJ g ws ss ls n hs p).length<=g.length ^ n:=by
 unfold fJ;rw[wa0];exact wal (wbi _ _) (fH g ws ss ls n p)
theorem qx:∀{hs:List Str} {j:Nat} (h:j < hs.length),hs.idxOf hs[j]<=j
 |[],j,h=>absurd h (wdr _)
 |a :: hs,0,h=>by
  show (a :: hs).idxOf a<=0;rw[wgh];exact wab 0
 |a :: hs,j + 1,h=>by
  have b:j < hs.length:=by simpa using h
  show (a :: hs).idxOf hs[j]<=j + 1;rw[whr];have:=qx b
  cases(a == hs[j]) with
  |true=>grind
  |false=>grind
theorem pH{hs:List Str}{k:Str}(h:k∈hs):hs[hs.idxOf k]?=some k/\∀j:Nat,j < hs.idxOf k->hs[j]?≠some k:=by grind [wa2,wah,qx]
end Bs
namespace Sx
open PySem L2 Bs
inductive JD(K:wa1)(C CS:Addr)(vs:List V)(H:Hp)(Q:VK)(eL:XK):Prop
 |mk (x d:Addr) (many:Int) (n:Nat) (m:List (Str×Int)) (f:Str->Int) (g:Str) (ws ss ls:List Str) (_:vs=[.ref x,.int many,.int (n:Int),.ref d]) (_:aY C H x g ws ss ls) (_:2<=g.length) (_:g.length<=10) (_:ss.length<=900) (_:fG g.length many n) (_:Rd H d (.dK (bc m))) (_:Gz m ls f) (_:∀(y:Addr) (H':Hp),a9 H H'->bS K CS (aG H H') y (ak ls f) ((ak ls f).map f) (bE g ws ss ls n (ak ls f))->Q (.ref y) H')
end Sx
namespace L2
open PySem PySem.Spec PyProof.Rows Sx
section
variable{X:Cx}
end
end L2
namespace L2
open PySem
theorem d7.rd(h:Rd H a (.lst xs)):d7 K H (.ref a) (.type "list"):=by
 rcases h with e |⟨o,e⟩
 ·exact .lst e
 ·exact .frz e
end L2
namespace PySem
section
variable{P:wat}{W0:World}{B:Around}{R:wcR->Shared->Prop}{I:Addr}{fp wr:List Addr}{n:Nat}{Pr:Nat->Value->Prop}{St:Nat->Heap->Prop}
theorem vo(W:Walks P W0 B.in1 I fp wr n Pr St)(bt:Nat->Nat->Bool)(cmp:CmpOf P W0 B.in1 .Gt Pr bt)(S:Addr)(nS:S∉fp)(kw:List (Str×Value)) :
 ∀(k j:Nat) (z:Shared) (best:Value) (c:Nat),n - (j + 1)=k->j + 1<=n->St (j + 1) z.heap->Pr (argBest bt j) best->z.heap.get? S=some {cls:=.type "list",dict:=none,data:=.seq #[best,best] c,slots:=#[]} ->
 (∀v h' tk,Pr (argBest bt (n - 1)) v->(∀b o,b∉wr->b≠S->z.heap.get? b=some o->h'.get? b=some o)->R (.ok (.ret v)) {z with heap:=h',toks:=tk}) ->
 codeAny (model P W0) B (.builtin "max.loop" ⟨[.ref I,.none,.ref S],kw⟩) R z:=by
 have Qr:S∉wr:=λh=>nS (W.sub _ h);have nm:(toString "max"++toString ".loop":String)="max.loop":=by decide
 intro k
 induction k with
 |zero=>
  intro j z best c hk hj st pb gS fin;have last:j + 1=n:=by omega
  refine wbF wdZ ?_;rw[wbv wbY _];show wpAny _ B.in1 (we2 (.ref S) >>= _) _ _ z;refine wa3 (wcG gS rfl ?_);show wpAny _ B.in1 (tryCatch (pyNext (.ref I)) _ >>= _) _ _ z;refine wa3 (wbL (W.done z _ _ (last ▸ st) λh' tk kp=>?_));have KC:=kp S _ Qr gS;show wpAny _ B.in1 (wgI S (λ_=>#[]) >>= _) _ _ _;refine wa3 (wcV KC rfl (wa3 (wd0 (wap ?_))));exact fin best _ tk (by rw[<-last];exact pb) λb o h1 h2 e=>(waN _ _ (wbc h2)).trans (kp b o h1 e)
 |succ k ih=>
  intro j z best c hk hj st pb gS fin;have more:j + 1 < n:=by omega
  refine wbF wdZ ?_;rw[wbv wbY _];show wpAny _ B.in1 (we2 (.ref S) >>= _) _ _ z;refine wa3 (wcG gS rfl ?_);show wpAny _ B.in1 (tryCatch (pyNext (.ref I)) _ >>= _) _ _ z;refine wa3 (wbL (W.item (j + 1) z _ _ more st λv h' tk hP Qs kp=>?_));have KC:=kp S _ Qr gS;show wpAny _ B.in1 (tryCatch (holding [v,v] (richCompare .Gt v best >>= _)) _ >>= _) _ _ _;refine wa3 (wbL (waY (wa3 (cmp (j + 1) (argBest bt j) v best _ _ _ hP pb ?_))));refine wa3 (waY (wbN (wa3 (wd0 (wap ?_)))))
  cases hb:bt (j + 1) (argBest bt j) with
  |true=>
   simp only[if_true];refine wa3 (wcV KC rfl (wa3 (wd0 ?_)));rw[nm];refine wap ⟨wc5 wbY _,ih (j + 1) _ v _ (by omega) more (W.frame _ _ _ Qs λb UZ o e=>?_) (by simp only[argBest,hb,if_true];exact hP) (wbC _ KC rfl) λv' h2 OC OD OG=>?_⟩
   ·exact(waN _ _ (λh:S=b=>nS (by rw[h];exact UZ))).trans e
   ·exact fin v' h2 OC OD λb o h1 h3 e=>OG b o h1 h3 ((waN _ _ (wbc h3)).trans (kp b o h1 e))
  |false=>
   simp only[wbU,if_false];refine wa3 (wd0 ?_);rw[nm];refine wap ⟨wc5 wbY _,ih (j + 1) _ best c (by omega) more Qs (by simp only[argBest,hb,wbU,if_false];exact pb) KC λv' h2 OC OD OG=>?_⟩;exact fin v' h2 OC OD λb o h1 h3 e=>OG b o h1 h3 (kp b o h1 e)
theorem tq(W:Walks P W0 B.in1 I fp wr n Pr St)(bt:Nat->Nat->Bool)(cmp:CmpOf P W0 B.in1 .Gt Pr bt)(S:Addr)(nS:S∉fp)(kw:List (Str×Value))(pos:0 < n)(st:St 0 z.heap)(gS:z.heap.get? S=some {cls:=.type "list",dict:=none,data:=.seq #[] c,slots:=#[]})
 (fin:∀v h' tk,Pr (argBest bt (n - 1)) v->(∀b o,b∉wr->b≠S->z.heap.get? b=some o->h'.get? b=some o)->R (.ok (.ret v)) {z with heap:=h',toks:=tk}):codeAny (model P W0) B (.builtin "max.loop" ⟨[.ref I,.none,.ref S],kw⟩) R z:=by
 have Qr:S∉wr:=λh=>nS (W.sub _ h);have nm:(toString "max"++toString ".loop":String)="max.loop":=by decide
 refine wbF wdZ ?_;rw[wbv wbY _];show wpAny _ B.in1 (we2 (.ref S) >>= _) _ _ z;refine wa3 (wcG gS rfl ?_);show wpAny _ B.in1 (tryCatch (pyNext (.ref I)) _ >>= _) _ _ z;refine wa3 (wbL (W.item 0 z _ _ pos st λv h' tk hP Qs kp=>?_));have KC:=kp S _ Qr gS;show wpAny _ B.in1 (wgI S (λ_=>#[v,v]) >>= _) _ _ _;refine wa3 (wcV KC rfl ?_);rw[nm];refine wap ⟨wc5 wbY _,vo W bt cmp S nS kw _ 0 _ v _ rfl pos (W.frame _ _ _ Qs λb UZ o e=>?_) hP (wbC _ KC rfl) λv' h2 OC OD OG=>?_⟩
 ·exact(waN _ _ (λh:S=b=>nS (by grind))).trans e
 ·exact fin v' h2 OC OD λb o h1 h3 e=>OG b o h1 h3 ((waN _ _ (wbc h3)).trans (kp b o h1 e))
theorem vp(W:Walks P W0 B.in1 I fp wr n Pr St)(S:Addr)(nS:S∉fp)(dv:Value)(OH:n=0)(st:St 0 z.heap)(gS:z.heap.get? S=some {cls:=.type "list",dict:=none,data:=.seq #[] c,slots:=#[]})
 (fin:∀h' tk,(∀b o,b∉wr->b≠S->z.heap.get? b=some o->h'.get? b=some o)->R (.ok (.ret dv)) {z with heap:=h',toks:=tk}):codeAny (model P W0) B (.builtin "max.loop" ⟨[.ref I,.none,.ref S],[(wcf "default",dv)]⟩) R z:=by
 refine wbF wdZ ?_;rw[wbv wbY _];show wpAny _ B.in1 (we2 (.ref S) >>= _) _ _ z;refine wa3 (wcG gS rfl ?_);show wpAny _ B.in1 (tryCatch (pyNext (.ref I)) _ >>= _) _ _ z;refine wa3 (wbL (W.done z _ _ (OH ▸ st) λh' tk kp=>?_));have done:=fin h' tk λb o h1 _ e=>kp b o h1 e
 wp_walk
 exact done
end
section
variable{P:wat}{W0:World}{B:Around}{E:Value->Shared->Prop}{z:Shared}
theorem vq(a v:Value):argsOk "max" ⟨[a],[(wcf "default",v)]⟩:=by unfold argsOk;kernel_rfl
theorem vr{Q:Value->Shared->Prop}(hh:B.handled=none)(il:z.heap.IsList l (intItems xs))
 (he:xs.size=0->∀h' tk,(∀b o,z.heap.get? b=some o->h'.get? b=some o)->Q dv {z with heap:=h',toks:=tk})
 (hn:0 < xs.size->∀v h' tk,(intItems xs)[argBest (λi j=>decide (numAt xs i > numAt xs j)) (xs.size - 1)]?=some v->(∀b o,z.heap.get? b=some o->h'.get? b=some o)->Q v {z with heap:=h',toks:=tk}) :
 wpAny (model P W0) B (call (.builtin "max") [.ref l] [(wcf "default",dv)]) Q E z:=by
 have nm:(toString "max"++toString ".loop":String)="max.loop":=by decide
 refine PyProof.Rows.kmk_tree F.kind_max F.plain_max F.entry_max (vq _ _) ?_;show wpAny _ B.in1 (wct "max" ["key","default"] 0 ⟨[],[(wcf "default",dv)]⟩ >>= _) _ _ z;refine wa3 (wh5 (show wct "max" ["key","default"] 0 ⟨[],[(wcf "default",dv)]⟩=pure [none,some dv] from rfl) ?_);refine wa3 (wap (wa3 (iter_intList il λs₂ e st Xx OI=>?_)));subst e;refine wa3 (weS ?_);rw[nm];have W:=weZ (prog:=P) (w:=W0) (A:=B.in1) hh z.heap.objs.size l OI (intItems xs);have nS:(z.heap.push {cls:=.type "list_iterator",data:=.fields #[.ref l,.int 0 0]}).objs.size∉[z.heap.objs.size,l]:=λhm=>wb4 _ (Xx _ hm)
 have keep:∀{h':Heap},(∀b o,b∉[z.heap.objs.size]->b≠(z.heap.push {cls:=.type "list_iterator",data:=.fields #[.ref l,.int 0 0]}).objs.size->((z.heap.push {cls:=.type "list_iterator",data:=.fields #[.ref l,.int 0 0]}).push {cls:=.type "list",data:=.seq #[]}).get? b=some o->h'.get? b=some o)->∀b o,z.heap.get? b=some o->h'.get? b=some o:=λ{h'} hk b o e=>by
  have lt:=wad e;refine hk b o (λhm=>?_) (λh=>?_) (wa8 _ (wa8 _ e))
  ·rw[wao.mp hm]at lt;exact wb4 _ lt
  ·rw[wbK]at h;rw[h]at lt;exact absurd (show z.heap.objs.size + 1 < z.heap.objs.size from lt) (by omega)
 by_cases h0:xs.size=0
 ·refine wap ⟨wc5 wbY _,vp W _ nS dv (by simp[intItems,h0]) (W.frame _ _ _ st λb _ o e=>wa8 _ e) (wax _ rfl) λh' tk hk=>?_⟩;exact he h0 h' tk (keep hk)
 ·refine wap ⟨wc5 wbY _,tq W _ (CmpOf.ints_gt (numAt xs) (λ_ _=>wh4)) _ nS _ (by simp[intItems];omega) (W.frame _ _ _ st λb _ o e=>wa8 _ e) (wax _ rfl) λv h' tk hP hk=>?_⟩;exact hn (by omega) v h' tk (by simpa [intItems] using hP) (keep hk)
end
end PySem
namespace L2
open PySem PySem.Spec PyProof.Rows Sx
section
variable{X:Cx}{e e2:Expr}{te t2:TE}{p kp pos:Pos}
theorem Et(hc:X.calm=true)(I:Inv X g σ H s)(l:RelV (.int d) v)(o:aH X.K H a (wcZ V.int ns))(C:ns=[]->Q (.int d) H)(J:∀M,M∈ns->(∀a∈ns,a<=M)->Q (.int M) H) :
 wpAny (model X.prog X.w) X.A (call (.builtin "max") [.ref a] [(wcf "default",v)]) (EP X g σ Q) X.xe s:=by
 obtain⟨f,r,pl,x⟩:=I.list o;obtain⟨c,e,rfl⟩:=jv r
 have hl:s.heap.IsList a (intItems c.toArray):=by
  have:intItems c.toArray=f.toArray:=by rw[e];unfold intItems;simp
  rw[this];exact pl.isList
 refine vr (I.ok.hd hc) hl (λh k m i=>?_) (λh y k m n i=>?_)
 ·have:c=[]:=by
   rw[waD]at h;exact wbm h
  subst this;exact⟨.int d,H,I.kept i,l,C rfl⟩
 ·obtain⟨t,rfl⟩:=wh4 n;obtain⟨z,p⟩:=argBest_gt (numAt c.toArray) (c.toArray.size - 1);refine⟨.int _,H,I.kept i,⟨t,rfl⟩,J _ ?_ λb q=>?_⟩
  ·rw[numAt_eq];exact getD_mem (by rw[wa0];simp only[waD]at *;omega)
  ·obtain⟨j,u,rfl⟩:=mem_getD q;rw[wa0]at u;have:=p j (by simp only[waD]at *;omega);rw[numAt_eq]at this;exact this
end
section
variable{X:Cx}{e e2:Expr}{t:TA}{t2:TE}{p kp pos:Pos}
def OJ(K:wa1)(t:TA)(t2:TE):TE:=λσ H Q=>t σ H λvs H1=>t2 σ H1 λy H2=>∃a ns d,vs=[.ref a]/\y=.int d/\aH K H2 a (wcZ V.int ns)/\(ns=[]->Q (.int d) H2)/\(∀M,M∈ns->(∀a∈ns,a<=M)->Q (.int M) H2)
theorem JE(hc:X.calm=true)(g:Gl X "max")(j:X.mg "max"=none)(ha:PA X [e] t)(hd:PE X e2 t2)(hs:starEach [e] X.env=[(false,eval e X.env)]:=by rfl):PE X (.Call (.Name "max" p) [e] [⟨some "default",e2,kp⟩] pos) (OJ X.K t t2):=by
 intro b s σ H Q I h;refine wbu (iJ I g j (show waR "max"=some (.builtin "max") from Gu) ?_ (by decide) (by decide));refine wfg (bP (ha pos b s σ H _ I h) λz c ⟨A,f,i,k,l⟩=>?_) (by rw[hs];rfl) (by rw[hs];rfl);refine we3 (bP (hd b c σ f _ i l) λv B ⟨y,C,m,n,o⟩=>wek ?_);obtain⟨a,ns,d,rfl,rfl,q,r,w⟩:=o;obtain⟨u,rfl,x⟩:=vals1 k;cases x;exact Et hc m n q r w
end
end L2
namespace L2
open PySem PySem.Spec PyProof.Rows Sx Bs
def JF(K:wa1)(wi:TI)(ix:List Nat)(tt:TT)(te:TE)(i:Nat):TS:=λD σ H=>wi σ H λJ H1=>∀l,H1 l=none->jw K J l (pick σ ix) tt te H1 (λH2=>D.nx (σ.set i (some (.ref l))) H2)
section
variable{X:Cx}{scope:wcQ}{x x2:Str}{ys:List Str}{ix:List Nat}
theorem qy(hc:X.calm=true)(B:bK X scope x ys ix)(hN:X.N.Nodup)(hy:X.N[i]?=some y)(r:X.env.scope.names.lookup y=some .local)(B2:bK X scope x2 ys ix)(I:x≠x2)(hi:PI X (.Tuple [.Name x U,.Name x2 g] kt pt) iter wi)
 (ht:∀cl L s H ex pn,Ii (bb X scope (x :: x2 :: ys) cl L s H ex pn) j tt) (he:∀cl L s H ex pn,PE (bb X scope (x :: x2 :: ys) cl L s H ex pn) o te)
 (T:wbO (.ListComp o [⟨.Tuple [.Name x U,.Name x2 g] kt pt,iter,j,0⟩] scope pos) (some (.Name y py)) p.line X.env=pure true:=by rfl)
 (hs:∀v,wc0 iter X.env v=pure v:=by intro _;rfl):PS X (.Assign [.Name y py] (.ListComp o [⟨.Tuple [.Name x U,.Name x2 g] kt pt,iter,j,0⟩] scope pos) p) (JF X.K wi ix tt te i):=
 qi (C:=λJ l a H Q=>jw X.K J l a tt te H Q) (xs:=[x,x2]) hc B hN hy r (zz hc B B2 I) (λ_ _ _ _ _=>zA) hi ht he T hs
inductive OM(x y:V)(H:Hp)(Q:VK):Prop
 |mk (l b xs zs) (_:x=.ref l) (_:y=.ref b) (_:Rd H l (.lst xs)) (_:Rd H b (.lst zs)) (_:xs.length + zs.length<=sizeLine) (_:∀p,H p=none->Q (.ref p) (upd H p (.lst (xs++zs))))
theorem y4:lX X (binaryOp .Add) OM:=by
 intro d s σ H x y v u Q I g i h;obtain⟨l,b,t,w,rfl,rfl,j,k,A,q⟩:=h;cases g;cases i;obtain⟨z,c,n,r,e⟩:=j.ok I.aW;obtain⟨B,a,C,f,m⟩:=k.ok I.aW;have hl:=r.length;have o:=f.length;refine wh8 e m ?_ (by grind);have p:c.toArray++a.toArray=(c++a).toArray:=by simp
 rw[p];exact⟨.ref _,_,I.Lj (t':=s.toks) (r.append f) (by grind),rfl,q _ I.fresh⟩
theorem vt{K:wa1}(g:X.K=K):d5 X (.type "list") (λxs H Q=>∃p ys,xs=[.ref p]/\(aH K H p ys\/ir K H p ys)/\∀l,H l=none->Q (.ref l) (upd H l (.lst ys))):=by
 subst g;exact cz
end
noncomputable def b5{α:Type}(p:Nat->Bool):Nat->List α->List α
 |_,[]=>[]
 |i,x :: xs=>if p i then x :: b5 p (i + 1) xs else b5 p (i + 1) xs
theorem n0{α:Type}(p:Nat->Bool)(x:α):∀(k:Nat) (xs:List α),b5 p k (xs++[x])=b5 p k xs++(if p (k + xs.length) then[x] else[])
 |k,[]=>by
  show (if p k then x :: [] else[])=[]++_;rw[whq];rfl
 |k,y :: xs=>by
  have e:k + (y :: xs).length=k + 1 + xs.length:=by grind
  rw[e];show (if p k then y :: b5 p (k + 1) (xs++[x]) else b5 p (k + 1) (xs++[x]))=(if p k then y :: b5 p (k + 1) xs else b5 p (k + 1) xs)++_;rw[n0 p x (k + 1) xs];cases p k <;> rfl
theorem lS{α:Type}(p:Nat->Bool):∀(k:Nat) (xs:List α),(b5 p k xs).length<=xs.length
 |_,[]=>wab _
 |k,x :: xs=>by
  have:=lS p (k + 1) xs;show (if p k then x :: b5 p (k + 1) xs else b5 p (k + 1) xs).length<=xs.length + 1
  cases p k with
  |true=>grind
  |false=>grind
theorem wQ{α β:Type}(f:α->β)(p:Nat->Bool):∀(k:Nat) (xs:List α),b5 p k (xs.map f)=(b5 p k xs).map f
 |_,[]=>rfl
 |k,x :: xs=>by
  show (if p k then f x :: b5 p (k + 1) (xs.map f) else b5 p (k + 1) (xs.map f))=(if p k then x :: b5 p (k + 1) xs else b5 p (k + 1) xs).map f;rw[wQ f p (k + 1) xs];cases p k <;> rfl
theorem pI{α:Type}(p:Nat->Bool):∀(k:Nat) (xs:List α),(b5 p k xs).Sublist xs
 |_,[]=>weW _
 |k,x :: xs=>by
  show (if p k then x :: b5 p (k + 1) xs else b5 p (k + 1) xs).Sublist (x :: xs)
  cases p k with
  |true=>exact(pI p (k + 1) xs).cons₂ x
  |false=>exact(pI p (k + 1) xs).cons x
theorem gX{α:Type}{p:Nat->Bool}{k:Nat}{xs:List α}{x:α}(h:x∈b5 p k xs):x∈xs:=(pI p k xs).subset h
theorem b6.pick{K:wa1}{H:Hp}(p:Nat->Bool):∀(k:Nat) (g:List jN) (xs:List V),b6 K H g xs->b6 K H (b5 p k g) (b5 p k xs)
 |_,[],xs,h=>by
  have e:xs=[]:=h;subst e;rfl
 |k,d :: g,_,h=>by
  obtain⟨v,a,rfl,c,hl⟩:=h;have b:=b6.pick p (k + 1) g a hl;show b6 K H (if p k then d :: b5 p (k + 1) g else b5 p (k + 1) g) (if p k then v :: b5 p (k + 1) a else b5 p (k + 1) a)
  cases p k with
  |true=>exact⟨v,_,rfl,c,b⟩
  |false=>exact b
theorem b6.set{K:wa1}{H:Hp}{d:jN}{v:V}:∀{g:List jN} {xs:List V},b6 K H g xs->∀i:Nat,bC K H d v->b6 K H (g.set i d) (xs.set i v)
 |[],xs,h,i,r=>by
  have e:xs=[]:=h;subst e;exact h
 |c :: g,_,h,0,r=>by
  obtain⟨v0,a,rfl,b,hl⟩:=h;exact⟨v,a,rfl,r,hl⟩
 |c :: g,_,h,i + 1,r=>by
  obtain⟨v0,a,rfl,b,hl⟩:=h;exact⟨v0,a.set i v,rfl,b,b6.set hl i r⟩
theorem wR{K:wa1}{a l:Addr}{xs:List V}{r:St}{J:TT}{U:TE}{H:Hp}{Q:Hp->Prop}(p:Nat->Bool)(I:aH K H a xs)(hl:H l=none)(hz:xs.length<=sizeLine)
 (ht:∀(i:Nat) (x:V) j C,xs[i]?=some x->a9 H j->(∀g,a9 j g->C (p i) g)->J (some (.int (i:Nat)) :: some x :: r) j C)
 (he:∀(i:Nat) (x:V) j C,xs[i]?=some x->a9 H j->(∀g,a9 j g->C x g)->U (some (.int (i:Nat)) :: some x :: r) j C)
 (hd:∀g,a9 H g->g l=some (.lst (b5 p 0 xs))->Q g):jw K (MZ K a) l r J U H Q:=by
 refine⟨λi m t f=>m=xs.length - i/\i<=xs.length/\a9 H f/\f l=some (.lst t)/\t=b5 p 0 (xs.take i),⟨xs.length,by simp,waM _,a9.upd hl,a6,rfl⟩,?_⟩;rintro i m t f ⟨rfl,hi,c,u,k⟩;refine⟨u,?_⟩
 by_cases d:i < xs.length
 ·refine .inr ⟨⟨xs,xs[i],c.seq I,wa2 d⟩,?_,λx j y=>?_⟩
  ·rw[k];refine wba (lS p 0 _) ?_;rw[wau];omega
  ·obtain⟨T,h,D,E,F,y⟩:=y;subst E F;have v:xs[i]?=some h:=y xs (c.seq I);have n:a9 f (upd f T (.tup [.int (i:Nat),h])):=a9.upd D;have w:xs.take (i + 1)=xs.take i++[h]:=by rw[wb1,v];rfl
   have q:(xs.take i).length=i:=by rw[wau];omega
   refine⟨T,.int (i:Nat),h,rfl,ir.of a6,ht i h _ _ v (c.trans n) λG s=>?_⟩;have z:=s _ _ (n _ _ u)
   cases A:p i with
   |false=>
    rw[if_neg waq];exact⟨xs.length - (i + 1),by omega,rfl,d,(c.trans n).trans s,z,by rw[w,n0,q,wgJ,A,if_neg waq,waX];exact k⟩
   |true=>
    rw[if_pos rfl];refine he i h _ _ v ((c.trans n).trans s) λL B=>⟨B _ _ z,xs.length - (i + 1),by omega,rfl,d,λb o e=>?_,a6,?_⟩
    ·rw[aa (ae e hl)];exact B _ _ (s _ _ (n _ _ (c _ _ e)))
    ·rw[w,n0,q,wgJ,A,if_pos rfl,k]
 ·have e:i=xs.length:=by omega
  subst e;rw[waI]at k;exact .inl ⟨⟨xs,c.seq I,wab _⟩,hd f c (by rw[u,k])⟩
theorem Md(xs:List V)(k:Nat)(h:k<=xs.length):ji xs none (some (k:Int))=xs.take k:=by simp_all [ji,HT.yL,if_neg]
theorem tu(y:Int)(ns:List Int):nJ (.int y) (ns.map V.int)=decide (y∈ns):=by
 unfold nJ;rw[wfc]
 induction ns with
 |nil=>rfl
 |cons a l b=>
  rw[wcM,b];show ((a == y) ||decide (y∈l))=decide (y∈a :: l)
  by_cases e:a=y
  ·subst e;simp
  ·grind
theorem iY(ns:List Int):(ns.map V.int).all cN=true:=by grind [cN]
end L2
namespace Bs
open PySem L2 Sx
noncomputable def dY(i:Int)(n:Nat):Bool:=decide (0<=i) && decide (i < (n:Int))
noncomputable def b0(ws:List Int)(qs:List (Str×Nat)):Int:=(qs.map λq=>ws.getD q.2 0).sum
noncomputable def dS(ws:List Int)(many:Int)(qs:List (Str×Nat))(w:Int):Bool:=!qs.isEmpty && (decide (1<=w) && decide (many * w<=b0 ws qs))
noncomputable def b4{α:Type}(ns:List Int)(l:List α):List α:=b5 (λi=>decide ((i:Int)∈ns)) 0 l
noncomputable def aZ{α:Type}(ns:List Int)(l:List α):List α:=b5 (λi=>!decide ((i:Int)∈ns)) 0 l
noncomputable def eT(d t:Nat)(l:List (Str×Nat)):List (Str×Nat):=l.flatMap λq=>if q.2=d then[q,(q.1,t)] else[q]
noncomputable def dh(ws:List Int)(lns:List (List (Str×Nat)))(many ro:Int)(ns:List Int)(w:Int):Bool:=
 dY ro lns.length && (ns.all (λi=>dY i (lns.getD ro.toNat []).length) && (dS ws many (b4 ns (lns.getD ro.toNat [])) w && dS ws many (aZ ns (lns.getD ro.toNat [])) (ws.getD ro.toNat 0 - w)))
noncomputable def cX(hs:List Str)(d:Nat):List Str:=hs++[hs.getD d ""]
noncomputable def cb(ws:List Int)(d:Nat)(w:Int):List Int:=(ws++[ws.getD d 0 - w]).set d w
noncomputable def i5(lns:List (List (Str×Nat)))(d:Nat)(ns:List Int):List (List (Str×Nat)):=((lns++[aZ ns (lns.getD d [])]).set d (b4 ns (lns.getD d []))).map (eT d lns.length)
theorem pJ(d t:Nat):∀l:List (Str×Nat),(eT d t l).length<=2 * l.length
 |[]=>wab _
 |q :: l=>by
  have:=pJ d t l;show ((if q.2=d then[q,(q.1,t)] else[q])++eT d t l).length<=2 * (l.length + 1);rw[wa7];split
  ·grind
  ·grind
theorem tD(d t:Nat)(l:List (Str×Nat))(q:Str×Nat):eT d t (l++[q])=eT d t l++(if q.2=d then[q,(q.1,t)] else[q]):=by simp_all [eT,wgw,congr,waX]
theorem zH(p:Nat->Bool)(h:b6 K H (g.map jO) xs):b6 K H ((b5 p 0 g).map jO) (b5 p 0 xs):=by
 rw[<-wQ];exact h.pick p 0 _ _
theorem y6{α:Type}{K:wa1}{H:Hp}(f:α->V):∀(g:List α) (xs:List V),b6 K H (g.map λz=>jN.at (f z)) xs->xs=g.map f
 |[],xs,h=>h
 |z :: g,_,h=>by
  obtain⟨v,a,rfl,⟨rfl,_⟩,hl⟩:=h;rw[y6 f g a hl];rfl
theorem y7(h:bC K H (qu hs) (.ref a)):Rd H a (.lst (hs.map V.str)):=by
 obtain⟨d,b,e,c,hl⟩:=h;cases e;rwa[y6 V.str hs b hl]at c
theorem JG(h:bC K H (mj ws) (.ref a)):Rd H a (.lst (ws.map V.int)):=by
 obtain⟨d,b,e,c,hl⟩:=h;cases e;rwa[y6 V.int ws b hl]at c
theorem eF(h:bC K H (bW j) v):∃a l,v=.ref a/\aH K H a (l.map V.ref)/\cp H l ((j.map eD).map ky):=by
 obtain⟨a,d,rfl,n,b,k⟩:=mZ h
 have ex:d=(d.map λv=>match v with |.ref r=>r |_=>0).map V.ref:=by
  rw[wai];refine(wdF d).symm.trans (wb6 λv o=>?_);obtain⟨i,hi,rfl⟩:=wbQ o;obtain⟨r,m,_⟩:=k i _ (wa2 (by rw[<-b];exact hi));rw[wa2 hi]at m;rw[wah m];rfl
 refine⟨a,_,rfl,by rw[<-ex];exact n,by rw[wa0,wa0,b],λi r s f c=>?_⟩;rw[wa4]at f c
 cases e:(j.map eD)[i]? with
 |none=>rw[e]at c;cases c
 |some q=>
  rw[e]at c;cases c;obtain⟨t,g,p⟩:=k i q e;rw[g]at f;cases f;exact p
structure KD(hs:List Str)(ws:List Int)(lns:List (List (Str×Nat))):Prop where
 w:ws.length=hs.length
 l:lns.length=hs.length
 e:∀l∈lns,∀q∈l,q.2 < hs.length
 n:hs.length<=1000
 m:∀l∈lns,l.length<=5000
end Bs
namespace Sx
open PySem L2 Bs
inductive JH(K:wa1)(vs:List V)(H:Hp)(Q:VK)(eL:XK):Prop
 |mk (i a xs) (_:vs=[.int i,.ref a]) (_:aH K H a xs) (_:Q (.bl (dY i xs.length)) H)
inductive Mf(K:wa1)(CS CN:Addr)(vs:List V)(H:Hp)(Q:VK)(E:XK):Prop
 |mk (x many v w hs ws lns qs) (_:vs=[.ref x,.int many,v,.int w]) (_:bS K CS H x hs ws lns) (_:bC K H (bW qs) v) (_:qs.length<=10000) (_:(∀q∈qs,q.2 < ws.length)) (_:0<=many) (_:many<=1000) (_:((dS ws many qs w=true/\∀H',a9 H H'->Q .non H')\/(dS ws many qs w=false/\∀H',a9 H H'->E (.ref CN) none H')))
inductive JI(K:wa1)(vs:List V)(H:Hp)(Q:VK)(eL:XK):Prop
 |mk (v:V) (d t:Nat) (qs:List (Str×Nat)) (_:vs=[v,.int (d:Int),.int (t:Int)]) (_:bC K H (bW qs) v) (_:qs.length<=5000) (_:∀y H',a9 H H'->bC K (aG H H') (bW (eT d t qs)) y->Q y H')
inductive JK(K:wa1)(CS CN:Addr)(vs:List V)(H:Hp)(Q:VK)(E:XK):Prop
 |mk (x a many ro w ns hs ws lns) (_:vs=[.ref x,.int many,.int ro,.ref a,.int w]) (_:bS K CS H x hs ws lns) (_:aH K H a (ns.map V.int)) (_:ns.length<=10000) (_:KD hs ws lns) (_:0<=many) (_:many<=1000) (_:((dh ws lns many ro ns w=true/\∀y H',a9 H H'->bS K CS (aG H H') y (cX hs ro.toNat) (cb ws ro.toNat w) (i5 lns ro.toNat ns)->Q (.ref y) H')\/(dh ws lns many ro ns w=false/\∀H',a9 H H'->E (.ref CN) none H')))
end Sx
namespace L2
open PySem PySem.Spec PyProof.Rows Sx Bs
section
variable{X:Cx}
end
end L2
namespace Bs
open PySem L2 Sx
def OO(z:Str):Prop:=z.length < 2\/4 < z.length\/(∃c∈ch z,c∉ch dN)\/∃i j,i < j/\j < z.length/\dq z i=dq z j
def Mg(H:Hp)(v:V):Prop:=Thing H v/\∀z,v=.str z->OO z/\z.length<=100
def OQ(g z:Str):Prop:=z.length < 1\/5 < z.length\/∃c∈ch z,c∉ch g
def Mh(g:Str)(H:Hp)(v:V):Prop:=Thing H v/\∀z,v=.str z->OQ g z/\z.length<=100
theorem Mg.same(h:Mg H v)(s:a9 H g):Mg g v:=⟨h.1.same s,h.2⟩
theorem Mh.same(h:Mh g H v)(s:a9 H j):Mh g j v:=⟨h.1.same s,h.2⟩
end Bs
namespace Sx
open PySem L2 Bs
def Mi(C:Addr)(name:Str)(n:Int)(H:Hp)(E:XK):Prop:=∀(d:Addr) (H':Hp),a9 H H'->H d=none->H' d=some (.xd [(name,.int n)])->E (.ref C) (some d) H'
end Sx
namespace Bs
open PySem L2 Sx
theorem Mi.same(h:Mi C name n H E)(s:a9 H g):Mi C name n g E:=λd a b hd e=>h d a (s.trans b) (none_of s hd) e
end Bs
namespace Sx
open PySem L2 Bs
end Sx
namespace Bs
open PySem L2 Sx
theorem nX(hi:i < ws.length)(g:i≠d):(cb ws d w).getD i 0=ws.getD i 0:=by grind [cb,wcc,waE]
theorem qz(hd:d < ws.length):(cb ws d w).getD d 0=w:=by
 unfold cb;rw[wa5,wc1 (by rw[wa7];omega)];rfl
theorem qA(hd:d < ws.length):(cb ws d w).getD ws.length 0=ws.getD d 0 - w:=by
 unfold cb;rw[wa5,wcc (by omega),waF (wab _),wbX];rfl
theorem BL(ws:List Int)(d:Nat)(w:Int):(cb ws d w).length=ws.length + 1:=by
 unfold cb;rw[wcv,wa7];rfl
theorem cj(ws:List Int)(q:Str×Nat)(g:List (Str×Nat)):b0 ws (q :: g)=ws.getD q.2 0 + b0 ws g:=rfl
theorem tE(ws:List Int)(ps g:List (Str×Nat)):b0 ws (ps++g)=b0 ws ps + b0 ws g:=by
 unfold b0;rw[waj,whs]
theorem ml(hd:d < ws.length):∀g:List (Str×Nat),(∀q∈g,q.2 < ws.length)->b0 (cb ws d w) (eT d ws.length g)=b0 ws g
 |[],_=>rfl
 |q :: g,h=>by
  have c:=ml (w:=w) hd g λq b=>h q (wac _ b);have b:=h q (wag ..);have e:eT d ws.length (q :: g)=(if q.2=d then[q,(q.1,ws.length)] else[q])++eT d ws.length g:=rfl;rw[e,tE,c,cj]
  by_cases a:q.2=d
  ·rw[if_pos a,cj,cj,a,qz hd];have f:(cb ws d w).getD ((q.1,ws.length):Str×Nat).2 0=ws.getD d 0 - w:=qA hd;rw[f];show w + (ws.getD d 0 - w + 0) + _=_;omega
  ·rw[if_neg a,cj,nX b a];show ws.getD q.2 0 + 0 + _=_;omega
theorem Df:∀(ws:List Int) (d:Nat) (w:Int),d < ws.length->(ws.set d w).sum=ws.sum - ws.getD d 0 + w
 |[],_,_,h=>absurd h (wdr _)
 |x :: ws,0,w,_=>by
  show w + ws.sum=x + ws.sum - x + w;omega
 |x :: ws,d + 1,w,h=>by
  have a:=Df ws d w (by simpa using h);show x + (ws.set d w).sum=x + ws.sum - ws.getD d 0 + w;rw[a];omega
theorem BM(hd:d < ws.length):(cb ws d w).sum=ws.sum:=by grind [cb,Df,wa7,waE]
structure iD(many:Int)(hs:List Str)(ws:List Int)(lns:List (List (Str×Nat))):Prop where
 w:ws.length=hs.length
 l:lns.length=hs.length
 p:∀w∈ws,1<=w
 e:∀l∈lns,∀q∈l,q.2 < hs.length
 b:∀(i:Nat) (l:List (Str×Nat)),lns[i]?=some l->many * ws.getD i 0<=b0 ws l
theorem BO(h:q∈eT d t l):q.2=t\/q∈l:=by grind [eT]
theorem tF(h:dS ws many g w=true):g≠[]/\1<=w/\many * w<=b0 ws g:=by simp_all [dS,wc7,of_decide_eq_true]
theorem iD.split{many:Int}{hs:List Str}{ws:List Int}{lns:List (List (Str×Nat))}(S:iD many hs ws lns){d:Nat}{ns:List Int}{w:Int}(h:dh ws lns many (d:Int) ns w=true):iD many (cX hs d) (cb ws d w) (i5 lns d ns)/\d < hs.length:=by
 unfold dh at h;simp only[wc7]at h;obtain⟨n,A,v,x⟩:=h;rw[waG]at A v x;obtain⟨E,F,B⟩:=tF v;obtain⟨G,H,C⟩:=tF x;have j:=S.w;have o:=S.l
 have hd:d < lns.length:=by
  unfold dY at n;rw[wc7]at n;have:=of_decide_eq_true n.2;omega
 have f:d < ws.length:=by omega
 have r:(cX hs d).length=hs.length + 1:=by unfold cX;rw[wa7];rfl
 have a:lns.getD d []∈lns:=by
  rw[wa5,wa2 hd];exact waQ hd
 have k:=S.e _ a
 have c:∀l∈(lns++[aZ ns (lns.getD d [])]).set d (b4 ns (lns.getD d [])),∀q∈l,q.2 < hs.length:=λl hl=>by
  rcases wcC hl with z |z
  ·rcases waA.mp z with z |z
   ·exact S.e l z
   ·rw[wao.mp z];exact λq a=>k q (gX a)
  ·rw[z];exact λq a=>k q (gX a)
 refine⟨⟨by rw[r,BL,j],?_,λz y=>?_,λl hl q a=>?_,λi l hl=>?_⟩,by omega⟩
 ·unfold i5;rw[r,wa0,wcv,wa7,o];rfl
 ·unfold cb at y;rcases wcC y with q |q
  ·rcases waA.mp q with q |q
   ·exact S.p z q
   ·rw[wao.mp q];omega
  ·rw[q];omega
 ·rw[r];unfold i5 at hl;obtain⟨m,s,rfl⟩:=waa.mp hl;rcases BO a with e |e
  ·omega
  ·have:=c m s q e;omega
 ·unfold i5 at hl;rw[wa4]at hl
  cases e:((lns++[aZ ns (lns.getD d [])]).set d (b4 ns (lns.getD d [])))[i]? with
  |none=>rw[e]at hl;cases hl
  |some m=>
   rw[e]at hl;cases hl;have D:=c m (wak e);rw[show lns.length=ws.length by omega,ml f m (λq a=>by rw[j];exact D q a)]
   by_cases g:i=d
   ·subst g;rw[wc1 (by rw[wa7];omega)]at e;cases e;rw[qz f];exact B
   ·rw[wcc (λz=>g z.symm)]at e
    by_cases t:i < lns.length
    ·rw[waE t]at e;rw[nX (by omega) g];exact S.b i m e
    ·have u:i=lns.length:=by
      have:=(wa6.mp e).1;rw[wa7]at this;simp at this;omega
     subst u;rw[waF (wab _),wbX]at e;cases e;rw[show lns.length=ws.length by omega,qA f];exact C
noncomputable def pre(ls:List Int)(k:Nat):Int:=(ls.take k).sum
end Bs
namespace L2
open PySem PySem.Spec PyProof.Rows
section
variable{prog:wat}{w:World}{κ:Type}[DecidableEq κ]{knd:HeapKind prog w κ}{A:Around}{E:Value->Shared->Prop}{s:Shared}
end
theorem KT.len:∀{g:List (List Key×V)} {j:List (List Key×Addr×Value)},KT H g j->g.length=j.length
 |_,_,.nil=>rfl
 |_,_,.cons _ t=>congrArg (· + 1) (KT.len t)
section
variable{X:Cx}
end
end L2
namespace Bs
open PySem L2 Sx
theorem Qt{a b:Prop}[Decidable a][Decidable b]{α:Type}{x y:α}(h:a↔b):(if a then x else y)=if b then x else y:=by simp_all [if_pos,if_neg]
noncomputable def i6(p:Str)(z:Str×Nat):List Str->List (List (Str×Nat))->Nat
 |h :: hs,l :: lns=>(if h=p then l.count z else 0) + i6 p z hs lns
 |_,_=>0
theorem wU(p:Str)(z:Str×Nat)(h:Str)(l:List (Str×Nat)):∀(hs:List Str) (lns:List (List (Str×Nat))),hs.length=lns.length->i6 p z (hs++[h]) (lns++[l])=i6 p z hs lns + (if h=p then l.count z else 0)
 |[],[],_=>by
  show (if h=p then l.count z else 0) + 0=0 + _;omega
 |[],_ :: _,e=>by cases e
 |_ :: _,[],e=>by cases e
 |x :: hs,y :: lns,e=>by
  show (if x=p then y.count z else 0) + i6 p z (hs++[h]) (lns++[l])=_;rw[wU p z h l hs lns (by simpa using e)];show _=(if x=p then y.count z else 0) + i6 p z hs lns + _;omega
theorem zI(p:Str)(z:Str×Nat)(g:List (Str×Nat)):∀(hs:List Str) (lns:List (List (Str×Nat))) (d:Nat),hs.length=lns.length->d < lns.length ->
 i6 p z hs (lns.set d g) + (if hs.getD d ""=p then(lns.getD d []).count z else 0)=i6 p z hs lns + (if hs.getD d ""=p then g.count z else 0)
 |_,[],d,_,h=>absurd h (wdr _)
 |[],_ :: _,_,e,_=>by cases e
 |x :: hs,y :: lns,0,_,_=>by
  show (if x=p then g.count z else 0) + i6 p z hs lns + (if x=p then y.count z else 0)=(if x=p then y.count z else 0) + i6 p z hs lns + (if x=p then g.count z else 0);omega
 |x :: hs,y :: lns,d + 1,e,h=>by
  have a:=zI p z g hs lns d (by simpa using e) (by simpa using h);show (if x=p then y.count z else 0) + i6 p z hs (lns.set d g) + (if hs.getD d ""=p then(lns.getD d []).count z else 0)=(if x=p then y.count z else 0) + i6 p z hs lns + (if hs.getD d ""=p then g.count z else 0);omega
theorem zJ(p:Str){f:List (Str×Nat)->List (Str×Nat)}:∀(hs:List Str) (lns:List (List (Str×Nat))),(∀l∈lns,(f l).count z=l.count z')->i6 p z hs (lns.map f)=i6 p z' hs lns
 |_,[],_=>by cases ‹List Str› <;> rfl
 |[],_ :: _,_=>rfl
 |x :: hs,y :: lns,h=>by
  show (if x=p then(f y).count z else 0) + i6 p z hs (lns.map f)=(if x=p then y.count z' else 0) + i6 p z' hs lns;rw[zJ p hs lns λl hl=>h l (wac _ hl),h y (wag ..)]
theorem rQ:∀{hs:List Str} {lns:List (List (Str×Nat))} {i:Nat} {l:List (Str×Nat)},hs[i]?=some p->lns[i]?=some l->l.count z<=i6 p z hs lns
 |y :: hs,x :: lns,0,l,a,b=>by
  cases a;cases b;show _<=(if p=p then x.count z else 0) + _;rw[if_pos rfl];omega
 |h :: hs,x :: lns,i + 1,l,a,b=>by
  have:=rQ (z:=z) (hs:=hs) (lns:=lns) (i:=i) (by simpa using a) (by simpa using b);show _<=_ + i6 p z hs lns;omega
 |[],_,_,_,a,_=>by simp at a
 |_ :: _,[],_,_,_,b=>by simp at b
theorem cnt_cons(q z:Str×Nat)(l:List (Str×Nat)):(q :: l).count z=l.count z + if q=z then 1 else 0:=by simp_all [List.count_cons,if_pos,beq_self_eq_true,if_neg]
theorem tG(f:Nat->Bool)(z:Str×Nat):∀(k:Nat) (l:List (Str×Nat)),(b5 f k l).count z + (b5 (λi=>!f i) k l).count z=l.count z
 |_,[]=>rfl
 |k,q :: l=>by
  have a:=tG f z (k + 1) l;show (if f k then q :: b5 f (k + 1) l else b5 f (k + 1) l).count z + (if !f k then q :: b5 (λi=>!f i) (k + 1) l else b5 (λi=>!f i) (k + 1) l).count z=_;rw[cnt_cons]
  cases f k with
  |true=>
   grind
  |false=>
   grind
theorem qE(hd:d < t)(w:Str)(e:Nat):∀l:List (Str×Nat),(∀q∈l,q.2 < t)->(eT d t l).count (w,e)=l.count (w,if e=t then d else e)
 |[],_=>rfl
 |q :: l,h=>by
  have f:=qE hd w e l λq c=>h q (wac _ c);have c:=h q (wag ..);have g:eT d t (q :: l)=(if q.2=d then[q,(q.1,t)] else[q])++eT d t l:=rfl;rw[g,List.count_append,f,cnt_cons];obtain⟨a,b⟩:=q;have c:b < t:=c;show (if b=d then[(a,b),(a,t)] else[(a,b)]).count (w,e) + _=_
  by_cases i:b=d
  ·grind
  ·grind
def Fd(B:Str->List (Str×Str))(hs:List Str)(lns:List (List (Str×Nat))):Prop:=
 ∀(p w:Str) (e:Nat),i6 p (w,e) hs lns=if e < hs.length/\p∈hs/\(w,hs.getD e "")∈B p then 1 else 0
theorem Fd.split{B:Str->List (Str×Str)}(h:Fd B hs lns)(hl:lns.length=hs.length)(o:∀l∈lns,∀q∈l,q.2 < hs.length)(hd:d < hs.length)(ns:List Int):Fd B (cX hs d) (i5 lns d ns):=by
 intro p w e
 have u:lns.getD d []∈lns:=by
  rw[wa5,wa2 (by omega)];exact waQ _
 have k:∀l∈(lns++[aZ ns (lns.getD d [])]).set d (b4 ns (lns.getD d [])),∀q∈l,q.2 < lns.length:=λl b=>by
  rw[hl];rcases wcC b with z |z
  ·rcases waA.mp z with z |z
   ·exact o l z
   ·rw[wao.mp z];exact λq c=>o _ u q (gX c)
  ·rw[z];exact λq c=>o _ u q (gX c)
 have n:(hs++[hs.getD d ""]).getD d ""=hs.getD d "":=by
  rw[wa5,waE hd,<-wa5]
 have r:(lns++[aZ ns (lns.getD d [])]).getD d []=lns.getD d []:=by
  rw[wa5,waE (by omega),<-wa5]
 unfold cX i5;rw[zJ p (z':=(w,if e=lns.length then d else e)) _ _ λl b=>qE (by omega) w e l (k l b)];have s:=zI p (w,if e=lns.length then d else e) (b4 ns (lns.getD d [])) (hs++[hs.getD d ""]) (lns++[aZ ns (lns.getD d [])]) d (by rw[wa7,wa7];simp[hl]) (by rw[wa7];omega);rw[n,r,wU p _ _ _ hs lns hl.symm]at s;have v:=tG (λi=>decide ((i:Int)∈ns)) (w,if e=lns.length then d else e) 0 (lns.getD d []);have A:(b4 ns (lns.getD d [])).count (w,if e=lns.length then d else e) + (aZ ns (lns.getD d [])).count (w,if e=lns.length then d else e)=(lns.getD d []).count (w,if e=lns.length then d else e):=v;have x:=h p w (if e=lns.length then d else e)
 have y:i6 p (w,if e=lns.length then d else e) (hs++[hs.getD d ""]) ((lns++[aZ ns (lns.getD d [])]).set d (b4 ns (lns.getD d [])))=i6 p (w,if e=lns.length then d else e) hs lns:=by
  by_cases j:hs.getD d ""=p
  ·rw[if_pos j,if_pos j,if_pos j]at s;omega
  ·rw[if_neg j,if_neg j,if_neg j]at s;omega
 rw[y,x]
 have m:p∈hs++[hs.getD d ""]↔p∈hs:=by
  rw[waA,wao];refine⟨λz=>z.elim id λz=>?_,.inl⟩;rw[z,wa5,wa2 hd];exact waQ _
 have a:(hs++[hs.getD d ""]).length=hs.length + 1:=by rw[wa7];rfl
 by_cases f:e=lns.length
 ·rw[if_pos f]
  have t:(hs++[hs.getD d ""]).getD e ""=hs.getD d "":=by
   rw[f,hl,wa5,waF (wab _),wbX];rfl
  rw[t,a];refine Qt ⟨λz=>⟨by omega,m.mpr z.2.1,z.2.2⟩,λz=>⟨hd,m.mp z.2.1,z.2.2⟩⟩
 ·rw[if_neg f]
  by_cases g:e < hs.length
  ·have t:(hs++[hs.getD d ""]).getD e ""=hs.getD e "":=by
    rw[wa5,waE g,<-wa5]
   rw[t,a];refine Qt ⟨λz=>⟨by omega,m.mpr z.2.1,z.2.2⟩,λz=>⟨g,m.mp z.2.1,z.2.2⟩⟩
  ·rw[if_neg (λz=>g z.1),if_neg (λz=>by have:=z.1;omega)]
theorem Fd.line{B:Str->List (Str×Str)}(h:Fd B hs lns)(hl:lns.length=hs.length)(g:∀p,(B p).length<=b):∀l∈lns,l.length<=b * hs.length:=by
 intro l j;obtain⟨i,hi,e⟩:=wbQ j;have f:lns[i]?=some l:=by rw[wa2 hi,e]
 have a:hs[i]?=some (hs[i]'(by omega)):=wa2 _;generalize hs[i]'(by omega)=p at a
 have one:∀z,l.count z<=1:=λz=>by
  have c:=rQ (z:=z) a f;have d:=h p z.1 z.2;rw[show ((z.1,z.2):Str×Nat)=z from rfl]at d;rw[d]at c;split at c <;> omega
 have nd:l.Nodup:=List.nodup_iff_count.mpr one
 have sub:∀z∈l,z∈((B p).map (·.1)).flatMap λw=>(waJ hs.length).map λe=>(w,e):=λz k=>by
  have c:=rQ (z:=z) a f;have d:=h p z.1 z.2;rw[show ((z.1,z.2):Str×Nat)=z from rfl]at d;rw[d]at c;have m:0 < l.count z:=wgK.mpr k
  by_cases hc:z.2 < hs.length/\p∈hs/\(z.1,hs.getD z.2 "")∈B p
  ·exact wdY.mpr ⟨z.1,waa.mpr ⟨_,hc.2.2,rfl⟩,waa.mpr ⟨z.2,wbd.mpr hc.1,rfl⟩⟩
  ·rw[if_neg hc]at c;omega
 have c:=hX nd sub
 have d:(((B p).map (·.1)).flatMap λw=>(waJ hs.length).map λe=>(w,e)).length<=(B p).length * hs.length:=by
  have:=nO (λw=>(waJ hs.length).map λe=>((w,e):Str×Nat)) hs.length ((B p).map (·.1)) λw _=>by rw[wa0,wb2];exact wab _
  rwa[wa0]at this
 exact wal c (wal d (wdf _ (g p)))
theorem tH(p:Str)(z:Str×Nat)(f:Str->List (Str×Nat)):∀hs:List Str,hs.Nodup->i6 p z hs (hs.map f)=if p∈hs then(f p).count z else 0
 |[],_=>rfl
 |h :: hs,nd=>by
  rw[wb0]at nd;show (if h=p then(f h).count z else 0) + i6 p z hs (hs.map f)=_;rw[tH p z f hs nd.2]
  by_cases e:h=p
  ·grind
  ·grind
theorem iK{f:Str->Option (Str×Str)}(g:∀r x,f r=some x->x.1=r):∀L:List Str,((L.filterMap f).map (·.1)).Sublist L
 |[]=>.slnil
 |r :: L=>by
  rw[wbk]
  cases e:f r with
  |none=>exact(iK g L).cons _
  |some x=>
   show (x.1 :: (L.filterMap f).map (·.1)).Sublist _;rw[g r x e];exact(iK g L).cons₂ _
theorem y8(nd:(ch g).Nodup)(l:ss.Perm (cJ ws "" ws))(hw:∀w∈ws,1<=w.length)(j:p∈ss)(n:Nat):((aP g ws ss ls n p).map (·.1)).Nodup:=by
 rw[<-BI l hw j n];refine List.Nodup.sublist (iK (λr x e=>?_) _) (by rw[rN];exact wN nd n);unfold JB at e;split at e
 ·cases e
 ·grind
theorem y9:∀{l:List (Str×Str)},(l.map (·.1)).Nodup->l.Nodup:=by intro l;induction l <;> grind [wbj,wb0]
theorem BP{g:List (Str×Str)}{hs:List Str}(nd:g.Nodup)(hn:hs.Nodup)(w:Str)(e:Nat) :
 (((g.filter λq=>decide (q.2∈hs)).map λq=>(q.1,hs.idxOf q.2)):List (Str×Nat)).count (w,e)=if e < hs.length/\(w,hs.getD e "")∈g then 1 else 0:=by
 have inj:∀q∈g.filter (λq=>decide (q.2∈hs)),((q.1,hs.idxOf q.2):Str×Nat)=(w,e)↔(e < hs.length/\q=(w,hs.getD e "")):=λq a=>by
  grind
 have gen:∀L:List (Str×Str),L.Nodup->(∀q∈L,((q.1,hs.idxOf q.2):Str×Nat)=(w,e)↔(e < hs.length/\q=(w,hs.getD e "")))->(L.map λq=>((q.1,hs.idxOf q.2):Str×Nat)).count (w,e)=if e < hs.length/\(w,hs.getD e "")∈L then 1 else 0:=by
  intro L
  induction L with
  |nil=>grind
  |cons q L b=>
   grind
 rw[gen _ (nd.filter _) inj];refine Qt ⟨λz=>⟨z.1,(waC.mp z.2).1⟩,λz=>⟨z.1,waC.mpr ⟨z.2,decide_eq_true ?_⟩⟩⟩;rw[wa5,wa2 z.1];exact waQ _
theorem Fd.first{g:Str}{ws ss ls:List Str}{n:Nat}{hs:List Str}(nd:(ch g).Nodup)(l:ss.Perm (cJ ws "" ws))(hw:∀w∈ws,1<=w.length)(j:∀p∈hs,p∈ss)(hn:hs.Nodup):Fd (aP g ws ss ls n) hs (bE g ws ss ls n hs):=by
 intro p w e;unfold bE;rw[tH p (w,e) _ hs hn]
 by_cases h:p∈hs
 ·rw[if_pos h];unfold fJ;rw[BP (y9 (y8 nd l hw (j p h) n)) hn];exact Qt ⟨λz=>⟨z.1,h,z.2⟩,λz=>⟨z.1,z.2.2⟩⟩
 ·rw[if_neg h,if_neg (λz=>h z.2.1)]
noncomputable def gM(p w:Str)(e:Nat):List Key:=[.inr p,.inr w,.inl (e:Int)]
theorem zK(h:gM p w e=gM g j l):p=g/\w=j/\e=l:=by grind [gM]
structure nY(kvs:List (List Key×V))(c:Str->Str->Nat->Nat):Prop where
 nd:(kvs.map (·.1)).Nodup
 v:∀p w e,bz kvs (gM p w e)=if c p w e=0 then none else some (.int (c p w e:Int))
 k:∀kv∈kvs,∃p w e,kv.1=gM p w e
theorem nY.nil:nY [] λ_ _ _=>0:=⟨wbj,λ_ _ _=>rfl,λ_ h=>nomatch h⟩
theorem lT{κ:Type}[DecidableEq κ]{kvs:List (κ×V)}{k:κ}{v y:V}(h:bz kvs k=some y):(putK kvs k v).map (·.1)=kvs.map (·.1):=by
 unfold putK;have e:(kvs.any λa=>decide (a.1=k))=true:=by rw[gd,h];rfl
 rw[if_pos e,wai];refine wb6 λa _=>?_;show (if a.1=k then(a.1,v) else a).1=a.1;split <;> rfl
theorem nY.put{kvs:List (List Key×V)}{c:Str->Str->Nat->Nat}(h:nY kvs c)(p w:Str)(e:Nat){v:Nat}(r:v≠0){o:Str->Str->Nat->Nat}(hc:∀g j l,o g j l=if g=p/\j=w/\l=e then v else c g j l):nY (putK kvs (gM p w e) (.int (v:Int))) o:=by
 refine⟨?_,λg j l=>?_,λm f=>?_⟩
 ·cases a:bz kvs (gM p w e) with
  |none=>exact CQ _ h.nd a
  |some y=>rw[lT a];exact h.nd
 ·rw[sj,hc]
  by_cases b:gM g j l=gM p w e
  ·rw[if_pos b,if_pos (zK b),if_neg r]
  ·rw[if_neg b,if_neg (c:=g=p/\j=w/\l=e) (λz=>b (by obtain⟨rfl,rfl,rfl⟩:=z;rfl))];exact h.v g j l
 ·have d:m.1∈(putK kvs (gM p w e) (.int (v:Int))).map (·.1):=waa.mpr ⟨m,f,rfl⟩
  have old:∀{x:List Key},x∈kvs.map (·.1)->∃p w e,x=gM p w e:=λn=>by
   obtain⟨i,q,rfl⟩:=waa.mp n;exact h.k i q
  cases a:bz kvs (gM p w e) with
  |none=>
   rw[cI _ a,waj]at d;rcases waA.mp d with z |z
   ·exact old z
   ·exact⟨p,w,e,wao.mp z⟩
  |some y=>
   rw[lT a]at d;exact old d
theorem zL{κ:Type}[DecidableEq κ]:∀{kvs:List (κ×V)} {g:κ×V},(kvs.map (·.1)).Nodup->g∈kvs->bz kvs g.1=some g.2:=by intro kvs;induction kvs <;> grind [wb0,bL,bM]
theorem nY.hits{c:Str->Str->Nat->Nat}(ha:nY j c)(l:nY o c):∀g∈j,∃i:Int,g.2=.int i/\bz o g.1=some (.int i):=λg a=>by
 obtain⟨p,w,e,d⟩:=ha.k g a;have f:=zL ha.nd a;have b:=ha.v p w e;have h:=l.v p w e;rw[<-d]at b h;rw[f]at b
 by_cases m:c p w e=0
 ·grind
 ·grind
theorem nY.le{c:Str->Str->Nat->Nat}(ha:nY g c)(j:nY l c):g.length<=l.length:=by
 have:=hX ha.nd λk a=>by
  obtain⟨b,d,rfl⟩:=waa.mp a;obtain⟨i,_,e⟩:=ha.hits j b d;exact rJ e
 rwa[wa0,wa0]at this
theorem nY.len{c:Str->Str->Nat->Nat}(ha:nY j c)(g:nY l c):j.length=l.length:=wfC (ha.le g) (g.le ha)
structure GU(kvs:List (List Key×V))(S:Str->Str->Nat->Prop):Prop where
 nd:(kvs.map (·.1)).Nodup
 y:∀p w e,S p w e->bz kvs (gM p w e)=some (.int 1)
 n:∀p w e,¬S p w e->bz kvs (gM p w e)=none
 k:∀kv∈kvs,∃p w e,kv.1=gM p w e
theorem GU.nil{S:Str->Str->Nat->Prop}(h:∀p w e,¬S p w e):GU [] S:=⟨wbj,λp w e z=>absurd z (h p w e),λ_ _ _ _=>rfl,λ_ h=>nomatch h⟩
theorem GU.put{S r:Str->Str->Nat->Prop}(h:GU kvs S)(p w:Str)(e:Nat)(o:∀g j l,r g j l↔S g j l\/(g=p/\j=w/\l=e)):GU (putK kvs (gM p w e) (.int 1)) r:=by
 refine⟨?_,λg j l z=>?_,λg j l z=>?_,λi d=>?_⟩
 ·cases b:bz kvs (gM p w e) with
  |none=>exact CQ _ h.nd b
  |some y=>rw[lT b];exact h.nd
 ·rw[sj]
  by_cases a:gM g j l=gM p w e
  ·rw[if_pos a]
  ·rw[if_neg a];refine h.y g j l (((o _ _ _).mp z).resolve_right λq=>a ?_);obtain⟨rfl,rfl,rfl⟩:=q;rfl
 ·rw[sj]
  by_cases a:gM g j l=gM p w e
  ·exact absurd ((o _ _ _).mpr (.inr (zK a))) z
  ·rw[if_neg a];exact h.n g j l λq=>z ((o _ _ _).mpr (.inl q))
 ·have c:i.1∈(putK kvs (gM p w e) (.int 1)).map (·.1):=waa.mpr ⟨i,d,rfl⟩
  have old:∀{x:List Key},x∈kvs.map (·.1)->∃p w e,x=gM p w e:=λm=>by
   obtain⟨f,s,rfl⟩:=waa.mp m;exact h.k f s
  cases b:bz kvs (gM p w e) with
  |none=>
   rw[cI _ b,waj]at c;rcases waA.mp c with z |z
   ·exact old z
   ·exact⟨p,w,e,wao.mp z⟩
  |some y=>
   rw[lT b]at c;exact old c
theorem nZ{α:Type}(f:α->Int):∀l:List α,(∀x∈l,0<=f x)->(l.map f).sum=((l.filter λx=>decide (0 < f x)).map f).sum:=by intro l;induction l <;> grind [wac,wag,wbb,decide_eq_true,wbl,decide_eq_false]
theorem wV{f:Str->Int}(h:∀p∈ls,0<=f p):((ak ls f).map f).sum=(ls.map f).sum:=(nZ f ls h).symm
theorem GV{f:Str->Int}(hn:∀p∈ls,0<=f p)(p:Str):b0 ((ak ls f).map f) (fJ g ws ss ls n (ak ls f) p)=gE g ws ss ls n f p:=by
 unfold gE;rw[nZ (λq:Str×Str=>f q.2) (aP g ws ss ls n p) λq a=>hn _ (cV a)];unfold b0 fJ;rw[wai]
 have e:(aP g ws ss ls n p).filter (λq=>decide (q.2∈ak ls f))=(aP g ws ss ls n p).filter λq=>decide (0 < f q.2):=wgT λq a=>by
  unfold ak;exact decide_eq_decide.mpr (by rw[waC];exact⟨λz=>of_decide_eq_true z.2,λz=>⟨cV a,decide_eq_true z⟩⟩)
 rw[e];refine congrArg List.sum (wb6 λq a=>?_)
 have b:q.2∈ak ls f:=by
  unfold ak;have:=waC.mp a;exact waC.mpr ⟨cV this.1,this.2⟩
 show ((ak ls f).map f).getD ((ak ls f).idxOf q.2) 0=f q.2;rw[wa5,wa4,(pH b).1];rfl
theorem iD.first{f:Str->Int}(hn:∀p∈ls,0<=f p)(j:Fc g ws ss ls many n f):iD many (ak ls f) ((ak ls f).map f) (bE g ws ss ls n (ak ls f)):=by
 have a:∀p∈ak ls f,p∈ls/\0 < f p:=λp b=>⟨(waC.mp b).1,of_decide_eq_true (waC.mp b).2⟩;refine⟨wa0 _,wa0 _,λw hw=>?_,λl hl q c=>?_,λi l hl=>?_⟩
 ·obtain⟨p,b,rfl⟩:=waa.mp hw;have:=(a p b).2;omega
 ·obtain⟨p,b,rfl⟩:=waa.mp hl;obtain⟨z,d,rfl⟩:=waa.mp c;exact List.idxOf_lt_length_of_mem (of_decide_eq_true (waC.mp d).2)
 ·unfold bE at hl;rw[wa4]at hl
  cases e:(ak ls f)[i]? with
  |none=>rw[e]at hl;cases hl
  |some p=>
   rw[e]at hl;cases hl;rw[GV hn,wa5,wa4,e];exact j p (a p (wak e)).1
end Bs
namespace L2
open PySem PySem.Calls PySem.Spec PyProof.Rows
theorem qF:∀ns:List Int,preSum (λi=>ns.getD i 0) ns.length=ns.sum
 |[]=>rfl
 |n :: ns=>by
  show preSum (λi=>(n :: ns).getD i 0) (ns.length + 1)=n + ns.sum;rw[PySem.W.kdu_shift,<-qF ns];rfl
section
variable{X:Cx}
theorem Eu(hc:X.calm=true):d5 X (.builtin "sum") (λxs H Q=>∃v d kvs ns,xs=[.ref v]/\H v=some (ki v d)/\H d=some (.dK kvs)/\kvs.map (·.2)=wcZ V.int ns/\Q (.int ns.sum) H):=by
 intro m s σ H xs R Q I r h;obtain⟨v,d,kvs,ns,rfl,D,hd,hn,q⟩:=h;obtain⟨u,rfl,E⟩:=vals1 r;cases E;obtain⟨S,lo,c,rel,F⟩:=sq I.aW hd;obtain⟨ep,f⟩:=F.dictAt;obtain⟨a,_⟩:=(show bG X.prog X.w H s.heap v (ki v d) from I.aW v _ D);have G:=I.ok.hd hc
 have g:c.length=ns.length:=by
  have:=congrArg wdl hn;rw[wa0,wa0]at this;rw[<-rel.length];exact this
 have J:∀{kvs:List (Key×V)} {c:List (Key×Value)} {ns:List Int},KV kvs c->kvs.map (·.2)=ns.map V.int->∀(i:Nat) (k:Key) (x:Value),c[i]?=some (k,x)->∃t,x=.int (ns.getD i 0) t:=by
  intro kvs c ns r
  induction r generalizing ns with
  |nil=>intro _ i k x e;simp at e
  |@cons p q ps T h t K=>
   intro e i k x j
   cases ns with
   |nil=>cases e
   |cons n ns=>
    rw[waw,waw]at e;injection e with L M
    cases i with
    |zero=>
     simp at j;have y:=h.2;rw[L,j]at y;exact y
    |succ i=>exact K M i k x (by simpa using j)
 have z:=wgG (prog:=X.prog) (w:=X.w) (r:=v) (d:=d) (knd:=bf X.prog X.w) (kvs:=c) (ep:=ep);refine call_sum_walkAnyS ?_;obtain⟨N,St,hit,W,st⟩:=z.iter X.A.in1 s G ⟨a,f⟩;refine hit _ _ ⟨s.heap.objs.size,_,_,_,c.length,_,_,λi=>ns.getD i 0,rfl,W.toS,st,λb l=>?_,λi x ⟨k,e⟩=>J rel hn i k x e,λB t' C=>?_⟩
 ·show b < (s.heap.push N).objs.size;rw[size_push'];rcases waH.mp l with e |l
  ·rw[e];exact wbS _
  ·rw[wao.mp l];exact wdK (z.there _ ⟨a,f⟩).2
 ·have O:∀b o,s.heap.get? b=some o->B.heap.get? b=some o:=λb o e=>
   C.heap b o (λP=>absurd (wad e) (by rw[wao.mp P];exact wb4 _)) (wa8 _ e)
  rw[Moved.eq_with C];refine⟨.int ns.sum,H,I.kept (t':=B.toks) O,⟨t',?_⟩,q⟩;rw[g,qF]
end
section
variable{prog:wat}{w:World}{A:Around}{E:Value->Shared->Prop}{s:Shared}{l I S:Addr}{vs:List Value}{R:wcR->Shared->Prop}{Q:Value->Shared->Prop}
theorem gm{h h':Heap}{p:Addr}{g:Array Value}(e:h.IsList p g)(j:∀b o,h.get? b=some o->h'.get? b=some o):h'.IsList p g:=let ⟨o,a,r⟩:=e;⟨o,j _ _ a,r⟩
theorem ya(kf:Nat->Int)(hh:A.handled=none)(hl:s.heap.IsList l vs.toArray)(hI:I=s.heap.objs.size)(Mj:S≠I)(Xy:s.heap.objs.size<=S)
 (turn:∀(i:Nat) (v:Value),vs[i]?=some v->∃p items,v=.ref p/\s.heap.IsList p items/\(items.size:Int)=kf i/\(items.size:Int) < 2 ^ 63)
 (hR:∀(v:Value) (h':Heap) (BQ:Nat),v∈vs->(∀b o,s.heap.get? b=some o->h'.get? b=some o)->R (.ok (.ret v)) {s with heap:=h',toks:=BQ}) :
 ∀(r j i:Nat) (h:Heap) (tk:Nat) (vb:Value) (tb:Tok) (c:Nat),vs.length - (j + 1)=r->j + 1<=vs.length->(∀b o,s.heap.get? b=some o->h.get? b=some o) ->
  h.get? S=some (seqObj "list" #[vb,.int (kf i) tb] c)->h.IsListIter I l (j + 1)->vs[i]?=some vb ->
  codeAny (model prog w) A (.builtin "min.loop" ⟨[.ref I,.builtin "len",.ref S],[]⟩) R {s with heap:=h,toks:=tk}:=by
 have zM:(toString "min"++toString ".loop":String)="min.loop":=by decide
 have BR:l < s.heap.objs.size:=let ⟨o,ho,_⟩:=hl;wad ho
 have OI:l≠I:=by rw[hI];exact war BR
 have W:=weZ (prog:=prog) (w:=w) (A:=A.in1) hh I l OI vs.toArray;have hsz:vs.toArray.size=vs.length:=waD ..
 have old:∀{b:Addr} {o:Obj},s.heap.get? b=some o->b≠S/\b≠I:=λ{b o} e=>by
  have hb:b < s.heap.objs.size:=wad e;exact⟨war (wan hb Xy),by rw[hI];exact war hb⟩
 intro r
 induction r with
 |zero=>
  intro j i h tk vb tb c hr hj mono nS hit Sq;have Xz:j + 1=vs.length:=by omega
  refine wbF wdQ ?_;rw[wbv wbM _];show wpAny _ A.in1 (we2 (.ref S) >>= _) _ _ _;refine wa3 (wcG nS rfl ?_);show wpAny _ A.in1 (tryCatch (pyNext (.ref I)) _ >>= _) _ _ _;refine wa3 (wbL (W.done _ _ _ ⟨by rw[hsz,<-Xz];exact hit,gm hl mono⟩ λh' BQ Im=>?_));have XA:=Im S _ (by simpa using Mj) nS;have s1:=wer h' S (wcB λ_=>(#[]:Array Value));show wpAny _ A.in1 (wgI S (λ_=>#[]) >>= _) _ _ _;refine wa3 ?_;refine wcV XA rfl (wa3 (wd0 (wap ?_)));exact hR vb _ _ (wak Sq) λb o e=>(s1.2 b (old e).1).trans (Im b o (by simpa using(old e).2) (mono b o e))
 |succ r ih=>
  intro j i h tk vb tb c hr hj mono nS hit Sq;have Ml:j + 1 < vs.length:=by omega
  refine wbF wdQ ?_;rw[wbv wbM _];show wpAny _ A.in1 (we2 (.ref S) >>= _) _ _ _;refine wa3 (wcG nS rfl ?_);show wpAny _ A.in1 (tryCatch (pyNext (.ref I)) _ >>= _) _ _ _;refine wa3 (wbL (W.item (j + 1) _ _ _ (by rw[hsz];exact Ml) ⟨hit,gm hl mono⟩ λv h' BQ hP JL Im=>?_));have hv:vs[j + 1]?=some v:=by simpa using hP
  have wW:∀b o,s.heap.get? b=some o->h'.get? b=some o:=λb o e=>Im b o (by simpa using(old e).2) (mono b o e);have N4:=Im S _ (by simpa using Mj) nS;obtain⟨p,items,rfl,hp,Sr,Ew⟩:=turn (j + 1) v hv;show wpAny _ A.in1 (tryCatch (holding [waf p] (call (.builtin "len") [.ref p])) _ >>= _) _ _ _;refine wa3 (wbL (waY (weq (gm hp wW) Ew ?_)));rw[Sr];show wpAny _ A.in1 (tryCatch (holding [waf p,.int (kf (j + 1)) _] (richCompare .Lt (.int (kf (j + 1)) _) (.int (kf i) tb) >>= _)) _ >>= _) _ _ _;refine wa3 (wbL (waY (wa3 (CmpOf.ints_lt (prog:=prog) (w:=w) (A:=A.in1) (P:=λi v=>∃t,v=.int (kf i) t) kf (λi v h=>h) (j + 1) i _ _ _ _ _ ⟨_,rfl⟩ ⟨tb,rfl⟩ ?_))));refine wa3 (waY (wbN ?_));refine wa3 (wd0 (wap ?_))
  by_cases GW:kf (j + 1) < kf i
  ·simp only[GW,decide_true,if_true];refine wa3 ?_;refine wcV N4 rfl (wa3 (wd0 ?_));rw[zM];have s1:=wer h' S (wcB λ_=>#[waf p,.int (kf (j + 1)) (BQ + 1)]);obtain⟨c2,Ss⟩:∃c2,(h'.update S (wcB λ_=>#[waf p,.int (kf (j + 1)) (BQ + 1)])).get? S=some (seqObj "list" #[waf p,.int (kf (j + 1)) (BQ + 1)] c2):=⟨_,get?_update_seq N4 λ_=>#[waf p,.int (kf (j + 1)) (BQ + 1)]⟩;refine wap ⟨wc5 wbM _,ih (j + 1) (j + 1) _ _ _ _ c2 (by omega) Ml (λb o e=>(s1.2 b (old e).1).trans (wW b o e)) Ss ?_ hv⟩;obtain⟨Su,Mm,Sv⟩:=id JL.1;exact⟨Su,(s1.2 I Mj.symm).trans Mm,Sv⟩
  ·simp only[GW,decide_false,wbU,if_false];refine wa3 (wd0 ?_);rw[zM];exact wap ⟨wc5 wbM _,ih (j + 1) i _ _ vb tb c (by omega) Ml wW N4 JL.1 Sq⟩
theorem JM(kf:Nat->Int)(hh:A.handled=none)(hl:s.heap.IsList l vs.toArray)(z9:0 < vs.length)
 (turn:∀(i:Nat) (v:Value),vs[i]?=some v->∃p items,v=.ref p/\s.heap.IsList p items/\(items.size:Int)=kf i/\(items.size:Int) < 2 ^ 63)
 (hQ:∀(v:Value) (h':Heap) (BQ:Nat),v∈vs->(∀b o,s.heap.get? b=some o->h'.get? b=some o)->Q v {s with heap:=h',toks:=BQ}) :
 wpAny (model prog w) A (call (.builtin "min") [.ref l] [(wcf "key",.builtin "len")]) Q E s:=by
 have zM:(toString "min"++toString ".loop":String)="min.loop":=by decide
 have BR:l < s.heap.objs.size:=let ⟨o,ho,_⟩:=hl;wad ho
 refine kmk_tree PySem.F.kind_min PySem.F.plain_min PySem.F.entry_min (kmk_min_key _ _) ?_;show wpAny _ A.in1 (wct "min" ["key","default"] 0 ⟨[],[(wcf "key",.builtin "len")]⟩ >>= _) _ _ s;refine wa3 (wh5 (show wct "min" ["key","default"] 0 ⟨[],[(wcf "key",.builtin "len")]⟩=pure [some (.builtin "len"),none] from rfl) ?_);refine wa3 (wap ?_);refine wa3 (wcz hl ?_);refine wa3 (wpAny_newList ?_ (waM _));rw[zM];have hS:(s.heap.push {cls:=.type "list_iterator",data:=.fields #[.ref l,.int 0 0]}).objs.size=s.heap.objs.size + 1:=size_push' ..;have OI:l≠s.heap.objs.size:=war BR;have Mj:(s.heap.push {cls:=.type "list_iterator",data:=.fields #[.ref l,.int 0 0]}).objs.size≠s.heap.objs.size:=by rw[hS];exact wcq (wbS _)
 refine wap ⟨wc5 wbM _,?_⟩
 have gI:((s.heap.push {cls:=.type "list_iterator",data:=.fields #[.ref l,.int 0 0]}).push (seqObj "list" #[] 0)).get? s.heap.objs.size=some {cls:=.type "list_iterator",data:=.fields #[.ref l,.int 0 0]}:=
  wa8 _ (wax _ rfl)
 have gS:((s.heap.push {cls:=.type "list_iterator",data:=.fields #[.ref l,.int 0 0]}).push (seqObj "list" #[] 0)).get? (s.heap.push {cls:=.type "list_iterator",data:=.fields #[.ref l,.int 0 0]}).objs.size=some (seqObj "list" #[] 0):=wax _ rfl;have KG:∀b o,s.heap.get? b=some o->((s.heap.push {cls:=.type "list_iterator",data:=.fields #[.ref l,.int 0 0]}).push (seqObj "list" #[] 0)).get? b=some o:=λb o e=>wa8 _ (wa8 _ e)
 have old:∀{b:Addr} {o:Obj},s.heap.get? b=some o->b≠s.heap.objs.size + 1/\b≠s.heap.objs.size:=λ{b o} e=>by
  have hb:b < s.heap.objs.size:=wad e;exact⟨war (wdK hb),war hb⟩
 have W:=weZ (prog:=prog) (w:=w) (A:=A.in1) hh s.heap.objs.size l OI vs.toArray;have hsz:vs.toArray.size=vs.length:=waD ..;refine wbF wdQ ?_;rw[wbv wbM _];show wpAny _ A.in1 (we2 (.ref _) >>= _) _ _ _;refine wa3 (wcG gS rfl ?_);show wpAny _ A.in1 (tryCatch (pyNext (.ref s.heap.objs.size)) _ >>= _) _ _ _;refine wa3 (wbL (W.item 0 _ _ _ (by rw[hsz];exact z9) ⟨⟨_,gI,rfl,rfl⟩,gm hl KG⟩ λv h' BQ hP JL Im=>?_));have hv:vs[0]?=some v:=by simpa using hP
 have wW:∀b o,s.heap.get? b=some o->h'.get? b=some o:=λb o e=>Im b o (by simpa using(old e).2) (KG b o e);have N4:=Im _ _ (by simpa using Mj) gS;obtain⟨p,items,rfl,hp,Sr,Ew⟩:=turn 0 v hv;show wpAny _ A.in1 (tryCatch (holding [waf p] (call (.builtin "len") [.ref p])) _ >>= _) _ _ _;refine wa3 (wbL (waY (weq (gm hp wW) Ew ?_)));rw[Sr];have s1:=wer h' (s.heap.push {cls:=.type "list_iterator",data:=.fields #[.ref l,.int 0 0]}).objs.size (wcB λ_=>#[waf p,.int (kf 0) (BQ + 1)]);obtain⟨c2,Ss⟩:∃c2,(h'.update (s.heap.push {cls:=.type "list_iterator",data:=.fields #[.ref l,.int 0 0]}).objs.size (wcB λ_=>#[waf p,.int (kf 0) (BQ + 1)])).get? (s.heap.push {cls:=.type "list_iterator",data:=.fields #[.ref l,.int 0 0]}).objs.size=some (seqObj "list" #[waf p,.int (kf 0) (BQ + 1)] c2):=⟨_,get?_update_seq N4 λ_=>#[waf p,.int (kf 0) (BQ + 1)]⟩;show wpAny _ A.in1 (wgI (s.heap.push {cls:=.type "list_iterator",data:=.fields #[.ref l,.int 0 0]}).objs.size (λ_=>#[waf p,.int (kf 0) (BQ + 1)]) >>= _) _ _ _;refine wa3 ?_;refine wcV N4 rfl ?_;rw[zM];obtain⟨Su,Mm,Sv⟩:=id JL.1;refine wap ⟨wc5 wbM _,ya kf hh hl rfl Mj (by rw[hS];exact wcp _) turn hQ _ 0 0 _ _ _ _ c2 rfl z9 (λb o e=>(s1.2 b (by rw[hS];exact(old e).1)).trans (wW b o e)) Ss ⟨Su,(s1.2 _ Mj.symm).trans Mm,Sv⟩ hv⟩
end
section
variable{X:Cx}{e:Expr}{t:TA}{p p2 kp pos:Pos}
def OS(K:wa1)(t:TA):TE:=λσ H Q=>t σ H λvs H1=>∃(a:Addr) (ps:List Addr),vs=[.ref a]/\aH K H1 a (ps.map V.ref)/\ps≠[]/\(∀q∈ps,∃ys,aH K H1 q ys)/\∀q∈ps,Q (.ref q) H1
theorem JN(hc:X.calm=true)(C:Gl X "min")(J:X.mg "min"=none)(l:Gl X "len")(o:X.mg "len"=none)(ha:PA X [e] t)(hs:starEach [e] X.env=[(false,eval e X.env)]:=by rfl):PE X (.Call (.Name "min" p) [e] [⟨some "key",.Name "len" p2,kp⟩] pos) (OS X.K t):=by
 intro f s σ H Q I h;refine wbu (iJ I C J (show waR "min"=some (.builtin "min") from Sx.LZ) ?_ (by decide) (by decide));refine wfg (bP (ha pos f s σ H _ I h) λP A ⟨R,B,g,D,E⟩=>?_) (by rw[hs];rfl) (by rw[hs];rfl);refine we3 (iJ g l o (show waR "len"=some (.builtin "len") from waO) (wek ?_) (by decide) (by decide));obtain⟨a,ps,rfl,F,m,n,q⟩:=E;obtain⟨u,rfl,G⟩:=vals1 D;cases G;obtain⟨b,k,pl,y⟩:=g.list F;have hl:b.length=ps.length:=by have:=k.length;rw[wa0]at this;exact this.symm
 have j:∀{ps:List Addr} {b:List Value},Vals (ps.map V.ref) b->b=ps.map waf:=by
  intro ps
  induction ps with
  |nil=>intro b r;cases r;rfl
  |cons x ps L=>
   intro b r
   cases r with
   |cons h t=>rw[L t];cases h;rfl
 have e:=j k;subst e
 have sz:∀q∈ps,∃b:List Value,A.heap.IsList q b.toArray/\b.length<=sizeLine:=λq c=>by
  obtain⟨S,M⟩:=n q c;obtain⟨b,k,pl,y⟩:=g.list M;exact⟨b,pl.isList,by rw[<-k.length];exact y⟩
 have hn:=mK;refine JM (kf:=λi=>match ps[i]? with |some q=>if c:q∈ps then((Classical.choose (sz q c)).length:Int) else 0 |none=>0) (g.ok.hd hc) pl.isList (by rw[wa0];cases ps with |nil=>exact absurd rfl m |cons _ _=>exact Nat.succ_pos _) (λi v d=>?_) λv T w d N=>?_
 ·rw[wa4]at d
  cases e:ps[i]? with
  |none=>rw[e]at d;cases d
  |some q=>
   rw[e]at d;cases d;have c:q∈ps:=wak e;obtain⟨O,U⟩:=Classical.choose_spec (sz q c);refine⟨q,_,rfl,O,?_,?_⟩
   ·show _=if c:q∈ps then _ else _
    rw[dif_pos c,waD]
   ·rw[waD];omega
 ·obtain⟨z,c,rfl⟩:=waa.mp d;exact⟨.ref z,B,g.kept (t':=w) N,rfl,q z c⟩
end
open AutoSeq1 (wpAny_loadPart')
noncomputable abbrev KH(t:Tok):List (Str×Value):=[(wcf "start",.int 1 t)]
theorem Ex(l:Addr)(items:Array Value)(n:Nat)(j:Option Addr)(sl:Array (Option Value))(t:Tok) :
 Meets (wdG.«enumerate.__new__» ⟨[.type "enumerate",.ref l],KH t⟩) (λ_ R s=>s.heap.get? l=some {cls:=.type "list",dict:=j,data:=.seq items n,slots:=sl} /\
  R (.ok (.ret (.ref (s.heap.objs.size + 1)))) {s with heap:=(s.heap.push {cls:=.type "list_iterator",data:=.fields #[.ref l,.int 0 0]}).push {cls:=.type "enumerate",data:=.fields #[.none,.bool false,.ref s.heap.objs.size,rawInt 1,.none,.none]}}):=
 .of_wp λprog w A R s h=>by
  obtain⟨a,g,d,i,os⟩:=s;obtain⟨hl,h⟩:=h;have b:(a.push {cls:=.type "list_iterator",data:=.fields #[.ref l,.int 0 0]}).objs.size=a.objs.size + 1:=wbK ..;have e:=sub_enumerate;have f:Heap.IsList (Shared.heap ⟨a,g,d,i,os⟩) l items:=⟨_,hl,rfl,n,rfl⟩
  wp_walk using wpAny_loadPart' hl
  refine wpAny_stack_any λst=>wap ?_;split
  ·rename_i c _ _ _ _ _;cases(c == we4 "enumerate") <;> (wp_walk using wpAny_loadPart' hl,wcz f;exact⟨_,rfl,by rw[b];exact h⟩)
  ·wp_walk using wpAny_loadPart' hl,wcz f
   exact⟨_,rfl,by rw[b];exact h⟩
section
variable{prog:wat}{w:World}{A:Around}{E:Value->Shared->Prop}{s:Shared}
theorem GX(l:Addr)(t:Tok):checkTypeCall "enumerate" ⟨[.ref l],KH t⟩=pure ():=by kernel_rfl
theorem GY(l:Addr)(t:Tok):wdX "enumerate.__new__" ⟨[.type "enumerate",.ref l],KH t⟩=pure ():=by kernel_rfl
theorem BU(o l:Addr)(t:Tok):argsOk "object.__init__" ⟨[.ref o,.ref l],KH t⟩:=by unfold argsOk;kernel_rfl
theorem BV(o l:Addr)(t:Tok):Meets (wdG.«object.__init__» ⟨[.ref o,.ref l],KH t⟩) (λ_ R s=>s.TypeIs (.ref o) "enumerate"/\R (.ok (.ret .none)) s):=by
 have hl:=weD.init.lookup;have c:=weD.made;have a:(some "enumerate.__new__" != some "object.__new__")=true:=by decide
 refine Meets.of_wp λprog w A R s ⟨d,b⟩=>?_
 repeat (any_goals (first |assumption |wp_step))
 exact⟨_,rfl,b⟩
theorem BW{Q:Value->Shared->Prop}(C:s.heap.IsList l items)
 (h:∀h',IsEnum h' (s.heap.objs.size + 1) s.heap.objs.size 1 .none->h'.IsListIter s.heap.objs.size l 0->(∀b o,s.heap.get? b=some o->h'.get? b=some o)->Q (.ref (s.heap.objs.size + 1)) {s with heap:=h'}) :
 wpAny (model prog w) A (call (.type "enumerate") [.ref l] (KH t)) Q E s:=by
 obtain⟨⟨c,f,x,sl⟩,hl,hc,n,hd⟩:=C;have y:c=.type "list":=hc;have z:x=.seq items n:=hd;subst y z;have B:(s.heap.push {cls:=.type "list_iterator",data:=.fields #[.ref l,.int 0 0]}).objs.size=s.heap.objs.size + 1:=wbK ..;have a:=weD;obtain⟨c,J,k⟩:=a.mro;have g:=a.made;have m:=a.sub;have K:=a.notType;have L:=a.canCreate;have D:=GX l t;refine wc4 (wfz (show wpAny _ _ (callAny (.type "enumerate") _) _ _ _ from wap ⟨wdC _ (by decide+kernel),wbF wgc ?_⟩));rw[wgH (wfX "enumerate" [.ref l] (KH t)) (units_type_call_type "enumerate" [.ref l] (KH t))]
 repeat (any_goals (first |assumption |wp_step))
 have p:((s.heap.push {cls:=.type "list_iterator",data:=.fields #[.ref l,.int 0 0]}).push {cls:=.type "enumerate",data:=.fields #[.none,.bool false,.ref s.heap.objs.size,rawInt 1,.none,.none]}).get? (s.heap.objs.size + 1)=some {cls:=.type "enumerate",data:=.fields #[.none,.bool false,.ref s.heap.objs.size,rawInt 1,.none,.none]}:=by
  rw[<-B];exact wax _ rfl
 refine wbT (wbZ a.plain F.entry_enumerate_new (wh5 (GY l t) ((Ex l items n f sl t) prog w A.in1 (wants (λv i=>v=.ref (s.heap.objs.size + 1)/\i={s with heap:=(s.heap.push {cls:=.type "list_iterator",data:=.fields #[.ref l,.int 0 0]}).push {cls:=.type "enumerate",data:=.fields #[.none,.bool false,.ref s.heap.objs.size,rawInt 1,.none,.none]}}) E) s ⟨hl,rfl,rfl⟩))) λr q j=>?_
 cases r with
 |error e=>exact j
 |ok fl=>
  cases fl with
  |ret obj=>
   obtain⟨rfl,rfl⟩:=j;have u:whw {s with heap:=(s.heap.push {cls:=.type "list_iterator",data:=.fields #[.ref l,.int 0 0]}).push {cls:=.type "enumerate",data:=.fields #[.none,.bool false,.ref s.heap.objs.size,rawInt 1,.none,.none]}} (.ref (s.heap.objs.size + 1)) "enumerate":=⟨_,p,rfl⟩;have G:=a.init.lookup;have H:=a.init.bind (.ref (s.heap.objs.size + 1));have M:=h _ p ⟨_,wa8 _ (wax _ rfl),rfl,rfl⟩ λb o e=>wa8 _ (wa8 _ e)
   repeat (any_goals (first |assumption |wp_step))
   refine wbT (wbZ a.init.plain F.entry_object_init (a.init.check _ _ _ _ _ _ _ _ u (BU _ l t) ((BV (s.heap.objs.size + 1) l t) prog w A.in1 (wants (λv i=>v=.none/\i={s with heap:=(s.heap.push {cls:=.type "list_iterator",data:=.fields #[.ref l,.int 0 0]}).push {cls:=.type "enumerate",data:=.fields #[.none,.bool false,.ref s.heap.objs.size,rawInt 1,.none,.none]}}) E) _ ⟨u,rfl,rfl⟩))) λI N d=>?_
   cases I with
   |error e=>exact d
   |ok N0=>
    cases N0 with
    |ret r=>
     obtain⟨rfl,rfl⟩:=d
     repeat (any_goals (first |assumption |wp_step))
    |_=>exact d.elim
  |_=>exact j.elim
theorem BX{P:Nat->Value->Prop}{St:Nat->Heap->Prop}(D:Draws prog w A it g n P St):Draws prog w A it g (n + 1) (λj v=>∃i,j=i + 1/\P i v) (λj h=>∃i,j=i + 1/\St i h) where
 live:=λ_ _ ⟨i,_,st⟩=>D.live i _ st
 frame:=λ_ h a ⟨i,e,st⟩ b=>⟨i,e,D.frame i h a st b⟩
 item:=λ_ s Q E m ⟨i,e,st⟩ c=>D.item i s Q E (by omega) st λx a d f k sb=>c x a d ⟨i,e,f⟩ ⟨i + 1,by omega,k⟩ sb
 done:=λs Q E ⟨i,e,st⟩ l=>D.done s Q E ((show n=i by omega) ▸ st) l
theorem Ey(g:A.handled=none)(it l:Addr)(items:Array Value)(i:Nat)(p:items[i]?=none):Draws prog w A it [it,l] (i + 1) (λ_ _=>False) (λj h=>j=i + 1/\h.IsListIter it l i/\h.IsList l items) where
 live:=λ_ _ ⟨_,st,_⟩=>let ⟨o,b,_⟩:=st;⟨o,b⟩
 frame:=λ_ _ _ ⟨e,st,sl⟩ a=>⟨e,st.at λo q=>a it (by simp) o q,sl.at λo q=>a l (by simp) o q⟩
 item:=λ_ _ _ _ c ⟨e,_⟩ _=>absurd e (war c)
 done:=λ_ _ _ ⟨_,st,sl⟩ d=>wpAny_nextOf_list_end g st sl p d
end
noncomputable def GZ(K:wa1)(a:Addr):It:=
 ⟨λi H=>∃xs x,aH K H a xs/\xs[i]?=some x,λi H x H'=>∃T xv,H T=none/\x=.ref T/\H'=upd H T (.tup [.int ((i + 1:Nat):Int),xv])/\∀xs,aH K H a xs->xs[i]?=some xv,λi H=>∃xs,aH K H a xs/\xs.length<=i⟩
theorem BZ{P:wat}{w:World}{K:wa1}{T:List Expr}{k:Nat}{pos:Pos}(a e it:Addr)(C:e≠it)(U:a≠it):Turn P w K (.Tuple T k pos) (GZ K a) [e,it] e (λi h=>(∃old,IsEnum h e it ((i + 1:Nat):Int) old)/\h.IsListIter it a i) where
 mem:=by simp
 obj:=λi h st b d=>by
  obtain⟨⟨old,f⟩,o,F,hc,hd⟩:=st;rcases waH.mp d with z |d
  ·exact⟨_,z ▸ f,λv q=>by
    have q':wgZ _=whu v:=q
    cases q'⟩
  ·exact⟨o,wao.mp d ▸ F,λv q=>by rw[hd]at q;cases q⟩
 keep:=λi h h' st k=>⟨st.1.imp λold f=>k e (by simp) _ f,st.2.at λo q=>k it (by simp) o q⟩
 item:=by
  intro X S hw V hc i B s σ H E I L st Y;subst S hw V;obtain⟨xs,x,R,Z⟩:=Y;obtain⟨g,rv,p,hz⟩:=I.list R;obtain⟨u,hu,ru⟩:=rv.get Z;obtain⟨⟨old,f⟩,hit⟩:=st;obtain⟨f0,f1,f2,f3,f4,f5⟩:=L e (by simp);obtain⟨g0,g1,g2,g3,g4,g5⟩:=L it (by simp)
  have z9:e≠a:=λz=>by
   obtain⟨o,F,XE,_⟩:=p.isList;have j:=f;rw[z]at j;rw[j]at F;cases F;have q:we4 "enumerate"=.type "list":=XE;injection q with q
   exact absurd q (by decide)
  have XF:i < g.length:=(wa6.mp hu).1;refine wpAny_pyNext_enum_itemD (i:=i + 1) (BX (Draws.list (A:=X.A.in1) (I.ok.hd hc) it a U g.toArray)) f ⟨i,rfl,hit,p.isList⟩ (by rw[waD];omega) C (by simp[C,z9]) λy h' tk G F Sw hT hsz hk=>?_;obtain⟨M,e1,G⟩:=G;obtain⟨i2,e2,N,XG⟩:=Sw;have e1:M=i:=by omega
  have e2:i2=i + 1:=by omega
  subst e1 e2
  have ey:y=u:=by
   rw[List.getElem?_toArray,hu]at G;exact(wah G).symm
  subst ey;refine⟨_,rfl,weL F λl j D=>?_⟩;have kp:∀b o,b≠e->b≠it->s.heap.get? b=some o->l.get? b=some o:=λb o h1 h2 q=>(D.2 b h1).trans (hk b o h1 h2 q);have O:e < s.heap.objs.size:=wad f;have Lw:s.heap.objs.size≠e:=wcq O;have RC:l.get? s.heap.objs.size=some {cls:=.type "tuple",data:=.seq #[.int ((M + 1:Nat):Int) tk,y]}:=(D.2 _ Lw).trans hT;have J:=I.aW.fresh (wab s.heap.objs.size);have t:∀b o,H b=some o->b≠e/\b≠it:=λb o q=>⟨(λz=>by rw[z,f0]at q;cases q),(λz=>by rw[z,g0]at q;cases q)⟩
  have Q:j8 X.prog X.w (upd H s.heap.objs.size (.tup [.int ((M + 1:Nat):Int),x])) l:=by
   intro b o q
   by_cases d:b=s.heap.objs.size
   ·subst d;rw[a6]at q;cases q;exact⟨by show 2<=sizeLine;decide,[.int ((M + 1:Nat):Int) tk,y],.cons ⟨_,rfl⟩ (.cons ru .nil),⟨_,RC,rfl,_,rfl⟩⟩
   ·rw[aa d]at q;refine(I.aW b o q).p8 (λc v hc r=>?_) (λc r=>by rw[aa (ae r J)];exact r) λc ys r=>by rw[aa (ae r J)];exact r
    rcases hc with z |z
    ·rw[z]at r ⊢;exact kp b v (t b o q).1 (t b o q).2 r
    ·exact kp c v (t c _ z).1 (t c _ z).2 r
  have I1:Inv X B σ (upd H s.heap.objs.size (.tup [.int ((M + 1:Nat):Int),x])) {s with heap:=l,gens:=s.gens,drawn:=s.drawn,toks:=tk + 1}:=by
   refine I.step (ch:=[e,it]) (λb d=>?_) (λb o _ _ hc q _=>kp b o (λz=>hc (by simp[z])) (λz=>hc (by simp[z])) q) (λb o _ _ hc q _=>⟨o.slots,kp b o (λz=>hc (by simp[z])) (λz=>hc (by simp[z])) q⟩)
    (λb o _ q n=>by rw[aa (war (wad q))];exact n) (λb o hc q=>⟨o,kp b o (λz=>hc (by simp[z])) (λz=>hc (by simp[z])) q⟩)
    (λb ys r=>by rw[aa (ae r J)];exact r) (λb o u r=>by rw[aa (ae r J)];exact r) (λb ps r=>⟨#[],by rw[aa (ae r J),r];simp⟩)
    (λm ⟨o,es,ep,RD,r⟩=>⟨o,es,ep,kp _ o (wbc f1) (wbc g1) RD,r⟩) Q I.bare
   rcases waH.mp d with rfl |d
   ·exact⟨f3,f1,f4,f5⟩
   ·have e':b=it:=by simpa using d
    subst e';exact⟨g3,g1,g4,g5⟩
  refine⟨.ref s.heap.objs.size,_,I1,rfl,⟨s.heap.objs.size,x,J,rfl,rfl,λys G=>by rw[I.rY G R];exact Z⟩,⟨⟨y,by simpa using j⟩,?_⟩,λb d=>?_⟩
  ·exact N.at λo q=>(D.2 it (wbc C)).trans q
  ·have:b < s.heap.objs.size:=by
    rcases waH.mp d with rfl |d
    ·exact O
    ·have e':b=it:=by simpa using d
     subst e';obtain⟨o,q,_⟩:=hit;exact wad q
   rw[aa (war this)];exact(L b d).1
 done:=by
   intro X S hw V hc i B s σ H E I L st Y;subst S hw V;obtain⟨xs,R,Z⟩:=Y;obtain⟨g,rv,p,hz⟩:=I.list R;have hl:=rv.length;obtain⟨⟨old,f⟩,hit⟩:=st;obtain⟨g0,g1,g2,g3,g4,g5⟩:=L it (by simp);exact wpAny_pyNext_enum_endD (Ey (A:=X.A.in1) (I.ok.hd hc) it a g.toArray i (wfJ (by simp;omega))) f ⟨rfl,hit,p.isList⟩ λh' eb=>⟨rfl,I.turned (t':=s.toks) (λb o d e=>eb b o d e) g0 g1 g3 g4 g5⟩
 self:=λ_ _ _ _ _ st h=>let ⟨⟨_,f⟩,_⟩:=st;wdL f h
theorem yb{E:Value->Shared->Prop}{Q:Value->Shared->Prop}(l:args.any (·.1)=false)(o:j.any (·.1.isNone)=false)
 (h:wpAny M A (evalArgs (.type T) true args j) (λa g=>wpAny M A (call (.type T) (first++a.pos) a.kw) Q E g) E s):wpAny M A (callWith pos (.type T) first args j) Q E s:=by
 unfold callWith;refine wa3 (waY (waV h (λa g b=>wa3 (wdh ?_)) λ_ _ x=>x));simp only[l,o,Bool.or_false];exact wa3 (wap (wa3 (waV b (λr c d=>wa3 (waY (wpAny_point (wap d)))) λ_ _ x=>x)))
section
variable{X:Cx}
def Mo(K:wa1)(ta:TA):TI:=λσ H R=>ta σ H λvs H1=>∃a xs,vs=[.ref a]/\aH K H1 a xs/\R (GZ K a) H1
theorem Hc{g:List Expr}{k j:Nat}{o:Pos}{l:Expr}{C:TA}{p J kp pos:Pos}(T:Gl X "enumerate")(U:X.mg "enumerate"=none)(ha:PA X [l] C)(hs:starEach [l] X.env=[(false,eval l X.env)]:=by rfl) :
 PI X (.Tuple g k o) (.Call (.Name "enumerate" p) [l] [⟨some "start",.Constant (.int 1) j J,kp⟩] pos) (Mo X.K C):=by
 intro c s σ H R I h;refine wbu (iJ I T U jK ?_ (by decide) (by decide));refine yb (by rw[hs];rfl) rfl ?_
 have w:backTo pos (starEach [l] X.env)=(false,(backTo pos (starEach [l] X.env)).head (by rw[hs];exact λz=>nomatch z) |>.2) :: []:=by
  simp only[hs];rfl
 rw[w];refine evalArgs_kwB rfl ?_;rw[<-w];refine bP (ha pos c s σ H _ I h) λZ E ⟨vs,A,F,G,L⟩=>?_;refine we3 (bP (ai (X:=X) (i:=1) c E σ A (λx m=>x=.int 1/\m=A) F ⟨rfl,rfl⟩) λv d ⟨y,m,n,M,N,O⟩=>wek ?_);subst N O;obtain⟨t,rfl⟩:=M;obtain⟨a,xs,e,P,q⟩:=L;subst e;obtain⟨u,rfl,Q⟩:=vals1 G;cases Q;obtain⟨S,rv,pl,hz⟩:=n.list P;refine BW pl.isList λV B hit kp=>wdL B ?_;have W:Inv X c σ m {d with heap:=V}:=n.kept (t':=d.toks) kp;have r:a < d.heap.objs.size:=let ⟨_,Y,_⟩:=pl.isList;wad Y
 refine⟨d.heap.objs.size + 1,[d.heap.objs.size + 1,d.heap.objs.size],_,_,m,rfl,W,BZ a _ _ (wcq (wbS _)) (war r),⟨⟨_,B⟩,hit⟩,λb D=>?_,q⟩
 have f:d.heap.objs.size<=b:=by
  rcases waH.mp D with rfl |D
  ·grind
  ·grind
 exact n.DH f (n.aW.fresh f)
end
theorem Ez{K:wa1}{a:Addr}{xs:List V}{g:TG}{C:TS}{D:Ends}{σ:St}{H:Hp}(Pv:Nat->St->Hp->Prop)(J:Pv 0 σ H)(hl:∀i σ H,i<=xs.length->Pv i σ H->aH K H a xs)
 (hs:∀i x σ H T,xs[i]?=some x->Pv i σ H->H T=none->g (.ref T) σ (upd H T (.tup [.int ((i + 1:Nat):Int),x])) λj r=>C {D with nx:=Pv (i + 1),ct:=Pv (i + 1),bk:=D.nx} j r) (hd:∀σ H,Pv xs.length σ H->D.nx σ H) :
 ∃W:Nat->Nat->St->Hp->Prop,(∃m,W 0 m σ H)/\∀i m σ H,W i m σ H ->
  ((GZ K a).stop i H/\D.nx σ H)\/((GZ K a).go i H/\∃N:St->Hp->Prop,(∀l o,N l o->∃I,I < m/\W (i + 1) I l o)/\∀x o,(GZ K a).uW i H x o->g x σ o λj r=>C {D with nx:=N,ct:=N,bk:=D.nx} j r):=by
 refine⟨λi m σ H=>m=xs.length - i/\i<=xs.length/\Pv i σ H,⟨xs.length,by simp,waM _,J⟩,?_⟩;rintro i m σ H ⟨rfl,hi,p⟩;have q:=hl i σ H hi p
 by_cases b:i < xs.length
 ·refine .inr ⟨⟨xs,xs[i],q,by simp[b]⟩,Pv (i + 1),λl o c=>⟨xs.length - (i + 1),by omega,rfl,b,c⟩,λx o y=>?_⟩;obtain⟨T,d,f,h,k,y⟩:=y;subst h k;exact hs i d σ _ T (y xs q) p f
 ·have e:i=xs.length:=by omega
  subst e;exact .inl ⟨⟨xs,q,wab _⟩,hd σ H p⟩
end L2
namespace L2
open PySem PySem.Spec PyProof.Rows
def tI(K:wa1)(J:It)(l:Addr)(σf:St)(tt:TT)(te:TE)(H:Hp)(Q:Hp->Prop):Prop:=
 ∃W:Nat->Nat->List V->Hp->Prop,(∃m,W 0 m [] (upd H l (.lst [])))/\∀i m ys H2,W i m ys H2->H2 l=some (.lst ys) /\
  ((J.stop i H2/\Q H2)\/(J.go i H2/\ys.length < sizeLine/\∀x H3,J.uW i H2 x H3->∃p a b c,x=.ref p/\ir K H3 p [a,b,c]/\tt (some a :: some b :: some c :: σf) H3 λok H4=>
    if ok=true then te (some a :: some b :: some c :: σf) H4 λy H5=>H5 l=some (.lst ys)/\∃m',m' < m/\W (i + 1) m' (ys++[y]) (upd H5 l (.lst (ys++[y])))
    else ∃m',m' < m/\W (i + 1) m' ys H4))
def Mp(K:wa1)(wi:TI)(ix:List Nat)(tt:TT)(te:TE):TE:=λσ H Q=>wi σ H λJ H1=>∀l,H1 l=none->tI K J l (pick σ ix) tt te H1 (λH2=>Q (.ref l) H2)
section
variable{X:Cx}{pins:List (Addr×Obj)}{σ:St}{H:Hp}{s₂:Shared}{scope:wcQ}{x x2 x3:Str}{ys:List Str}{ix:List Nat}{cl:List (Str×Addr)}{fp:List Addr}{L:Addr}
theorem Hd(hc:X.calm=true)(B:bK X scope x ys ix)(g:bK X scope x2 ys ix)(j:bK X scope x3 ys ix)(l:x≠x2/\x≠x3/\x2≠x3)(cl L s H ex pn):PG (bb X scope ([x,x2,x3]++ys) cl L s H ex pn) (.Tuple [.Name x r,.Name x2 o,.Name x3 p] C pt) (Fo X.K 3 (ke (d4 0) (ke (d4 1) (ke (d4 2) Fn)))):=by
 have d:(relabel scope X.env).names.lookup x=some .local:=wce B.var;have b:(relabel scope X.env).names.lookup x2=some .local:=wce g.var;have c:(relabel scope X.env).names.lookup x3=some .local:=wce j.var
 have a:(x :: x2 :: x3 :: ys).Nodup:=by
  have:=B.nd;have:=g.nd;have:=j.nd
  grind
 exact fC hc (aU (jd a rfl (.inl d) (.inr d)) (aU (jd a rfl (.inl b) (.inr b)) (aU (jd a rfl (.inl c) (.inr c)) dC)))
theorem He{K:wa1}{J:It}(h:tI K J l g j o H Q):wk (Fo K 3 (ke (d4 0) (ke (d4 1) (ke (d4 2) Fn)))) 3 J l g j o H Q:=
 let ⟨W,a,t⟩:=h
 ⟨W,a,λi m ys k w=>let ⟨p,q⟩:=t i m ys k w;⟨p,q.imp id λ⟨a,b,c⟩=>⟨a,b,λx n r z y=>by revert r;refine iw 3 _ ?_;exact λ_ _ _=>let ⟨p,v,f,d,e,u,s⟩:=c x n y;⟨p,[v,f,d],e,u,rfl,v,[f,d],rfl,f,[d],rfl,d,[],rfl,rfl,⟨[some v,some f,some d],rfl,rfl⟩,s⟩⟩⟩⟩
theorem Hf(hc:X.calm=true)(B:bK X scope x ys ix)(U:bK X scope x2 ys ix)(B3:bK X scope x3 ys ix)(g:x≠x2/\x≠x3/\x2≠x3)(hi:PI X (.Tuple [.Name x px,.Name x2 j,.Name x3 o] kt pt) iter wi)
 (ht:∀cl L s H ex pn,Ii (bb X scope (x :: x2 :: x3 :: ys) cl L s H ex pn) p I) (he:∀cl L s H ex pn,PE (bb X scope (x :: x2 :: x3 :: ys) cl L s H ex pn) r T)
 (hs:∀v,wc0 iter X.env v=pure v:=by intro _;rfl):PE X (.ListComp r [⟨.Tuple [.Name x px,.Name x2 j,.Name x3 o] kt pt,iter,p,0⟩] scope pos) (Mp X.K wi ix I T):=
 sy (C:=λJ l a H Q=>tI X.K J l a I T H Q) (xs:=[x,x2,x3]) hc B (Hd hc B U B3 g) (λ_ _ _ _ _=>He) hi ht he hs
end
end L2
namespace Bs
open PySem L2 Sx
noncomputable def cY(ds:List Nat)(qs:List (Str×Nat)):List (Str×Nat):=qs.filter λq=>decide (q.2∈ds)
theorem wX(h:∀d∈S,d∈T):∀g:List (Str×Nat),(cY S g).length<=(cY T g).length
 |[]=>wab _
 |q :: g=>by
  have a:=wX h g;unfold cY at a ⊢
  by_cases b:q.2∈S
  ·rw[wbb (by exact decide_eq_true b),wbb (by exact decide_eq_true (h _ b))];exact Nat.succ_le_succ a
  ·rw[wbl (by simpa using b)]
   by_cases c:q.2∈T
   ·rw[wbb (by exact decide_eq_true c)];exact Nat.le_succ_of_le a
   ·rw[wbl (by simpa using c)];exact a
theorem Hg(j:List Nat)(g:List (Str×Nat)):(cY j g).length<=g.length:=wbi _ _
noncomputable def tJ(lns:List (List (Str×Nat)))(many:Int)(ds:List Nat):List Nat:=ds.filter λd=>decide (many<=((cY ds (lns.getD d [])).length:Int))
def Dg(lns:List (List (Str×Nat)))(many:Int)(S:List Nat):Prop:=∀d∈S,d < lns.length/\many<=((cY S (lns.getD d [])).length:Int)
structure Above(lns:List (List (Str×Nat)))(many:Int)(ks:List Nat):Prop where
 sub:ks.Sublist (waJ lns.length)
 top:∀S,Dg lns many S->∀d∈S,d∈ks
theorem Above.start(lns:List (List (Str×Nat)))(many:Int):Above lns many (waJ lns.length):=⟨weW _,λS h d hd=>wbd.mpr (h d hd).1⟩
theorem Above.next(h:Above lns many g):Above lns many (tJ lns many g):=by
 refine⟨wdo.trans h.sub,λS a d hd=>waC.mpr ⟨h.top S a d hd,decide_eq_true ?_⟩⟩;have b:=(a d hd).2;have c:=wX (h.top S a) (lns.getD d []);omega
theorem Above.stays(h:Above lns many g)(e:tJ lns many g=g):Dg lns many g:=λd hd=>by
 refine⟨wbd.mp (h.sub.subset hd),?_⟩;rw[<-e]at hd;exact of_decide_eq_true (waC.mp hd).2
theorem Hh(e:tJ lns many g≠g):(tJ lns many g).length < g.length:=by
 have a:(tJ lns many g).Sublist g:=wdo;exact Nat.lt_of_le_of_ne a.length_le λz=>e (a.eq_of_length z)
structure n6(lns:List (List (Str×Nat)))(many:Int)(ks:List Nat):Prop where
 ab:Above lns many ks
 st:Dg lns many ks
theorem n7:∀g:List (Str×Nat),(∀q∈g,ws.getD q.2 0<=h)->b0 ws g<=(g.length:Int) * h
 |[],_=>by show (0:Int)<=(0:Nat) * h;simp
 |q :: g,a=>by
  have c:=n7 g λp b=>a p (wac _ b);have d:=a q (wag ..);rw[cj,waK,wds,wfP];show _<=_ + 1 * h;omega
theorem getD_mem{ws:List Int}{i:Nat}(h:i < ws.length):ws.getD i 0∈ws:=by
 grind
theorem zN{many h:Int}{hs:List Str}{ws:List Int}{lns:List (List (Str×Nat))}(S:iD many hs ws lns)(K:n6 lns many [])(C:h∈ws)(I:∀w∈ws,w<=h)(J:1<=many) :
 ∃(d i:Nat) (g:List (Str×Nat)) (q:Str×Nat),lns[d]?=some g/\g[i]?=some q/\ws.getD d 0=h/\ws.getD q.2 0 < h:=by
 have f:=S.w;have u:=S.l
 by_cases s:∃(d i:Nat) (g:List (Str×Nat)) (q:Str×Nat),lns[d]?=some g/\g[i]?=some q/\ws.getD d 0=h/\ws.getD q.2 0 < h
 ·exact s
 exfalso
 have all:∀(d:Nat) (g:List (Str×Nat)),lns[d]?=some g->ws.getD d 0=h->∀q∈g,ws.getD q.2 0=h:=λd g hd hw q c=>by
  obtain⟨i,hi,e⟩:=wbQ c;have v:¬ws.getD q.2 0 < h:=λz=>s ⟨d,i,g,q,hd,by rw[wa2 hi,e],hw,z⟩;have o:=I _ (getD_mem (ws:=ws) (i:=q.2) (by rw[f];exact S.e g (wak hd) q c));omega
 obtain⟨x,j,y⟩:=wbQ C;have v:1<=h:=S.p h C
 have r:Dg lns many ((waJ ws.length).filter λd=>decide (ws.getD d 0=h)):=λd hd=>by
  obtain⟨t,n⟩:=waC.mp hd;have t:=wbd.mp t;have n:ws.getD d 0=h:=of_decide_eq_true n;have k:d < lns.length:=by omega
  have c:lns[d]?=some (lns.getD d []):=by rw[wa5,wa2 k];rfl
  refine⟨k,?_⟩;have m:=all d _ c n;have A:cY ((waJ ws.length).filter λd=>decide (ws.getD d 0=h)) (lns.getD d [])=lns.getD d []:=wb5.mpr λq a=>decide_eq_true (waC.mpr ⟨wbd.mpr (by rw[f];exact S.e _ (wak c) q a),decide_eq_true (m q a)⟩);rw[A];have o:=S.b d _ c;have B:=n7 (lns.getD d []) λq a=>Int.le_of_eq (m q a);rw[n]at o;have D:many * h<=((lns.getD d []).length:Int) * h:=wd4 o B;exact weO D (by omega)
 have:=K.ab.top _ r x (waC.mpr ⟨wbd.mpr j,decide_eq_true (by rw[wa5,wa2 j,y];rfl)⟩);cases this
theorem wY(f:Nat->Bool)(ws:List Int):∀(k:Nat) (g:List (Str×Nat)),b0 ws (b5 f k g)=(((wfN k g.length).filter f).map λi=>ws.getD (g.getD (i - k) ("",0)).2 0).sum
 |_,[]=>rfl
 |k,q :: g=>by
  have a:=wY f ws (k + 1) g
  have e:((wfN (k + 1) g.length).filter f).map (λi=>ws.getD ((q :: g).getD (i - k) ("",0)).2 0)=((wfN (k + 1) g.length).filter f).map λi=>ws.getD (g.getD (i - (k + 1)) ("",0)).2 0:=wb6 λi hi=>by
   have:=(wgU.mp (waC.mp hi).1).1;rw[show i - k=(i - (k + 1)) + 1 by omega];rfl
  show b0 ws (if f k then q :: b5 f (k + 1) g else b5 f (k + 1) g)=_;rw[waK,whg]
  cases b:f k with
  |true=>
   rw[if_pos rfl,wbb b,waw,e,cj,a,wbs,wbX];rfl
  |false=>
   rw[if_neg (by decide),wbl (by grind),e,a]
theorem Hi{a b:List Int}(h:a.Perm b):a.sum=b.sum:=by
 induction h with
 |nil=>rfl
 |cons x _ c=>grind
 |swap x y l=>grind
 |trans _ _ d e=>grind
theorem C0{a b:List Nat}(na:a.Nodup)(g:b.Nodup)(h:∀x,x∈a↔x∈b):a.Perm b:=by grind [wfC]
theorem C3(ws:List Int)(g:List (Str×Nat)){ns:List Nat}(nd:ns.Nodup)(j:∀n∈ns,n < g.length):b0 ws (b4 (ns.map λn:Nat=>(n:Int)) g)=(ns.map λi=>ws.getD (g.getD i ("",0)).2 0).sum:=by
 unfold b4;rw[wY];refine Hi (List.Perm.map _ (C0 ((List.nodup_range' ..).filter _) nd λx=>?_));rw[waC,wgU,decide_eq_true_eq,waa];constructor
 ·grind
 ·grind
theorem EA(ws:List Int)(ns:List Int)(g:List (Str×Nat)):b0 ws (b4 ns g) + b0 ws (aZ ns g)=b0 ws g:=by
 have gen:∀(f:Nat->Bool) (k:Nat) (l:List (Str×Nat)),b0 ws (b5 f k l) + b0 ws (b5 (λi=>!f i) k l)=b0 ws l:=by
  intro f k l
  induction l generalizing k with
  |nil=>rfl
  |cons q l a=>
   have a:=a (k + 1);show b0 ws (if f k then q :: b5 f (k + 1) l else b5 f (k + 1) l) + b0 ws (if !f k then q :: b5 (λi=>!f i) (k + 1) l else b5 (λi=>!f i) (k + 1) l)=_;rw[cj]
   cases f k with
   |true=>
    rw[if_pos (by decide),if_neg (by decide),cj];omega
   |false=>
    rw[if_neg (by decide),if_pos (by decide),cj];omega
 exact gen _ 0 g
theorem n8{f:Nat->Int}:∀ns:List Nat,(∀n∈ns,f n<=h)->(ns.map f).sum<=(ns.length:Int) * h
 |[],_=>by show (0:Int)<=(0:Nat) * h;simp
 |n :: ns,a=>by
  have c:=n8 ns λp b=>a p (wac _ b);have d:=a n (wag ..);rw[waw,wbs,waK,wds,wfP];show _<=_ + 1 * h;omega
theorem tK{f:Nat->Int}:∀ns:List Nat,(∀n∈ns,f n<=h)->x∈ns->f x < h->(ns.map f).sum < (ns.length:Int) * h
 |[],_,a,_=>nomatch a
 |n :: ns,c,a,b=>by
  have i:=c n (wag ..);rw[waw,wbs,waK,wds,wfP];show _ < _ + 1 * h;rcases waH.mp a with e |a
  ·have g:=n8 ns λp d=>c p (wac _ d);rw[e]at b;omega
  ·have g:=tK ns (λp d=>c p (wac _ d)) a b;omega
theorem tL{f:Nat->Int}:∀ns:List Nat,(∀n∈ns,1<=f n)->ns≠[]->1<=(ns.map f).sum
 |[],_,h=>absurd rfl h
 |[n],a,_=>by
  have:=a n (wag ..);show 1<=f n + 0;omega
 |n :: m :: ns,a,_=>by
  have c:=a n (wag ..);have d:=tL (m :: ns) (λp b=>a p (wac _ b)) (λz=>nomatch z);rw[waw,wbs];omega
theorem EB{many h w:Int}{hs:List Str}{ws:List Int}{lns:List (List (Str×Nat))}(S:iD many hs ws lns){d i0:Nat}{g:List (Str×Nat)}{ns:List Nat}(T:∀w∈ws,w<=h)(hd:lns[d]?=some g)(hw:ws.getD d 0=h)(U:1<=many)
 (nd:ns.Nodup) (r:∀n∈ns,n < g.length) (C:ns≠[]) (J:(ns.length:Int)<=many) (o:(ns.length:Int)=many->i0∈ns) (I:ws.getD (g.getD i0 ("",0)).2 0 < h)
 (j:(ns.map λi=>ws.getD (g.getD i ("",0)).2 0).sum=many * w):dh ws lns many (d:Int) (ns.map λn:Nat=>(n:Int)) w=true:=by
 have k:=S.w;have t:=S.l;have u:d < lns.length:=(wa6.mp hd).1;have m:lns.getD d []=g:=by rw[wa5,hd];rfl
 have q:g∈lns:=wak hd
 have a:∀i,i < g.length->ws.getD (g.getD i ("",0)).2 0∈ws:=λi hi=>by
  have e:g.getD i ("",0)=g[i]:=by rw[wa5,wa2 hi];rfl
  rw[e];exact getD_mem (by rw[k];exact S.e g q _ (waQ hi))
 have c:∀n∈ns,1<=ws.getD (g.getD n ("",0)).2 0:=λn hn=>S.p _ (a n (r n hn));have f:∀n∈ns,ws.getD (g.getD n ("",0)).2 0<=h:=λn hn=>T _ (a n (r n hn));have x:=tL ns c C;rw[j]at x
 have y:1<=w:=by
  by_cases z:1<=w
  ·exact z
  ·have:=Int.mul_nonpos_of_nonneg_of_nonpos (show 0<=many by omega) (show w<=0 by omega);omega
 have H:1<=h:=by rw[<-hw];exact S.p _ (getD_mem (by omega))
 have K:w < h:=by
  have lt:many * w < many * h:=by
   rw[<-j]
   by_cases z:(ns.length:Int)=many
   ·have:=tK ns f (o z) I;rw[z]at this;exact this
   ·have A:=n8 ns f;have B:((ns.length:Int) + 1) * h<=many * h:=Int.mul_le_mul_of_nonneg_right (by omega) (by omega);rw[wfP]at B;omega
  exact Int.lt_of_mul_lt_mul_left lt (by omega)
 have s:=C3 ws g nd r;rw[j]at s;have L:=EA ws (ns.map λn:Nat=>(n:Int)) g;have b:=S.b d g hd;rw[hw]at b
 have D:many * (h - w)<=b0 ws (aZ (ns.map λn:Nat=>(n:Int)) g):=by
  rw[Int.mul_sub];omega
 have part:∀(l:List (Str×Nat)) (v:Int),1<=v->many * v<=b0 ws l->dS ws many l v=true:=λl v E hl=>by
  have hn:l≠[]:=λz=>by
   rw[z]at hl;have A:many * v<=0:=hl;have:=Int.mul_pos (show 0 < many by omega) (show 0 < v by omega);omega
  unfold dS;rw[decide_eq_true E,decide_eq_true hl]
  cases l with
  |nil=>exact absurd rfl hn
  |cons _ _=>rfl
 unfold dh;rw[waG,m,hw,part _ w y (Int.le_of_eq s.symm),part _ (h - w) (by omega) D];have F:dY (d:Int) lns.length=true:=by unfold dY;rw[decide_eq_true (by omega),decide_eq_true (by omega)];rfl
 have G:(ns.map λn:Nat=>(n:Int)).all (λi=>dY i g.length)=true:=waP.mpr λi hi=>by
  obtain⟨n,hn,rfl⟩:=waa.mp hi;have:=r n hn;unfold dY;rw[decide_eq_true (by omega),decide_eq_true (by omega)];rfl
 rw[F,G];rfl
noncomputable def nI(ds:List Nat):List Int:=ds.map λn:Nat=>(n:Int)
theorem Mq{g:List Nat}{e:Nat}:(e:Int)∈nI g↔e∈g:=by grind [nI]
theorem Hj(e:Nat)(g:List Nat):nJ (.int (e:Int)) ((nI g).map V.int)=decide (e∈g):=by
 rw[tu];exact decide_eq_decide.mpr Mq
theorem cK(g:List Nat):(nI g).length=g.length:=wa0 _
theorem C4{g:List Nat}{i n:Nat}(h:g[i]?=some n):((nI g).map V.int)[i]?=some (.int (n:Int)):=by
 unfold nI;rw[wa4,wa4,h];rfl
theorem Hk:∀{a b:List Nat},nI a=nI b->a=b
 |[],[],_=>rfl
 |[],_ :: _,h=>nomatch h
 |_ :: _,[],h=>nomatch h
 |x :: a,y :: b,h=>by
  unfold nI at h;rw[waw,waw]at h;injection h with d c
  rw[Hk (a:=a) (b:=b) c,show x=y by omega]
theorem pK(a b:List Nat):nI (a++b)=nI a++nI b:=waj
structure Reach(lns:List (List (Str×Nat)))(rs:List Nat):Prop where
 cl:∀d∈rs,∀q∈lns.getD d [],q.2∈rs
 lt:∀d∈rs,d < lns.length
 ne:rs≠[]
 nd:rs.Nodup
noncomputable def cE(N2:List Str)(f:Str->Int):Str->Int:=λp=>if p∈N2 then f p else 0
theorem tM{α:Type}{f g:α->Int}:∀l:List α,(∀x∈l,f x<=g x)->(l.map f).sum<=(l.map g).sum
 |[],_=>wdm _
 |x :: l,h=>by
  have:=h x (wag ..);have:=tM l λy a=>h y (wac _ a);rw[waw,waw,wbs,wbs];omega
theorem tN{α:Type}{f:α->Int}{x:α}:∀l:List α,(∀x∈l,0<=f x)->x∈l->0 < f x->0 < (l.map f).sum
 |y :: l,h,a,c=>by
  have d:=h y (wag ..);have hn:=sY λz b=>h z (wac _ b);rw[waw,wbs];rcases waH.mp a with e |a
  ·rw[<-e];omega
  ·have:=tN l (λz b=>h z (wac _ b)) a c;omega
theorem tO{ls g:List Str}{f:Str->Int}(h:∀p∈ls,0<=f p):∀p∈ls,0<=cE g f p:=λp a=>by
 unfold cE;split
 ·exact h p a
 ·grind
theorem zO{ls g:List Str}{f:Str->Int}(h:∀p∈ls,0<=f p):∀p∈ls,cE g f p<=f p:=λp a=>by
 unfold cE;split
 ·grind
 ·exact h p a
theorem EC{ls g:List Str}{f:Str->Int}(h:∀p∈ls,0<=f p):(ls.map (cE g f)).sum<=(ls.map f).sum:=tM ls (zO h)
theorem ED{ls:List Str}{f:Str->Int}{g:List Nat}(h:∀p∈ls,0<=f p)(hl:∀d∈g,d < (ak ls f).length)(j:g≠[]):0 < (ls.map (cE (g.map λd=>(ak ls f).getD d "") f)).sum:=by
 cases g with
 |nil=>exact absurd rfl j
 |cons d g=>
  have hd:=hl d (wag ..)
  have a:(ak ls f).getD d ""∈ak ls f:=by
   grind
  obtain⟨b,c⟩:=waC.mp a;refine tN ls (tO h) b ?_;unfold cE;rw[if_pos (waa.mpr ⟨d,wag ..,rfl⟩)];exact of_decide_eq_true c
theorem EE{g:Str}{ws ss ls:List Str}{n:Nat}{many:Int}{f:Str->Int}{j:List Nat}(hn:∀p∈ls,0<=f p)(o:Fc g ws ss ls many n f)(R:Reach (bE g ws ss ls n (ak ls f)) j) :
 Fc g ws ss ls many n (cE (j.map λd=>(ak ls f).getD d "") f):=by
 intro p m
 by_cases h:p∈j.map λd=>(ak ls f).getD d ""
 ·obtain⟨d,hd,rfl⟩:=waa.mp h;have b:=R.lt d hd;have c:d < (ak ls f).length:=by unfold bE at b;rwa[wa0]at b
  have k:(bE g ws ss ls n (ak ls f)).getD d []=fJ g ws ss ls n (ak ls f) ((ak ls f).getD d ""):=by
   unfold bE;rw[wa5,wa4,wa2 c,wa5,wa2 c];rfl
  have e:gE g ws ss ls n (cE (j.map λd=>(ak ls f).getD d "") f) ((ak ls f).getD d "")=gE g ws ss ls n f ((ak ls f).getD d ""):=by
   unfold gE;refine congrArg List.sum (wb6 λq i=>?_);unfold cE
   by_cases a:q.2∈j.map λd=>(ak ls f).getD d ""
   ·rw[if_pos a]
   ·rw[if_neg a]
    by_cases r:0 < f q.2
    ·exfalso;have l:q.2∈ak ls f:=waC.mpr ⟨cV i,decide_eq_true r⟩
     have s:(q.1,(ak ls f).idxOf q.2)∈(bE g ws ss ls n (ak ls f)).getD d []:=by
      rw[k];unfold fJ;exact waa.mpr ⟨q,waC.mpr ⟨i,decide_eq_true l⟩,rfl⟩
     have:=R.cl d hd _ s;refine a (waa.mpr ⟨_,this,?_⟩);show (ak ls f).getD ((ak ls f).idxOf q.2) ""=q.2;rw[wa5,(pH l).1];rfl
    ·have:=hn _ (cV i);omega
  rw[e];unfold cE;rw[if_pos h];exact o _ m
 ·have e:cE (j.map λd=>(ak ls f).getD d "") f p=0:=by unfold cE;rw[if_neg h]
  rw[e,Int.mul_zero];unfold gE;exact sY λq i=>tO hn _ (cV i)
end Bs
namespace Sx
open PySem L2 Bs
inductive Mr(K:wa1)(vs:List V)(H:Hp)(Q:VK)(eL:XK):Prop
 |mk (v a ds qs) (_:vs=[v,.ref a]) (_:bC K H (bW qs) v) (_:aH K H a ((nI ds).map V.int)) (_:qs.length<=10000) (_:∀y H',a9 H H'->bC K (aG H H') (bW (cY ds qs)) y->Q y H')
inductive Ms(K:wa1)(C:Addr)(vs:List V)(H:Hp)(Q:VK)(eL:XK):Prop
 |mk (x many hs ws lns) (_:vs=[.ref x,.int many]) (_:bS K C H x hs ws lns) (_:lns.length<=1000) (_:(∀l∈lns,l.length<=10000)) (_:∀(l:Addr) (ks:List Nat) (H':Hp),a9 H H'->H l=none->H' l=some (.lst ((nI ks).map V.int))->n6 lns many ks->Q (.ref l) H')
inductive EF(K:wa1)(C:Addr)(vs:List V)(H:Hp)(Q:VK)(eL:XK):Prop
 |mk (x:Addr) (d:Nat) (hs:List Str) (ws:List Int) (lns:List (List (Str×Nat))) (_:vs=[.ref x,.int (d:Int)]) (_:bS K C H x hs ws lns) (_:d < lns.length) (_:(∀l∈lns,∀q∈l,q.2 < lns.length)) (_:lns.getD d []≠[]) (_:lns.length<=1000) (_:∀(l:Addr) (rs:List Nat) (H':Hp),a9 H H'->H l=none->H' l=some (.lst ((nI rs).map V.int))->Reach lns rs->Q (.ref l) H')
structure Down(ws:List Int)(lns:List (List (Str×Nat)))(h:Int)(d i:Nat)(qs:List (Str×Nat))(q:Str×Nat):Prop where
 m:h∈ws
 t:∀w∈ws,w<=h
 l:lns[d]?=some qs
 s:qs[i]?=some q
 e:ws.getD d 0=h
 lt:ws.getD q.2 0 < h
inductive Mt(K:wa1)(C:Addr)(vs:List V)(H:Hp)(Q:VK)(eL:XK):Prop
 |mk (x hs ws lns) (_:vs=[.ref x]) (_:bS K C H x hs ws lns) (_:ws.length=lns.length) (_:(∀l∈lns,∀q∈l,q.2 < ws.length)) (_:ws≠[]) (_:(∀h∈ws,(∀w∈ws,w<=h)->∃d i qs q,Down ws lns h d i qs q)) (_:∀(t:Addr) (h:Int) (d i:Nat) (qs:List (Str×Nat)) (q:Str×Nat) (H':Hp),a9 H H'->H' t=some (.tup [.int (d:Int),.int (i:Int)])->Down ws lns h d i qs q->Q (.ref t) H')
inductive OT(K:wa1)(vs:List V)(H:Hp)(Q:VK)(eL:XK):Prop
 |mk (a b:Addr) (many:Int) (wl:List Int) (nums:List Nat) (_:vs=[.ref a,.ref b,.int many]) (_:aH K H a (wl.map V.int)) (_:aH K H b ((nI nums).map V.int)) (_:1<=many) (_:many<=1000) (_:(nums.length:Int)=many) (_:(∀n∈nums,n < wl.length)) (_:∀(l:Addr) (i j:Nat) (H':Hp),a9 H H'->H l=none->i < j->j<=nums.length->(((nums.take j).drop i).map λn=>wl.getD n 0).sum % many=0->H' l=some (.lst ((nI ((nums.take j).drop i)).map V.int))->Q (.ref l) H')
inductive Mu(K:wa1)(C:Addr)(vs:List V)(H:Hp)(Q:VK)(eL:XK):Prop
 |mk (x many hs ws lns) (_:vs=[.ref x,.int many]) (_:bS K C H x hs ws lns) (_:iD many hs ws lns) (_:n6 lns many []) (_:hs≠[]) (_:hs.length<=1000) (_:(∀l∈lns,l.length<=10000)) (_:1<=many) (_:many<=1000) (_:∀(t l:Addr) (d:Nat) (ns:List Nat) (w:Int) (H':Hp),a9 H H'->H l=none->H t=none->H' t=some (.tup [.int (d:Int),.ref l,.int w])->H' l=some (.lst ((nI ns).map V.int))->dh ws lns many (d:Int) (nI ns) w=true->d < hs.length->ns.length<=1000->Q (.ref t) H')
end Sx
namespace Bs
open PySem L2 Sx
theorem wZ:∀(a b:List Int),ph (a.map V.int) (b.map V.int)=decide (a=b)
 |[],[]=>rfl
 |[],_ :: _=>rfl
 |_ :: _,[]=>rfl
 |x :: a,y :: b=>by
  have d:=wZ a b;show (pf (.int x) (.int y) && ph (a.map V.int) (b.map V.int))=_;rw[d]
  by_cases h:x=y
  ·subst h
   by_cases c:a=b
   ·subst c;have:pf (.int x) (.int x)=true:=by simp[pf]
    rw[this,decide_eq_true rfl,decide_eq_true rfl];rfl
   ·rw[decide_eq_false c,wcF,decide_eq_false λz=>c (wgp z).2]
  ·have:pf (.int x) (.int y)=false:=by simp[pf,h]
   rw[this,wd5,decide_eq_false λz=>h (wgp z).1]
theorem pL(a b:List Nat):ph ((nI a).map V.int) ((nI b).map V.int)=decide (a=b):=by
 rw[wZ];exact decide_eq_decide.mpr ⟨Hk,λe=>by rw[e]⟩
theorem x9{p:V->Bool}{f:Nat->Bool}(h:∀n:Nat,p (.int (n:Int))=f n):∀g:List Nat,((nI g).map V.int).filter p=(nI (g.filter f)).map V.int:=by intro n;induction n <;> grind [nI,wbb,wbl]
theorem pM(h:x∈(nI g).map V.int):∃n∈g,x=.int (n:Int):=by grind [nI]
theorem zP(n:Nat):((waJ n).map λi=>V.int (i:Nat))=(nI (waJ n)).map V.int:=by
 unfold nI;rw[wai];rfl
noncomputable def dB(rs:List Nat):List (Key×V):=rs.map λn:Nat=>((wbg (n:Int):Key),V.bl true)
theorem C5(e:Nat):∀g:List Nat,bz (dB g) (wbg (e:Int):Key)=if e∈g then some (.bl true) else none
 |[]=>rfl
 |r :: g=>by
  have a:=C5 e g
  by_cases h:r=e
  ·subst h;rw[if_pos (wag ..)];exact bL (p:=((wbg (r:Int):Key),V.bl true)) (r:=dB g) rfl
  ·have hn:¬(wbg (r:Int):Key)=wbg (e:Int):=λz=>h (by grind);rw[show dB (r :: g)=((wbg (r:Int):Key),V.bl true) :: dB g from rfl,bM hn,a]
   by_cases b:e∈g
   ·grind
   ·grind
theorem Mv{e:Nat}{g:List Nat}(h:e∉g):putK (dB g) (wbg (e:Int):Key) (.bl true)=dB (g++[e]):=by
 rw[cI _ (by rw[C5,if_neg h])];unfold dB;rw[waj];rfl
theorem JO(g:List Nat):((dB g).map λj=>kV j.1)=(nI g).map V.int:=by
 unfold dB nI;rw[wai,wai];rfl
theorem kB{n:Nat}{g:List Nat}(nd:g.Nodup)(h:∀r∈g,r < n):g.length<=n:=by
 have:=hX nd λr a=>wbd.mpr (h r a);rwa[wb2]at this
theorem JP(h:g≠[]):∃(z:Nat) (ys:List Nat),g=ys++[z]/\((nI g).map V.int)[((nI g).map V.int).length - 1]?=some (.int (z:Int))/\((nI g).map V.int).dropLast=(nI ys).map V.int:=by
 refine⟨g.getLast h,g.dropLast,(wd6 h).symm,?_,?_⟩
 ·have e:nI g=nI g.dropLast++[((g.getLast h:Nat):Int)]:=by
   conv=>lhs;rw[<-wd6 h]
   exact pK _ _
  rw[e,waj,wa7];show (_++[V.int _])[_ + 1 - 1]?=_;rw[Nat.add_sub_cancel,waF (wab _),wbX];rfl
 ·unfold nI;rw[<-wgV,<-wgV]
noncomputable def jy(wl:List Int)(nums:List Nat)(j:Nat):Int:=((nums.take j).map λn=>wl.getD n 0).sum
theorem EG{wl:List Int}{g:List Nat}{j n:Nat}(h:g[j]?=some n):jy wl g (j + 1)=jy wl g j + wl.getD n 0:=by
 unfold jy;rw[wb1,h,waj,whs];show _ + (wl.getD n 0 + 0)=_;omega
theorem Hl(wl:List Int)(g:List Nat)(h:i<=j):(((g.take j).drop i).map λn=>wl.getD n 0).sum=jy wl g j - jy wl g i:=by grind [jy,we0,wfA]
theorem Hm{wl:List Int}{g:List Nat}{i j:Nat}{many:Int}(h:i<=j)(e:jy wl g i % many=jy wl g j % many):(((g.take j).drop i).map λn=>wl.getD n 0).sum % many=0:=by
 rw[Hl wl g h];exact Int.emod_eq_emod_iff_emod_sub_eq_zero.mp e.symm
noncomputable def dR(many:Int)(p:Nat->Int)(n:Nat):List (Key×V):=(waJ n).map λi:Nat=>((wbg (p i % many):Key),V.int (i:Int))
theorem EH{κ:Type}[DecidableEq κ]{k:κ}{v:V}:∀{kvs:List (κ×V)},bz kvs k=some v->(k,v)∈kvs:=by intro kvs;induction kvs <;> grind [FL,bL,wag,bM,wac]
theorem Hn(many:Int)(p:Nat->Int)(n:Nat)(r:Int):(bz (dR many p n) (wbg r:Key)=none/\∀i,i < n->p i % many≠r)\/∃i,i < n/\p i % many=r/\bz (dR many p n) (wbg r:Key)=some (.int (i:Int)):=by
 cases h:bz (dR many p n) (wbg r:Key) with
 |none=>
  refine .inl ⟨rfl,λi hi e=>?_⟩;refine z5 h (waa.mpr ⟨((wbg (p i % many):Key),V.int (i:Int)),waa.mpr ⟨i,wbd.mpr hi,rfl⟩,?_⟩);show (wbg (p i % many):Key)=_;rw[e]
 |some v=>
  obtain⟨i,hi,e⟩:=waa.mp (EH h);have a:p i % many=r:=Sum.inl.inj (wdN e).1;have b:V.int (i:Int)=v:=(wdN e).2;exact .inr ⟨i,wbd.mp hi,a,by rw[b]⟩
theorem Mw{p:Nat->Int}(h:bz (dR many p n) (wbg (p n % many):Key)=none):putK (dR many p n) (wbg (p n % many):Key) (.int (n:Int))=dR many p (n + 1):=by
 rw[cI _ h];unfold dR;rw[wdq,waj];rfl
theorem Mx(many:Int)(p:Nat->Int)(n:Nat):(dR many p n).length=n:=by unfold dR;rw[wa0,wb2]
theorem nodup_map_on{α β:Type}{f:α->β}:∀{l:List α},l.Nodup->(∀a∈l,∀b∈l,f a=f b->a=b)->(l.map f).Nodup:=by intro l;induction l <;> grind [wbj,wac,wag]
theorem C6{many:Int}{p:Nat->Int}{n:Nat}(g:0 < many)(hn:(n:Int)=many)(hd:∀i k,i < k->k<=n->p i % many≠p k % many):False:=by
 have nd:((waJ (n + 1)).map λi=>(p i % many).toNat).Nodup:=nodup_map_on whh λa ha b c e=>by
  have ha:=wbd.mp ha;have c:=wbd.mp c;have a0:=wb3 (p a) (show many≠0 by omega);have f:=wb3 (p b) (show many≠0 by omega);have j:p a % many=p b % many:=by grind
  rcases weU a b with h |h |h
  ·grind
  ·exact h
  ·grind
 have:=kB (n:=n) nd λr d=>by
  obtain⟨i,_,rfl⟩:=waa.mp d;have a0:=wb3 (p i) (show many≠0 by omega);have a1:=wbh (p i) g;show (p i % many).toNat < n;omega
 rw[wa0,wb2]at this;omega
theorem Ho(xs:List Int)(g:i<=j)(l:j<=xs.length):ji (xs.map V.int) (some (i:Int)) (some (j:Int))=((xs.take j).drop i).map V.int:=by grind [ji,HT.IG,wa0,wfA,wdR,wdj,List.drop_take]
theorem Dh(ns:List Nat)(j:Nat):(nI ns).take j=nI (ns.take j):=by unfold nI;rw[wdj]
theorem JQ(ns:List Nat)(j:Nat):(nI ns).drop j=nI (ns.drop j):=by unfold nI;rw[wdR]
noncomputable def restOf(m i0:Nat):List Nat:=(waJ m).filter λn=>decide (n≠i0)
noncomputable def numsOf(m i0 k:Nat):List Nat:=i0 :: (restOf m i0).take k
theorem zQ:∀{m:Nat},i0 < m->(restOf m i0).length=m - 1
 |m + 1,h=>by
  unfold restOf;rw[wdq,wbo,wa7]
  by_cases e:i0=m
  ·subst e;have b:(waJ i0).filter (λn=>decide (n≠i0))=waJ i0:=wb5.mpr λn hn=>decide_eq_true (by grind);rw[b,wbl (by simp),wb2];rfl
  ·have a:=zQ (i0:=i0) (m:=m) (by omega);unfold restOf at a;rw[a,wbb (by grind)];show m - 1 + 1=_;omega
theorem C7(m i0 k:Nat):(numsOf m i0 k).Nodup:=by
 unfold numsOf;refine wb0.mpr ⟨λh=>?_,(whh.filter _).sublist (wbA _ _)⟩;have:=of_decide_eq_true (waC.mp ((wbA _ _).subset h)).2;exact this rfl
theorem yc(h:i0 < m):∀n∈numsOf m i0 k,n < m:=λn hn=>by
 rcases waH.mp hn with rfl |hn
 ·exact h
 ·exact wbd.mp (waC.mp ((wbA _ _).subset hn)).1
theorem zR(h:i0 < m)(g:k + 1<=m):(numsOf m i0 k).length=k + 1:=by
 grind [numsOf,waK,zQ]
theorem xa(S:iD many hs ws lns)(D:Down ws lns h d i g q):many<=(g.length:Int):=by
 have a:g∈lns:=wak D.l;have c:=S.b d g D.l;have f:=n7 (ws:=ws) (h:=h) g λp j=>D.t _ (getD_mem (by rw[S.w];exact S.e g a p j));rw[D.e]at c;have k:1<=h:=S.p h D.m;exact weO (wd4 c f) (by omega)
theorem My(ws:List Int){g:List (Str×Nat)}{n:Nat}(h:n < g.length):(g.map λq=>ws.getD q.2 0).getD n 0=ws.getD (g.getD n ("",0)).2 0:=by
 rw[wa5,wa4,wa2 h,wa5 (l:=g),wa2 h];rfl
theorem JR{many h:Int}{hs:List Str}{ws:List Int}{lns:List (List (Str×Nat))}(S:iD many hs ws lns)(p:1<=many){d i0:Nat}{g:List (Str×Nat)}{q:Str×Nat}(D:Down ws lns h d i0 g q){i j:Nat}(r:i < j)(I:j<=(numsOf g.length i0 (many - 1).toNat).length)
 (C:((((numsOf g.length i0 (many - 1).toNat).take j).drop i).map λn=>(g.map λq=>ws.getD q.2 0).getD n 0).sum % many=0) :
 dh ws lns many (d:Int) (nI (((numsOf g.length i0 (many - 1).toNat).take j).drop i)) (((((numsOf g.length i0 (many - 1).toNat).take j).drop i).map λn=>(g.map λq=>ws.getD q.2 0).getD n 0).sum / many)=true:=by
 have b:i0 < g.length:=(wa6.mp D.s).1;have hl:=xa S D;have u:=zR (k:=(many - 1).toNat) b (by omega);have c:=C7 g.length i0 (many - 1).toNat;have f:=yc (k:=(many - 1).toNat) b;have m:i0∈numsOf g.length i0 (many - 1).toNat:=wag ..;generalize numsOf g.length i0 (many - 1).toNat=a at *;have sub:((a.take j).drop i).Sublist a:=(wgW _ _).trans (wbA _ _);have len:((a.take j).drop i).length=j - i:=by rw[wbw,wau];omega
 have o:∀n∈(a.take j).drop i,n < g.length:=λn hn=>f n (sub.subset hn);have e:((a.take j).drop i).map (λn=>(g.map λq=>ws.getD q.2 0).getD n 0)=((a.take j).drop i).map λn=>ws.getD (g.getD n ("",0)).2 0:=wb6 λn hn=>My ws (o n hn);rw[e]at C ⊢;have v:g.getD i0 ("",0)=q:=by rw[wa5,D.s];rfl
 refine EB S (i0:=i0) D.t D.l D.e p (c.sublist sub) o (λz=>?_) ?_ (λz=>?_) (by rw[v];exact D.lt) ?_
 ·rw[z]at len;have:(0:Nat)=j - i:=len;omega
 ·rw[len];omega
 ·have w:(a.take j).drop i=a:=sub.eq_of_length (by grind);rw[w];exact m
 ·have:=Int.mul_ediv_add_emod ((((a.take j).drop i).map λn=>ws.getD (g.getD n ("",0)).2 0).sum) many;omega
end Bs
namespace L2
open PySem
theorem JS{X:Cx}(g:X.K=K):MY X (NW K):=by
 subst g;exact gp
end L2
namespace Bs
open PySem L2 Sx
structure rR(g:Str)(ws ss ls:List Str)(many:Int)(n:Nat)(f:Str->Int):Prop where
 gr:∃most:Int,1<=most/\most<=8/\gF g ws ss ls many n most f/\∀(m:Int) (h:Str->Int),1<=m->m < most->gF g ws ss ls many n m h->(ls.map h).sum=0
 ps:0 < (ls.map f).sum
 le:(ls.map f).sum<=40
def yd(g:Str)(ws ss ls:List Str)(many:Int)(n:Nat):Prop:=∃most:Int,1<=most/\most<=9/\(∀(m:Int) (h:Str->Int),1<=m->m < most->gF g ws ss ls many n m h->(ls.map h).sum=0)/\(most=9\/∃f,gF g ws ss ls many n most f/\40 < (ls.map f).sum)
theorem EI{f h:Str->Int}(a:gF g ws ss ls many n most f)(b:gF g ws ss ls many n most h):∀p∈ls,f p=h p:=λp c=>by
 have d:=a.top h b.le b.fit p c;have e:=b.top f a.le a.fit p c;omega
theorem EJ{f h:Str->Int}(a:gF g ws ss ls many n most f)(b:gF g ws ss ls many n most h):(ls.map f).sum=(ls.map h).sum:=congrArg List.sum (wb6 λp c=>EI a b p c)
theorem C8(f:Str->Int)(ls:List Str):(bc (bZ f ls)).map (·.2)=(ls.map f).map V.int:=by simp_all [bc,bZ,wai]
theorem JT{R:Addr->Prop}:(∀y∈ys,∃q,y=.ref q/\R q)->∃ps:List Addr,ys=ps.map V.ref/\∀q∈ps,R q:=by
 induction ys with
 |nil=>exact λ_=>⟨[],rfl,λq h=>nomatch h⟩
 |cons y ys a=>
  intro h;obtain⟨q,rfl,c⟩:=h y (wag ..);obtain⟨ps,rfl,d⟩:=a λz b=>h z (wac _ b)
  exact⟨q :: ps,rfl,λr e=>by
   grind⟩
end Bs
namespace Sx
open PySem L2 Bs
inductive Hq(C CO:Addr)(vs:List V)(H:Hp)(Q:VK)(E:XK):Prop
 |mk (x:Addr) (many:Int) (n:Nat) (g:Str) (ws ss ls:List Str) (_:vs=[.ref x,.int many,.int (n:Int)]) (_:aY C H x g ws ss ls) (_:2<=g.length) (_:g.length<=10) (_:ss.length<=900) (_:fG g.length many n) (_:(∀(d:Addr) (f:Str->Int) (H':Hp),a9 H H'->H d=none->H' d=some (.dK (bc (bZ f ls)))->rR g ws ss ls many n f->Q (.ref d) H')) (_:(yd g ws ss ls many n->∀H',a9 H H'->E (.ref CO) none H'))
inductive Hr(C:Addr)(vs:List V)(H:Hp)(Q:VK)(eL:XK):Prop
 |mk (x d:Addr) (many:Int) (n:Nat) (f:Str->Int) (g:Str) (ws ss ls:List Str) (_:vs=[.ref x,.int many,.int (n:Int),.ref d]) (_:aY C H x g ws ss ls) (_:(∀w∈ws,1<=w.length)) (_:(ch g).Nodup) (_:2<=g.length) (_:g.length<=10) (_:ss.length<=900) (_:fG g.length many n) (_:H d=some (.dK (bc (bZ f ls)))) (_:(∀p∈ls,0<=f p)) (_:Fc g ws ss ls many n f) (_:0 < (ls.map f).sum) (_:∀(dl:Addr) (f':Str->Int) (H':Hp),(∀c o,H c=some o->c≠d->H' c=some o)->H dl=none->H' dl=some (.dK (bc (bZ f' ls)))->(∀p∈ls,0<=f' p)->Fc g ws ss ls many n f'->0 < (ls.map f').sum->(∀p∈ls,f' p<=f p)->(ls.map f').sum<=(ls.map f).sum->Q (.ref dl) H')
end Sx
namespace L2
open PySem Sx Bs
theorem EK{Ok:Hp->Prop}{Q:Hp->Prop}(R:Nat->V->Hp->Prop)(T:∀i y U g ys,R i y U->U l=some (.lst ys)->(∀b o,U b=some o->b≠l->g b=some o)->R i y g)(hJ:lY J Ok xs)(hl:H l=none)(hz:xs.length<=sizeLine)(C:∀r,a9 H r->Ok r)
 (he:∀i x I ys,xs[i]?=some x->a9 H I->I l=some (.lst ys)->∃p a b c,x=.ref p/\ir K I p [a,b,c]/\∀Q',(∀y r,a9 I r->R i y r->Q' y r)->te (some a :: some b :: some c :: σf) I Q')
 (hd:∀ys r,a9 H r->r l=some (.lst ys)->ys.length=xs.length->(∀i y,ys[i]?=some y->R i y r)->Q r):tI K J l σf vh te H Q:=by
 refine⟨λi m d g=>m=xs.length - i/\i<=xs.length/\a9 H g/\g l=some (.lst d)/\d.length=i/\∀j y,d[j]?=some y->R j y g,⟨xs.length,by simp,waM _,a9.upd hl,a6,rfl,λj y h=>by simp at h⟩,?_⟩;rintro i m d g ⟨rfl,hi,n,q,f,D⟩;refine⟨q,?_⟩
 by_cases k:i < xs.length
 ·refine .inr ⟨hJ.go i g (C _ n) k,by rw[f];omega,λx I y=>?_⟩;obtain⟨e,E⟩:=hJ.uW i g x I (C _ n) k y;subst e;obtain⟨p,a,b,c,rfl,F,G⟩:=he i x _ d E n q;refine⟨p,a,b,c,rfl,F,?_⟩;unfold vh;dsimp only;rw[if_pos rfl];refine G _ λy u v w=>⟨v _ _ q,xs.length - (i + 1),by omega,rfl,k,λb o e=>?_,a6,by rw[wa7,f];rfl,λj z s=>?_⟩
  ·rw[aa (ae e hl)];exact v _ _ (n _ _ e)
  ·have t:=v _ _ q;have kp:∀b o,u b=some o->b≠l->(upd u l (.lst (d++[y]))) b=some o:=λb o e L=>by rw[aa L];exact e
   by_cases A:j < d.length
   ·rw[waE A]at s;exact T j z u _ _ (T j z _ _ _ (D j z s) q λb o e _=>v _ _ e) t kp
   ·rw[waF (by omega)]at s
    have B:j - d.length=0:=by
     have:=(wa6.mp s).1;simp at this;omega
    rw[B]at s;cases s;have:j=i:=by omega
    rw[this];exact T i y u _ _ w t kp
 ·have e:i=xs.length:=by omega
  subst e;exact .inl ⟨hJ.stop g (C _ n),hd d g n q f D⟩
theorem Hs{Ok:Hp->Prop}{Q:Hp->Prop}(C:List jN)(hJ:lY J Ok xs)(hl:H l=none)(hz:xs.length<=sizeLine)(I:C.length=xs.length)(U:∀g,a9 H g->Ok g)
 (he:∀(i:Nat) (x:V) (d:jN) j,xs[i]?=some x->C[i]?=some d->a9 H j->∃p a b c,x=.ref p/\ir K j p [a,b,c]/\∀T,(∀y g,a9 j g->bC K (aG j g) d y->T y g)->te (some a :: some b :: some c :: σf) j T)
 (hd:∀g,a9 H g->bC K (aG H g) (.lst C) (.ref l)->Q g):tI K J l σf vh te H Q:=by
 refine EK (λi y g=>∀d,C[i]?=some d->∃j o,a9 H j/\j l=some o/\bC K (aG j g) d y) ?_ hJ hl hz U (λi x j n s h k=>?_) (λn g q t m u=>?_)
 ·intro i y D E n r v kp d f;obtain⟨j,o,h,k,r⟩:=r d f;exact⟨j,o,h,k,bC.same (bD k kp) d y r⟩
 ·have hi:i < C.length:=by rw[I];exact(wa6.mp s).1
  obtain⟨p,a,b,c,e,w,z⟩:=he i x C[i] j s (wa2 hi) h;refine⟨p,a,b,c,e,w,λT A=>z T λy g q r=>A y g q λd f=>?_⟩;rw[wa2 hi]at f;cases f;exact⟨j,_,h,k,r⟩
 ·refine hd g q ⟨l,n,rfl,.inl (bN hl t),b6.pG C n (by rw[I,m]) λi d y f B=>?_⟩;obtain⟨j,o,h,k,r⟩:=u i y B d f;exact bC.same (dI h) d y r
end L2
namespace Bs
open PySem L2 Sx
noncomputable abbrev Di:=Nat×List Nat×Int
noncomputable def ye(s:Di):jN:=.tup [.at (.int (s.1:Int)),mj (nI s.2.1),.at (.int s.2.2)]
set_option genInjectivity true in
inductive Runs(many:Int)(Qu:List Str)(Qv:List Int)(JU:List (List (Str×Nat))):List Di->List Str->List Int->List (List (Str×Nat))->Prop
 |nil:Runs many Qu Qv JU [] Qu Qv JU
 |snoc {l:List Di} {hs:List Str} {ws:List Int} {lns:List (List (Str×Nat))} {d:Nat} {ns:List Nat} {w:Int}:Runs many Qu Qv JU l hs ws lns->dh ws lns many (d:Int) (nI ns) w=true->Runs many Qu Qv JU (l++[(d,ns,w)]) (cX hs d) (cb ws d w) (i5 lns d (nI ns))
noncomputable def qG(a:Addr):List (Str×V):=[("weights",.ref a)]
noncomputable def o1(a b:Addr):List (Str×V):=[("weights",.ref a),("splits",.ref b)]
noncomputable def qH(a b c:Addr):List (Str×V):=[("weights",.ref a),("splits",.ref b),("kept",.ref c)]
noncomputable def vv(a b c d:Addr):List (Str×V):=[("weights",.ref a),("splits",.ref b),("kept",.ref c),("last",.ref d)]
theorem OU(a:Addr):cx "weights" (.ref a) []=qG a:=rfl
theorem KI(a b:Addr):cx "splits" (.ref b) (qG a)=o1 a b:=by
 show (if ("weights":Str)="splits" then _ else(("weights":Str),V.ref a) :: cx "splits" (.ref b) [])=_;rw[if_neg (by decide+kernel)];rfl
theorem Ht(a b c:Addr):cx "kept" (.ref c) (o1 a b)=qH a b c:=by
 show (if ("weights":Str)="kept" then _ else(("weights":Str),V.ref a) :: (if ("splits":Str)="kept" then _ else(("splits":Str),V.ref b) :: cx "kept" (.ref c) []))=_;rw[if_neg (by decide+kernel),if_neg (by decide+kernel)];rfl
theorem Dj(a b c d:Addr):cx "last" (.ref d) (qH a b c)=vv a b c d:=by
 show (if ("weights":Str)="last" then _ else(("weights":Str),V.ref a) :: (if ("splits":Str)="last" then _ else(("splits":Str),V.ref b) :: (if ("kept":Str)="last" then _ else(("kept":Str),V.ref c) :: cx "last" (.ref d) [])))=_;rw[if_neg (by decide+kernel),if_neg (by decide+kernel),if_neg (by decide+kernel)];rfl
theorem C9(a b c d:Addr):(vv a b c d).lookup ("last":Str)=some (.ref d):=by
 rw[<-Dj,aB,if_pos rfl]
theorem Ca(a b c d:Addr):(vv a b c d).lookup ("kept":Str)=some (.ref c):=by
 rw[<-Dj,aB,if_neg (by decide+kernel),<-Ht,aB,if_pos rfl]
theorem yf(a b c d:Addr):(vv a b c d).lookup ("splits":Str)=some (.ref b):=by
 rw[<-Dj,aB,if_neg (by decide+kernel),<-Ht,aB,if_neg (by decide+kernel),<-KI,aB,if_pos rfl]
structure n9(K:wa1)(C CS:Addr)(H:Hp)(x:Addr)(m:List (Str×Int))(j9:List Di)(ks:List Nat)(hs:List Str)(ws:List Int)(lns:List (List (Str×Nat))):Prop where
 ex:∃dx a b c d,H x=some (.ins C dx (vv a b c d))/\H a=some (.dK (bc m))/\bC K H (.lst (j9.map ye)) (.ref b)/\bC K H (mj (nI ks)) (.ref c)/\bS K CS H d hs ws lns
theorem n9.same(h:n9 K C j H x m g l hs ws lns)(s:a9 H o):n9 K C j o x m g l hs ws lns:=by
 obtain⟨e,a,b,c,d,f,i,k,n,p⟩:=h;exact⟨e,a,b,c,d,s _ _ f,s _ _ i,bC.same s _ _ k,bC.same s _ _ n,p.same s⟩
theorem o4(s:a9 H g):a9 (eS H b) (eS g b):=λc o e=>by
 unfold eS at e ⊢
 by_cases h:c=b
 ·rw[if_pos h]at e;cases e
 ·rw[if_neg h]at e ⊢;exact s _ _ e
theorem JV:eS (upd H b o) b=eS H b:=by
 funext c;unfold eS
 by_cases h:c=b
 ·rw[if_pos h,if_pos h]
 ·rw[if_neg h,if_neg h,aa h]
theorem tP:a9 (eS H b) H:=fU λ_ _ e _=>e
theorem Dk(h:H b=some o):a9 (aG H g) (eS g b):=by grind [a9,eS,cm,fI,aG]
theorem Hu(s:a9 H g)(h:H b=none):a9 H (eS g b):=λc o e=>fI (s _ _ e) (ae e h)
theorem Dl(g:H t=some (.tup [.int (d:Int),.ref l,.int w]))(j:H l=some (.lst ((nI ns).map V.int))):bC K H (ye (d,ns,w)) (.ref t):=
 ⟨t,_,rfl,g,_,_,rfl,⟨rfl,rfl⟩,_,_,rfl,iX j,_,_,rfl,⟨rfl,rfl⟩,rfl⟩
structure Cb(g:Str)(bw ss ls:List Str)(many:Int)(n:Nat)(f:Str->Int)(j9:List Di)(ks:List Nat)(hs:List Str)(ws:List Int)(lns:List (List (Str×Nat))):Prop where
 nn:∀p∈ls,0<=f p
 le:∀p∈ls,f p<=8
 fit:Fc g bw ss ls many n f
 ps:0 < (ls.map f).sum
 m:(ls.map f).sum<=40
 rn:Runs many (ak ls f) ((ak ls f).map f) (bE g bw ss ls n (ak ls f)) j9 hs ws lns
 b:iD many hs ws lns
 cv:Fd (aP g bw ss ls n) hs lns
 ln:hs.length<=40
 ko:n6 lns many ks
 ne:ks≠[]
 sl:j9.length<=40
 sb:∀p∈hs,p∈ls
end Bs
namespace Sx
open PySem L2 Bs
inductive Hv(K:wa1)(C:Addr)(vs:List V)(H:Hp)(Q:VK)(eL:XK):Prop
 |mk (x hs ws lns) (_:vs=[.ref x]) (_:bS K C H x hs ws lns) (_:hs.length<=10000) (_:ws.length<=10000) (_:lns.length<=10000) (_:(∀l∈lns,l.length<=10000)) (_:∀y H',a9 H H'->bS K C (aG H H') y hs ws lns->Q (.ref y) H')
inductive JW(K:wa1)(C CS:Addr)(vs:List V)(H:Hp)(Q:VK)(eL:XK):Prop
 |mk (x dx d z:Addr) (u v:V) (m:List (Str×Int)) (j9:List Di) (ks:List Nat) (hs:List Str) (ws:List Int) (lns:List (List (Str×Nat))) (_:vs=[.ref x,.ref d,u,v,.ref z]) (_:H x=some (.ins C dx [])) (_:Rd H d (.dK (bc m))) (_:bC K H (.lst (j9.map ye)) u) (_:bC K H (mj (nI ks)) v) (_:bS K CS H z hs ws lns) (_:hs.length<=10000) (_:ws.length<=10000) (_:lns.length<=10000) (_:(∀l∈lns,l.length<=10000)) (_:j9.length<=10000) (_:∀a b c y H',H' x=some (.ins C dx (vv a b c y))->H a=none->H' a=some (.dK (bc m))->bC K (aG H H') (.lst (j9.map ye)) (.ref b)->bC K (aG H H') (mj (nI ks)) (.ref c)->bS K CS (aG H H') y hs ws lns->(∀b o,H b=some o->b≠x->H' b=some o)->Q .non H')
inductive EL(K:wa1)(C CS:Addr)(vs:List V)(H:Hp)(Q:VK)(eL:XK):Prop
 |mk (x m j9 ks hs ws lns) (_:vs=[.ref x]) (_:n9 K C CS H x m j9 ks hs ws lns) (_:hs.length<=10000) (_:ws.length<=10000) (_:lns.length<=10000) (_:(∀l∈lns,l.length<=10000)) (_:∀y H',a9 H H'->bS K CS (aG H H') y hs ws lns->Q (.ref y) H')
end Sx
namespace L2
open PySem PySem.Spec PyProof.Rows
theorem under(n:Nat){P:Int->Prop}(h:∀k:Fin n,P ((k.val:Nat):Int))(d:Int)(a:0<=d)(b:d < (n:Int)):P d:=by
 obtain⟨k,rfl⟩:=wfn a;exact h ⟨k,Int.ofNat_lt.mp b⟩
theorem XH:∀d:Int,0<=d->d < 8->d=0\/d=1\/d=2\/d=3\/d=4\/d=5\/d=6\/d=7:=under 8 (by decide)
theorem cZ{t u:TS}{D:Ends}{σ:St}{H:Hp}(h:∀R:St->Hp->Prop,(∀σ H,u D σ H->R σ H)->t {D with nx:=R} σ H):Lb t u D σ H:=h (u D) λ_ _ x=>x
theorem ax{X:Cx}(ys:List Str)(ix:List Nat)(h:mU X.env.scope scope X.N x ys ix=true:=by kernel_rfl):bK X scope x ys ix:=Bc rfl rfl h
end L2
namespace Bs
open PySem L2 Sx
theorem tQ:∀{ws:List Int},(∀w∈ws,1<=w)->(ws.length:Int)<=ws.sum
 |[],_=>wdm _
 |w :: ws,h=>by
  have b:=h w (wag ..);have c:=tQ (ws:=ws) λx a=>h x (wac _ a);rw[wbs,waK];omega
structure fK(g:Str)(bw ss ls:List Str)(many:Int)(n:Nat)(f:Str->Int)(j9:List Di)(hs:List Str)(ws:List Int)(lns:List (List (Str×Nat))):Prop where
 rn:Runs many (ak ls f) ((ak ls f).map f) (bE g bw ss ls n (ak ls f)) j9 hs ws lns
 b:iD many hs ws lns
 cv:Fd (aP g bw ss ls n) hs lns
 sm:ws.sum=(ls.map f).sum
 sl:j9.length + (ak ls f).length=hs.length
 sb:∀p∈hs,p∈ls
theorem fK.start{f:Str->Int}(nd:(ch g).Nodup)(j:ss.Perm (cJ l "" l))(hw:∀w∈l,1<=w.length)(o:∀p∈ls,p∈ss)(hl:ls.Nodup)(hn:∀p∈ls,0<=f p)(r:Fc g l ss ls many n f) :
 fK g l ss ls many n f [] (ak ls f) ((ak ls f).map f) (bE g l ss ls n (ak ls f)):=
 ⟨.nil,iD.first hn r,Fd.first nd j hw (λp j=>o p (waC.mp j).1) (hl.filter _),wV hn,wgJ _,λp j=>(waC.mp j).1⟩
theorem fK.step{g:Str}{o ss ls:List Str}{many:Int}{n:Nat}{f:Str->Int}{j:List Di}{hs:List Str}{ws:List Int}{lns:List (List (Str×Nat))}(h:fK g o ss ls many n f j hs ws lns){d:Nat}{ns:List Nat}{w:Int}(ok:dh ws lns many (d:Int) (nI ns) w=true) :
 fK g o ss ls many n f (j++[(d,ns,w)]) (cX hs d) (cb ws d w) (i5 lns d (nI ns)):=by
 obtain⟨b,hd⟩:=h.b.split ok;have hw:=h.b.w;have hl:=h.b.l;refine⟨.snoc h.rn ok,b,h.cv.split hl h.b.e hd (nI ns),?_,?_,λp a=>?_⟩
 ·rw[BM (by omega)];exact h.sm
 ·have:=h.sl;unfold cX;rw[wa7,wa7];show j.length + 1 + _=hs.length + 1;omega
 ·unfold cX at a;rcases waA.mp a with a |a
  ·exact h.sb p a
  ·rw[wao.mp a,wa5,wa2 hd];exact h.sb _ (waQ hd)
theorem fK.len{f:Str->Int}(h:fK g l ss ls many n f j hs ws lns):(hs.length:Int)<=(ls.map f).sum:=by
 have:=tQ h.b.p;have a:=h.sm;have c:=h.b.w;omega
theorem fK.whole{f:Str->Int}(h:fK g o ss ls many n f r hs ws lns)(C:(ls.map f).sum<=40)(j:g.length ^ n<=64):KD hs ws lns:=by
 have hl:=h.len;refine⟨h.b.w,h.b.l,h.b.e,by omega,λl a=>?_⟩;have c:=h.cv.line h.b.l (b:=64) (λp=>wal (fH g o ss ls n p) j) l a;have d:64 * hs.length<=64 * 40:=wes _ (by omega);omega
def ER(g:Str)(bw ss:List Str)(many:Int)(n:Nat):Prop:=∀j:Nat,1<=j->(j:Int)<=24->¬gL g bw ss (j * n) "" < many ^ j
end Bs
namespace Sx
open PySem L2 Bs
def Sy(CX:Addr)(g:Str)(bw ss:List Str)(many:Int)(n:Nat)(H:Hp)(E:XK):Prop:=∀(k:Nat) (d:Addr) (H':Hp),Qq g bw ss many n 24 (.int (k:Nat))->a9 H H'->H d=none->H' d=some (.xd [("length",.int (k:Nat)),("rows",.int (gL g bw ss (k * n) ""))])->E (.ref CX) (some d) H'
inductive JX(C CX:Addr)(vs:List V)(H:Hp)(Q:VK)(E:XK):Prop
 |mk (x:Addr) (many:Int) (n:Nat) (g:Str) (bw ss ls:List Str) (_:vs=[.ref x,.int many,.int (n:Int)]) (_:aY C H x g bw ss ls) (_:g.length<=10) (_:ss.length<=900) (_:fG g.length many n) (_:(ER g bw ss many n->∀H',a9 H H'->Q .non H')) (_:Sy CX g bw ss many n H E)
inductive Hw(K:wa1)(C CP CS CX CO:Addr)(vs:List V)(H:Hp)(Q:VK)(E:XK):Prop
 |mk (x:Addr) (many:Int) (n:Nat) (g:Str) (bw ss ls:List Str) (_:vs=[.ref x,.int many,.int (n:Int)]) (_:aY C H x g bw ss ls) (_:(∀w∈bw,1<=w.length)) (_:(ch g).Nodup) (_:2<=g.length) (_:g.length<=10) (_:ss.length<=900) (_:fG g.length many n) (_:(ER g bw ss many n->∀(y:Addr) (f0 f:Str->Int) (j9:List Di) (ks:List Nat) (hs:List Str) (ws:List Int) (lns:List (List (Str×Nat))) (H':Hp),a9 H H'->n9 K CP CS (aG H H') y (bZ f ls) j9 ks hs ws lns->rR g bw ss ls many n f0->(∀p∈ls,f p<=f0 p)->Cb g bw ss ls many n f j9 ks hs ws lns->Q (.ref y) H')) (_:Sy CX g bw ss many n H E) (_:(ER g bw ss many n->yd g bw ss ls many n->∀H',a9 H H'->E (.ref CO) none H'))
end Sx
namespace K42
open PySem L2 Bs Sx
noncomputable def top(i:Nat):Stmt:=wa9.main.body.getD i (.Pass ⟨0,0,0,0⟩)
structure Txt(mg:Str->Option Value):Prop where
 «ValueError»:mg "ValueError"=none
 «all»:mg "all"=none
 «any»:mg "any"=none
 «bool»:mg "bool"=none
 «dict»:mg "dict"=none
 «enum»:mg "enumerate"=none
 «int»:mg "int"=none
 «rp»:mg "isinstance"=none
 «len»:mg "len"=none
 «list»:mg "list"=none
 «max»:mg "max"=none
 «min»:mg "min"=none
 «range»:mg "range"=none
 «set»:mg "set"=none
 «sorted»:mg "sorted"=none
 «str»:mg "str"=none
 «sum»:mg "sum"=none
 «tuple»:mg "tuple"=none
structure Hx(K:wa1)(C:Addr):Prop where
 cl:AA K C
 gN:bU K C "homes"
 cL:bU K C "weights"
 cB:bU K C "lines"
structure JY(K:wa1)(C:Addr):Prop where
 cl:AA K C
 cL:bU K C "weights"
 zS:bU K C "splits"
 Hy:bU K C "kept"
 HA:bU K C "last"
structure EV(K:wa1)(C:Addr):Prop where
 cl:AA K C
 o6:bU K C "scheme"
 HB:bU K C "band"
 yg:bU K C "many"
 HC:bU K C "wide"
 gN:bU K C "homes"
 cB:bU K C "lines"
 xc:bU K C "opening"
 Dm:bU K C "first"
structure JZ(K:wa1)(C:Addr):Prop where
 cl:AA K C
 rS:bU K C "signs"
 zT:bU K C "barred"
 lU:bU K C "moves"
 pN:bU K C "lasting"
structure Lk(K:wa1)(mg:Str->Option Value) where
 T:Txt mg
 tR:Addr
 tS:wae
 i7:FnAt K mg "is_whole" (top 20) ["thing"] tR tS
 tT:Addr
 tU:wae
 nc:FnAt K mg "all_rows" (top 22) ["band","wide"] tT tU
 xf:Addr
 xg:wae
 pO:FnAt K mg "is_rate" (top 23) ["band","many","wide"] xf xg
 o7:Addr
 o8:wae
 dJ:FnAt K mg "check_rate" (top 24) ["band","many","wide"] o7 o8
 mm:Addr
 mn:wae
 iL:FnAt K mg "longer_rows" (top 25) ["band","rows"] mm mn
 mq:Addr
 mr:wae
 fV:FnAt K mg "blocks_from" (top 26) ["band","place","wide"] mq mr
 qI:Addr
 qJ:wae
 kC:FnAt K mg "ends_from" (top 28) ["band","place"] qI qJ
 tV:Addr
 tW:wae
 ng:FnAt K mg "all_ends" (top 29) ["band"] tV tW
 kD:Addr
 kE:wae
 eU:FnAt K mg "counts_up_to" (top 30) ["band","length"] kD kE
 o9:Addr
 oa:wae
 jz:FnAt K mg "count_from" (top 31) ["band","place","length"] o9 oa
 Dn:Addr
 Dp:wae
 yh:FnAt K mg "count" (top 32) ["band","length"] Dn Dp
 og:Addr
 oh:wae
 jA:FnAt K mg "block_ends" (top 34) ["band","wide"] og oh
 qK:Addr
 qL:wae
 kF:FnAt K mg "weight_of" (top 35) ["places","weights"] qK qL
 xh:Addr
 xi:wae
 pP:FnAt K mg "lowered" (top 36) ["ends","many","weights"] xh xi
 nh:Addr
 tX:wae
 ni:FnAt K mg "greatest" (top 37) ["band","many","wide","most"] nh tX
 zU:Addr
 zV:wae
 tY:FnAt K mg "scarce" (top 38) ["band","many","wide","most"] zU zV
 kG:Addr
 kH:wae
 i9:FnAt K mg "copied_steps" (top 40) ["line"] kG kH
 fL:Addr
 iZ:wae
 mw:Addr
 mx:wae
 fW:FnAt K mg "first_sheet" (top 42) ["band","many","wide","weights"] mw mx
 kI:Addr
 kJ:wae
 eV:FnAt K mg "is_number_of" (top 43) ["number","things"] kI kJ
 oi:Addr
 oj:wae
 cC:FnAt K mg "check_part" (top 44) ["sheet","many","steps","weight"] oi oj
 om:Addr
 oo:wae
 jB:FnAt K mg "with_twins" (top 45) ["line","desk","twin"] om oo
 Dq:Addr
 Dr:wae
 oq:FnAt K mg "split" (top 46) ["sheet","many","desk","numbers","weight"] Dq Dr
 kK:Addr
 kL:wae
 eW:FnAt K mg "copied_sheet" (top 51) ["sheet"] kK kL
 gu:Addr
 jP:wae
 ot:Addr
 ou:wae
 ia:Addr
 ib:wae
 cq:FnAt K mg "check_not_scarce" (top 53) ["band","many","wide"] ia ib
 eG:Addr
 eI:wae
 bq:FnAt K mg "weights_of_least_most" (top 54) ["band","many","wide"] eG eI
 kM:Addr
 kN:wae
 ic:FnAt K mg "reached_from" (top 55) ["sheet","desk"] kM kN
 j2:Addr
 j3:wae
 fM:FnAt K mg "closed_weights" (top 56) ["band","many","wide","weights"] j2 j3
 ow:Addr
 oy:wae
 gO:FnAt K mg "steps_into" (top 57) ["line","desks"] ow oy
 jC:Addr
 oz:wae
 gP:FnAt K mg "kept_desks" (top 58) ["sheet","many"] jC oz
 qM:Addr
 qN:wae
 kP:FnAt K mg "step_down" (top 59) ["sheet"] qM qN
 zW:Addr
 zX:wae
 tZ:FnAt K mg "run_by" (top 60) ["weights","numbers","many"] zW zX
 oA:Addr
 oB:wae
 jD:FnAt K mg "next_split" (top 61) ["sheet","many"] oA oB
 xj:Addr
 xk:wae
 j4:FnAt K mg "plan_of" (top 62) ["band","many","wide"] xj xk
 jQ:Addr
 jR:wae
 gv:FnAt K mg "blocks_behind" (top 64) ["band","wide"] jQ jR
 eX:Addr
 eY:wae
 d1:FnAt K mg "steps_by_new_numbers" (top 65) ["line","kept","many"] eX eY
 oC:Addr
 oE:wae
 eZ:FnAt K mg "check_data" (top 66) ["data","many"] oC oE
 zY:Addr
 zZ:wae
 oF:FnAt K mg "walked" (top 67) ["lines","desk","data"] zY zZ
 f7:Addr
 iE:wae
 jS:Addr
 jT:wae
 kQ:Addr
 kR:wae
 vx:Addr
 vy:wae
 u0:Addr
 u5:wae
 u9:Addr
 ua:wae
 kT:Addr
 kU:wae
 qO:Addr
 qP:wae
 iF:FnAt K mg "all_among" (top 71) ["text","signs"] qO qP
 qQ:Addr
 qR:wae
 kW:FnAt K mg "are_signs" (top 72) ["thing"] qQ qR
 xm:Addr
 xn:wae
 pQ:FnAt K mg "is_word" (top 73) ["thing","signs"] xm xn
 kX:Addr
 kY:wae
 ie:FnAt K mg "check_barred" (top 74) ["barred","signs"] kX kY
 kZ:Addr
 lj:wae
 f9:FnAt K mg "bears_barred" (top 75) ["row","barred"] kZ lj
 jU:Addr
 jV:wae
 gw:FnAt K mg "sorted_places" (top 76) ["barred"] jU jV
 my:Addr
 mz:wae
 iM:FnAt K mg "longest_end" (top 77) ["row","places"] my mz
 oG:Addr
 oH:wae
 jE:FnAt K mg "moves_from" (top 78) ["place","signs","barred","places"] oG oH
 oI:Addr
 oJ:wae
 jF:FnAt K mg "leads_into" (top 79) ["ends","lot"] oI oJ
 jG:Addr
 oK:wae
 jH:FnAt K mg "live_among" (top 80) ["moves"] jG oK
 gx:Addr
 jW:wae
 ig:Addr
 ik:wae
 iG:Addr
 iH:wae
 mB:Addr
 mC:wae
 qS:Addr
 qU:wae
 ub:Addr
 uc:wae
 lq:Addr
 lu:wae
 qV:Addr
 qW:wae
 eJ:FnAt K mg "_law_here" (top 83) ["_law_script","_law_place"] qV qW
 mD:Addr
 mE:wae
 fX:FnAt K mg "_law_shaken" (top 84) ["_law_cell","_law_many"] mD mE
 qX:Addr
 qY:wae
 lz:FnAt K mg "_law_band" (top 85) ["_law_script"] qX qY
 qZ:Addr
 rg:wae
 lA:FnAt K mg "_law_rate" (top 86) ["_law_script","_law_signs"] qZ rg
 ri:Addr
 rj:wae
 lB:FnAt K mg "_law_told" (top 87) ["_law_signs","_law_words","_law_many","_law_wide"] ri rj
 lC:Addr
 lD:wae
 fb:FnAt K mg "_law_refused" (top 88) ["_law_told_here","_law_data"] lC lD
 aw:Addr
 rT:mg "Sheet"=some (.ref aw)
 av:Hx K aw
 oM:Mk K aw fL
 aT:Addr
 HD:mg "Plan"=some (.ref aT)
 cF:JY K aT
 Ds:Mk K aT gu
 ao:Addr
 A0:mg "Writer"=some (.ref ao)
 ay:EV K ao
 xo:Mk K ao f7
 aC:Addr
 HE:mg "Band"=some (.ref aC)
 aJ:JZ K aC
 Dt:Mk K aC gx
 cM:fA K aw "__init__" "Sheet.__init__" (inClass (top 41) 0) ["self","homes","weights","lines"] fL iZ
 gy:fA K aT "__init__" "Plan.__init__" (inClass (top 52) 0) ["self","weights","splits","kept","last"] gu jP
 gQ:fA K aT "sheet" "Plan.sheet" (inClass (top 52) 1) ["self"] ot ou
 fg:fA K ao "__init__" "Writer.__init__" (inClass (top 68) 0) ["self","band","many","wide"] f7 iE
 eh:fA K ao "behind" "Writer.behind" (inClass (top 68) 1) ["self"] jS jT
 fh:fA K ao "ahead" "Writer.ahead" (inClass (top 68) 2) ["self"] kQ kR
 vz:fA K ao "lead" "Writer.lead" (inClass (top 68) 4) ["self"] vx vy
 ud:fA K ao "desks" "Writer.desks" (inClass (top 68) 5) ["self"] u0 u5
 ue:fA K ao "steps" "Writer.steps" (inClass (top 68) 7) ["self","desk"] u9 ua
 bX:fA K ao "write" "Writer.write" (inClass (top 68) 8) ["self","data"] kT kU
 gz:fA K aC "__init__" "Band.__init__" (inClass (top 81) 0) ["self","signs","barred"] gx jW
 bO:fA K aC "check_place" "Band.check_place" (inClass (top 81) 2) ["self","place"] ig ik
 di:fA K aC "check_live" "Band.check_live" (inClass (top 81) 3) ["self","place"] iG iH
 fY:fA K aC "places" "Band.places" (inClass (top 81) 5) ["self"] mB mC
 cQ:fA K aC "live" "Band.live" (inClass (top 81) 6) ["self"] qS qU
 fN:fA K aC "led" "Band.led" (inClass (top 81) 8) ["self","place","sign"] ub uc
 fi:fA K aC "longest" "Band.longest" (inClass (top 81) 9) ["self"] lq lu
 aI:Addr
 iI:mg "BandError"=some (.ref aI)
 XT:vm K aI "BandError"
 XB:Gh K aI
 pR:Addr
 xq:mg "NoSigns"=some (.ref pR)
 xr:hO K pR aI "NoSigns"
 pT:Addr
 xt:mg "TooMany"=some (.ref pT)
 xu:hO K pT aI "TooMany"
 uf:Addr
 A1:mg "NoWord"=some (.ref uf)
 A2:hO K uf aI "NoWord"
 yi:Addr
 Du:mg "NoRow"=some (.ref yi)
 Dv:hO K yi aI "NoRow"
 ug:Addr
 A3:mg "Barred"=some (.ref ug)
 A4:hO K ug aI "Barred"
 pU:Addr
 xx:mg "NoPlace"=some (.ref pU)
 xA:hO K pU aI "NoPlace"
 nj:Addr
 uh:mg "NoNumber"=some (.ref nj)
 ui:hO K nj aI "NoNumber"
 uj:Addr
 A5:mg "NoRate"=some (.ref uj)
 A6:hO K uj aI "NoRate"
 dM:Addr
 fO:mg "NoSplit"=some (.ref dM)
 fP:bB K dM aI "NoSplit"
 EW:vn K dM
 fQ:wb8 K (.ref dM) "__init__"=some (some (.builtin "ValueError.__init__"))
 nk:Addr
 uk:mg "NoLength"=some (.ref nk)
 um:hO K nk aI "NoLength"
 bY:Addr
 oN:mg "Scarce"=some (.ref bY)
 fj:bB K bY aI "Scarce"
 HF:vn K bY
 dj:Addr
 fk:wae
 oO:yM K "__init__" "Scarce.__init__" (inClass (top 13) 0) dj fk
 oP:Binds K fk ["self","length","rows"] []
 xB:wb8 K (.ref bY) "__init__"=some (some (.ref dj))
 xC:web K (.ref dj)=true
 jX:wb8 K (.ref bY) "length"=some none
 mF:wb8 K (.ref bY) "rows"=some none
 lE:Addr
 uo:mg "Open"=some (.ref lE)
 pV:bB K lE aI "Open"
 Mz:vn K lE
 yj:wb8 K (.ref lE) "__init__"=some (some (.builtin "ValueError.__init__"))
 aV:Addr
 oQ:mg "NoData"=some (.ref aV)
 aR:bB K aV aI "NoData"
 oR:vn K aV
 dk:Addr
 fm:wae
 oS:yM K "__init__" "NoData.__init__" (inClass (top 15) 0) dk fm
 lF:Binds K fm ["self","number"] []
 pW:wb8 K (.ref aV) "__init__"=some (some (.ref dk))
 pX:web K (.ref dk)=true
 et:wb8 K (.ref aV) "number"=some none
 uq:Addr
 A7:mg "NoForm"=some (.ref uq)
 A8:hO K uq aI "NoForm"
 ur:Addr
 A9:mg "NoBand"=some (.ref ur)
 Aa:hO K ur aI "NoBand"
 nq:Addr
 uv:mg "NoWriter"=some (.ref nq)
 uw:hO K nq aI "NoWriter"
 lG:∃t,mg "MOST_BLOCKS"=some (.int 24 t)
 lH:∃t,mg "MOST_WEIGHT"=some (.int 8 t)
 fB:∃t,mg "MOST_WEIGHT_IN_ALL"=some (.int 40 t)
 known:∃t,mg "KNOWN_SIGNS"=some (.str dN t)
section
variable{P:wat}{w:World}{K:wa1}{mg:Str->Option Value}{base:Heap}
theorem rq(L:Lk K mg):aN P w K mg base dm 1 L.kG L.kH ["line"] (GQ K):=by
 refine L.i9.F.ee (N:=["line"]) (λo A outer s H D Q E nd c h=>?_);obtain⟨v,p,rfl,t,hn,k⟩:=h;refine⟨_,(af (az (gk rfl (ax [] []) (ax [] []) (by decide) (aM (pv 0)) (λ_ _ _ _ _ _=>bh) (λ_ _ _ _ _ _=>(dP (a5 (pv 0) (a5 (pv 1) a8))))))),?_⟩;obtain⟨a,u,rfl,j,b,x⟩:=mZ t;have d:=b;rw[wa0]at d;refine⟨_,rfl,a,rfl,⟨_,j⟩,λl hl=>?_⟩;refine lR (prs:=p.map eD) (λ_=>true) (λq=>.tup [.at q.1,.at q.2]) (aK K a u) b (λi q e=>let ⟨r,y,B⟩:=x i q e;⟨r,y,ir.of B⟩) hl (au (by omega)) (λm f=>f.seq j) (λq n C _ _ g=>g n (a9.refl _)) (λq n C e _ G g=>?_) (λm f r=>?_)
 ·obtain⟨z,I,rfl⟩:=waa.mp e;exact⟨_,rfl,_,rfl,by show 2<=sizeLine;decide,λr c=>g _ _ (a9.upd c) (nV c z)⟩
 ·rw[wb5.mpr (λ_ _=>rfl),wai]at r;exact k _ m f r
theorem fo(L:Lk K mg):aN P w K mg base dm 2 L.fL L.iZ ["self","homes","weights","lines"] (GR K L.aw):=by
 have T:=L.T;refine L.cM.F.ee (N:=["self","homes","weights","lines"]) (λgK A outer s H vs Q E nd hr h=>?_);obtain⟨x,j,u,v,w,C,D,t,rfl,J,Y,Z,KJ,n1,n2,n3,n4,k⟩:=h
 refine⟨_,(a7 (cS (pv 0) (bo cz (by rfl) T.list iC (a5 (pv 1) a8)) rfl)
  (a7 (cS (pv 0) (bo cz (by rfl) T.list iC (a5 (pv 2) a8)) rfl)
  (af (cS (pv 0) (cA rfl (ax [] []) (aM (pv 3)) (λ_ _ _ _ _ _=>bh) (λ_ _ _ _ _ _=>(aj (rq L) L.i9 (a5 (pv 0) a8)))) rfl)))),?_⟩
 obtain⟨a,rfl,ha⟩:=GO Y;obtain⟨b,rfl,hb⟩:=i3 Z;obtain⟨c,xs,rfl,hc,M⟩:=KJ;have xl:xs.length=t.length:=by rw[M.len,wa0]
 have l:∀{d:Addr} {ys:List V} {H':Hp},aH K H d ys->(∀b o,H b=some o->b≠x->H' b=some o)->aH K H' d ys:=λhS kp=>(fU kp).seq (y3 J hS);refine⟨_,rfl,a,_,rfl,.inl ha,λf B=>?_⟩;have m:x≠f:=ae J B;refine⟨_,rfl,x,L.aw,j,[],rfl,by rw[aa m];exact J,L.av.cl,L.av.gN,(show 0 < 1000 by decide),?_⟩;rw[KB];have W:∀d o,H d=some o->d≠x->(upd (upd H f (.lst (C.map V.str))) x (.ins L.aw j (qw f))) d=some o:=λd o e hd=>by rw[aa hd];exact a9.upd B _ _ e
 have x1:(upd (upd H f (.lst (C.map V.str))) x (.ins L.aw j (qw f))) x=some (.ins L.aw j (qw f)):=a6;have a1:(upd (upd H f (.lst (C.map V.str))) x (.ins L.aw j (qw f))) f=some (.lst (C.map V.str)):=by rw[aa m.symm,a6]
 generalize upd (upd H f (.lst (C.map V.str))) x (.ins L.aw j (qw f))=O at W x1 a1 ⊢;refine⟨_,rfl,b,_,rfl,.inl (l hb W),λg n=>?_⟩;have p:x≠g:=ae x1 n;have XI:f≠g:=ae a1 n
 have Sz:H g=none:=by
  cases q:H g with
  |none=>rfl
  |some o=>have:=W _ _ q p.symm;rw[n]at this;cases this
 refine⟨_,rfl,x,L.aw,j,qw f,rfl,by rw[aa p];exact x1,L.av.cl,L.av.cL,(show 1 < 1000 by decide),?_⟩;rw[GP];have G:∀d o,H d=some o->d≠x->(upd (upd O g (.lst (D.map V.int))) x (.ins L.aw j (nW f g))) d=some o:=λd o e hd=>by rw[aa hd];exact a9.upd n _ _ (W _ _ e hd)
 have X:(upd (upd O g (.lst (D.map V.int))) x (.ins L.aw j (nW f g))) x=some (.ins L.aw j (nW f g)):=a6;have a2:(upd (upd O g (.lst (D.map V.int))) x (.ins L.aw j (nW f g))) f=some (.lst (C.map V.str)):=by rw[aa m.symm,aa XI];exact a1
 have b2:(upd (upd O g (.lst (D.map V.int))) x (.ins L.aw j (nW f g))) g=some (.lst (D.map V.int)):=by rw[aa p.symm,a6]
 generalize upd (upd O g (.lst (D.map V.int))) x (.ins L.aw j (nW f g))=H2 at G X a2 b2 ⊢;have R:=b6.same (fU G) _ _ (b6.off J _ _ M);refine⟨_,rfl,c,rfl,⟨_,l (.inl hc) G⟩,λc' S=>?_⟩;refine tm (K:=K) (t.map bW) (aK K c xs) S (au (by omega)) (by rw[wa0,xl]) (λH' s'=>s'.seq (l (.inl hc) G)) (λi y d U Q' hy hd I qq=>?_) (λU I r3=>?_)
 ·obtain⟨d',e',r⟩:=R.get i y hy;rw[hd]at e';cases e';rw[wa4]at hd
  cases e:t[i]? with
  |none=>rw[e]at hd;cases hd
  |some qs=>
   rw[e]at hd;cases hd;exact⟨_,rfl,y,qs,rfl,bC.same I _ _ r,n4 qs (wak e),λz H4 s4 r4=>qq z H4 s4 r4⟩
 ·have ncx:x≠c':=ae X S;refine⟨_,rfl,x,L.aw,j,nW f g,rfl,I _ _ X,L.av.cl,L.av.cB,(show 2 < 1000 by decide),?_⟩;rw[De];have up:a9 (aG H U) (aG H (upd U x (.ins L.aw j (BJ f g c')))):=bD J λd o e hd=>by rw[aa hd];exact e
  have old:a9 (aG H2 U) (aG H U):=λd o e=>by
   unfold aG at e ⊢
   cases q:H d with
   |none=>
    cases q2:H2 d with
    |none=>rw[q2]at e;exact e
    |some z=>rw[q2]at e;cases e
   |some z=>
    by_cases hd:d=x
    ·rw[hd,X]at e;cases e
    ·rw[G _ _ q hd]at e;cases e
  refine k f g c' _ a6 ?_ ?_ (bC.same (old.trans up) _ _ r3) λd o e hd=>by rw[aa hd];exact I _ _ (G _ _ e hd)
  ·exact nU ((bN B (by rw[aa m.symm];exact I _ _ a2)))
  ·exact iX ((bN Sz (by rw[aa p.symm];exact I _ _ b2)))
theorem jY(L:Lk K mg):aN P w K mg base dm 1 L.kI L.kJ ["number","things"] (JH K):=by
 have T:=L.T;refine L.eV.F.ee (N:=["number","things"]) (λd A outer s H g Q E nd j h=>?_);obtain⟨i,a,b,rfl,f,k⟩:=h;refine⟨_,(af (az (AI (iz Fv (pv 0) ai (aS _)) (AH (iz m6 (pv 0) (aq bg (by rfl) T.len waO (a5 (pv 1) a8)) (aS _)))))),?_⟩
 by_cases c:0<=i
 ·have e:dY i b.length=decide (i < (b.length:Int)):=by unfold dY;rw[decide_eq_true c,wdS]
  rw[e]at k;exact⟨_,rfl,_,_,rfl,rfl,true,congrArg V.bl (decide_eq_true c),dF ⟨_,rfl,_,rfl,a,b,rfl,.inl f,_,_,rfl,rfl,k⟩⟩
 ·have e:dY i b.length=false:=by unfold dY;rw[decide_eq_false c,wd5]
  rw[e]at k;exact⟨_,rfl,_,_,rfl,rfl,false,congrArg V.bl (decide_eq_false c),bA k⟩
theorem mG(L:Lk K mg):aN P w K mg base (vk P w) 1 L.oi L.oj ["sheet","many","steps","weight"] (Mf K L.aw L.dM):=by
 have T:=L.T;refine L.cC.F.zp (N:=["sheet","many","steps","weight"]) (λW A outer s H vs Q E nd hr h=>?_);obtain⟨x,many,v,w,hs,c,X,b,rfl,S,Y,Z,t,m0,m1,k⟩:=h
 refine⟨_,(a7 (bH (aF qg (aq bg (by rfl) T.len waO (a5 (pv 2) a8)) ai (aS _)) (af (fF bV rfl L.fP L.fQ rfl L.fO (a5 dn a8))) aL)
  (a7 (bH (aF m6 (pv 3) ai (aS _)) (af (fF bV rfl L.fP L.fQ rfl L.fO (a5 dn a8))) aL)
  (af (bH (aF m6 (aq (kn rfl) (by rfl) T.sum Eb (a5 (gk rfl (ax ["sheet"] [0]) (ax ["sheet"] [0]) (by decide) (aM (pv 2)) (λ_ _ _ _ _ _=>bh) (λ_ _ _ _ _ _=>(b8 (gf (K:=K) rfl) (lO (K:=K) rfl (pv 2) rfl) (pv 1) (λ_ _=>rfl)))) a8)) (aE jf (pv 1) (pv 3)) (aS _)) (af (fF bV rfl L.fP L.fQ rfl L.fO (a5 dn a8))) aL)))),?_⟩
 obtain⟨dx,ah,J,cl,hx,rh,u,rl⟩:=id S;obtain⟨V0,eb,hb⟩:=i3 u;cases eb;obtain⟨a,o,rfl,p,M⟩:=eF Y;have g:o.length=b.length:=by rw[M.1,wa0,wa0]
 have no:dS c many b w=false->∀y,a9 H y->E (.ref L.dM) none y:=λh=>by
  rcases k with⟨r,_⟩ |⟨_,i⟩
  ·rw[h]at r;cases r
  ·exact i
 by_cases B:b=[]
 ·subst B;have r0:o=[]:=wbm g;subst r0;exact⟨_,rfl,a,_,rfl,.inl p,rfl,true,Bt _,dF ⟨rfl,no rfl H (a9.refl _)⟩⟩
 have SA:o.length≠0:=by rw[g];exact λz=>B (wbm z)
 have j:b.isEmpty=false:=by cases b with |nil=>exact absurd rfl B |cons _ _=>rfl
 refine⟨_,rfl,a,_,rfl,.inl p,rfl,false,congrArg V.bl (decide_eq_false λz=>by have:=V.int.inj z;rw[wa0]at this;omega),bA ?_⟩
 by_cases O:w < 1
 ·refine⟨_,rfl,_,_,rfl,rfl,true,congrArg V.bl (decide_eq_true O),dF ⟨rfl,no ?_ H (a9.refl _)⟩⟩;unfold dS;rw[decide_eq_false (show ¬1<=w by omega),wd5,wcF]
 refine⟨_,rfl,_,_,rfl,rfl,false,congrArg V.bl (decide_eq_false O),bA ?_⟩;refine⟨_,rfl,a,rfl,⟨_,p⟩,λlc C=>?_⟩;refine mY (prs:=b.map eD) (λ_=>true) (λq=>match q.2 with |.int e=>.int (c.getD e.toNat 0) |_=>.non) (aK K a (o.map V.ref)) M C (au (by omega)) (λy s'=>s'.seq p) (λq d R _ _ D=>D d (a9.refl _)) (λq d R hq _ l D=>?_) (λd l U=>?_)
 ·obtain⟨f,G,rfl⟩:=waa.mp hq;have m:=t f G;have I:w6 (c.map V.int) (f.2:Int)=some (.int (c.getD f.2 0)):=bQ (by rw[wa4,wa2 m,wa5,wa2 m];rfl)
  have q2:R (.int (c.getD f.2 0)) d:=by
   have:=D d (a9.refl _);rwa[show (eD f).2=.int (f.2:Int) from rfl]at this
  exact⟨_,rfl,x,L.aw,dx,_,_,rfl,l _ _ hx,L.av.cl,L.av.cL,ck ah J cl,_,rfl,J,_,_,_,rfl,rfl,l.seq hb,I,q2⟩
 have e7:((b.map eD).filter λ_=>true).map (λq=>match q.2 with |.int e=>V.int (c.getD e.toNat 0) |_=>.non)=(b.map λq=>c.getD q.2 0).map V.int:=by
  rw[wb5.mpr (λ_ _=>rfl),wai,wai];rfl
 rw[e7]at U;refine⟨lc,_,rfl,aH.of U,_,rfl,_,rfl,_,_,rfl,rfl,.inl ⟨by omega,by omega⟩,_,_,rfl,rfl,?_⟩
 by_cases n:b0 c b < many * w
 ·refine⟨true,congrArg V.bl (decide_eq_true n),dF ⟨rfl,no ?_ d l⟩⟩;unfold dS;rw[decide_eq_false (show ¬many * w<=b0 c b by omega),wcF,wcF]
 ·refine⟨false,congrArg V.bl (decide_eq_false n),bA ?_⟩;rcases k with⟨_,r⟩ |⟨i,_⟩
  ·exact r d l
  ·unfold dS at i;rw[j,decide_eq_true (show 1<=w by omega),decide_eq_true (show many * w<=b0 c b by omega)]at i;cases i
theorem vA(L:Lk K mg):aN P w K mg base dm 1 L.om L.oo ["line","desk","twin"] (JI K):=by
 refine L.jB.F.ee (N:=["line","desk","twin","steps","word","end"]) (λgK A outer s H vs Q E nd u h=>?_);obtain⟨v,d,t,p,rfl,hL,KL,k⟩:=h
 refine⟨_,(a7 (ag (i:=3) (b7 a8))
  (a7 (bj waB rfl (aM (pv 0)) (fC rfl (aU (aA (i:=4)) (aU (aA (i:=5)) dC))) (a7 (bu (iP waT waZ wb7 cH (pv 3) (a5 (dP (a5 (pv 4) (a5 (pv 5) a8))) a8)))
  (af (bH (aF qg (pv 5) (pv 1) (aS _)) (af (bu (iP waT waZ wb7 cH (pv 3) (a5 (dP (a5 (pv 4) (a5 (pv 2) a8))) a8)))) aL))))
  (af (az (pv 3))))),?_⟩
 obtain⟨a,S,rfl,hS,hT⟩:=eF hL;have Z:S.length=p.length:=by rw[hT.1,wa0,wa0]
 refine⟨waM _,λb M=>?_⟩;have sb:a9 H (upd H b (.lst [])):=a9.upd M;have x:(upd H b (.lst [])) b=some (.lst []):=a6;generalize upd H b (.lst [])=B at sb x;have keep:∀{g:Hp},(∀c o,B c=some o->c≠b->g c=some o)->a9 H g:=λC c o e=>C _ _ (sb _ _ e) (ae e M)
 refine⟨_,rfl,a,rfl,⟨_,sb.seq hS⟩,dU (K:=K) (a:=a) (xs:=S.map V.ref) (λj σ g=>∃(v4 v5:Option V) (as:List V),σ=[some (.ref a),some (.int (d:Int)),some (.int (t:Int)),some (.ref b),v4,v5]/\g b=some (.lst as)/\(∀c o,B c=some o->c≠b->g c=some o)/\b6 K (aG B g) ((eT d t (p.take j)).map jO) as)
  ⟨none,none,[],rfl,x,λc o e _=>e,rfl⟩ (λj σ g _ ⟨_,_,_,_,_,C,_⟩=>(keep C).seq hS) ?_ ?_⟩
 ·rintro j y σ g hy ⟨v4,v5,as,rfl,l,C,T⟩;have hj:j < S.length:=by have:=(wa6.mp hy).1;rwa[wa0]at this
  have U:j < p.length:=by omega
  rw[wa4,wa2 hj]at hy;cases hy;have W:H S[j]=some (.tup [.str p[j].1,.int (p[j].2:Int)]):=hT.2 j S[j] (ky (eD p[j])) (wa2 hj) (by rw[wa4,wa4,wa2 U];rfl);have nF:p.take (j + 1)=p.take j++[p[j]]:=by rw[wb1,wa2 U];rfl
  have V1:as.length<=2 * j:=by
   rw[T.len,wa0];exact wal (pJ d t _) (wes 2 (by rw[wau];omega))
  generalize p[j]=q at W nF;refine⟨S[j],_,rfl,ir.of (keep C _ _ W),rfl,_,_,rfl,_,_,rfl,rfl,?_⟩;refine⟨_,rfl,.inl ⟨rfl,_,aH.of l⟩,_,rfl,_,rfl,by show 2<=sizeLine;decide,λr u=>?_⟩;have I:∀n:Nat,n<=20000->n < sizeLine:=λn hn=>wba hn (by rw[wc2];decide);have Qw:=a9.upd (o:=.tup [.str q.1,.int (q.2:Int)]) u _ _ l;refine⟨b,_,_,rfl,rfl,Qw,I _ (by omega),?_⟩;have X:∀c o,(upd g r (.tup [.str q.1,.int (q.2:Int)])) c=some o->c≠b->(upd (upd g r (.tup [.str q.1,.int (q.2:Int)])) b (.lst (as++[.ref r]))) c=some o:=λc o e hc=>by rw[aa hc];exact e
  have D:∀c o,B c=some o->c≠b->(upd (upd g r (.tup [.str q.1,.int (q.2:Int)])) b (.lst (as++[.ref r]))) c=some o:=λc o e hc=>X _ _ (a9.upd u _ _ (C c o e hc)) hc
  have r0:B r=none:=by
   cases z:B r with
   |none=>rfl
   |some o=>
    by_cases hc:r=b
    ·rw[hc,l]at u;cases u
    ·rw[C _ _ z hc]at u;cases u
  have O:b6 K (aG B (upd (upd g r (.tup [.str q.1,.int (q.2:Int)])) b (.lst (as++[.ref r])))) ((eT d t (p.take j)).map jO++[jO q]) (as++[.ref r]):=by
   refine gW (b6.same ((hZ (a9.upd u)).trans (bD x X)) _ _ T) ?_;have R:r≠b:=λz=>by rw[z,l]at u;cases u
   exact⟨r,_,rfl,bN r0 (by rw[aa R,a6]),.str q.1,[.int (q.2:Int)],rfl,⟨rfl,rfl⟩,.int (q.2:Int),[],rfl,⟨rfl,rfl⟩,rfl⟩
  have m:(upd (upd g r (.tup [.str q.1,.int (q.2:Int)])) b (.lst (as++[.ref r]))) b=some (.lst (as++[.ref r])):=a6;generalize upd (upd g r (.tup [.str q.1,.int (q.2:Int)])) b (.lst (as++[.ref r]))=H4 at D O m
  by_cases G:q.2=d
  ·refine⟨_,rfl,_,rfl,rfl,true,congrArg V.bl (decide_eq_true (by rw[G])),dF ?_⟩;refine⟨_,rfl,.inl ⟨rfl,_,aH.of m⟩,_,rfl,_,rfl,by show 2<=sizeLine;decide,λJ f=>?_⟩;have KM:=a9.upd (o:=.tup [.str q.1,.int (t:Int)]) f _ _ m;refine⟨b,_,_,rfl,rfl,KM,I _ (by rw[wa7,wc9];omega),?_⟩;have Y:∀c o,(upd H4 J (.tup [.str q.1,.int (t:Int)])) c=some o->c≠b->(upd (upd H4 J (.tup [.str q.1,.int (t:Int)])) b (.lst (as++[.ref r]++[.ref J]))) c=some o:=λc o e hc=>by rw[aa hc];exact e
   have XJ:B J=none:=by
    cases z:B J with
    |none=>rfl
    |some o=>
     by_cases hc:J=b
     ·rw[hc,m]at f;cases f
     ·rw[D _ _ z hc]at f;cases f
   refine⟨_,_,_,rfl,a6,λc o e hc=>Y _ _ (a9.upd f _ _ (D c o e hc)) hc,?_⟩;rw[nF,tD,if_pos G,waj];have em:([q,(q.1,t)]:List (Str×Nat)).map jO=[jO q]++[jO (q.1,t)]:=rfl;rw[em,<-wb9];refine gW (b6.same ((hZ (a9.upd f)).trans (bD x Y)) _ _ O) ?_;have R:J≠b:=λz=>by rw[z,m]at f;cases f
   exact⟨J,_,rfl,bN XJ (by rw[aa R,a6]),.str q.1,[.int (t:Int)],rfl,⟨rfl,rfl⟩,.int (t:Int),[],rfl,⟨rfl,rfl⟩,rfl⟩
  ·refine⟨_,rfl,_,rfl,rfl,false,congrArg V.bl (decide_eq_false λz=>G (by have:=V.int.inj z;omega)),bA ?_⟩;refine⟨_,_,_,rfl,m,D,?_⟩;rw[nF,tD,if_neg G,waj];exact O
 ·rintro σ g ⟨v4,v5,as,rfl,l,C,T⟩;rw[wa0,Z,waI]at T;exact⟨_,rfl,k _ _ (keep C) ⟨b,as,rfl,.inl (bN M l),b6.same (dI sb) _ _ T⟩⟩
theorem HG(L:Lk K mg):aN P w K mg base (vk P w) 4 L.Dq L.Dr ["sheet","many","desk","numbers","weight"] (JK K L.aw L.dM):=by
 have T:=L.T;refine L.oq.F.zp (N:=["sheet","many","desk","numbers","weight","line","chosen","others","rest","lines","weights","twin"]) (λgK A outer s H vs Q E nd hr h=>?_);obtain⟨x,a,many,B,w,ns,u,j,f,rfl,S,hA,OV,W,m0,m1,k⟩:=h
 refine⟨_,(a7 (bH (dO (cn (aj (jY L) L.eV (a5 (pv 2) (a5 (aO (pv 0) rfl) a8))))) (af (fF bV rfl L.fP L.fQ rfl L.fO (a5 dn a8))) aL)
  (a7 (ag (i:=5) (b8 bx (aO (pv 0) rfl) (pv 2) (λ_ _=>rfl)))
  (a7 (bH (dO (cn (aq (z6 rfl) (by rfl) T.all Oa (a5 (cA rfl (ax ["line"] [5]) (aM (pv 3)) (λ_ _ _ _ _ _=>bh) (λ_ _ _ _ _ _=>(aj (jY L) L.eV (a5 (pv 0) (a5 (pv 1) a8))))) a8)))) (af (fF bV rfl L.fP L.fQ rfl L.fO (a5 dn a8))) aL)
  (a7 (qy (i:=6) rfl (ax ["numbers"] [3]) nd rfl rfl (ax ["numbers"] [3]) (by decide) (lM (by rfl) T.enum (a5 (pv 5) a8)) (λ_ _ _ _ _ _=>fT (aF (hE (K:=K) rfl) (pv 0) (pv 2) rfl)) (λ_ _ _ _ _ _=>(pv 1)))
  (a7 (qy (i:=7) rfl (ax ["numbers"] [3]) nd rfl rfl (ax ["numbers"] [3]) (by decide) (lM (by rfl) T.enum (a5 (pv 5) a8)) (λ_ _ _ _ _ _=>fT (aF (vi (K:=K) rfl) (pv 0) (pv 2) rfl)) (λ_ _ _ _ _ _=>(pv 1)))
  (a7 (ag (i:=8) (aE si (b8 bx (aO (pv 0) rfl) (pv 2) (λ_ _=>rfl)) (pv 4)))
  (a7 (bu (iA (mG L) (hr.mono (by decide)) rfl L.cC.g L.cC.F.kp L.cC.b .nil (sJ bV) (a5 (pv 0) (a5 (pv 1) (a5 (pv 6) (a5 (pv 4) a8))))))
  (a7 (bu (iA (mG L) (hr.mono (by decide)) rfl L.cC.g L.cC.F.kp L.cC.b .nil (sJ bV) (a5 (pv 0) (a5 (pv 1) (a5 (pv 7) (a5 (pv 8) a8))))))
  (a7 (ag (i:=9) (aE y4 (aO (pv 0) rfl) (b7 (a5 (pv 7) a8))))
  (a7 (rZ (pv 6) (Fp (pv 9) (pv 2) set_list))
  (a7 (ag (i:=10) (aE y4 (aO (pv 0) rfl) (b7 (a5 (pv 8) a8))))
  (a7 (rZ (pv 4) (Fp (pv 10) (pv 2) set_list))
  (a7 (ag (i:=11) (aq bg (by rfl) T.len waO (a5 (aO (pv 0) rfl) a8)))
  (af (az (nG L.oM (fo L) (hr.mono (by decide)) rfl L.rT L.cM.b .nil eO (a5 (aE y4 (aO (pv 0) rfl) (b7 (a5 (b8 bx (aO (pv 0) rfl) (pv 2) (λ_ _=>rfl)) a8))) (a5 (pv 10) (a5 (cA rfl (ax ["desk","twin"] [2,11]) (aM (pv 9)) (λ_ _ _ _ _ _=>bh) (λ_ _ _ _ _ _=>(aj (vA L) L.jB (a5 (pv 0) (a5 (pv 1) (a5 (pv 2) a8)))))) a8))))))))))))))))))),?_⟩
 refine cZ λR1 c1=>?_;obtain⟨dx,M,O,cl,hx,rh,Io,rl⟩:=id S;have hh:=y7 rh;have hw:=JG Io;obtain⟨OW,t,ec,hc,AB⟩:=id rl;cases ec;have xl:t.length=f.length:=by rw[AB.len,wa0]
 have hn:=W.n;have Bi:=W.w;have BR:=W.l
 have no:dh j f many B ns w=false->∀H',a9 H H'->E (.ref L.dM) none H':=λh=>by
  rcases k with⟨k1,_⟩ |⟨_,k2⟩
  ·rw[h]at k1;cases k1
  ·exact k2
 cases h1:dY B f.length with
 |false=>
  refine⟨_,rfl,_,rfl,x,L.aw,dx,_,_,rfl,hx,L.av.cl,L.av.cB,bJ M O cl,B,cl,t,rfl,.inl hc,false,congrArg V.bl (by rw[xl];exact h1),dF ⟨rfl,no ?_ H (a9.refl _)⟩⟩;unfold dh;rw[h1,wd5]
 |true=>
 obtain⟨d,rfl,hd⟩:∃d:Nat,B=(d:Int)/\d < f.length:=by
  unfold dY at h1;rw[wc7]at h1;have a1:=of_decide_eq_true h1.1;have a2:=of_decide_eq_true h1.2;exact⟨B.toNat,by omega,by omega⟩
 refine⟨_,rfl,_,rfl,x,L.aw,dx,_,_,rfl,hx,L.av.cl,L.av.cB,bJ M O cl,_,cl,t,rfl,.inl hc,true,congrArg V.bl (by rw[xl];exact h1),bA ?_⟩;refine c1 _ _ (cZ λR2 c2=>?_);rw[waG]at k;have UO:d < t.length:=by omega
 have V2:t[d]?=some t[d]:=wa2 UO;obtain⟨dd,N5,rd⟩:=AB.get d _ V2;have OX:f[d]?=some f[d]:=wa2 hd;rw[wa4,OX]at N5;cases N5;have Qn:f.getD d []=f[d]:=by rw[wa5,OX];rfl
 have N6:f[d]∈f:=waQ hd;have SD:=W.m _ N6;have SE:=W.e _ N6
 have V3:dh j f many (d:Int) ns w=(ns.all (λi=>dY i f[d].length) && (dS j many (b4 ns f[d]) w && dS j many (aZ ns f[d]) (j.getD d 0 - w))):=by
  unfold dh;rw[h1,wdS,waG,Qn]
 unfold i5 at k;rw[Qn]at k;rw[V3]at k no;refine⟨_,rfl,x,L.aw,dx,_,_,rfl,hx,L.av.cl,L.av.cB,bJ M O cl,_,rfl,cl,t,_,t[d],rfl,rfl,.inl hc,bQ V2,?_⟩;obtain⟨al,ys,el,R,KN⟩:=rd;rw[el];have yl:ys.length=f[d].length:=by rw[KN.len,wa0]
 generalize f[d]=p at V3 N6 SD SE KN yl k no;refine c2 _ _ (cZ λR3 c3=>?_);refine⟨_,rfl,a,rfl,⟨_,hA⟩,λl1 MA=>?_⟩;refine comp_map (λv=>match v with |.int i=>V.bl (dY i ys.length) |_=>.non) (aK K a (ns.map V.int)) MA (by rw[wa0];exact au (by omega)) (λH' s'=>s'.seq hA) (λz H2 Q' hz s2 U=>?_) (λH2 s2 h2=>?_)
 ·obtain⟨i,_,rfl⟩:=waa.mp hz;exact⟨_,rfl,_,rfl,i,al,ys,rfl,s2.seq (.inl R),U H2 (a9.refl _)⟩
 have e2:(ns.map V.int).map (λv=>match v with |.int i=>V.bl (dY i ys.length) |_=>.non)=(ns.map λi=>dY i p.length).map V.bl:=by
  rw[wai,wai,yl];rfl
 rw[e2]at h2
 have OY:((ns.map λi=>dY i p.length).all id)=ns.all (λi=>dY i p.length):=by
  rw[wfa];rfl
 cases h3:ns.all (λi=>dY i p.length) with
 |false=>
  refine⟨l1,_,rfl,aH.of h2,false,congrArg V.bl (OY.trans h3),dF ⟨rfl,no ?_ H2 s2⟩⟩;rw[h3,wd5]
 |true=>
 refine⟨l1,_,rfl,aH.of h2,true,congrArg V.bl (OY.trans h3),bA ?_⟩;refine c3 _ _ (cZ λR4 c4=>?_);rw[h3,wdS]at k no;refine⟨_,rfl,al,ys,rfl,s2.seq (.inl R),λlc K0=>?_⟩;refine wR (λi=>nJ (.int (i:Nat)) (ns.map V.int)) (s2.seq (.inl R)) K0 (au (by omega)) (λi y H3 Q' _ s3 U=>?_) (λi y H3 Q' _ s3 U=>⟨_,rfl,U H3 (a9.refl _)⟩) (λH3 s3 V4=>?_)
 ·exact⟨_,rfl,_,rfl,a,_,rfl,.inl ((s2.trans s3).seq hA),rfl,iY ns,_,rfl,U H3 (a9.refl _)⟩
 have XM:(λi:Nat=>nJ (.int (i:Nat)) (ns.map V.int))=λi:Nat=>decide ((i:Int)∈ns):=funext λi=>tu _ ns;rw[XM]at V4;have Cd:=s2.trans s3;refine c4 _ _ (cZ λR5 c5=>?_);refine⟨_,rfl,al,ys,rfl,Cd.seq (.inl R),λlo LK=>?_⟩;refine wR (λi=>!nJ (.int (i:Nat)) (ns.map V.int)) (Cd.seq (.inl R)) LK (au (by omega)) (λi y H4 Q' _ s4 U=>?_) (λi y H4 Q' _ s4 U=>⟨_,rfl,U H4 (a9.refl _)⟩) (λH4 s4 V5=>?_)
 ·exact⟨_,rfl,_,rfl,a,_,rfl,.inl ((Cd.trans s4).seq hA),rfl,iY ns,_,rfl,U H4 (a9.refl _)⟩
 have SG:(λi:Nat=>!nJ (.int (i:Nat)) (ns.map V.int))=λi:Nat=>!decide ((i:Int)∈ns):=funext λi=>congrArg (!·) (tu _ ns);rw[SG]at V5;have C:=Cd.trans s4;refine c5 _ _ (cZ λR6 c6=>?_);have XO:=s4 _ _ V4;have rC:bC K H4 (bW (b4 ns p)) (.ref lc):=⟨lc,_,rfl,.inl XO,zH _ (b6.same C _ _ KN)⟩;have rO:bC K H4 (bW (aZ ns p)) (.ref lo):=⟨lo,_,rfl,.inl V5,zH _ (b6.same C _ _ KN)⟩;have V6:(b4 ns p).length<=5000:=wal (lS _ _ _) SD;have XQ:(aZ ns p).length<=5000:=wal (lS _ _ _) SD;have ce:∀q∈b4 ns p,q.2 < j.length:=λq hq=>by rw[Bi];exact SE q (gX hq)
 have oe:∀q∈aZ ns p,q.2 < j.length:=λq hq=>by rw[Bi];exact SE q (gX hq)
 have V7:d < j.length:=by omega
 have SH:w6 (j.map V.int) (d:Int)=some (.int (j.getD d 0)):=bQ (by rw[wa4,wa2 V7,wa5,wa2 V7];rfl);refine⟨_,rfl,x,L.aw,dx,_,_,rfl,C _ _ hx,L.av.cl,L.av.cL,ck M O cl,_,rfl,O,_,_,_,rfl,rfl,C.seq (.inl hw),SH,_,rfl,_,_,rfl,rfl,?_⟩;show d4 8 (V.int (j.getD d 0 - w)) _ _ _;refine c6 _ _ (cZ λR7 c7=>?_);have S4:=S.same C;refine⟨_,rfl,_,rfl,_,rfl,_,rfl,x,many,.ref lc,w,u,j,f,b4 ns p,rfl,S4,rC,by omega,ce,m0,m1,?_⟩
 cases h5:dS j many (b4 ns p) w with
 |false=>exact .inr ⟨rfl,λH5 s5=>no (by rw[h5,wd5]) H5 (C.trans s5)⟩
 |true=>
 refine .inl ⟨rfl,λH5 s5=>?_⟩;refine c7 _ _ (cZ λR8 c8=>?_);rw[h5,wdS]at k no;refine⟨_,rfl,_,rfl,_,rfl,_,rfl,x,many,.ref lo,j.getD d 0 - w,u,j,f,aZ ns p,rfl,S4.same s5,bC.same s5 _ _ rO,by omega,oe,m0,m1,?_⟩
 cases h6:dS j many (aZ ns p) (j.getD d 0 - w) with
 |false=>exact .inr ⟨rfl,λH6 s6=>no h6 H6 ((C.trans s5).trans s6)⟩
 |true=>
 refine .inl ⟨rfl,λH6 s6=>?_⟩;refine c8 _ _ ?_;obtain⟨_,kk⟩:True/\_:=⟨trivial,k⟩;rcases kk with⟨_,k⟩ |⟨k1,_⟩
 rotate_left
 ·rw[h6]at k1;cases k1
 have SJ:=s5.trans s6;have OZ:=C.trans SJ;have XR:=bC.same SJ _ _ rC;have XS:=bC.same SJ _ _ rO;have big:∀n:Nat,n<=20000->n<=sizeLine:=λn hn=>wal hn (by rw[wc2];decide);refine⟨_,rfl,x,L.aw,dx,_,_,rfl,OZ _ _ hx,L.av.cl,L.av.cB,bJ M O cl,_,rfl,by show 1<=sizeLine;decide,λl7 V8=>?_⟩;refine⟨cl,l7,t,[.ref lo],rfl,rfl,nT (OZ.trans (a9.upd V8)) hc,.inl a6,big _ (by show t.length + 1<=_;omega),λX I=>?_⟩;have V9:a9 H6 (upd H6 l7 (.lst [V.ref lo])):=a9.upd V8;generalize upd H6 l7 (.lst [V.ref lo])=Y at V9 I;have s6b:a9 Y (upd Y X (.lst (t++[V.ref lo]))):=a9.upd I
 have Va:DM (t++[V.ref lo]).length (d:Int)=some d:=by
  have Z:(t++[V.ref lo]).length=t.length + 1:=by rw[wa7];rfl
  unfold DM;rw[Z,if_pos (by omega),if_pos (by omega),waG]
 refine⟨_,rfl,_,rfl,_,rfl,X,_,_,d,rfl,rfl,a6,Va,?_⟩;have Qk:(upd (upd Y X (.lst (t++[V.ref lo]))) X (.lst ((t++[V.ref lo]).set d (V.ref lc)))) X=some (.lst ((t++[V.ref lo]).set d (V.ref lc))):=a6
 have Qx:a9 H6 (upd (upd Y X (.lst (t++[V.ref lo]))) X (.lst ((t++[V.ref lo]).set d (V.ref lc)))):=λc o e=>by
  have J:=V9 _ _ e;rw[aa (ae J I),aa (ae J I)];exact J
 generalize upd (upd Y X (.lst (t++[V.ref lo]))) X (.lst ((t++[V.ref lo]).set d (V.ref lc)))=H8 at Qk Qx;have Qy:=OZ.trans Qx
 have XU:b6 K H8 (((f++[aZ ns p]).set d (b4 ns p)).map bW) ((t++[V.ref lo]).set d (V.ref lc)):=by
  have r1:b6 K H8 (f.map bW++[bW (aZ ns p)]) (t++[V.ref lo]):=gW (b6.same Qy _ _ AB) (bC.same Qx _ _ XS)
  have e:((f++[aZ ns p]).set d (b4 ns p)).map bW=(f.map bW++[bW (aZ ns p)]).set d (bW (b4 ns p)):=by
   rw[List.map_set,waj];rfl
  rw[e];exact r1.set d (bC.same Qx _ _ XR)
 refine⟨_,rfl,x,L.aw,dx,_,_,rfl,Qy _ _ hx,L.av.cl,L.av.cL,ck M O cl,_,rfl,by show 1<=sizeLine;decide,λl9 N7=>?_⟩;refine⟨O,l9,_,[.int (j.getD d 0 - w)],rfl,rfl,nT (Qy.trans (a9.upd N7)) hw,.inl a6,big _ (by rw[wa0];show j.length + 1<=_;omega),λlw MB=>?_⟩;have Vb:a9 H8 (upd H8 l9 (.lst [.int (j.getD d 0 - w)])):=a9.upd N7;generalize upd H8 l9 (.lst [.int (j.getD d 0 - w)])=SK at Vb MB;have SM:j.map V.int++[V.int (j.getD d 0 - w)]=(j++[j.getD d 0 - w]).map V.int:=by rw[waj];rfl
 rw[SM]
 have SN:DM ((j++[j.getD d 0 - w]).map V.int).length (d:Int)=some d:=by
  have Z:((j++[j.getD d 0 - w]).map V.int).length=j.length + 1:=by rw[wa0,wa7];rfl
  unfold DM;rw[Z,if_pos (by omega),if_pos (by omega),waG]
 refine⟨_,rfl,_,rfl,_,rfl,lw,_,_,d,rfl,rfl,a6,SN,?_⟩
 have SQ:((j++[j.getD d 0 - w]).map V.int).set d (.int w)=(cb j d w).map V.int:=by
  unfold cb;rw[List.map_set]
 rw[SQ];have Vc:(upd (upd SK lw (.lst ((j++[j.getD d 0 - w]).map V.int))) lw (.lst ((cb j d w).map V.int))) lw=some (.lst ((cb j d w).map V.int)):=a6
 have SR:a9 H8 (upd (upd SK lw (.lst ((j++[j.getD d 0 - w]).map V.int))) lw (.lst ((cb j d w).map V.int))):=λc o e=>by
  have J:=Vb _ _ e;rw[aa (ae J MB),aa (ae J MB)];exact J
 generalize upd (upd SK lw (.lst ((j++[j.getD d 0 - w]).map V.int))) lw (.lst ((cb j d w).map V.int))=H9 at Vc SR;have D:=Qy.trans SR;refine⟨_,rfl,x,L.aw,dx,_,_,rfl,D _ _ hx,L.av.cl,L.av.cB,bJ M O cl,cl,t,rfl,.inl (D.seq (.inl hc)),?_⟩;rw[xl];have Vd:d < u.length:=by omega
 have SU:w6 (u.map V.str) (d:Int)=some (.str (u.getD d "")):=bQ (by rw[wa4,wa2 Vd,wa5,wa2 Vd];rfl);refine⟨_,rfl,x,L.aw,dx,_,_,rfl,D _ _ hx,L.av.cl,L.av.gN,eE M O cl,_,rfl,x,L.aw,dx,_,_,rfl,D _ _ hx,L.av.cl,L.av.gN,eE M O cl,_,rfl,M,_,_,_,rfl,rfl,D.seq (.inl hh),SU,by show 1<=sizeLine;decide,λl10 P0=>?_⟩;refine⟨M,l10,_,[.str (u.getD d "")],rfl,rfl,nT (D.trans (a9.upd P0)) hh,.inl a6,big _ (by rw[wa0];show u.length + 1<=_;omega),λlh N8=>?_⟩;have Ve:a9 H9 (upd H9 l10 (.lst [.str (u.getD d "")])):=a9.upd P0;generalize upd H9 l10 (.lst [.str (u.getD d "")])=Vf at Ve N8;have P4:u.map V.str++[V.str (u.getD d "")]=(cX u d).map V.str:=by unfold cX;rw[waj];rfl
 rw[P4];have Qz:=Ve.trans (a9.upd (o:=.lst ((cX u d).map V.str)) N8);have P5:(upd Vf lh (.lst ((cX u d).map V.str))) lh=some (.lst ((cX u d).map V.str)):=a6;generalize upd Vf lh (.lst ((cX u d).map V.str))=K5 at Qz P5;have KO:=SR.trans Qz;have KP:=KO _ _ Qk;have SV:=b6.same KO _ _ XU;have zl:((t++[V.ref lo]).set d (V.ref lc)).length=f.length + 1:=by rw[wcv,wa7,xl];rfl
 refine⟨_,rfl,_,rfl,X,rfl,⟨_,aH.of KP⟩,λlt Ml=>?_⟩
 have P6:∀l∈(f++[aZ ns p]).set d (b4 ns p),l.length<=5000:=λl hl=>by
  rcases wcC hl with z |z
  ·rcases waA.mp z with z |z
   ·exact W.m l z
   ·rw[wao.mp z];exact XQ
  ·rw[z];exact V6
 refine tm (K:=K) ((((f++[aZ ns p]).set d (b4 ns p)).map (eT d f.length)).map bW) (aK K X ((t++[V.ref lo]).set d (V.ref lc))) Ml (big _ (by rw[zl];omega)) (by rw[wa0,wa0,wcv,wa7,zl];rfl) (λH' s'=>aH.of (s' _ _ KP)) (λi y dt Fe Q' hy KQ G U=>?_) (λFe G XV=>?_)
 ·obtain⟨d',J,r⟩:=SV.get i y hy;rw[wa4]at J KQ;rw[wa4]at KQ
  cases e:((f++[aZ ns p]).set d (b4 ns p))[i]? with
  |none=>rw[e]at J;cases J
  |some l=>
   rw[e]at J KQ;cases J;cases KQ;exact⟨_,rfl,_,rfl,_,rfl,y,d,f.length,l,rfl,bC.same G _ _ r,P6 l (wak e),λz HH K6 XW=>U z HH K6 XW⟩
 intro y dy ny SW XX;have sm:a9 Fe (upd (upd Fe dy (.own y)) y (.ins L.aw dy [])):=fE ny SW;have HI:=D.trans Qz;refine⟨y,dy,.ref lh,.ref lw,.ref lt,cX u d,cb j d w,((f++[aZ ns p]).set d (b4 ns p)).map (eT d f.length),rfl,a6,nU (sm _ _ (G _ _ P5)),iX (sm _ _ (G _ _ (Qz _ _ Vc))),bC.same ((cm _ _).trans sm) _ _ XV,?_,?_,?_,?_,λa' b' c' HH SX q1 q2 q3 SY=>⟨rfl,?_⟩⟩
 ·unfold cX;rw[wa7];show u.length + 1<=_;omega
 ·unfold cb;rw[wcv,wa7];show j.length + 1<=_;omega
 ·rw[wa0,wcv,wa7];show f.length + 1<=_;omega
 ·intro l hl;obtain⟨l',P7,rfl⟩:=waa.mp hl;have:=pJ d f.length l';have:=P6 l' P7;omega
 ·have K6:a9 Fe HH:=λc o e=>SY _ _ (sm _ _ e) (ae e ny);refine k y HH (HI.trans (G.trans K6)) ?_;have SZ:H y=none:=none_of (HI.trans G) ny;have nw:=λ(dd:jN) (v:V) (r:bC K (aG _ HH) dd v)=>bC.same (dI ((HI.trans G).trans sm)) dd v r;exact⟨dy,a',b',c',bN SZ SX,nw _ _ q1,nw _ _ q2,nw _ _ q3⟩
theorem mH(L:Lk K mg):aN P w K mg base dm 1 L.ow L.oy ["line","desks"] (Mr K):=by
 refine L.gO.F.ee (N:=["line","desks"]) (λy A outer s H R Q E nd g h=>?_);obtain⟨v,b,f,j,rfl,B,C,hn,k⟩:=h;refine⟨_,(af (az (gk rfl (ax ["desks"] [1]) (ax ["desks"] [1]) (by decide) (aM (pv 0)) (λ_ _ _ _ _ _=>fT (aF (hE (K:=K) rfl) (pv 1) (pv 2) rfl)) (λ_ _ _ _ _ _=>(dP (a5 (pv 0) (a5 (pv 1) a8))))))),?_⟩;obtain⟨a,D,rfl,p,c,G⟩:=mZ B;have m:=c;rw[wa0]at m;refine⟨_,rfl,a,rfl,⟨_,p⟩,λl hl=>?_⟩
 refine lR (prs:=j.map eD) (λq=>nJ q.2 ((nI f).map V.int)) (λq=>.tup [.at q.1,.at q.2]) (aK K a D) c (λi q d=>let ⟨r,I,J⟩:=G i q d;⟨r,I,ir.of J⟩) hl (au (by omega)) (λt n=>n.seq p) (λq u M d x o=>by
  obtain⟨z,O,rfl⟩:=waa.mp d
  exact⟨_,rfl,_,rfl,b,_,rfl,.inl (x.seq C),rfl,iY _,_,rfl,o u (a9.refl _)⟩) (λq u M d _ x o=>?_) (λt n r=>?_)
 ·obtain⟨z,O,rfl⟩:=waa.mp d;exact⟨_,rfl,_,rfl,by show 2<=sizeLine;decide,λr g=>o _ _ (a9.upd g) (nV g z)⟩
 ·have e:((j.map eD).filter λq=>nJ q.2 ((nI f).map V.int))=(cY f j).map eD:=by
   unfold cY;rw[wel];refine congrArg _ (wgT λq _=>?_);exact Hj q.2 f
  rw[e,wai]at r;exact k _ t n r
theorem mI(L:Lk K mg):aN P w K mg base dm 2 L.jC L.oz ["sheet","many"] (Ms K L.aw):=by
 have T:=L.T;refine L.gP.F.ee (N:=["sheet","many","kept","left"]) (λG A outer s H vs Q E nd hr h=>?_);obtain⟨x,many,hs,ws,b,rfl,S,hn,hm,k⟩:=h;have I:(A.deeper (wdp "kept_desks" (aD (top 58)) s.heap.objs.size L.jC G)).units < wcH:=hr.xK
 refine⟨_,(a7 (ag (i:=2) (bo (Br rfl) (by rfl) T.list iC (a5 (bo zm (by rfl) T.range Jl (a5 (aq bg (by rfl) T.len waO (a5 (aO (pv 0) rfl) a8)) a8)) a8)))
  (af (iO waB (cn gD) (a7 (eu (i:=3) rfl (ax ["sheet","kept","many"] [0,2,1]) nd rfl rfl (aM (pv 2)) (λ_ _ _ _ _ _=>fT (aF Fv (aq (vj (K:=K) rfl) (by rfl) T.len waO (a5 (aj (mH L) L.gO (a5 (b8 (gf (K:=K) rfl) (lO (K:=K) rfl (pv 1) rfl) (pv 0) (λ_ _=>rfl)) (a5 (pv 2) a8))) a8)) (pv 3) (aS _))) (λ_ _ _ _ _ _=>(pv 0)))
  (a7 (bH (aF (FW I) (pv 3) (pv 2) (aS _)) (af (az (pv 2))) aL)
  (af (ag (i:=2) (pv 3)))))))),?_⟩
 obtain⟨dx,ah,bw,cl,hx,rh,Io,rl⟩:=id S;obtain⟨OW,J,ec,hc,m⟩:=id rl;cases ec;have xl:J.length=b.length:=by rw[m.len,wa0]
 refine⟨_,rfl,x,L.aw,dx,_,_,rfl,hx,L.av.cl,L.av.cB,bJ ah bw cl,cl,J,rfl,.inl (.inl hc),?_⟩;rw[xl];refine⟨_,rfl,λp hp=>?_⟩;refine⟨p,b.length,rfl,a6,au (by omega),λl hl=>?_⟩;have s1:a9 H (upd H p (.rng 0 (b.length:Int))):=a9.upd hp;have fl:H l=none:=none_of s1 hl;have s2:=s1.trans (a9.upd (o:=.lst ((waJ b.length).map λi=>V.int (i:Nat))) hl);have h2:(upd (upd H p (.rng 0 (b.length:Int))) l (.lst ((waJ b.length).map λi=>V.int (i:Nat)))) l=some (.lst ((nI (waJ b.length)).map V.int)):=by rw[a6,zP]
 generalize upd (upd H p (.rng 0 (b.length:Int))) l (.lst ((waJ b.length).map λi=>V.int (i:Nat)))=H2 at s2 h2;refine⟨λq σ M=>∃(l:Addr) (c:List Nat) (v3:Option V),q=c.length/\σ=[some (.ref x),some (.int many),some (.ref l),v3]/\a9 H M/\H l=none/\M l=some (.lst ((nI c).map V.int))/\Above b many c,⟨_,l,_,none,rfl,rfl,s2,fl,h2,Above.start b many⟩,?_⟩;rintro q σ M ⟨l,c,v3,rfl,rfl,O,fl,r,t⟩;refine⟨true,rfl,dF ?_⟩;refine⟨λu C=>∃(g:Addr),u=[some (.ref x),some (.int many),some (.ref g),some (.ref g)]/\a9 H C/\H g=none/\C g=some (.lst ((nI (tJ b many c)).map V.int))/\tJ b many c≠c,?_,?_⟩
 ·rintro u C ⟨g,rfl,R,U,h',W⟩;exact⟨_,Hh W,g,_,_,rfl,rfl,R,U,h',t.next⟩
 have X:∀d∈c,d < b.length:=λd hd=>wbd.mp (t.sub.subset hd);have Vg:c.length<=1000:=by have:=t.sub.length_le;rw[wb2]at this;omega
 refine⟨_,rfl,l,rfl,⟨_,aH.of r⟩,λg z=>?_⟩;refine d8 (λv=>match v with |.int d=>decide (many<=((cY c (b.getD d.toNat [])).length:Int)) |_=>false) (λv=>v) (aK K l _) z (au (by rw[wa0,cK];omega)) (λC R=>aH.of (R _ _ r)) (λy D Q' hy j Y=>?_) (λy D Q' hy _ j Y=>⟨_,rfl,Y D (a9.refl _)⟩) (λD j Z=>?_)
 ·obtain⟨n,AD,rfl⟩:=pM hy;have OV:=X n AD;have hq:b[n]?=some (b.getD n []):=by rw[wa5,wa2 OV];rfl
  obtain⟨v,MC,rd⟩:=m.at (i:=n) (d:=bW (b.getD n [])) (by rw[wa4,hq];rfl);have e:=O.trans j;refine⟨_,rfl,x,L.aw,dx,_,_,rfl,e _ _ hx,L.av.cl,L.av.cB,bJ ah bw cl,_,rfl,cl,J,_,_,rfl,rfl,e.seq (.inl hc),bQ MC,_,rfl,v,l,c,b.getD n [],rfl,bC.same e _ _ rd,aH.of (j _ _ r),hm _ (wak hq),λy H5 s5 r5=>?_⟩;obtain⟨a,rs,rfl,hS,hT⟩:=eF r5;have Ip:rs.length=(cY c (b.getD n [])).length:=by rw[hT.1,wa0,wa0]
  refine⟨a,_,rfl,.inl ((cm _ _).seq hS),?_⟩;rw[wa0,Ip];exact⟨_,rfl,_,_,rfl,rfl,_,rfl,Y H5 s5⟩
 rw[wdF,x9 (f:=λn=>decide (many<=((cY c (b.getD n [])).length:Int))) (λn=>rfl)]at Z;have e:=O.trans j;refine⟨_,rfl,_,rfl,g,l,_,_,rfl,rfl,aH.of Z,aH.of (j _ _ r),iY _,iY _,_,rfl,?_⟩;refine DS (λB=>?_) (λB=>?_)
 ·rw[pL,decide_eq_true_eq]at B;exact⟨_,rfl,k l c D e fl (j _ _ r) ⟨t,t.stays B⟩⟩
 ·rw[pL,decide_eq_true_eq]at B;exact⟨_,rfl,g,rfl,e,none_of O z,Z,B⟩
theorem rx(L:Lk K mg):aN P w K mg base dm 1 L.kM L.kN ["sheet","desk"] (EF K L.aw):=by
 have T:=L.T;refine L.ic.F.ee (N:=["sheet","desk","reached","waiting","line","word","end"]) (λgK A outer s H vs Q E nd n h=>?_);obtain⟨x,d,hs,ws,c,rfl,S,hd,he,z9,hn,k⟩:=h;have hu:=fz n
 refine⟨_,(a7 (ag (i:=2) dX)
  (a7 (ag (i:=3) (b7 (a5 (pv 1) a8)))
  (a7 (iO waB (aF m7 (aq bg (by rfl) T.len waO (a5 (pv 3) a8)) ai (aS _)) (a7 (ag (i:=4) (b8 bx (aO (pv 0) rfl) (FH waT wgF PySem.F.type_list_pop Ln (pv 3)) (λ_ _=>rfl)))
  (af (bj waB rfl (aM (pv 4)) (fC rfl (aU (aA (i:=5)) (aU (aA (i:=6)) dC))) (af (bH (AG (wh hu (pv 6) (pv 2))) (a7 (dZ hu (pv 2) (pv 6) gD rfl)
  (af (bu (iP waT waZ wb7 cH (pv 3) (a5 (pv 6) a8))))) aL))))))
  (af (az (bo (mQ rfl) (by rfl) T.list iC (a5 (pv 2) a8))))))),?_⟩
 obtain⟨dx,ah,bw,cl,hx,rh,Io,rl⟩:=id S;obtain⟨OW,xs,ec,hc,AB⟩:=id rl;cases ec;have xl:xs.length=c.length:=by rw[AB.len,wa0]
 refine λrd T1=>?_;refine⟨_,rfl,by show 1<=sizeLine;decide,λwl Bi=>?_⟩;have M:rd≠wl:=ae a6 Bi;have s0:a9 H (upd (upd H rd (.dK [])) wl (.lst [.int (d:Int)])):=(a9.upd T1).trans (a9.upd Bi);have Vh:(upd (upd H rd (.dK [])) wl (.lst [.int (d:Int)])) rd=some (.dK (dB [])):=by rw[aa M,a6];rfl
 have Vi:(upd (upd H rd (.dK [])) wl (.lst [.int (d:Int)])) wl=some (.lst ((nI [d]).map V.int)):=a6;have Vj:H wl=none:=none_of (a9.upd T1) Bi;generalize upd (upd H rd (.dK [])) wl (.lst [.int (d:Int)])=H0 at s0 Vh Vi
 refine⟨λq σ X=>∃(f Y:List Nat) (v4 B v6:Option V),q=2 * (c.length - f.length) + Y.length/\σ=[some (.ref x),some (.int (d:Int)),some (.ref rd),some (.ref wl),v4,B,v6]/\a9 H X/\X rd=some (.dK (dB f))/\X wl=some (.lst ((nI Y).map V.int))/\f.Nodup/\(∀r∈f,r < c.length)/\(∀w∈Y,w < c.length)/\(∀r∈f,r∉Y->∀q∈c.getD r [],q.2∈f)/\(d∉Y->∀q∈c.getD d [],q.2∈f)/\Y.length<=f.length + 1,
  ⟨_,[],[d],none,none,none,rfl,rfl,s0,Vh,Vi,wbj,λr h=>absurd h wbH,λw h=>by rw[wao.mp h];exact hd,λr h=>absurd h wbH,λh=>absurd (wao.mpr rfl) h,wab _⟩,?_⟩
 rintro q σ X ⟨f,Y,v4,B,v6,rfl,rfl,s3,Qw,O,nd,T3,Vk,Z,QA,R⟩;have Ip:=kB nd T3
 by_cases Vl:Y=[]
 ·subst Vl;refine⟨_,rfl,wl,_,rfl,.inl (aH.of O),_,_,rfl,rfl,false,rfl,bA ?_⟩;refine⟨_,rfl,rd,_,rfl,Qw,λl hl=>?_⟩;rw[JO];refine k l f _ (s3.trans (a9.upd hl)) (none_of s3 hl) a6 ⟨λr n=>Z r n wbH,T3,λz=>?_,nd⟩
  cases e:c.getD d [] with
  |nil=>exact z9 e
  |cons q qs=>
   have:=QA wbH q (by rw[e];exact wag ..);rw[z]at this;cases this
 obtain⟨z,t,rfl,hz,HJ⟩:=JP Vl;refine⟨_,rfl,wl,_,rfl,.inl (aH.of O),_,_,rfl,rfl,true,congrArg V.bl (decide_eq_true (by rw[wa0,cK,wa7];show (0:Int) < ((_ + 1:Nat):Int);omega)),dF ?_⟩;have T4:z < c.length:=Vk z (waU _ (wao.mpr rfl));have Vm:c[z]?=some (c.getD z []):=by rw[wa5,wa2 T4];rfl
 have T6:∀q∈c.getD z [],q.2 < c.length:=he _ (wak Vm);obtain⟨v,MC,XY⟩:=AB.at (i:=z) (d:=bW (c.getD z [])) (by rw[wa4,Vm];rfl);obtain⟨a,rr,rfl,hS,hT⟩:=eF XY;have Vn:rr.length=(c.getD z []).length:=by rw[hT.1,wa0,wa0]
 refine⟨λσ' H'=>∃(ad:List Nat) (B v6:Option V),σ'=[some (.ref x),some (.int (d:Int)),some (.ref rd),some (.ref wl),some (.ref a),B,v6]/\a9 H H'/\H' rd=some (.dK (dB (f++ad)))/\H' wl=some (.lst ((nI (t++ad)).map V.int))/\(f++ad).Nodup/\(∀r∈f++ad,r < c.length)/\(∀q∈c.getD z [],q.2∈f++ad),?_,?_⟩
 ·rintro σ' H' ⟨ad,B,v6,rfl,s',T7,XZ,Vo,GW,j⟩;have P7:=kB Vo GW;rw[wa7]at P7;refine⟨_,?_,f++ad,t++ad,_,B,v6,rfl,rfl,s',T7,XZ,Vo,GW,λw hw=>?_,λr n U q J=>?_,λU q J=>?_,?_⟩
  ·rw[wa7,wa7,wa7];show _ < 2 * (c.length - f.length) + (t.length + 1);omega
  ·rcases waA.mp hw with hw |hw
   ·exact Vk w (wbt _ hw)
   ·exact GW w (waU _ hw)
  ·rcases waA.mp n with n |n
   ·by_cases C:r=z
    ·rw[C]at J;exact j q J
    ·refine wbt _ (Z r n (λm=>?_) q J);rcases waA.mp m with m |m
     ·exact U (wbt _ m)
     ·exact C (wao.mp m)
   ·exact absurd (waU _ n) U
  ·by_cases C:d=z
   ·rw[C]at J;exact j q J
   ·refine wbt _ (QA (λm=>?_) q J);rcases waA.mp m with m |m
    ·exact U (wbt _ m)
    ·exact C (wao.mp m)
  ·rw[wa7]at R;rw[wa7,wa7];have:t.length + 1<=f.length + 1:=R;omega
 refine⟨_,rfl,x,L.aw,dx,_,_,rfl,s3 _ _ hx,L.av.cl,L.av.cB,bJ ah bw cl,_,rfl,.inl ⟨rfl,_,aH.of O⟩,wl,_,_,rfl,rfl,O,hz,?_⟩;rw[HJ];have s4:a9 H (upd X wl (.lst ((nI t).map V.int))):=λb o e=>by rw[aa (ae e Vj)];exact s3 _ _ e
 have KM:(upd X wl (.lst ((nI t).map V.int))) rd=some (.dK (dB f)):=by rw[aa M];exact Qw
 have P8:(upd X wl (.lst ((nI t).map V.int))) wl=some (.lst ((nI t).map V.int)):=a6;generalize upd X wl (.lst ((nI t).map V.int))=H4 at s4 KM P8;refine⟨cl,xs,_,_,rfl,rfl,s4.seq (.inl hc),bQ MC,?_⟩;refine⟨_,rfl,a,rfl,⟨_,s4.seq hS⟩,dU (K:=K) (a:=a) (xs:=rr.map V.ref) (λi σ H5=>∃(ad:List Nat) (B v6:Option V),σ=[some (.ref x),some (.int (d:Int)),some (.ref rd),some (.ref wl),some (.ref a),B,v6]/\a9 H H5/\H5 rd=some (.dK (dB (f++ad)))/\H5 wl=some (.lst ((nI (t++ad)).map V.int))/\(f++ad).Nodup/\(∀r∈f++ad,r < c.length)/\(∀q∈(c.getD z []).take i,q.2∈f++ad)) ⟨[],_,_,rfl,s4,by rw[waX];exact KM,by rw[waX];exact P8,by rw[waX];exact nd,by rw[waX];exact T3,λq J=>by rw[wg4]at J;cases J⟩ (λi σ H5 _ ⟨_,_,_,_,s5,_⟩=>s5.seq hS) ?_ ?_⟩
 ·rintro i y σ H5 hy ⟨ad,B,v6,rfl,s5,D,W,G,I,j⟩;have hi:i < rr.length:=by have:=(wa6.mp hy).1;rwa[wa0]at this
  have T8:i < (c.getD z []).length:=by omega
  rw[wa4,wa2 hi]at hy;cases hy;have P9:H rr[i]=some (.tup [.str (c.getD z [])[i].1,.int ((c.getD z [])[i].2:Int)]):=hT.2 i rr[i] (ky (eD (c.getD z [])[i])) (wa2 hi) (by rw[wa4,wa4,wa2 T8];rfl);have Pa:(c.getD z []).take (i + 1)=(c.getD z []).take i++[(c.getD z [])[i]]:=by rw[wb1,wa2 T8];rfl
  have KL:=T6 _ (waQ T8);generalize (c.getD z [])[i]=q at P9 Pa KL;have T9:=kB G I;refine⟨rr[i],_,rfl,ir.of (s5 _ _ P9),rfl,_,_,rfl,_,_,rfl,rfl,?_⟩;have g:=dW.k (k:=(wbg (q.2:Int):Key)) D;rw[C5]at g
  by_cases m:q.2∈f++ad
  ·rw[if_pos m]at g;refine⟨_,rfl,_,rfl,rd,_,rfl,g,false,rfl,bA ?_⟩;refine⟨ad,_,_,rfl,s5,D,W,G,I,λp u=>?_⟩;rw[Pa]at u;rcases waA.mp u with u |u
   ·exact j p u
   ·rw[wao.mp u];exact m
  ·rw[if_neg m]at g;refine⟨_,rfl,_,rfl,rd,_,rfl,g,true,rfl,dF ?_⟩;refine⟨_,rfl,_,rfl,rd,_,rfl,jn.k (k:=wbg (q.2:Int)) D (bF (by unfold dB;rw[wa0];omega)),?_⟩;rw[Mv m];have Vp:(upd H5 rd (.dK (dB (f++ad++[q.2])))) wl=some (.lst ((nI (t++ad)).map V.int)):=by rw[aa M.symm];exact W
   refine⟨_,rfl,.inl ⟨rfl,_,aH.of Vp⟩,_,rfl,wl,_,_,rfl,rfl,Vp,?_,?_⟩
   ·rw[wa7]at R T9;rw[wa0,cK,wa7];have:t.length + 1<=f.length + 1:=R;exact bF (by omega)
   refine⟨ad++[q.2],_,_,rfl,λb o e=>by rw[aa (ae e Vj),aa (ae e T1)];exact s5 _ _ e,by rw[aa M,a6,wb9],by rw[a6,<-wb9,pK (t++ad),waj];rfl,?_,λr n=>?_,λp u=>?_⟩
   ·rw[<-wb9];refine wch.mpr ⟨G,by simp,λa ha b hb e=>?_⟩;rw[wao.mp hb]at e;rw[e]at ha;exact m ha
   ·rw[<-wb9]at n;rcases waA.mp n with n |n
    ·exact I r n
    ·rw[wao.mp n];exact KL
   ·rw[<-wb9];rw[Pa]at u;rcases waA.mp u with u |u
    ·exact wbt _ (j p u)
    ·rw[wao.mp u];exact waU _ (wao.mpr rfl)
 ·rintro σ H5 ⟨ad,B,v6,rfl,s5,D,W,G,I,j⟩;rw[wa0,Vn,waI]at j;exact⟨ad,B,v6,rfl,s5,D,W,G,I,j⟩
end
end K42
namespace L2
open PySem PySem.Spec PyProof.Rows PySem.W
open Builtin Builtin.ObjectAttr
section
variable{prog:wat}{w:World}{A:Around}{E:Value->Shared->Prop}{s:Shared}{K:wa1}{x dx C CB f:Addr}{mA:Str->Option Value}{name:Str}{v:Value}{R:wcR->Shared->Prop}
theorem EX{Q:Unit->Shared->Prop}(X:K.In s.heap)(hx:s.heap.get? x=some (rK C d t))(hd:s.heap.Ns1 d mA)(hw:wdv mA ns)(hl:ns.length<=100)(hc:clsIn K C=some cd)(hm:cd.mro=.ref C :: jM CB)(hh:cd.hasDict=true)(ha:findIn K (.ref C) name=some none)
 (hs:findIn K (.ref C) "__setattr__"=some (some (.builtin "object.__setattr__")))
 (h:∀h' tk,(∀b,b≠d->h'.get? b=s.heap.get? b)->h'.Ns1 d (λy=>if y=name then some v else mA y)->Q () {s with heap:=h',toks:=tk}) :
 wpAny (model prog w) A (setAttr (.ref x) name v) Q E s:=by
 obtain⟨od,es,ep,e1,_⟩:=id hd;have J:InstAt s.heap x (rK C d t) C (some od):=⟨hx,rfl,rfl,e1⟩;refine weQ X J hs (wB (s:={s with toks:=s.toks + 1}) X J hc hm ha ?_);unfold storeInOwnDict;refine wa3 (wap ?_);rw[if_neg (by simp)];unfold ownDictForStores instanceDict;refine wa3 (wa3 (wew hx ?_));dsimp only;refine wa3 (weA (s:={s with toks:=s.toks + 1}) (wdJ X hc) ?_);rw[hh];simp only[wgn,wbU,if_false];refine wap ?_;show wpAny _ _ (storeInDict d (.str name s.toks) name v) _ _ _;unfold storeInDict newKeyGuard;refine wa3 (wap (wa3 (wgC hd λh' AD N2=>?_)));obtain⟨oD,X3,X4,RM,UD,UE⟩:=AD.count (wfv name v hw);refine wa3 (wf5 RM (by grind [wf6,wal,wc2]) ?_)
 wp_walk
 exact h h' _ (λb hb=>N2.2 b hb) AD
end
section
variable{X:Cx}{CB:Addr}{o value:Expr}{ta tv:TE}{name:Str}{pos pos':Pos}
theorem EY{fs:List (Str×V)}{g:Str->Option Value}(r:∀f,iu (fs.lookup f) (g f)):wdv g (fs.map (·.1)):=by grind [iu,wdv,wag,wac]
theorem Ab(h:fs.lookup name=none)(f:Str):(fs++[(name,y)]).lookup f=if f=name then some y else fs.lookup f:=by
 grind
def MD(K:wa1)(CB:Addr)(ta tv:TE)(name:Str):TS:=λD σ H=>tv σ H λy H1=>ta σ H1 λz H2=>∃x C nm d fs,z=.ref x/\H2 x=some (XD x C d)/\H2 d=some (.xd fs)/\fs.length<=50/\bB K C CB nm/\findIn K (.ref C) name=some none/\fs.lookup name=none/\D.nx σ (upd H2 d (.xd (fs++[(name,y)])))
theorem HK(ha:PE X o ta)(J:PE X value tv)(hs:wbO value (some (.Attribute o name pos')) pos.line X.env=pure false):PS X (.Assign [.Attribute o name pos'] value pos) (MD X.K CB ta tv name):=by
 intro c s σ H D I h;refine wcI (bP (J c s σ H _ I h) λu F ⟨y,G,L,M,q⟩=>bP (ha c F σ G _ L q) λO E P=>?_) hs;obtain⟨z,i,g,Q,x,C,R,d,fs,S,T,hd,hl,U,hn,V,W⟩:=P;subst S;obtain rfl:O=waf x:=Q;obtain⟨⟨t,Y⟩,_⟩:=g.aW x _ T;obtain⟨mA,ns,r⟩:=g.aW d _ hd;obtain⟨Z,N,bs,sn,sub,ab,m,dd,k0,k1,k2,k3,k5,lk⟩:=U.lk;refine EX (CB:=CB) g.fv Y ns (EY r) (by rw[wa0];omega) (cd:={name:=R,bases:=bs,mro:=.ref C :: jM CB,ns:=N,qualname:=Z,hasDict:=true,slotNames:=sn,subclasses:=sub,abstract:=ab,collection:=m,hasDel:=false}) (by unfold clsIn;rw[lk]) rfl rfl hn U.sa λp tk k j=>⟨σ,_,?_,W⟩;obtain⟨o',_,_,eo,_⟩:=id j;have nx:∀{b:Addr} {o:HO},i b=some o->(∀fs,o≠.xd fs)->b≠d:=λe n z=>by rw[z,hd]at e;exact n _ (wah e).symm
 have A:∀{b:Addr},i b=none->b≠d:=λe z=>by rw[z,hd]at e;cases e
 have un:Un (p7 X.stack) [] i (upd i d (.xd (fs++[(name,y)]))) E.heap p:=by
  refine⟨λb o q n _ _=>by rw[k b (A n)];exact q,λb o q n _ _=>⟨o.slots,by rw[k b (A n)];exact q⟩,λb o q n _=>?_,λb o q _=>?_,λb vs q=>?_,λb o v q=>?_,λb ps q=>?_⟩
  ·rw[aa (A n)];exact n
  ·by_cases z:b=d
   ·rw[z];exact⟨_,eo⟩
   ·exact⟨o,by rw[k b z];exact q⟩
  ·rw[aa (nx q λψ z=>by cases z)];exact q
  ·rw[aa (nx q λψ z=>by cases z)];exact q
  ·exact⟨#[],by rw[aa (nx q λψ z=>by cases z),q];simp⟩
 have aW:j8 X.prog X.w (upd i d (.xd (fs++[(name,y)]))) p:=λa o e=>by
  by_cases z:a=d
  ·subst z;rw[a6]at e;cases e;refine⟨_,j,λf=>?_⟩;rw[Ab V]
   by_cases e:f=name
   ·rw[if_pos e,if_pos e];exact M
   ·rw[if_neg e,if_neg e];exact r f
  ·rw[aa z]at e;refine(g.aW a o e).p8 (λb u l q=>?_) (λb q=>?_) λb vs q=>?_
   ·rw[k b ?_]
    ·exact q
    ·rintro rfl;rcases l with rfl |l
     ·exact z rfl
     ·rw[hd]at l;cases l
   ·rw[aa (λB=>by rw[B,hd]at q;cases q)];exact q
   ·rw[aa (λB=>by rw[B,hd]at q;cases q)];exact q
 exact g.rX (s':={E with heap:=p,toks:=tk}) rfl un aW g.bare λb z=>absurd z (by simp)
end
end L2
namespace Sx
open PySem L2 Bs
def KR(v:V):Prop:=∃i:Int,v=.int i/\i.natAbs.log2 < 1920
inductive Ta(C:Addr)(n1 n2:Str)(ee Y0:V->Prop)(vs:List V)(H:Hp)(Q:VK)(eL:XK):Prop
 |mk (x u v) (_:vs=[.ref x,u,v]) (_:ee u) (_:Y0 v) (_:H x=some (XN x C)) (_:∀d,H d=none->Q .non (upd (upd H d (.xd [(n1,u),(n2,v)])) x (XD x C d)))
end Sx
namespace Bs
open PySem L2 Sx
theorem d2{a b:Str}{m n:Nat}(g:a.length<=m)(j:b.length<=n):(a++b).length<=m + n:=by
 rw[len_app];exact Nat.add_le_add g j
theorem Ce{m j N:Nat}{many wide:Int}{g:Str}{l ss:List Str}(o:fG m many wide)(b:(j:Int)<=24)(c:gL g l ss N "" < many ^ j):(gL g l ss N "").natAbs.log2 < 1920:=by
 have f:0<=gL g l ss N "":=M6 N "";obtain⟨k,e⟩:∃k:Nat,many=k:=⟨many.toNat,by have:=o.a;omega⟩;have d:k<=8:=by have:=o.b;omega
 rw[e,<-wdt]at c;have h:k ^ j<=8 ^ 24:=wal (Nat.pow_le_pow_left d j) (wgi (by decide) (by omega))
 have i:(gL g l ss N "").natAbs < 2 ^ 72:=by
  grind
 have p:=Nat.log2_lt (n:=(gL g l ss N "").natAbs) (k:=72)
 by_cases z:(gL g l ss N "").natAbs=0
 ·rw[z];decide
 ·grind
end Bs
namespace L2
open PySem PySem.Spec PyProof.Rows Sx
section
variable{X:Cx}
theorem EZ{K:wa1}(J:X.K=K):Kp X "list.index" (λx xs H Q=>∃l g k i,x=.ref l/\xs=[.int k]/\aH K H l (wcZ V.int g)/\g.length<=1000/\g[i]?=some k/\(∀j:Nat,j < i->g[j]?≠some k)/\Q (.int (i:Nat)) H):=by
 subst J;intro B s σ H x xs v Y Q I G L h;obtain⟨l,g,k,i,rfl,rfl,M,N,hi,o,q⟩:=h;cases G;obtain⟨u,rfl,O,rfl⟩:=L.one;obtain⟨a,C,pl,Z⟩:=I.list M;obtain⟨⟨cls,P,data,sl⟩,D,hc,n,hd⟩:=pl.isList;simp only at hc hd;subst hc hd;have d:=C.length;rw[wa0]at d;have R:i < g.length:=(wa6.mp hi).1
 have b:∀m (c:m < a.length),∃t,a[m]=.int (g[m]'(by omega)) t:=λm c=>by
  obtain⟨w,E,S⟩:=C.get (i:=m) (x:=.int (g[m]'(by omega))) (by rw[wa4,wa2 (by omega)];rfl);rw[wa2 c]at E;obtain⟨t,rfl⟩:=S;exact⟨t,wah E⟩
 refine wee wcK ⟨_,D,rfl⟩ wfe (wf3 _ _)
  (wff l a.toArray n P sl (.int k O) (λw=>match w with |.int z _=>z == k |_=>false) i (by simp;omega) (by omega) ?_ ?_) ⟨D,λy T=>?_,?_⟩
 ·obtain⟨t,e⟩:=b i (by omega);have U:g[i]=k:=(wa6.mp hi).2;simp only[wdg];rw[e,U];simp
 ·intro m c p;have r:m < a.length:=by simpa using c
  obtain⟨t,e⟩:=b m r;simp only[wdg];rw[e];have f:=o m p;rw[wa2 (by omega)]at f;simp only[beq_eq_false_iff_ne,ne_eq];exact λz=>f (by rw[z])
 ·have A:y∈a:=by simpa using T
  obtain⟨m,c,rfl⟩:=wbQ A;obtain⟨t,e⟩:=b m c;rw[e];exact wfV _ _ _ _
 ·exact⟨.int (i:Nat),H,I.tok _,⟨_,rfl⟩,q⟩
end
end L2
namespace Bs
open PySem L2 Sx
noncomputable def lV(ks:List Nat)(m:Nat)(qs:List (Str×Nat)):List (Str×Nat):=((cY ks qs).take m).map λq=>(q.1,ks.idxOf q.2)
noncomputable def gR(lns:List (List (Str×Nat)))(ks:List Nat)(m:Nat):List (List (Str×Nat)):=ks.map λd=>lV ks m (lns.getD d [])
noncomputable def xD(wl:List (List (Str×Nat)))(s:Str×Nat)(t:Nat):Str×Nat:=(s.1++((wl.getD s.2 []).getD t ("",0)).1,((wl.getD s.2 []).getD t ("",0)).2)
noncomputable def cR(wl:List (List (Str×Nat)))(d:Nat)(ts:List Nat):Str×Nat:=ts.foldl (xD wl) ("",d)
structure ME(many:Int)(n:Nat)(wl:List (List (Str×Nat))):Prop where
 ne:wl≠[]
 ln:∀l∈wl,(l.length:Int)=many
 e:∀l∈wl,∀q∈l,q.2 < wl.length
 wd:∀l∈wl,∀q∈l,q.1.length=n
theorem F0(wl:List (List (Str×Nat)))(d:Nat)(ts:List Nat)(t:Nat):cR wl d (ts++[t])=xD wl (cR wl d ts) t:=by
 grind [cR]
theorem lW{wl:List (List (Str×Nat))}{d:Nat}(h:d < wl.length):wl[d]?=some (wl.getD d []):=by
 grind
theorem F1{l:List (Str×Nat)}{t:Nat}(h:t < l.length):l[t]?=some (l.getD t ("",0)):=by
 grind
theorem Dw{many:Int}{n:Nat}{wl:List (List (Str×Nat))}(W:ME many n wl):∀(ts:List Nat) (s:Str×Nat),s.2 < wl.length->(∀t∈ts,(t:Int) < many)->(ts.foldl (xD wl) s).2 < wl.length/\(ts.foldl (xD wl) s).1.length=s.1.length + n * ts.length
 |[],s,h,_=>⟨h,rfl⟩
 |t :: ts,s,h,c=>by
  have i:=c t (wag ..);have hl:=wak (lW h);have f:=W.ln _ hl;have d:=wak (F1 (l:=wl.getD s.2 []) (t:=t) (by omega));obtain⟨a,b⟩:=Dw W ts (xD wl s t) (W.e _ hl ((wl.getD s.2 []).getD t ("",0)) d) λx g=>c x (wac _ g);refine⟨a,?_⟩;rw[wfx,b];show (s.1++_).length + _=_;rw[len_app,W.wd _ hl _ d,waK,Nat.mul_add,Nat.mul_one];omega
theorem yk{many:Int}{n:Nat}{wl:List (List (Str×Nat))}(W:ME many n wl){d:Nat}(hd:d < wl.length){ts:List Nat}(g:∀t∈ts,(t:Int) < many):(cR wl d ts).2 < wl.length/\(cR wl d ts).1.length=n * ts.length:=by
 obtain⟨a,b⟩:=Dw W ts ("",d) hd g;refine⟨a,b.trans ?_⟩;show 0 + _=_;omega
theorem Fd.word(h:Fd (aP g o ss ls n) hs lns)(hl:lns.length=hs.length)(j:∀p∈hs,p∈ss)(r:("":Str)∈ss):∀l∈lns,∀q∈l,q.1.length=n:=by
 intro l d q f;obtain⟨i,hi,e⟩:=wbQ d;have a:i < hs.length:=by omega
 have b:0 < i6 hs[i] (q.1,q.2) hs lns:=by
  have k:hs[i]?=some hs[i]:=wa2 a;have m:lns[i]?=some l:=by rw[wa2 hi,e]
  have:=rQ (z:=(q.1,q.2)) k m;have hc:0 < l.count (q.1,q.2):=wgK.mpr f;omega
 rw[h hs[i] q.1 q.2]at b
 by_cases c:q.2 < hs.length/\hs[i]∈hs/\(q.1,hs.getD q.2 "")∈aP g o ss ls n hs[i]
 ·exact(sW r (j _ (waQ a)) n _ (waC.mp c.2.2).1).2
 ·rw[if_neg c]at b;omega
theorem Pb{many:Int}{n:Nat}{lns:List (List (Str×Nat))}{g:List Nat}(h:n6 lns many g)(j:g≠[])(r:0<=many)(o:∀l∈lns,∀q∈l,q.1.length=n):ME many n (gR lns g many.toNat):=by
 refine⟨λz=>j (wgx.mp z),λl hl=>?_,λl hl q a=>?_,λl hl q a=>?_⟩
 ·obtain⟨d,hd,rfl⟩:=waa.mp hl;have:=(h.st d hd).2;unfold lV;rw[wa0,wau];omega
 ·obtain⟨d,hd,rfl⟩:=waa.mp hl;unfold lV at a;obtain⟨p,b,rfl⟩:=waa.mp a;have c:=of_decide_eq_true (waC.mp ((wbA _ _).subset b)).2;unfold gR;rw[wa0];exact wfh.mpr c
 ·obtain⟨d,hd,rfl⟩:=waa.mp hl;unfold lV at a;obtain⟨p,b,rfl⟩:=waa.mp a;have e:=(waC.mp ((wbA _ _).subset b)).1;exact o _ (wak (lW (h.st d hd).1)) p e
theorem ux:∀{hs:List Nat} {j:Nat} (h:j < hs.length),hs.idxOf hs[j]<=j
 |[],j,h=>absurd h (wdr _)
 |a :: hs,0,h=>by
  show (a :: hs).idxOf a<=0;rw[wgh];exact wab 0
 |a :: hs,j + 1,h=>by
  have b:j < hs.length:=by simpa using h
  show (a :: hs).idxOf hs[j]<=j + 1;rw[whr];have:=ux b
  cases(a == hs[j]) with
  |true=>grind
  |false=>grind
theorem K7(h:k∈g):(nI g)[g.idxOf k]?=some (k:Int)/\∀j:Nat,j < g.idxOf k->(nI g)[j]?≠some (k:Int):=by
 have hl:g.idxOf k < g.length:=wfh.mpr h;unfold nI;refine⟨by grind,λj c e=>?_⟩;have a:j < g.length:=by omega
 rw[wa4,wa2 a]at e;have b:g[j]=k:=by grind
 have:=ux a;rw[b]at this;omega
end Bs
namespace Sx
open PySem L2 Bs
inductive K8(K:wa1)(vs:List V)(H:Hp)(Q:VK)(eL:XK):Prop
 |mk (v b many ks qs) (_:vs=[v,.ref b,.int many]) (_:bC K H (bW qs) v) (_:aH K H b ((nI ks).map V.int)) (_:ks.length<=1000) (_:qs.length<=10000) (_:0<=many) (_:∀y H',a9 H H'->bC K (aG H H') (bW (lV ks many.toNat qs)) y->Q y H')
inductive HL(K:wa1)(vs:List V)(H:Hp)(Q:VK)(eL:XK):Prop
 |mk (v:V) (d:Nat) (a:Addr) (many:Int) (n:Nat) (wl:List (List (Str×Nat))) (ts:List Nat) (_:vs=[v,.int (d:Int),.ref a]) (_:bC K H (kA wl) v) (_:aH K H a ((nI ts).map V.int)) (_:ME many n wl) (_:d < wl.length) (_:(∀t∈ts,(t:Int) < many)) (_:ts.length<=100000) (_:n<=10) (_:∀p H',a9 H H'->H' p=some (.tup [.str (cR wl d ts).1,.int ((cR wl d ts).2:Int)])->Q (.ref p) H')
structure HM(bw:List Str)(M:Int):Prop where
 u:∀w∈bw,(w.length:Int)<=M
 a:M=0/\bw=[]\/∃w∈bw,(w.length:Int)=M
structure Dx(bw:List Str)(n:Nat)(b:Nat):Prop where
 le:b<=1000
 is:∃M:Int,HM bw M/\(b:Int)=((if 0 > M - 1 then 0 else M - 1) + (n:Int) - 1) / (n:Int)
inductive K9(C:Addr)(vs:List V)(H:Hp)(Q:VK)(eL:XK):Prop
 |mk (x g bw ss ls) (_:vs=[.ref x]) (_:aY C H x g bw ss ls) (_:bw.length<=1000) (_:(∀w∈bw,w.length<=1000)) (_:∀(M:Int) (H':Hp),a9 H H'->HM bw M->Q (.int M) H')
inductive HN(C:Addr)(vs:List V)(H:Hp)(Q:VK)(eL:XK):Prop
 |mk (x:Addr) (n:Nat) (g:Str) (bw ss ls:List Str) (_:vs=[.ref x,.int (n:Int)]) (_:aY C H x g bw ss ls) (_:1<=n) (_:n<=10) (_:(∀w∈bw,w.length<=900)) (_:bw.length<=1000) (_:∀(b:Nat) (H':Hp),a9 H H'->Dx bw n b->Q (.int (b:Int)) H')
end Sx
namespace K42
open PySem L2 Bs Sx
section
variable{P:wat}{w:World}{K:wa1}{mg:Str->Option Value}{base:Heap}
theorem j5(L:Lk K mg):aN P w K mg base dm 2 L.eX L.eY ["line","kept","many"] (K8 K):=by
 refine L.d1.F.ee (N:=["line","kept","many"]) (λW A outer s H vs Q E nd t h=>?_);obtain⟨v,b,many,c,g,rfl,X,S,u,x,m0,k⟩:=h;refine⟨_,(af (az (gk rfl (ax ["kept"] [1]) (ax ["kept"] [1]) (by decide) (aM (cG fS (aj (mH L) L.gO (a5 (pv 0) (a5 (pv 1) a8))) gJ (cy (pv 2)))) (λ_ _ _ _ _ _=>bh) (λ_ _ _ _ _ _=>(dP (a5 (pv 0) (a5 (GK (K:=K) rfl waT wcK wfo (EZ (K:=K) rfl) (pv 2) (a5 (pv 1) a8)) a8))))))),?_⟩;have B:many=((many.toNat:Nat):Int):=by omega
 refine⟨_,rfl,_,rfl,v,b,c,g,rfl,X,S,x,λy C D Y=>?_⟩;obtain⟨a,f,rfl,Z,T⟩:=eF (bC.same (cm _ _) _ _ Y);have Ip:f.length=(cY c g).length:=by rw[T.1,wa0,wa0]
 have XF:=Hg c g;refine⟨_,rfl,((many.toNat:Nat):Int),congrArg V.int B,a,_,rfl,Z,λm G=>?_⟩;rw[D2,<-wdj];have n:=a9.upd (H:=C) (o:=.lst ((f.take many.toNat).map V.ref)) G;have I:(upd C m (.lst ((f.take many.toNat).map V.ref))) m=some (.lst ((f.take many.toNat).map V.ref)):=a6;generalize upd C m (.lst ((f.take many.toNat).map V.ref))=H2 at n I;refine⟨m,rfl,⟨_,aH.of I⟩,λl hl=>?_⟩;refine lR (prs:=((cY c g).take many.toNat).map eD) (λ_=>true) (λq=>match q.2 with |.int e=>.tup [.at q.1,.at (.int (c.idxOf e.toNat:Int))] |_=>.at .non) (aK K m _) (by grind) (λi q j=>?_) hl (au (by grind)) (λU J=>aH.of (J _ _ I)) (λq M Q' _ _ O=>O M (a9.refl _)) (λq M Q' j _ s3 O=>?_) (λU J r=>?_)
 ·rw[wa4]at j
  have hi:i < ((cY c g).take many.toNat).length:=by
   cases e:((cY c g).take many.toNat)[i]? with
   |none=>rw[e]at j;cases j
   |some z=>exact(wa6.mp e).1
  have d:i < many.toNat/\i < f.length:=by rw[wau]at hi;omega
  rw[wdw d.1,wa2 (by omega)]at j;cases j;refine⟨f[i],by rw[wa4,wdw d.1,wa2 d.2];rfl,ir.of (n _ _ ?_)⟩;exact T.2 i f[i] (ky (eD (cY c g)[i])) (wa2 d.2) (by rw[wa4,wa4,wa2 (by omega)];rfl)
 ·obtain⟨z,hz,rfl⟩:=waa.mp j;have R:=of_decide_eq_true (waC.mp ((wbA _ _).subset hz)).2;have p:aH K M b ((nI c).map V.int):=((D.trans n).trans s3).seq S;obtain⟨i1,i2⟩:=K7 R;refine⟨_,rfl,_,rfl,.inl ⟨rfl,_,p⟩,_,rfl,b,nI c,(z.2:Int),c.idxOf z.2,rfl,rfl,p,by rw[cK];exact u,i1,i2,by show 2<=sizeLine;decide,λr t=>?_⟩;exact O _ _ (a9.upd t) (nV t (z.1,c.idxOf z.2))
 ·rw[wb5.mpr (λ_ _=>rfl),wai]at r;refine k _ U ((D.trans n).trans J) (bC.same (dI (D.trans n)) _ _ ?_);unfold lV bW;rw[wai];exact r
theorem xE(L:Lk K mg):aN P w K mg base dm 1 L.zY L.zZ ["lines","desk","data"] (HL K):=by
 refine L.oF.F.ee (N:=["lines","desk","data","row","thing","step"]) (λU A outer s H vs Q E nd hr h=>?_);obtain⟨v,d,a,many,n,wl,ts,rfl,X,S,W,hd,m,Y,hn,k⟩:=h
 refine⟨_,(a7 (ag (i:=3) dn)
  (a7 (bj waB rfl (aM (pv 2)) (aA (i:=4)) (a7 (ag (i:=5) (b8 bx (b8 bx (pv 0) (pv 1) (λ_ _=>rfl)) (pv 4) (λ_ _=>rfl)))
  (a7 (se (i:=3) nd rfl (wdi rfl) (b8 gp (pv 5) ai (λ_ _=>rfl)) Jw)
  (af (ag (i:=1) (b8 gp (pv 5) ai (λ_ _=>rfl)))))))
  (af (az (dP (a5 (pv 3) (a5 (pv 1) a8))))))),?_⟩
 obtain⟨cl,xs,rfl,hc,z⟩:=id X;refine⟨_,rfl,a,rfl,⟨_,S⟩,dU (K:=K) (a:=a) (xs:=(nI ts).map V.int) (λi σ u=>∃(v4 B:Option V),σ=[some (.ref cl),some (.int ((cR wl d (ts.take i)).2:Int)),some (.ref a),some (.str (cR wl d (ts.take i)).1),v4,B]/\a9 H u) ⟨none,none,rfl,a9.refl _⟩ (λi σ u _ ⟨_,_,_,c⟩=>c.seq S) ?_ ?_⟩
 ·rintro i y σ u C ⟨v4,B,rfl,c⟩;have hi:i < ts.length:=by have:=(wa6.mp C).1;rwa[wa0,cK]at this
  have g:ts[i]?=some ts[i]:=wa2 hi;rw[C4 g]at C;cases C;have D:=m _ (waQ hi);have nF:ts.take (i + 1)=ts.take i++[ts[i]]:=by rw[wb1,g];rfl
  generalize ts[i]=t at g D nF;obtain⟨Z,w2⟩:=yk W hd (ts:=ts.take i) λx hx=>m x ((wbA _ _).subset hx);have e:=F0 wl d (ts.take i) t;rw[<-nF]at e;have G:=lW Z;have KS:=W.ln _ (wak G);have I:=W.wd _ (wak G);have J:xD wl (cR wl d (ts.take i)) t=((cR wl d (ts.take i)).1++((wl.getD (cR wl d (ts.take i)).2 []).getD t ("",0)).1,((wl.getD (cR wl d (ts.take i)).2 []).getD t ("",0)).2):=rfl;rw[J]at e;generalize cR wl d (ts.take i)=M at *;obtain⟨v,O,rd⟩:=z.at (i:=M.2) (d:=bW (wl.getD M.2 [])) (by rw[wa4,G];rfl);generalize wl.getD M.2 []=f at *;obtain⟨b,j,rfl,hS,T⟩:=eF rd;have Ip:j.length=f.length:=by rw[T.1,wa0,wa0]
  have l:t < f.length:=by omega
  have o:t < j.length:=by omega
  have r:H j[t]=some (.tup [.str f[t].1,.int (f[t].2:Int)]):=T.2 t j[t] (ky (eD f[t])) (wa2 o) (by rw[wa4,wa4,wa2 l];rfl);have eq:f.getD t ("",0)=f[t]:=by rw[wa5,wa2 l];rfl
  have R:=I _ (waQ l);rw[eq]at e;generalize f[t]=q at *;refine⟨_,rfl,_,rfl,cl,xs,_,_,rfl,rfl,c.seq (.inl hc),bQ O,_,rfl,b,_,_,_,rfl,rfl,c.seq hS,bQ (v:=.ref j[t]) (by rw[wa4,wa2 o];rfl),?_⟩;refine⟨_,rfl,_,rfl,j[t],_,_,_,rfl,rfl,ir.of (c _ _ r),rfl,_,_,rfl,rfl,au ?_,?_⟩
  ·rw[w2,R,wau];have h1:n * min i ts.length<=10 * 99999:=wdI hn (by omega);omega
  refine⟨_,rfl,j[t],_,_,_,rfl,rfl,ir.of (c _ _ r),rfl,?_⟩;rw[e];exact⟨_,_,rfl,c⟩
 ·rintro σ u ⟨v4,B,rfl,c⟩;rw[wa0,cK,waI];refine⟨_,rfl,_,rfl,by show 2<=sizeLine;decide,λp hp=>?_⟩;exact k p _ (c.trans (a9.upd hp)) a6
theorem ry(L:Lk K mg):aN P w K mg base dm 1 L.lq L.lu ["self"] (K9 L.aC):=by
 have T:=L.T;refine L.fi.F.ee (N:=["self"]) (λp A outer s H S Q E nd U h=>?_);obtain⟨x,g,e,W,ls,rfl,B,r,f,k⟩:=h;refine⟨_,(af (az (JE rfl (by rfl) T.max (a5 (cA rfl (ax [] []) (aM (aO (pv 0) rfl)) (λ_ _ _ _ _ _=>bh) (λ_ _ _ _ _ _=>(aq cf (by rfl) T.len waO (a5 (pv 0) a8)))) a8) ai))),?_⟩;obtain⟨t,b,d,q,X,u,m,i,Y,Z,h6⟩:=id B.ex;refine⟨_,rfl,x,L.aC,t,_,_,rfl,u,L.aJ.cl,L.aJ.zT,zo g b d q,b,rfl,⟨_,aH.of m⟩,λC j=>?_⟩;refine d8 (λ_=>true) (λv=>match v with |.str z=>.int (z.length:Int) |_=>.non) (aK K b _) j (au (by rw[wa0];omega)) (λH' D=>aH.of (D _ _ m)) (λy a G n c l=>l a (a9.refl _)) (λy a G n _ c l=>?_) (λa c i=>?_)
 ·obtain⟨w,hw,rfl⟩:=waa.mp n;exact⟨_,rfl,w,rfl,au (by have:=f w hw;omega),l a (a9.refl _)⟩
 have I:((e.map V.str).filter λ_=>true).map (λv=>match v with |.str z=>V.int (z.length:Int) |_=>.non)=(e.map λw=>(w.length:Int)).map V.int:=by
  rw[wb5.mpr (λ_ _=>rfl),wai,wai];rfl
 rw[I]at i;refine⟨C,_,0,rfl,rfl,aH.of i,λhn=>?_,λM J O=>?_⟩
 ·have o:e=[]:=wgx.mp hn;exact k 0 a c ⟨(λw hw=>by rw[o]at hw;cases hw),.inl ⟨rfl,o⟩⟩
 ·obtain⟨w,hw,rfl⟩:=waa.mp J;exact k _ a c ⟨λz R=>O _ (waa.mpr ⟨z,R,rfl⟩),.inr ⟨w,hw,rfl⟩⟩
theorem pY(L:Lk K mg):aN P w K mg base dm 2 L.jQ L.jR ["band","wide"] (HN L.aC):=by
 have T:=L.T;refine L.gv.F.ee (N:=["band","wide","signs"]) (λj A outer s H G Q E nd l h=>?_);obtain⟨x,n,g,o,p,ls,rfl,B,I,r,c,e,k⟩:=h
 refine⟨_,(a7 (ag (i:=2) (aq (DK rfl) (by rfl) T.max Gu (a5 (aE si (gb (pv 0) L.aJ.cl L.fi.m (ry L) (l.mono (by decide)) L.fi.b .nil eO) ai) (a5 ai a8))))
  (af (az (aE jg (aE si (aE eN (pv 2) (pv 1)) ai) (pv 1))))),?_⟩
 obtain⟨t,b,d,q,J,u,O,R,S,U,V⟩:=id B.ex;refine⟨_,rfl,x,t,_,rfl,u,Ij g b d q (by decide+kernel) (by decide+kernel) (by decide+kernel) (by decide+kernel),x,g,o,p,ls,rfl,B,e,(λw hw=>by have:=c w hw;omega),λM v y f=>?_⟩;refine⟨_,_,rfl,rfl,_,_,rfl,?_⟩
 have z:0<=M/\M<=900:=by
  rcases f.a with⟨h,_⟩ |⟨w,hw,h⟩
  ·omega
  ·have:=c w hw;omega
 have C:0<=((if 0 > M - 1 then 0 else M - 1) + (n:Int) - 1) / (n:Int):=whp (by split <;> omega) (by omega)
 have D:((if 0 > M - 1 then 0 else M - 1) + (n:Int) - 1) / (n:Int)<=1000:=by
  refine wd4 (Int.ediv_le_self _ (by split <;> omega)) (by split <;> omega)
 refine⟨_,rfl,_,rfl,_,_,rfl,rfl,_,_,rfl,rfl,_,rfl,_,_,rfl,rfl,⟨by omega,by omega⟩,?_⟩;have:=k (((if 0 > M - 1 then 0 else M - 1) + (n:Int) - 1) / (n:Int)).toNat v y ⟨by omega,M,f,by omega⟩;rwa[show ((((if 0 > M - 1 then 0 else M - 1) + (n:Int) - 1) / (n:Int)).toNat:Int)=((if 0 > M - 1 then 0 else M - 1) + (n:Int) - 1) / (n:Int) by omega]at this
theorem oU(L:Lk K mg):aN P w K mg base dm 1 L.qO L.qP ["text","signs"] J1:=by
 have T:=L.T;refine L.iF.F.ee (N:=["text","signs"]) (λf A outer s H n Q E nd o h=>?_);obtain⟨a,b,rfl,hl,k⟩:=h;refine⟨_,(af (az (aq (z6 rfl) (by rfl) T.all Oa (a5 (cA rfl (ax ["signs"] [1]) (xQ (pv 0)) (λ_ _ _ _ _ _=>bh) (λ_ _ _ _ _ _=>(iz vT (pv 0) (pv 1) rfl))) a8)))),?_⟩;refine⟨_,rfl,a,rfl,λl e=>comp_map (Ql b) (nK a) e (by unfold dQ;rw[wa0];exact au (wal (wec (aX a)) (by omega))) (λ_ _=>trivial) (λx g p i _ q=>?_) (λj m d=>?_)⟩
 ·obtain⟨c,_,rfl⟩:=waa.mp i;exact⟨_,rfl,_,rfl,_,_,rfl,rfl,q g (a9.refl _)⟩
 ·rw[DY]at d;refine⟨l,_,rfl,aH.of d,?_⟩;have:=k j m;rw[wfa];exact this
theorem jZ(L:Lk K mg):aN P w K mg base dm 1 L.kZ L.lj ["row","barred"] (J4 K):=by
 have T:=L.T;refine L.f9.F.ee (N:=["row","barred"]) (λi A outer s H o Q E nd p h=>?_);obtain⟨r,a,j,rfl,f,hl,k⟩:=h;refine⟨_,(af (az (aq (sA rfl) (by rfl) T.any Ly (a5 (cA rfl (ax ["row"] [0]) (aM (pv 1)) (λ_ _ _ _ _ _=>bh) (λ_ _ _ _ _ _=>(iz vT (pv 0) (pv 1) rfl))) a8)))),?_⟩;refine⟨_,rfl,a,rfl,⟨_,f⟩,λl d=>comp_map (Ql r) (aK K a (j.map V.str)) d (by rw[wa0];exact au (by omega)) (λg e=>e.seq f) (λx m t n _ q=>?_) (λg e b=>?_)⟩
 ·obtain⟨c,_,rfl⟩:=waa.mp n;exact⟨_,rfl,_,rfl,_,_,rfl,rfl,q m (a9.refl _)⟩
 ·rw[G6]at b;refine⟨l,_,rfl,aH.of b,?_⟩;have:=k g e;rw[wfc];exact this
theorem ym(L:Lk K mg):aN P w K mg base dm 2 L.qQ L.qR ["thing"] Ob:=by
 have T:=L.T;refine L.kW.F.ee (N:=["thing"]) (λd A outer s H l Q E nd m h=>?_);obtain⟨x,rfl,S,k⟩:=h;have a:x.length<=sizeLine:=au (by have:=S.hi;omega);obtain⟨f,b⟩:=L.known
 refine⟨_,(a7 (bH (PW.pt (iy (dO (cn (aq cO (by rfl) T.rp gq (a5 (pv 0) (a5 (gH (v:=.ty "str") (by rfl) T.str J0 rfl) a8))))) (iy (aF m6 (aq cf (by rfl) T.len waO (a5 (pv 0) a8)) ai (aS _)) (jb (aF m7 (aq cf (by rfl) T.len waO (a5 (pv 0) a8)) ai (aS _)))))) (af (az gD)) aL)
  (af (az (AI (iz qg (aq zb (by rfl) T.len waO (a5 (bo (za rfl) (by rfl) T.set RF (a5 (pv 0) a8)) a8)) (aq cf (by rfl) T.len waO (a5 (pv 0) a8)) (aS _)) (AH (aj (oU L) L.iF (a5 (pv 0) (a5 (c9 (v:=.str dN) (by rfl) b ⟨f,rfl⟩) a8)))))))),?_⟩
 refine⟨_,rfl,_,_,_,true,rfl,d7.str x,rfl,true,rfl,?_⟩;refine bA ?_;refine⟨_,rfl,x,rfl,a,_,_,rfl,rfl,_,rfl,?_⟩;refine G0 (by have:=S.lo;simp;omega) ?_;refine⟨_,rfl,x,rfl,a,_,_,rfl,rfl,_,rfl,?_⟩;refine G0 (by have:=S.hi;simp;omega) ?_;refine⟨_,rfl,x,rfl,?_,λp g=>?_⟩
 ·have:=S.hi;show x.length + 1 < wdA;unfold wdA;omega
 refine⟨p,_,rfl,a6,_,rfl,x,rfl,a,rfl,?_⟩;refine⟨_,rfl,?_⟩;refine RE (by rw[zc S.nd];simp) ?_;refine⟨_,rfl,x,dN,rfl,by have:=S.hi;omega,λi j=>?_⟩;have e:((ch x).all λc=>decide (c∈ch dN))=true:=waP.mpr λc hc=>decide_eq_true (S.sub c hc);rw[e];exact k i ((a9.upd g).trans j)
theorem Cg(L:Lk K mg):aN P w K mg base dm 2 L.xm L.xn ["thing","signs"] Oc:=by
 have T:=L.T;refine L.pQ.F.ee (N:=["thing","signs"]) (λb A outer s H i Q E nd j h=>?_);obtain⟨x,g,rfl,S,k⟩:=h;have a:x.length<=sizeLine:=au (by have:=S.hi;omega)
 refine⟨_,(a7 (bH (PW.pt (iy (dO (cn (aq cO (by rfl) T.rp gq (a5 (pv 0) (a5 (gH (v:=.ty "str") (by rfl) T.str J0 rfl) a8))))) (iy (aF m6 (aq cf (by rfl) T.len waO (a5 (pv 0) a8)) ai (aS _)) (jb (aF m7 (aq cf (by rfl) T.len waO (a5 (pv 0) a8)) ai (aS _)))))) (af (az gD)) aL)
  (af (az (aj (oU L) L.iF (a5 (pv 0) (a5 (pv 1) a8)))))),?_⟩
 refine⟨_,rfl,_,_,_,true,rfl,d7.str x,rfl,true,rfl,?_⟩;refine bA ?_;refine⟨_,rfl,x,rfl,a,_,_,rfl,rfl,_,rfl,?_⟩;refine G0 (by have:=S.lo;simp;omega) ?_;refine⟨_,rfl,x,rfl,a,_,_,rfl,rfl,_,rfl,?_⟩;refine G0 (by have:=S.hi;simp;omega) ?_;refine⟨_,rfl,_,rfl,x,g,rfl,by have:=S.hi;omega,λd f=>?_⟩;have e:((ch x).all λc=>decide (c∈ch g))=true:=waP.mpr λc hc=>decide_eq_true (S.sub c hc);rw[e];exact k d f
theorem rz(L:Lk K mg):aN P w K mg base dm 3 L.kX L.kY ["barred","signs"] (J5 K):=by
 have T:=L.T;refine L.ie.F.ee (N:=["barred","signs","number","thing"]) (λj A outer s H q Q E nd r h=>?_);obtain⟨a,g,d,rfl,c,hl,hw,k⟩:=h
 refine⟨_,(a7 (bH (aF m7 (aq bg (by rfl) T.len waO (a5 (pv 0) a8)) ai (aS _)) gU aL)
  (af (bj waB rfl (lM (by rfl) T.enum (a5 (pv 0) a8)) (fC rfl (aU (aA (i:=2)) (aU (aA (i:=3)) dC))) (af (bH (dO (cn (aj (Cg L) L.pQ (a5 (pv 3) (a5 (pv 1) a8))))) gU aL))))),?_⟩
 refine⟨_,rfl,a,_,rfl,.inl c,_,_,rfl,rfl,_,rfl,?_⟩;refine G0 (by grind) ?_;refine⟨_,rfl,a,_,rfl,c,kj (K:=K) (a:=a) (xs:=d.map V.str) (λi σ b=>a9 H b/\∃e f,σ=[some (.ref a),some (.str g),e,f]) ⟨a9.refl _,none,none,rfl⟩ (λi σ b _ p=>p.1.seq c) ?_ (λσ b p=>k b p.1)⟩;rintro i x σ b T u ⟨l,e,f,rfl⟩ m
 obtain⟨t,rfl,n⟩:∃t,x=.str t/\t∈d:=by
  grind
 refine⟨T,_,rfl,ir.of a6,rfl,_,_,rfl,_,_,rfl,rfl,?_⟩;refine⟨_,rfl,_,rfl,t,g,rfl,hw t n,λv o=>⟨true,rfl,?_⟩⟩;refine bA ?_;exact⟨(l.trans (a9.upd m)).trans o,_,_,rfl⟩
theorem pZ(L:Lk K mg):aN P w K mg base dm 2 L.jU L.jV ["barred"] (G9 K):=by
 have T:=L.T;refine L.gw.F.ee (N:=["barred","found","word","length","beginning"]) (λM A outer s H vs Q E nd O h=>?_);obtain⟨a,ws,rfl,y,hl,hw,k⟩:=h;have R:=fz O
 refine⟨_,(a7 (ag (i:=1) (CL (z0 dn gD CK) rfl rfl (by simp) (by decide)))
  (a7 (bj waB rfl (aM (pv 0)) (aA (i:=2)) (af (bj waB rfl (p9 rfl T.range (a5 ai (a5 (aq cf (by rfl) T.len waO (a5 (pv 2) a8)) a8))) (aA (i:=3)) (a7 (ag (i:=4) (cG B6 (pv 2) gJ (cy (pv 3))))
  (af (bH (dO (cn (aj (jZ L) L.f9 (a5 (pv 4) (a5 (pv 0) a8))))) (af (dZ R (pv 1) (pv 4) gD rfl)) aL))))))
  (af (az (aq (xS rfl) (by rfl) T.sorted IZ (a5 (pv 1) a8)))))),?_⟩
 intro d hd;refine⟨a6,[((waz "":Key),V.bl true)],rfl,by decide,?_⟩
 have G:a9 H (upd (upd H d (.dK [])) d (.dK (jo [] [((waz "":Key),V.bl true)]))):=by
  rw[Cz];exact a9.upd hd
 refine⟨_,rfl,a,rfl,⟨_,G.seq y⟩,dU (K:=K) (a:=a) (xs:=ws.map V.str) (λi σ m=>∃B c v4,σ=[some (.ref a),some (.ref d),B,c,v4]/\a9 H m/\m d=some (.dK (jL (cJ ws "" (ws.take i)))))
  ⟨none,none,none,rfl,G,a6⟩ (λi σ m _ ⟨_,_,_,_,f,_⟩=>f.seq y) ?_ ?_⟩
 ·rintro i x σ m g ⟨B,c,v4,rfl,f,t⟩;have hi:i < ws.length:=by have:=(wa6.mp g).1;rwa[wa0]at this
  obtain⟨wd,p,rfl⟩:∃wd,ws[i]?=some wd/\x=.str wd:=by
   rw[wa4]at g
   cases e:ws[i]? with
   |none=>rw[e]at g;cases g
   |some z=>rw[e]at g;exact⟨z,rfl,(wah g).symm⟩
  have S:wd∈ws:=wak p;have U:=hw wd S;have W:ws.take (i + 1)=ws.take i++[wd]:=by rw[wb1,p];rfl
  have X:(cJ ws "" (ws.take i)).length<=30:=by
   have:=lN (ws:=ws) (e:="") (us:=ws.take i) λv Y=>hw v (wgj Y);rw[wau]at this;omega
  refine⟨_,rfl,wd,rfl,au (by omega),1,_,rfl,⟨by decide,by decide,by omega,by omega⟩,?_⟩;have Z:((wd.length:Int) - 1).toNat=wd.length - 1:=by omega
  refine dE (lo:=1) (n:=((wd.length:Int) - 1).toNat) (λj σ u=>∃c v4,σ=[some (.ref a),some (.ref d),some (.str wd),c,v4]/\a9 H u/\u d=some (.dK (jL (upTo ws wd (cJ ws "" (ws.take i)) j))))
   ⟨c,v4,rfl,f,t⟩ ?_ ?_
  ·rintro j σ u hj ⟨c,v4,rfl,q,C⟩;have ec:(1 + (j:Int))=((1 + j:Nat):Int):=by omega
   refine⟨_,rfl,_,rfl,_,rfl,wd,rfl,au (by omega),?_⟩;rw[ec];have Vq:=sF ws wd (cJ ws "" (ws.take i)) j;refine⟨_,rfl,_,rfl,eB wd (1 + j),a,ws,rfl,q.seq y,by omega,λH4 D=>⟨_,rfl,?_⟩⟩;have I:=D _ _ C
   cases J:bears ws (eB wd (1 + j)) with
   |true=>
    refine bA ?_;refine⟨_,_,rfl,q.trans D,?_⟩;rw[I,fD];unfold pq;rw[if_pos J]
   |false=>
    refine dF ?_;refine⟨_,rfl,_,rfl,d,_,rfl,jn.k (k:=waz (eB wd (1 + j))) I (by rw[E1];exact bF (by omega)),?_⟩;refine⟨_,_,rfl,λb o e=>?_,?_⟩
    ·rw[aa (ae e hd)];exact D _ _ (q _ _ e)
    ·rw[a6,DZ,fD];unfold pq;rw[if_neg (by rw[J];exact waq)]
  ·rintro σ u ⟨c,v4,rfl,q,C⟩;refine⟨_,c,v4,rfl,q,?_⟩;rw[C,W,B9,Z];rfl
 ·rintro σ m ⟨B,c,v4,rfl,f,t⟩;rw[wa0,waI]at t;have Vg:=lN (ws:=ws) (e:="") (us:=ws) hw;refine⟨_,rfl,d,_,_,rfl,t,Bd _,by omega,λl ss r hp hs=>?_⟩;exact k l ss _ (f.trans (a9.upd r)) (f.free r) a6 hp hs
theorem uz(L:Lk K mg):aN P w K mg base dm 1 L.my L.mz ["row","places"] (Lz K):=by
 refine L.iM.F.ee (N:=["row","places","cut"]) (λq A outer s H x Q E nd y h=>?_);obtain⟨r,a,ps,rfl,t,u,hl,k⟩:=h
 refine⟨_,(a7 (ag (i:=2) ai)
  (a7 (iO waB (aF jl (cG B6 (pv 0) (cy (pv 2)) gJ) (pv 1) rfl) (af (se (i:=2) nd rfl (wdi rfl) ai Fs)))
  (af (az (cG B6 (pv 0) (cy (pv 2)) gJ))))),?_⟩
 refine⟨λm σ c=>∃n:Nat,n<=r.length/\m=r.length - n/\σ=[some (.str r),some (.ref a),some (.int (n:Int))]/\a9 H c/\∀j,j < n->gg r j∉ps,⟨r.length,0,waM _,rfl,rfl,a9.refl _,λj d=>absurd d (wdr j)⟩,?_⟩;rintro m σ c ⟨n,hn,rfl,rfl,f,o⟩;refine⟨_,rfl,_,rfl,_,rfl,r,rfl,au (by omega),_,rfl,a,_,rfl,.inl (f.seq t),rfl,eC ps,_,rfl,?_⟩;rw[if_pos rfl,iR]
 by_cases h:gg r n∈ps
 ·have e:decide (wbV r (some (n:Int)) none∈ps)=true:=decide_eq_true h;rw[e];refine bA ?_;refine⟨_,rfl,_,rfl,_,rfl,r,rfl,au (by omega),?_⟩;have:=k c f;unfold lend at this;rw[zf h o hn]at this;exact this
 ·have e:decide (wbV r (some (n:Int)) none∈ps)=false:=decide_eq_false h;rw[e];refine dF ?_
  have g:n < r.length:=by
   rcases weE hn with z |z
   ·exact z
   ·subst z;rw[pw]at h;exact absurd u h
  refine⟨λb p=>∃l:Nat,l=n + 1/\b=[some (.str r),some (.ref a),some (.int (l:Int))]/\a9 H p,?_,?_⟩
  ·rintro b p ⟨l,rfl,rfl,v⟩;refine⟨r.length - (n + 1),by omega,n + 1,g,rfl,rfl,v,λj d=>?_⟩;rcases weE (Nat.le_of_lt_succ d) with z |z
   ·exact o j z
   ·rw[z];exact h
  ·exact⟨_,rfl,_,_,rfl,rfl,n + 1,rfl,rfl,f⟩
theorem vB(L:Lk K mg):aN P w K mg base dm 2 L.oG L.oH ["place","signs","barred","places"] (J6 K):=by
 refine L.jE.F.ee (N:=["place","signs","barred","places","moves","sign","row"]) (λR A outer s H vs Q E nd S h=>?_);obtain⟨p,g,a,b,l,ps,rfl,T,U,V,W,X,B,C,k⟩:=h;have Y:=fz S
 refine⟨_,(a7 (ag (i:=4) dX)
  (a7 (bj waB rfl (xQ (pv 1)) (aA (i:=5)) (a7 (ag (i:=6) (aE mL (pv 0) (pv 5)))
  (af (dZ Y (pv 4) (pv 5) (yQ (cn (aj (jZ L) L.f9 (a5 (pv 6) (a5 (pv 2) a8)))) da (aj (uz L) L.iM (a5 (pv 6) (a5 (pv 3) a8)))) rfl))))
  (af (az (pv 4))))),?_⟩
 intro d hd
 refine⟨_,rfl,g,rfl,mO (nK g) (λi σ f=>∃r v6,σ=[some (.str p),some (.str g),some (.ref a),some (.ref b),some (.ref d),r,v6]/\a9 H f/\f d=some (.dK (((ch g).take i).map λc=>((waz (⟨#[c]⟩:Str):Key),uX l ps p c))))
  ⟨none,none,rfl,a9.upd hd,a6⟩ (λ_ _ _ _ _=>trivial) ?_ ?_⟩
 ·rintro i x σ f m ⟨r,v6,rfl,t,y⟩
  obtain⟨c,hc,rfl⟩:∃c,(ch g)[i]?=some c/\x=.str ⟨#[c]⟩:=by
   unfold dQ at m;rw[wa4]at m
   cases e:(ch g)[i]? with
   |none=>rw[show g.cps.toList[i]?=none from e]at m;cases m
   |some z=>rw[show g.cps.toList[i]?=some z from e]at m;exact⟨z,rfl,(wah m).symm⟩
  have hi:i < (ch g).length:=(wa6.mp hc).1;have J:=aX g;have Z:(p++(⟨#[c]⟩:Str)).length=p.length + 1:=by rw[<-aX,aQ,wa7,aX];rfl
  refine⟨_,rfl,_,rfl,p,⟨#[c]⟩,rfl,rfl,au (by show p.length + 1<=_;omega),?_⟩
  have fin:∀u,a9 f u->Ks (Iy 4) (Iy 5) (λ_ D Q5=>Q5 (uX l ps p c) D) {nx:=λσ f=>∃r v6,σ=[some (.str p),some (.str g),some (.ref a),some (.ref b),some (.ref d),r,v6]/\a9 H f/\f d=some (.dK (((ch g).take (i + 1)).map λc=>((waz (⟨#[c]⟩:Str):Key),uX l ps p c))),rt:=Q}
   [some (.str p),some (.str g),some (.ref a),some (.ref b),some (.ref d),some (.str ⟨#[c]⟩),some (.str (p++⟨#[c]⟩))] u:=by
   intro u n;have h4:=n _ _ y;refine⟨_,rfl,_,rfl,d,_,rfl,jn.k (k:=waz (⟨#[c]⟩:Str)) h4 (by rw[wa0,wau];exact bF (by omega)),?_⟩;refine⟨_,_,rfl,λb o e=>?_,?_⟩
   ·rw[aa (ae e hd)];exact n _ _ (t _ _ e)
   ·rw[a6,cI]
    ·have:(ch g).take (i + 1)=(ch g).take i++[c]:=by rw[wb1,hc];rfl
     rw[this,waj];rfl
    ·cases q:bz (((ch g).take i).map λc=>((waz (⟨#[c]⟩:Str):Key),uX l ps p c)) (waz (⟨#[c]⟩:Str):Key) with
     |none=>rfl
     |some v=>
      have:=rJ q;rw[wai]at this;obtain⟨G,I,e⟩:=waa.mp this;have e':(⟨#[G]⟩:Str)=⟨#[c]⟩:=wcY e
      have:G=c:=by
       have:=congrArg ch e';simpa [ch] using this
      subst this;obtain⟨j,hj,M⟩:=wde.mp I;rw[weV]at M;rw[wau]at hj;have e1:(ch g)[i]=G:=(wa6.mp hc).2;have:=(wd8 B).mp (M.trans e1.symm);omega
  refine⟨_,rfl,_,rfl,_,a,l,rfl,t.seq T,C,λu n=>⟨_,rfl,?_⟩⟩
  cases O:bears l (p++⟨#[c]⟩) with
  |true=>
   refine dF ?_;have:=fin u n;unfold uX at this;rw[if_pos O]at this;unfold uX;exact this
  |false=>
   refine bA ?_;refine⟨_,rfl,_,rfl,_,b,ps,rfl,(t.trans n).seq U,V,by omega,λD s5=>?_⟩;have:=fin D (n.trans s5);unfold uX at this;rw[if_neg (by rw[O];exact waq)]at this;unfold uX;exact this
 ·rintro σ f ⟨r,v6,rfl,t,y⟩;have e:(dQ g).length=(ch g).length:=by unfold dQ;rw[wa0]
  rw[e,waI]at y;exact⟨_,rfl,k d f t hd y⟩
theorem vC(L:Lk K mg):aN P w K mg base dm 1 L.oI L.oJ ["ends","lot"] (J7 K):=by
 have T:=L.T;refine L.jF.F.ee (N:=["ends","lot"]) (λm A outer s H v Q E nd y h=>?_);obtain⟨a,b,d,ls,rfl,i,n,o,p,hl,k⟩:=h;refine⟨_,(af (az (aq (sA rfl) (by rfl) T.any Ly (a5 (cA rfl (ax ["lot"] [1]) (aM (pv 0)) (λ_ _ _ _ _ _=>bh) (λ_ _ _ _ _ _=>(iz (hE (K:=K) rfl) (pv 0) (pv 1) rfl))) a8)))),?_⟩;refine⟨_,rfl,a,rfl,⟨_,i⟩,λl f=>comp_map (Oe ls) (aK K a d) f (au (by omega)) (λj g=>g.seq i) (λx r z t u q=>?_) (λj g c=>?_)⟩
 ·exact⟨_,rfl,_,rfl,b,ls,rfl,.inl (u.seq n),waP.mp o x t,p,q r (a9.refl _)⟩
 ·have e:d.map (Oe ls)=(d.map λe=>nJ e ls).map V.bl:=by rw[wai];rfl
  rw[e]at c;refine⟨l,_,rfl,aH.of c,?_⟩;have:=k j g;rw[wfc];exact this
theorem vD(L:Lk K mg):aN P w K mg base dm 2 L.jG L.oK ["moves"] (LC K):=by
 have T:=L.T;refine L.jH.F.ee (N:=["moves","lot","left"]) (λY A outer s H vs Q E nd hr h=>?_);obtain⟨d,Z,o,rfl,hd,hl,hm,hf,Y1,k⟩:=h;have hu:=fz hr;have N9:(A.deeper (wdp "live_among" (aD (top 80)) s.heap.objs.size L.jG Y)).units < wcH:=hr.xK
 refine⟨_,(a7 (ag (i:=1) (bo (mQ rfl) (by rfl) T.list iC (a5 (pv 0) a8)))
  (af (iO waB (cn gD) (a7 (eu (i:=2) rfl (ax ["moves","lot"] [0,1]) nd rfl rfl (aM (pv 1)) (λ_ _ _ _ _ _=>fT (cn (aj (vC L) L.jF (a5 (bo (B5 rfl) (by rfl) T.list iC (a5 (CY (K:=K) rfl wfp wdz wfi wt (dg hu (pv 1) (pv 0) (λ_ _=>rfl))) a8)) (a5 (pv 2) a8))))) (λ_ _ _ _ _ _=>(pv 0)))
  (a7 (bH (aF (FW N9) (pv 2) (pv 1) (aS _)) (af (az (pv 1))) aL)
  (af (ag (i:=1) (pv 2)))))))),?_⟩
 refine⟨_,rfl,d,_,rfl,hd,λl0 u=>?_⟩
 refine⟨λm σ H2=>∃(l:Addr) (ls:List Str) (v:Option V),m=ls.length/\σ=[some (.ref d),some (.ref l),v]/\a9 H H2/\H l=none/\H2 l=some (.lst (ls.map V.str))/\ls.Sublist (Z.map (·.1)) /\
  ∀b:List Str,(∀k∈b,k∈Z.map (·.1)/\kl (o k) b=true)->∀k∈b,k∈ls,
  ⟨_,l0,Z.map (·.1),none,rfl,rfl,a9.upd u,u,by rw[a6,hF],weW _,λb h k r=>(h k r).1⟩,?_⟩
 rintro m σ H2 ⟨l,ls,v,rfl,rfl,U,KS,W,f,c⟩;refine⟨true,rfl,dF ?_⟩;have BR:ls.length<=1000:=by have:=f.length_le;rw[wa0]at this;omega
 let p:V->Bool:=λx=>match x with
  |.str k=>kl (o k) ls
  |_=>false
 let g:List Str:=ls.filter λk=>kl (o k) ls
 have y:(ls.map V.str).filter p=g.map V.str:=by
  rw[wel];rfl
 refine⟨λB t=>∃(C:Addr) (v:Option V),B=[some (.ref d),some (.ref C),v]/\a9 H t/\H C=none/\t C=some (.lst (g.map V.str))/\g.length < ls.length,?_,?_⟩
 ·rintro B t ⟨C,v,rfl,n,AD,D,Ml⟩;refine⟨g.length,Ml,C,g,v,rfl,rfl,n,AD,D,(wdo).trans f,λb h k r=>?_⟩;have Y2:=c b h k r;exact waC.mpr ⟨Y2,Bg (c b h) (h k r).2⟩
 ·refine⟨_,rfl,l,rfl,⟨_,aH.of W⟩,λl2 G=>d8 p (λx=>x) (aK K l (ls.map V.str)) G (by rw[wa0];exact au (by omega)) (λt n=>n.seq (aH.of W)) (λx I Q' hx s3 q=>?_) (λx I Q' hx _ s3 q=>⟨_,rfl,q I (a9.refl _)⟩) (λt n D=>?_)⟩
  ·obtain⟨X,Y3,rfl⟩:=waa.mp hx;obtain⟨a,ha,J⟩:=iS (f.subset Y3);have M:a9 H I:=U.trans s3;have QA:=M _ _ hd;have j:=M _ _ (hm _ ha);refine⟨_,rfl,_,rfl,d,.ref a,rfl,?_,?_⟩
   ·have:=dW.k (k:=(waz X:Key)) QA;rw[J]at this;exact this
   refine⟨.inr (.inr (.inl ⟨rfl,.inl ⟨_,j⟩⟩)),a,_,rfl,rfl,j,λvw O=>?_⟩;refine⟨vw,a,_,rfl,a6,by rw[aa (ae j O)];exact j,λl3 FU=>?_⟩;have s4:a9 I (upd (upd I vw (ki vw a)) l3 (.lst ((o X).map (·.2)))):=(a9.upd O).trans (a9.upd FU);refine⟨_,rfl,l3,l,_,_,rfl,aH.of a6,aH.of (s4 _ _ (s3 _ _ W)),hf X,eC ls,by rw[wa0];exact Y1 X,λH5 s5=>⟨_,rfl,?_⟩⟩;exact q H5 (s4.trans s5)
  ·rw[wdF,y]at D;have R:=n _ _ W;refine⟨_,rfl,_,rfl,l2,l,_,_,rfl,rfl,aH.of D,aH.of R,eC _,eC _,_,rfl,?_⟩;rw[wy];have S:H l2=none:=U.free G
   by_cases e:g=ls
   ·rw[decide_eq_true e];refine dF ?_;refine⟨_,rfl,k l ls t (U.trans n) KS R ⟨f,λkk r=>?_,c⟩⟩;have:=e ▸ r;exact(waC.mp this).2
   ·rw[decide_eq_false e];refine bA ?_;refine⟨_,rfl,l2,_,rfl,U.trans n,S,D,?_⟩;rcases weE (wbi (λk=>kl (o k) ls) ls) with z |z
    ·exact z
    ·exact absurd ((wdo (p:=λk=>kl (o k) ls)).eq_of_length z) e
theorem q8(L:Lk K mg):aN P w K mg base dm 4 L.gx L.jW ["self","signs","barred"] (LJ K L.aC):=by
 have T:=L.T;refine L.gz.F.ee (N:=["self","signs","barred","places","place"]) (λgK A outer s H vs Q E nd hr h=>?_);obtain⟨x,u,g,a,ws,rfl,hx,hS,sg,hl,hw,k⟩:=h;have Z:∀w∈ws,w.length<=5:=λw h=>(hw w h).hi;have hu:=fz hr
 refine⟨_,(a7 (bH (dO (cn (aj (ym L) L.kW (a5 (pv 1) a8)))) gU aL)
  (a7 (bu (aj (rz L) L.ie (a5 (pv 2) (a5 (pv 1) a8))))
  (a7 (cS (pv 0) (pv 1) rfl)
  (a7 (cS (pv 0) (bo cz (by rfl) T.list iC (a5 (pv 2) a8)) rfl)
  (a7 (cS (pv 0) dX rfl)
  (a7 (ag (i:=3) (aj (pZ L) L.gw (a5 (pv 2) a8)))
  (a7 (bj waB rfl (aM (pv 3)) (aA (i:=4)) (af (dZ hu (aO (pv 0) rfl) (pv 4) (aj (vB L) L.jE (a5 (pv 4) (a5 (pv 1) (a5 (pv 2) (a5 (pv 3) a8))))) rfl)))
  (af (cS (pv 0) (aj (vD L) L.jH (a5 (aO (pv 0) rfl) a8)) rfl))))))))),?_⟩
 refine⟨_,rfl,g,rfl,sg,λH1 s1=>⟨true,rfl,bA ?_⟩⟩;refine⟨_,rfl,_,rfl,a,g,ws,rfl,s1.seq hS,hl,hw,λH2 s2=>?_⟩;have G:a9 H H2:=s1.trans s2;have Y4:=G _ _ hx;refine⟨_,rfl,_,rfl,x,L.aC,u,_,rfl,Y4,L.aJ.cl,L.aJ.rS,by decide,?_⟩;rw[LI];have Pg:∀(o:HO) b ob,H b=some ob->b≠x->(upd H2 x o) b=some ob:=λo b ob e hb=>by rw[aa hb];exact G _ _ e
 have I:∀{H':Hp} (h:∀b o,H b=some o->b≠x->H' b=some o),aH K H' a (ws.map V.str):=λ{H'} h=>by
  have Vr:∀o,H a=some o->(∀fs,o≠.ins L.aC u fs)->a≠x:=λo e ne z=>by
   subst z;rw[hx]at e;exact ne [] (wah e).symm
  rcases hS with(e |⟨o,e⟩) |e
  ·exact .inl (.inl (h _ _ e (Vr _ e (λ_ z=>by cases z))))
  ·exact .inl (.inr ⟨o,h _ _ e (Vr _ e (λ_ z=>by cases z))⟩)
  ·exact .inr e
 refine⟨_,rfl,a,_,rfl,.inl (I (Pg _)),λb hb=>?_⟩;have B:x≠b:=ae a6 hb;have Tb:H2 b=none:=by rw[aa B.symm]at hb;exact hb
 refine⟨_,rfl,x,L.aC,u,Qm g,rfl,by rw[aa B,a6],L.aJ.cl,L.aJ.zT,(show 1 < 1000 by decide),?_⟩;rw[put2];intro d hd;have t:x≠d:=ae a6 hd
 have Ph:b≠d:=by
  intro z;subst z;rw[aa B.symm,a6]at hd;cases hd
 have J:H2 d=none:=by rw[aa t.symm,aa Ph.symm,aa t.symm]at hd;exact hd
 refine⟨_,rfl,x,L.aC,u,N0 g b,rfl,by rw[aa t,a6],L.aJ.cl,L.aJ.lU,(show 2 < 1000 by decide),?_⟩;rw[put3];generalize M:upd (upd (upd (upd (upd H2 x (.ins L.aC u (Qm g))) b (.lst (ws.map V.str))) x (.ins L.aC u (N0 g b))) d (.dK [])) x (.ins L.aC u (LD g b d))=H3;have x3:H3 x=some (.ins L.aC u (LD g b d)):=by rw[<-M,a6]
 have d3:H3 d=some (.dK []):=by rw[<-M,aa t.symm,a6]
 have b3:H3 b=some (.lst (ws.map V.str)):=by rw[<-M,aa B.symm,aa Ph,aa B.symm,a6]
 have k3:∀c o,H c=some o->c≠x->H3 c=some o:=λc o e hc=>by
  have e2:=G _ _ e;rw[<-M,aa hc,aa (ae e2 J),aa hc,aa (ae e2 Tb),aa hc];exact e2
 clear M;refine⟨_,rfl,a,ws,rfl,I k3,hl,Z,λl n H4 s4 S h4 hp Y5=>?_⟩;have RL:n.Nodup:=hp.nodup_iff.mpr (ql ws);have Dy:n.length<=25:=by have:=lN (ws:=ws) (e:="") (us:=ws) Z;rw[hp.length_eq];omega
 have Pj:∀p∈n,p.length<=5:=λp Ch=>E4 Z p (hp.mem_iff.mp Ch);have Tc:("":Str)∈n:=hp.mem_iff.mpr (cP ws);have QB:l≠d:=λz=>by rw[z,d3]at S;cases S
 have nlx:l≠x:=λz=>by rw[z,x3]at S;cases S
 refine⟨_,rfl,l,rfl,⟨_,aH.of h4⟩,dU (K:=K) (a:=l) (xs:=n.map V.str) (λi σ U=>∃v4 C,σ=[some (.ref x),some (.str g),some (.ref a),some (.ref l),v4]/\U d=some (.dK (bI C))/\C.map (·.1)=n.take i/\(∀m∈C,U m.2=some (.dK (rowOf g ws n m.1)))/\(∀m∈C,H4 m.2=none)/\(∀c o,H4 c=some o->c≠d->U c=some o))
  ⟨none,[],rfl,s4 _ _ d3,rfl,λm v=>(nomatch v),λm v=>(nomatch v),λc o e _=>e⟩ (λi σ U _ ⟨_,_,_,_,_,_,_,O⟩=>aH.of (O _ _ h4 QB)) ?_ ?_⟩
 ·rintro i y σ U hy ⟨v4,C,rfl,D,r,f,Og,O⟩
  obtain⟨p,W,rfl⟩:∃p,n[i]?=some p/\y=.str p:=by
   rw[wa4]at hy
   cases e:n[i]? with
   |none=>rw[e]at hy;cases hy
   |some z=>rw[e]at hy;exact⟨z,rfl,(wah hy).symm⟩
  have hi:i < n.length:=(wa6.mp W).1;have Ch:p∈n:=wak W
  have k5:∀c o,H c=some o->c≠x->U c=some o:=λc o e hc=>O _ _ (s4 _ _ (k3 c o e hc)) (λz=>by
   subst z;have:=G _ _ e
   rw[J]at this;cases this)
  have x5:U x=some (.ins L.aC u (LD g b d)):=O _ _ (s4 _ _ x3) t;refine⟨_,rfl,_,rfl,_,rfl,_,rfl,p,g,a,l,ws,n,rfl,I k5,aH.of (O _ _ h4 QB),Tc,by have:=Pj p Ch;omega,by have:=sg.hi;omega,sg.nd,by omega,λe H6 R X h6=>?_⟩;have d6:=R _ _ D
  have HP:p∉C.map (·.1):=by
   rw[r];intro v;obtain⟨j,hj,ej⟩:=wde.mp v;rw[weV]at ej;rw[wau]at hj;have e1:n[i]=p:=(wa6.mp W).2;have:=(wd8 RL).mp (ej.trans e1.symm);omega
  have Y:C.length<=25:=by have:=congrArg wdl r;rw[wa0,wau]at this;omega
  refine⟨_,rfl,x,L.aC,u,_,_,rfl,R _ _ x5,L.aJ.cl,L.aJ.lU,km g b d,_,rfl,d,_,rfl,jn.k (k:=waz p) d6 (by unfold bI;rw[wa0];exact bF (by omega)),?_⟩;have Nb:e≠d:=λz=>by rw[z,D]at X;cases X
  have e4:H4 e=none:=by
   cases q:H4 e with
   |none=>rfl
   |some o=>
    have:=O _ _ q Nb;rw[this]at X;cases X
  refine⟨_,C++[(p,e)],rfl,?_,?_,?_,?_,?_⟩
  ·rw[a6,cI _ (jr HP)];unfold bI;rw[waj];rfl
  ·rw[waj,r];have:n.take (i + 1)=n.take i++[p]:=by rw[wb1,W];rfl
   rw[this];rfl
  ·intro m v;rcases waA.mp v with z |z
   ·have nm:m.2≠d:=λq=>by
     have:=f m z;rw[q,D]at this;have:=Og m z;rw[q]at this;rw[s4 _ _ d3]at this;cases this
    rw[aa nm];exact R _ _ (f m z)
   ·have:m=(p,e):=by simpa using z
    subst this;rw[aa Nb];exact h6
  ·intro m v;rcases waA.mp v with z |z
   ·exact Og m z
   ·have:m=(p,e):=by simpa using z
    subst this;exact e4
  ·intro c o hc Vs;rw[aa Vs];exact R _ _ (O c o hc Vs)
 ·rintro σ U ⟨v4,C,rfl,D,r,f,Og,O⟩;rw[wa0,waI]at r;have x5:U x=some (.ins L.aC u (LD g b d)):=O _ _ (s4 _ _ x3) t;have Y:C.length<=1000:=by have:=congrArg wdl r;rw[wa0]at this;omega
  refine⟨_,rfl,x,L.aC,u,_,_,rfl,x5,L.aJ.cl,L.aJ.lU,km g b d,d,C,rowOf g ws n,rfl,D,Y,f,λkx=>Be g ws n kx,λkx=>by rw[E2];have:=sg.hi;omega,λq ls H6 R hq h6 lv=>?_⟩;refine⟨_,rfl,x,L.aC,u,_,rfl,R _ _ x5,L.aJ.cl,L.aJ.pN,(show 3 < 1000 by decide),?_⟩;rw[E3];have Td:q≠x:=λz=>by rw[z,x5]at hq;cases hq
  have UQ:∀m∈C,m.2≠x:=λm v z=>by
   have:=f m v;rw[z,x5]at this;cases this
  refine k n ls _ ⟨⟨u,b,d,q,C,a6,?_,?_,r,λm v=>?_,?_⟩,hp,Y5,r ▸ lv⟩ λc o e hc=>?_
  ·rw[aa B.symm];exact R _ _ (O _ _ (s4 _ _ b3) Ph)
  ·rw[aa t.symm];exact R _ _ D
  ·rw[aa (UQ m v)];exact R _ _ (f m v)
  ·rw[aa Td];exact h6
  ·rw[aa hc]
   exact R _ _ (O _ _ (s4 _ _ (k3 c o e hc)) (λz=>by
    subst z;have:=G _ _ e
    rw[J]at this;cases this))
theorem uA(L:Lk K mg):aN P w K mg base dm 1 L.mB L.mC ["self"] (Gb L.aC):=by
 have T:=L.T;refine L.fY.F.ee (N:=["self"]) (λa A outer s H j Q E nd m h=>?_);obtain⟨x,g,n,o,ls,rfl,B,k⟩:=h;obtain⟨⟨c,b,d,q,p,e,r,f,i,t,u⟩,_,_,_⟩:=B;refine⟨_,(af (az (bo (mQ rfl) (by rfl) T.list iC (a5 (aO (pv 0) rfl) a8)))),?_⟩;refine⟨_,rfl,x,L.aC,c,_,_,rfl,e,L.aJ.cl,L.aJ.lU,mV g b d q,d,_,rfl,f,λl hl=>?_⟩;rw[hF,i];exact k l _ (a9.upd hl) hl a6
theorem jI(L:Lk K mg):aN P w K mg base dm 1 L.qS L.qU ["self"] (J9 L.aC):=by
 have T:=L.T;refine L.cQ.F.ee (N:=["self"]) (λa A outer s H i Q E nd j h=>?_);obtain⟨x,g,m,n,ls,rfl,B,k⟩:=h;obtain⟨⟨c,b,d,q,o,e,p,r,t,u,f⟩,_,_,_⟩:=B;refine⟨_,(af (az (bo cz (by rfl) T.list iC (a5 (aO (pv 0) rfl) a8)))),?_⟩;refine⟨_,rfl,x,L.aC,c,_,_,rfl,e,L.aJ.cl,L.aJ.pN,wA g b d q,q,_,rfl,.inl (aH.of f),λl hl=>?_⟩;exact k l _ (a9.upd hl) hl a6
theorem gG(L:Lk K mg):aN P w K mg base dm 1 L.ig L.ik ["self","place"] (RG L.aC):=by
 have T:=L.T;refine L.bO.F.ee (N:=["self","place"]) (λc A outer s H r Q E nd e h=>?_);obtain⟨x,p,g,t,u,ls,rfl,B,f,k⟩:=h;obtain⟨⟨i,b,d,q,mv,j,y,l,m,z,C⟩,_,_,_⟩:=B;obtain⟨a,ha,n⟩:=iS (mv:=mv) (k:=p) (by rw[m];exact f);have o:=fz e;refine⟨_,(af (bH (PW.pt (iy (dO (cn (aq cO (by rfl) T.rp gq (a5 (pv 1) (a5 (gH (v:=.ty "str") (by rfl) T.str J0 rfl) a8))))) (jb (AG (wh o (pv 1) (aO (pv 0) rfl)))))) gU aL)),?_⟩;refine⟨_,rfl,_,_,_,true,rfl,d7.str p,rfl,true,rfl,bA ?_⟩;refine⟨_,rfl,_,rfl,x,L.aC,i,_,_,rfl,j,L.aJ.cl,L.aJ.lU,mV g b d q,d,_,rfl,dW.k (k:=(waz p:Key)) l,_,rfl,?_⟩;rw[n];exact bA k
theorem rk(L:Lk K mg):aN P w K mg base dm 2 L.ub L.uc ["self","place","sign"] (Of L.aC):=by
 refine L.fN.F.ee (N:=["self","place","sign"]) (λr A outer s H D Q E nd e h=>?_);obtain⟨x,p,c,g,t,u,ls,rfl,B,f,hc,k⟩:=h;obtain⟨⟨i,b,d,q,mv,j,G,v,y,z,I⟩,_,_,_⟩:=id B;obtain⟨a,ha,C⟩:=iS (mv:=mv) (k:=p) (by rw[y];exact f);have l:=fz e
 refine⟨_,(a7 (bu (jh (pv 0) L.aJ.cl L.bO.m (gG L) (e.mono (by decide)) L.bO.b .nil eO (a5 (pv 1) a8)))
  (af (az (dg l (dg l (aO (pv 0) rfl) (pv 1) (λ_ _=>rfl)) (pv 2) (λ_ _=>rfl))))),?_⟩
 refine⟨_,rfl,x,i,_,rfl,j,Ij _ _ _ _ (by decide+kernel) (by decide+kernel) (by decide+kernel) (by decide+kernel),_,rfl,x,p,g,t,u,ls,rfl,B,f,?_⟩;have n:=dW.k (k:=(waz p:Key)) v;rw[C]at n;have o:=dW.k (k:=(waz (⟨#[c]⟩:Str):Key)) (z _ ha);rw[J8 hc]at o;exact⟨_,rfl,x,L.aC,i,_,_,rfl,j,L.aJ.cl,L.aJ.lU,mV g b d q,_,rfl,d,_,rfl,n,_,rfl,a,_,rfl,o,k⟩
theorem yn(L:Lk K mg):aN P w K mg base dm 3 L.qI L.qJ ["band","place"] (By L.aC):=by
 refine L.kC.F.ee (N:=["band","place","ends"]) (λM A outer s H Z Q E nd O h=>?_);obtain⟨x,p,g,C,D,ls,rfl,B,R,S,k⟩:=h
 refine⟨_,(a7 (eu (i:=2) rfl (ax ["band","place"] [0,1]) nd rfl rfl (xQ (aO (pv 0) rfl)) (λ_ _ _ _ _ _=>bh) (λ_ _ _ _ _ _=>(jh (pv 1) L.aJ.cl L.fN.m (rk L) (O.mono (by decide)) L.fN.b .nil eO (a5 (pv 2) (a5 (pv 0) a8)))))
  (af (az (cA rfl (ax [] []) (aM (pv 2)) (λ_ _ _ _ _ _=>fT (aF xJ (pv 0) da (aS _))) (λ_ _ _ _ _ _=>(pv 0)))))),?_⟩
 obtain⟨⟨T,b,d,q,mv,U,h2,h3,h4,h5,h6⟩,pm,_,_⟩:=id B;refine⟨_,rfl,x,L.aC,T,_,_,rfl,U,L.aJ.cl,L.aJ.rS,mX g b d q,g,rfl,λl hl=>?_⟩;refine comp_map (UW C D p) (nK g) hl (by rw[Bk];exact au (by omega)) (λ_ _=>trivial) (λz G I V o e=>?_) (λG o a=>?_)
 ·obtain⟨c,hc,rfl⟩:=waa.mp V;have J:=B.same o;obtain⟨⟨r,_,_,_,_,t,_⟩,_⟩:=id J;exact⟨_,rfl,x,r,_,rfl,t,Ij _ _ _ _ (by decide+kernel) (by decide+kernel) (by decide+kernel) (by decide+kernel),_,rfl,_,rfl,x,p,c,g,C,D,ls,rfl,J,R,hc,e G (a9.refl _)⟩
 ·rw[Ef]at a;refine⟨_,rfl,l,rfl,⟨_,aH.of a⟩,λW f=>?_⟩;refine d8 Bv (λv=>v) (aK K l _) f (by rw[wa0,aX];exact au (by omega)) (λH' X=>aH.of (X _ _ a)) (λy j I Y u e=>⟨_,rfl,rfl,_,rfl,e j (a9.refl _)⟩) (λy j I Y _ u e=>⟨_,rfl,e j (a9.refl _)⟩) (λj u n=>?_);rw[wdF,zq]at n;exact k W j (o.trans u) (none_of o f) n
theorem Ac(L:Lk K mg):aN P w K mg base dm 4 L.tV L.tW ["band"] (Eg L.aC):=by
 refine L.ng.F.ee (N:=["band","ends","place"]) (λgK A outer s H vs Q E nd hr h=>?_);obtain⟨x,g,W,G,ls,rfl,B,X,Dy,k⟩:=h;have hu:=fz hr
 refine⟨_,(a7 (ag (i:=1) dX)
  (a7 (bj waB rfl (aM (gb (pv 0) L.aJ.cl L.fY.m (uA L) (hr.mono (by decide)) L.fY.b .nil eO)) (aA (i:=2)) (af (dZ hu (pv 1) (pv 2) (aj (yn L) L.kC (a5 (pv 0) (a5 (pv 2) a8))) rfl)))
  (af (az (pv 1))))),?_⟩
 refine λn r=>?_;have S:a9 H (upd H n (.dK [])):=a9.upd r;have B0:=B.same S;obtain⟨⟨dx,b,d,q,mv,h1,h2,h3,h4,h5,h6⟩,pm,_,_⟩:=id B0;refine⟨_,rfl,x,dx,_,rfl,h1,Ij _ _ _ _ (by decide+kernel) (by decide+kernel) (by decide+kernel) (by decide+kernel),x,g,W,G,ls,rfl,B0,λY T I f1 J=>?_⟩;have Z:Y≠n:=λz=>by rw[z,a6]at f1;cases f1
 have nd:=B.nd
 refine⟨Y,rfl,⟨_,aH.of J⟩,dU (K:=K) (a:=Y) (xs:=G.map V.str) (λi σ U=>∃v2 l,σ=[some (.ref x),some (.ref n),v2]/\U n=some (.dK (bI l))/\l.map (·.1)=G.take i/\(∀m∈l,U m.2=some (.lst ((eP g W G m.1).map V.str)))/\(∀m∈l,T m.2=none)/\(∀c o,T c=some o->c≠n->U c=some o))
  ⟨none,[],rfl,I _ _ a6,rfl,λm t=>(nomatch t),λm t=>(nomatch t),λc o e _=>e⟩ (λi σ U _ ⟨_,_,_,_,_,_,_,D⟩=>aH.of (D _ _ J Z)) ?_ ?_⟩
 ·rintro i y σ H5 hy ⟨v2,l,rfl,u,f,j,v,D⟩;obtain⟨p,Pk,rfl,hi,Ch,nF⟩:=gi hy;have Te:a9 H H5:=λc o e=>D _ _ (I _ _ (S _ _ e)) (ae e r);refine⟨_,rfl,_,rfl,x,p,g,W,G,ls,rfl,B.same Te,Ch,X,λe H6 s6 C Y6=>?_⟩;have d6:=s6 _ _ u;have M:p∉l.map (·.1):=by rw[f];exact hV nd Pk
  have Tf:l.length<=900:=by have:=congrArg wdl f;rw[wa0,wau]at this;omega
  refine⟨_,rfl,_,rfl,n,_,rfl,jn.k (k:=waz p) d6 (by unfold bI;rw[wa0];exact bF (by omega)),?_⟩;have O:e≠n:=λz=>by rw[z,u]at C;cases C
  have e1:T e=none:=by
   cases q:T e with
   |none=>rfl
   |some o=>
    have:=D _ _ q O;rw[this]at C;cases C
  refine⟨_,l++[(p,e)],rfl,?_,?_,?_,?_,?_⟩
  ·rw[a6,cI _ (jr M)];unfold bI;rw[waj];rfl
  ·rw[waj,f,nF];rfl
  ·intro m t;rcases waA.mp t with z |z
   ·have nm:m.2≠n:=λq=>by
     have:=v m z;rw[q,I _ _ a6]at this;cases this
    rw[aa nm];exact s6 _ _ (j m z)
   ·have:m=(p,e):=by simpa using z
    subst this;rw[aa O];exact Y6
  ·intro m t;rcases waA.mp t with z |z
   ·exact v m z
   ·have:m=(p,e):=by simpa using z
    subst this;exact e1
  ·intro c o hc R;rw[aa R];exact s6 _ _ (D c o hc R)
 ·rintro σ H5 ⟨v2,l,rfl,u,f,j,v,D⟩;rw[wa0,waI]at f;exact⟨_,rfl,k n l H5 (λc o e=>D _ _ (I _ _ (S _ _ e)) (ae e r)) r u f j λm t=>none_of S (none_of I (v m t))⟩
theorem k4(L:Lk K mg):aN P w K mg base dm 5 L.kD L.kE ["band","length"] (Jo L.aC):=by
 have T:=L.T;refine L.eU.F.ee (N:=["band","length","ends","counts","place","table","step","longer"]) (λgK A outer s H vs Q E nd hr h=>?_);obtain⟨x,n,g,I,r,ls,rfl,B,Dz,Dy,hn0,hn1,k⟩:=h;have hu:=fz hr
 refine⟨_,(a7 (ag (i:=2) (aj (Ac L) L.ng (a5 (pv 0) a8)))
  (a7 (ag (i:=3) dX)
  (a7 (bj waB rfl (rM (pv 2)) (aA (i:=4)) (af (dZ hu (pv 3) (pv 4) ai rfl)))
  (a7 (ag (i:=5) (b7 (a5 (pv 3) a8)))
  (a7 (bj waB rfl (dD rfl T.range (a5 (pv 1) a8)) (aA (i:=6)) (a7 (ag (i:=7) dX)
  (a7 (bj waB rfl (rM (pv 2)) (aA (i:=4)) (af (dZ hu (pv 7) (pv 4) (aq (kn rfl) (by rfl) T.sum Eb (a5 (cA rfl (ax ["counts"] [3]) (aM (dg hu (pv 2) (pv 4) (λ_ _=>rfl))) (λ_ _ _ _ _ _=>bh) (λ_ _ _ _ _ _=>(dg hu (pv 1) (pv 0) (λ_ _=>rfl)))) a8)) rfl)))
  (a7 (bu (iP waT waZ wb7 cH (pv 5) (a5 (pv 7) a8)))
  (af (ag (i:=3) (pv 7)))))))
  (af (az (pv 5)))))))),?_⟩
 have nd:=B.nd;have he:("":Str)∈r:=B.pm.mem_iff.mpr (cP I);refine⟨_,rfl,x,g,I,r,ls,rfl,B,Dz,Dy,λd l H1 s1 Tg h1 ek er ef=>?_⟩;refine λq C=>?_;have Th:d≠q:=ae h1 C;have M:((bI l).map λkv=>kV kv.1)=r.map V.str:=by rw[hF,ek]
 have Y7:∀m∈l,m.2≠d:=λm u z=>by have:=er m u;rw[z,h1]at this;cases this
 refine⟨_,rfl,d,_,rfl,.inl ⟨(a9.upd C) _ _ h1,λo=>?_⟩⟩;have J:=iV d o (bI l);rw[M]at J;have W:(upd (upd H1 q (.dK [])) d (.frz o (.dK (bI l)))) q=some (.dK []):=by rw[aa (wbc Th),a6]
 have X:(upd (upd H1 q (.dK [])) d (.frz o (.dK (bI l)))) d=some (.frz o (.dK (bI l))):=a6
 have sz:a9 H (upd (upd H1 q (.dK [])) d (.frz o (.dK (bI l)))):=λc v e=>by
  rw[aa (ae e Tg)];exact a9.upd C _ _ (s1 _ _ e)
 have Y:∀m∈l,(upd (upd H1 q (.dK [])) d (.frz o (.dK (bI l)))) m.2=some (.lst ((eP g I r m.1).map V.str)):=λm u=>by
  rw[aa (Y7 m u)];exact a9.upd C _ _ (er m u)
 have f0:H q=none:=none_of s1 C;generalize upd (upd H1 q (.dK [])) d (.frz o (.dK (bI l)))=Hz at W X sz Y;have Ti:∀m∈l,m.2≠q:=λm u z=>by have:=Y m u;rw[z,W]at this;cases this
 refine mO J (λi σ H3=>∃v4,σ=[some (.ref x),some (.int n),some (.ref d),some (.ref q),v4,none,none,none]/\H3 q=some (.dK (pA (λp=>.int (gL g I r 0 p)) (r.take i)))/\∀c v,Hz c=some v->c≠q->H3 c=some v) ⟨none,rfl,W,λc v e _=>e⟩ (λi σ H3 _ ⟨_,_,_,b⟩=>b _ _ X Th) ?_ ?_
 ·rintro i y σ H3 hy ⟨v4,rfl,h3,b⟩;obtain⟨p,Pk,rfl,hi,Ch,nF⟩:=gi hy;refine⟨_,rfl,_,rfl,q,_,rfl,jn.k (k:=waz p) h3 (by rw[zr,wau];exact bF (by omega)),?_⟩;refine⟨_,rfl,?_,λc v e hc=>by rw[aa hc];exact b c v e hc⟩;rw[a6,cI _ (wJ _ (hV nd Pk)),nF,wK];rfl
 rintro σ H3 ⟨v4,rfl,h3,b⟩;rw[wa0,waI]at h3;have s3:a9 H H3:=λc v e=>b _ _ (sz _ _ e) (ae e f0);have Tj:=b _ _ X Th;have QC:∀m∈l,H3 m.2=some (.lst ((eP g I r m.1).map V.str)):=λm u=>b _ _ (Y m u) (Ti m u);clear b W X sz Y J C h1 er;refine⟨_,rfl,by show 1<=sizeLine;decide,λlt D=>?_⟩;have flt:H lt=none:=none_of s3 D
 refine⟨_,rfl,n,rfl,by omega,by omega,dE (lo:=0) (n:=n.toNat) (λi σ O=>∃(Z:List Addr) (dc:Addr) (v4 v6 v7:Option V),σ=[some (.ref x),some (.int n),some (.ref d),some (.ref dc),v4,some (.ref lt),v6,v7]/\Z.length=i + 1/\Z[i]?=some dc/\O lt=some (.lst (Z.map V.ref))/\(∀j t,Z[j]?=some t->O t=some (.dK (M0 g I r j)))/\O d=some (.frz o (.dK (bI l)))/\(∀m∈l,O m.2=some (.lst ((eP g I r m.1).map V.str)))/\a9 H O)
  ⟨[q],q,_,none,none,rfl,rfl,rfl,a6,?_,a9.upd D _ _ Tj,λm u=>a9.upd D _ _ (QC m u),s3.trans (a9.upd D)⟩ ?_ ?_⟩
 ·intro j t U
  cases j with
  |zero=>
   obtain rfl:q=t:=wah U;exact a9.upd D _ _ h3
  |succ j=>simp at U
 ·rintro i σ O hi ⟨Z,dc,v4,v6,v7,rfl,R,Vt,Tl,QD,G,KM,s4⟩;refine λdl HJ=>?_;have sd:a9 O (upd O dl (.dK [])):=a9.upd HJ;have Rm:=QD i dc Vt;have J:=iV d o (bI l);rw[M]at J;have nle:d≠dl:=ae G HJ;refine⟨_,rfl,d,_,rfl,.inr ⟨o,sd _ _ G,?_⟩⟩;refine mO J (λj σ H5=>∃v4,σ=[some (.ref x),some (.int n),some (.ref d),some (.ref dc),v4,some (.ref lt),some (.int (0 + (i:Int))),some (.ref dl)]/\H5 dl=some (.dK (pA (λp=>.int (gL g I r (i + 1) p)) (r.take j)))/\∀c v,O c=some v->H5 c=some v) ⟨_,rfl,a6,λc v e=>sd _ _ e⟩ (λj σ H5 _ ⟨_,_,_,b⟩=>b _ _ G) ?_ ?_
  ·rintro j y σ H5 hy ⟨v4,rfl,h5,b⟩;obtain⟨p,Nc,rfl,hj,Ch,nF⟩:=gi hy;obtain⟨a,ha,hv⟩:=iS (mv:=l) (k:=p) (by rw[ek];exact Ch);have e1:=dW.f (k:=(waz p:Key)) (b _ _ G);rw[hv]at e1;have Vu:=b _ _ (KM _ ha);have Tn:=b _ _ Rm;have el:=Bw g I r p;refine⟨_,rfl,_,rfl,d,_,rfl,e1,a,rfl,⟨_,aH.of Vu⟩,λlm Y8=>?_⟩;refine comp_map (Jn (gL g I r i)) (aK K a ((eP g I r p).map V.str)) Y8 (by rw[wa0];exact au (by omega)) (λH' s'=>aH.of (s' _ _ Vu)) (λz H6 Q' hz s6 qq=>?_) (λH6 s6 h6=>?_)
   ·obtain⟨t,U,rfl⟩:=waa.mp hz;have e2:=dW.k (k:=(waz t:Key)) (s6 _ _ Tn);rw[sR _ (Bx he U)]at e2;exact⟨_,rfl,_,rfl,dc,_,rfl,e2,qq H6 (a9.refl _)⟩
   ·rw[pB]at h6;refine⟨lm,_,rfl,aH.of h6,?_⟩;have Y9:=s6 _ _ h5;refine⟨_,rfl,_,rfl,dl,_,rfl,jn.k (k:=waz p) Y9 (by rw[zr,wau];exact bF (by omega)),?_⟩;refine⟨_,rfl,?_,λc v e=>by rw[aa (ae e HJ)];exact s6 _ _ (b c v e)⟩;rw[a6,cI _ (wJ _ (hV nd Nc)),nF,wK];rfl
  rintro σ H5 ⟨v4',rfl,h5,b⟩;rw[wa0,waI]at h5;have S:=b _ _ Tl;refine⟨_,rfl,.inl ⟨rfl,_,aH.of S⟩,_,rfl,lt,_,_,rfl,rfl,S,by rw[wa0];exact wba (m:=200000) (by omega) (by rw[wc2];decide),?_⟩;have Yb:∀t,H5 t=some (.dK (M0 g I r (i + 1)))->t≠lt:=λt e z=>by rw[z,S]at e;cases e
  refine⟨_,rfl,Z++[dl],dl,_,_,_,rfl,by rw[wa7,R];rfl,by rw[waF (by omega),R,wbX];rfl,by rw[a6,waj];rfl,?_,?_,?_,?_⟩
  ·intro j t U
   by_cases hj:j < Z.length
   ·rw[waE hj]at U;have e:=b _ _ (QD j t U);rw[aa (λz=>by rw[z,S]at e;cases e)];exact e
   ·have Yc:j=i + 1:=by
     have:=(wa6.mp U).1;rw[wa7,wc9]at this;omega
    subst Yc;rw[waF (by omega),R,wbX]at U;obtain rfl:dl=t:=wah U;rw[aa (Yb _ h5)];exact h5
  ·have e:=b _ _ G;rw[aa (λz=>by rw[z,S]at e;cases e)];exact e
  ·intro m u;have e:=b _ _ (KM m u)
   by_cases z:m.2=lt
   ·exfalso;have f:=QC m u;rw[z,D]at f;cases f
   ·rw[aa z];exact e
  ·exact λc v e=>by rw[aa (ae e flt)];exact b _ _ (s4 _ _ e)
 ·rintro σ O ⟨Z,dc,v4,v6,v7,rfl,R,Vt,Tl,QD,G,KM,s4⟩;exact⟨_,rfl,k lt Z O s4 flt Tl R QD⟩
theorem vE(L:Lk K mg):aN P w K mg base dm 6 L.o9 L.oa ["band","place","length"] (GI L.aC):=by
 refine L.jz.F.ee (N:=["band","place","length"]) (λG A outer s H W Q E nd u h=>?_);obtain⟨x,p,n,g,v,y,ls,rfl,B,C,e,f,i,j,k⟩:=h;have I:=fz u
 refine⟨_,(a7 (bu (jh (pv 0) L.aJ.cl L.bO.m (gG L) (u.mono (by decide)) L.bO.b .nil eO (a5 (pv 1) a8)))
  (af (az (dg I (b8 bx (aj (k4 L) L.eU (a5 (pv 0) (a5 (pv 2) a8))) (Kl Ft ai) (λ_ _=>rfl)) (pv 1) (λ_ _=>rfl))))),?_⟩
 obtain⟨⟨J,b,d,q,X,M,Y,Z,h4,h5,h6⟩,_,_,_⟩:=id B;refine⟨_,rfl,x,J,_,rfl,M,Ij _ _ _ _ (by decide+kernel) (by decide+kernel) (by decide+kernel) (by decide+kernel),_,rfl,x,p,g,v,y,ls,rfl,B,C,?_⟩;refine⟨_,rfl,_,rfl,x,n,g,v,y,ls,rfl,B,e,f,i,j,λl o O R f1 hl a S=>?_⟩;obtain⟨c,t,rfl⟩:∃l t,o=l++[t]:=⟨o.dropLast,o.getLast (by intro z;rw[z]at a;simp at a),(wd6 _).symm⟩;have T:w6 ((c++[t]).map V.ref) (-1)=some (.ref t):=by rw[waj];exact FC _ _
 have r:c.length=n.toNat:=by rw[wa7,wc9]at a;omega
 have U:=S n.toNat t (by rw[waF (by omega),r,wbX];rfl);have D:=dW.k (k:=(waz p:Key)) U;rw[sR _ C]at D;exact⟨_,rfl,l,_,-1,_,rfl,rfl,aH.of hl,T,_,rfl,t,_,rfl,D,k O R⟩
theorem HQ(L:Lk K mg):aN P w K mg base dm 7 L.Dn L.Dp ["band","length"] (Jp L.aC):=by
 refine L.yh.F.ee (N:=["band","length"]) (λi A outer s H l Q E nd m h=>?_);obtain⟨x,n,g,e,f,ls,rfl,B,a,b,c,d,k⟩:=h;refine⟨_,(af (az (aj (vE L) L.jz (a5 (pv 0) (a5 dn (a5 (pv 1) a8)))))),?_⟩;have j:("":Str)∈f:=B.pm.mem_iff.mpr (cP e);exact⟨_,rfl,_,rfl,x,"",n,g,e,f,ls,rfl,B,j,a,b,c,d,k⟩
theorem lI(L:Lk K mg):aN P w K mg base dm 1 L.tR L.tS ["thing"] GL:=by
 have T:=L.T;refine L.i7.F.ee (N:=["thing"]) (λa A outer s H c Q E nd d h=>?_);obtain⟨v,rfl,b,k⟩:=h;refine⟨_,(af (az (AI (aq cO (by rfl) T.rp gq (a5 (pv 0) (a5 (gH (v:=.ty "int") (by rfl) T.int Sb rfl) a8))) (AH (La (aq cO (by rfl) T.rp gq (a5 (pv 0) (a5 (gH (v:=.ty "bool") (by rfl) T.bool Kv rfl) a8)))))))),?_⟩
 cases b with
 |flat f=>
  cases v with
  |non=>exact⟨_,rfl,_,_,_,false,rfl,d7.non,rfl,false,rfl,bA k⟩
  |bl z=>exact⟨_,rfl,_,_,_,true,rfl,d7.bl z,rfl,true,rfl,dF ⟨_,rfl,_,_,_,true,rfl,d7.bl z,rfl,true,rfl,k⟩⟩
  |int z=>exact⟨_,rfl,_,_,_,true,rfl,d7.int z,rfl,true,rfl,dF ⟨_,rfl,_,_,_,false,rfl,d7.int z,rfl,false,rfl,k⟩⟩
  |str z=>exact⟨_,rfl,_,_,_,false,rfl,d7.str z,rfl,false,rfl,bA k⟩
  |flt z=>exact⟨_,rfl,_,_,_,false,rfl,d7.flt z,rfl,false,rfl,bA k⟩
  |ref z=>cases f
  |ty z=>cases f
  |_=>cases f
 |lst h f=>exact⟨_,rfl,_,_,_,false,rfl,d7.lst h,rfl,false,rfl,bA k⟩
 |tup h f=>exact⟨_,rfl,_,_,_,false,rfl,d7.tup h,rfl,false,rfl,bA k⟩
 |dic h=>exact⟨_,rfl,_,_,_,false,rfl,d7.dK h,rfl,false,rfl,bA k⟩
theorem Ad(L:Lk K mg):aN P w K mg base dm 1 L.tT L.tU ["band","wide"] (Eh L.aC):=by
 have T:=L.T;refine L.nc.F.ee (N:=["band","wide","rows","step"]) (λf A outer s H r Q E nd t h=>?_);obtain⟨x,n,g,u,v,ls,rfl,B,j,l,m,k⟩:=h
 refine⟨_,(a7 (ag (i:=2) ai)
  (a7 (bj waB rfl (dD rfl T.range (a5 (pv 1) a8)) (aA (i:=3)) (af (se (i:=2) nd rfl (wdi rfl) (aq cf (by rfl) T.len waO (a5 (aO (pv 0) rfl) a8)) Gw)))
  (af (az (pv 2))))),?_⟩
 obtain⟨⟨o,b,d,q,y,p,z,C,D,G,I⟩,_,_,_⟩:=id B;refine⟨_,rfl,n,rfl,by omega,by omega,dE (lo:=0) (n:=n.toNat) (λi σ a=>a=H/\∃c,σ=[some (.ref x),some (.int n),some (.int ((g.length:Int) ^ i)),c]) ⟨rfl,none,rfl⟩ ?_ ?_⟩
 ·rintro i σ a hi ⟨e,c,rfl⟩;rw[e];refine⟨_,rfl,_,rfl,x,L.aC,o,_,_,rfl,p,L.aJ.cl,L.aJ.rS,mX g b d q,g,rfl,au (by omega),_,_,rfl,rfl,.inr ⟨by omega,by omega⟩,rfl,some (.int (0 + (i:Int))),?_⟩;rw[wfj];rfl
 ·rintro σ a ⟨e,c,rfl⟩;rw[e];exact⟨_,rfl,k⟩
theorem Ci(L:Lk K mg):aN P w K mg base dm 2 L.xf L.xg ["band","many","wide"] (zt L.aC):=by
 refine L.pO.F.ee (N:=["band","many","wide"]) (λc A outer s H i Q E nd j h=>?_);obtain⟨x,many,wide,g,d,e,ls,rfl,B,a,b,k⟩:=h
 refine⟨_,(a7 (bH (PW.pt (iy (dO (cn (aj (lI L) L.i7 (a5 (pv 1) a8)))) (iy (aF m6 (pv 1) ai (aS _)) (jb (aF m7 (pv 1) ai (aS _)))))) (af (az gD)) aL)
  (a7 (bH (PW.pt (iy (dO (cn (aj (lI L) L.i7 (a5 (pv 2) a8)))) (iy (aF m6 (pv 2) ai (aS _)) (jb (aF m7 (pv 2) ai (aS _)))))) (af (az gD)) aL)
  (af (az (iz NK (aj (Ad L) L.nc (a5 (pv 0) (a5 (pv 2) a8))) ai (aS _)))))),?_⟩
 obtain⟨ha,l,hc,hd,f⟩:=id b;refine⟨_,rfl,.int many,rfl,.flat rfl,true,rfl,bA ?_⟩;refine⟨_,rfl,_,_,rfl,rfl,false,congrArg V.bl (decide_eq_false (by omega)),bA ?_⟩;refine⟨_,rfl,_,_,rfl,rfl,false,congrArg V.bl (decide_eq_false (by omega)),bA ?_⟩;refine⟨_,rfl,.int wide,rfl,.flat rfl,true,rfl,bA ?_⟩;refine⟨_,rfl,_,_,rfl,rfl,false,congrArg V.bl (decide_eq_false (by omega)),bA ?_⟩;refine⟨_,rfl,_,_,rfl,rfl,false,congrArg V.bl (decide_eq_false (by omega)),bA ?_⟩;refine⟨_,rfl,_,rfl,x,wide,g,d,e,ls,rfl,B,a,by omega,by omega,_,_,rfl,rfl,?_⟩;show Q (V.bl (decide ((g.length:Int) ^ wide.toNat<=64))) H;rw[decide_eq_true f];exact k
theorem fZ(L:Lk K mg):aN P w K mg base dm 3 L.o7 L.o8 ["band","many","wide"] (zt L.aC):=by
 refine L.dJ.F.ee (N:=["band","many","wide"]) (λc A outer s H f Q E nd i h=>?_);obtain⟨x,many,wide,g,d,e,ls,rfl,B,a,b,k⟩:=h
 refine⟨_,(a7 (bH (dO (cn (aj (Ci L) L.pO (a5 (pv 0) (a5 (pv 1) (a5 (pv 2) a8)))))) gU aL)
  (af (az gD))),?_⟩
 exact⟨_,rfl,_,rfl,_,rfl,x,many,wide,g,d,e,ls,rfl,B,a,b,true,rfl,bA k⟩
theorem F4(L:Lk K mg):aN P w K mg base dm 6 L.zU L.zV ["band","many","wide","most"] (Er L.aC):=by
 have T:=L.T;refine L.tY.F.ee (N:=["band","many","wide","most","table","rows_of_data","length"]) (λgK A outer s H vs Q E nd hr h=>?_);obtain⟨x,many,wide,most,g,m,o,ls,rfl,B,r,G,t,Vv,To,Z⟩:=h;have k1:∀k:Nat,1<=k->(k:Int)<=most->gL g m o (k * wide.toNat) "" < many ^ k->(∀j:Nat,1<=j->j < k->¬gL g m o (j * wide.toNat) "" < many ^ j)->∀f,a9 H f->Q (.int (k:Nat)) f:=λk a b c d f I=>Z _ f I (.some k a b c d);have k2:(∀j:Nat,1<=j->(j:Int)<=most->¬gL g m o (j * wide.toNat) "" < many ^ j)->∀f,a9 H f->Q .non f:=λa f I=>Z _ f I (.none a);have hu:=fz hr
 refine⟨_,(a7 (bu (aj (fZ L) L.dJ (a5 (pv 0) (a5 (pv 1) (a5 (pv 2) a8)))))
  (a7 (ag (i:=4) (aj (k4 L) L.eU (a5 (pv 0) (a5 (aE jf (pv 3) (pv 2)) a8))))
  (a7 (ag (i:=5) ai)
  (a7 (bj waB rfl (p9 rfl T.range (a5 ai (a5 (aE eN (pv 3) ai) a8))) (aA (i:=6)) (a7 (se (i:=5) nd rfl (wdi rfl) (pv 1) Gw)
  (af (bH (aF m6 (dg hu (b8 bx (pv 4) (aE jf (pv 6) (pv 2)) (λ_ _=>rfl)) dn (λ_ _=>rfl)) (pv 5) (aS _)) (af (az (pv 6))) aL))))
  (af (az da)))))),?_⟩
 have he:("":Str)∈o:=B.pm.mem_iff.mpr (cP m);obtain⟨ha,hb,hc,hd,_⟩:=id t;obtain⟨e,u⟩:∃w:Nat,wide=(w:Int):=⟨wide.toNat,by omega⟩;obtain⟨v,J⟩:∃w:Nat,most=(w:Int):=⟨most.toNat,by omega⟩;have p:most * wide=((v * e:Nat):Int):=by rw[u,J,wem]
 have bmw:v * e<=600:=by
  have q:v<=100:=by omega
  have h2:e<=6:=by omega
  exact wal (wdI q h2) (by decide)
 have ew:wide.toNat=e:=by omega
 rw[ew]at k1 k2;refine⟨_,rfl,_,rfl,_,rfl,x,many,wide,g,m,o,ls,rfl,B,r,t,?_⟩;refine⟨_,rfl,_,rfl,_,rfl,_,_,rfl,rfl,.inl ⟨by omega,by omega⟩,x,most * wide,g,m,o,ls,rfl,B,r,G,by rw[p];omega,by rw[p];omega,λl M O s1 f1 hl R ht=>?_⟩;rw[p,waG]at R;refine⟨_,rfl,_,_,rfl,rfl,1,most + 1,rfl,⟨by omega,by omega,by omega,by omega⟩,dE (lo:=1) (n:=(most + 1 - 1).toNat) (λi σ S=>S=O/\(∃v6,σ=[some (.ref x),some (.int many),some (.int wide),some (.int most),some (.ref l),some (.int (many ^ i)),v6])/\∀j:Nat,1<=j->j<=i->¬gL g m o (j * e) "" < many ^ j) ⟨rfl,⟨none,by rw[Int.pow_zero];rfl⟩,λj q h2=>by omega⟩ ?_ ?_⟩
 ·rintro i σ S hi ⟨U,⟨v6,rfl⟩,lo⟩;rw[U];have W:i + 1<=v:=by omega
  have Va:(i + 1) * e<=v * e:=wdf _ W;have y:(i + 1) * e < M.length:=by omega
  have e1:(M.map V.ref)[(i + 1) * e]?=some (.ref M[(i + 1) * e]):=by rw[wa4,wa2 y];rfl
  have C:=bQ e1;have ei:((((i + 1) * e:Nat)):Int)=(1 + (i:Int)) * wide:=by rw[u,wem,wds,Int.add_comm];rfl
  rw[ei]at C;have X:=ht _ _ (wa2 y);have e3:=dW.k (k:=(waz "":Key)) X;rw[sR _ he]at e3;refine⟨_,rfl,_,rfl,_,_,rfl,rfl,.inr ⟨by omega,by omega⟩,?_⟩;refine⟨_,rfl,_,rfl,_,rfl,_,_,rfl,rfl,.inr ⟨by omega,by omega⟩,l,_,_,_,rfl,rfl,aH.of hl,C,_,_,rfl,e3,_,rfl,_,_,rfl,rfl,_,rfl,?_⟩;refine DS (λq=>?_) (λq=>⟨rfl,⟨_,by rw[wfj];rfl⟩,λj D q2=>?_⟩)
  ·have Y:=of_decide_eq_true q;have:=k1 (i + 1) (by omega) (by omega) (by rw[wfj];exact Y) (λj D q2=>lo j D (by omega)) O s1;rw[show (((i + 1:Nat):Nat):Int)=1 + (i:Int) by omega]at this;exact⟨_,rfl,this⟩
  ·by_cases hj:j<=i
   ·exact lo j D hj
   ·obtain rfl:j=i + 1:=by omega
    rw[wfj];exact λz=>q (decide_eq_true z)
 ·rintro σ S ⟨U,⟨v6,rfl⟩,lo⟩;rw[U];exact k2 (λj D q2=>lo j D (by omega)) O s1
theorem nr(L:Lk K mg):aN P w K mg base dm 1 L.iG L.iH ["self","place"] (Sj L.aC):=by
 have T:=L.T;refine L.di.F.ee (N:=["self","place"]) (λa A outer s H l Q E nd m h=>?_);obtain⟨x,p,g,n,o,ls,rfl,B,c,k⟩:=h;obtain⟨⟨f,b,d,q,r,i,t,u,y,z,j⟩,_,_,_⟩:=B;refine⟨_,(af (bH (PW.pt (iy (dO (cn (aq cO (by rfl) T.rp gq (a5 (pv 1) (a5 (gH (v:=.ty "str") (by rfl) T.str J0 rfl) a8))))) (jb (aF jl (pv 1) (aO (pv 0) rfl) rfl)))) gU aL)),?_⟩;refine⟨_,rfl,_,_,_,true,rfl,d7.str p,rfl,true,rfl,bA ?_⟩;refine⟨_,rfl,_,rfl,x,L.aC,f,_,_,rfl,i,L.aJ.cl,L.aJ.pN,wA g b d q,q,_,rfl,.inl (aH.of j),rfl,eC _,?_⟩;have e:nJ (.str p) (ls.map V.str)=true:=by rw[iR];exact decide_eq_true c
 refine⟨false,?_,bA k⟩;show V.bl (!nJ (.str p) (ls.map V.str))=V.bl false;rw[e];rfl
theorem uB(L:Lk K mg):aN P w K mg base dm 3 L.mm L.mn ["band","rows"] (GA L.aC):=by
 refine L.iL.F.ee (N:=["band","rows","longer","word","place","sign","end"]) (λgK A outer s H vs Q E nd hr h=>?_);obtain⟨x,l,rs,u,g,v,n,ls,rfl,B,R,hq,KL,Dz,k⟩:=h
 refine⟨_,(a7 (ag (i:=2) (b7 a8))
  (a7 (bj waB rfl (aM (pv 1)) (fC rfl (aU (aA (i:=3)) (aU (aA (i:=4)) dC))) (af (bj waB rfl (xQ (aO (pv 0) rfl)) (aA (i:=5)) (a7 (ag (i:=6) (jh (pv 0) L.aJ.cl L.fN.m (rk L) (hr.mono (by decide)) L.fN.b .nil eO (a5 (pv 4) (a5 (pv 5) a8))))
  (af (bH (aF xJ (pv 6) da (aS _)) (af (bu (iP waT waZ wb7 cH (pv 2) (a5 (dP (a5 (aE mL (pv 3) (pv 5)) (a5 (pv 6) a8))) a8)))) aL))))))
  (af (az (pv 2))))),?_⟩
 refine⟨waM _,λz C=>?_⟩;have s0:a9 H (upd H z (.lst [])):=a9.upd C;refine⟨_,rfl,l,rfl,⟨_,aH.of (s0 _ _ R.l)⟩,dU (K:=K) (a:=l) (xs:=rs.map V.ref) (λi σ S=>∃(v3 v4 D v6:Option V) (f:List Addr),σ=[some (.ref x),some (.ref l),some (.ref z),v3,v4,D,v6]/\a9 H S/\cW S z f (eQ g v n (u.take i))) ⟨none,none,none,none,[],rfl,s0,⟨a6,cp.nil _⟩⟩ (λi σ S _ ⟨_,_,_,_,_,_,G,_⟩=>aH.of (G _ _ R.l)) ?_ ?_⟩
 ·rintro i y σ S I ⟨v3,v4,D,v6,f,rfl,G,R2⟩;rw[wa4]at I
  obtain⟨r,T,rfl⟩:∃r,rs[i]?=some r/\y=.ref r:=by
   cases q:rs[i]? with
   |none=>rw[q]at I;cases I
   |some r=>rw[q]at I;exact⟨r,rfl,(wah I).symm⟩
  have U:i < u.length:=by have:=(wa6.mp T).1;rw[R.len]at this;exact this
  have W:u[i]?=some u[i]:=wa2 U;obtain⟨X,Y⟩:=hq u[i] (waQ U);have hT:=R.t.2 i r (qp u[i]) T (by rw[wa4,W];rfl);have nF:u.take (i + 1)=u.take i++[u[i]]:=by rw[wb1,W];rfl
  have J:eQ g v n (u.take (i + 1))=eQ g v n (u.take i)++pC g v n u[i]:=by
   unfold eQ;rw[nF,wgw];simp
  have MF:(eQ g v n (u.take i)).length<=1000:=by
   have h1:=qo g v n (u.take i);have h2:(u.take i).length<=100:=by rw[wau];omega
   exact wal h1 (wdI h2 Dz)
  generalize u[i]=q at X Y hT J;obtain⟨w,p⟩:=q;generalize eQ g v n (u.take i)=M at R2 J MF;refine⟨r,_,rfl,ir.of (G _ _ hT),rfl,_,_,rfl,_,_,rfl,rfl,?_⟩;have B2:=B.same G;obtain⟨⟨dx,b,d,qq,mv,h1,h2,h3,h4,h5,h6⟩,pm,_,_⟩:=id B2;refine⟨_,rfl,x,L.aC,dx,_,_,rfl,h1,L.aJ.cl,L.aJ.rS,mX g b d qq,g,rfl,mO (nK g) (λj σ Z=>∃(D v6:Option V) (f:List Addr),σ=[some (.ref x),some (.ref l),some (.ref z),some (.str w),some (.str p),D,v6]/\a9 H Z/\cW Z z f (M++((ch g).take j).filterMap λc=>if bears v (p++⟨#[c]⟩)=true then none else some (w++⟨#[c]⟩,lend n (p++⟨#[c]⟩)))) ⟨_,_,f,rfl,G,by rw[wg4,List.filterMap_nil,waX];exact R2⟩ (λ_ _ _ _ _=>trivial) ?_ ?_⟩
  ·rintro j y σ Z I ⟨D,v6,f,rfl,s3,R3⟩;obtain⟨c,hci,rfl,hj,Yd,Pa⟩:=E5 I;have B3:=B.same s3;obtain⟨⟨Ye,_,_,_,_,Yg,_⟩,_⟩:=id B3;refine⟨_,rfl,x,Ye,_,rfl,Yg,Ij _ _ _ _ (by decide+kernel) (by decide+kernel) (by decide+kernel) (by decide+kernel),_,rfl,_,rfl,x,p,c,g,v,n,ls,rfl,B3,X,Yd,?_⟩
   have Tp:(M++((ch g).take j).filterMap λc=>if bears v (p++⟨#[c]⟩)=true then none else some (w++(⟨#[c]⟩:Str),lend n (p++(⟨#[c]⟩:Str)))).length<=1010:=by
    have:=wdE (λc=>if bears v (p++⟨#[c]⟩)=true then none else some (w++(⟨#[c]⟩:Str),lend n (p++(⟨#[c]⟩:Str)))) ((ch g).take j);rw[wau,aX]at this;rw[wa7];omega
   refine⟨_,rfl,rfl,_,rfl,?_⟩;rw[Pa,wg5,<-wb9];generalize (M++((ch g).take j).filterMap λc=>if bears v (p++⟨#[c]⟩)=true then none else some (w++(⟨#[c]⟩:Str),lend n (p++(⟨#[c]⟩:Str))))=M2 at R3 Tp
   cases hb:bears v (p++⟨#[c]⟩) with
   |true=>
    have e:uX v n p c=.non:=by unfold uX;rw[hb];rfl
    rw[e];refine bA ⟨_,_,f,rfl,s3,?_⟩
    have e2:([c].filterMap λc=>if bears v (p++⟨#[c]⟩)=true then none else some (w++(⟨#[c]⟩:Str),lend n (p++(⟨#[c]⟩:Str))))=[]:=by
     rw[wbk,hb];rfl
    rw[e2,waX];exact R3
   |false=>
    have e:uX v n p c=.str (lend n (p++⟨#[c]⟩)):=by unfold uX;rw[hb];rfl
    rw[e]
    have e2:([c].filterMap λc=>if bears v (p++⟨#[c]⟩)=true then none else some (w++(⟨#[c]⟩:Str),lend n (p++(⟨#[c]⟩:Str))))=[(w++⟨#[c]⟩,lend n (p++⟨#[c]⟩))]:=by
     rw[wbk,hb];rfl
    rw[e2];have Ip:=R3.len;have Yh:w.length<=100:=Y;refine dF ⟨_,rfl,.inl ⟨rfl,_,aH.of R3.l⟩,_,rfl,_,rfl,_,_,rfl,rfl,au (by show w.length + 1<=_;omega),_,rfl,by show 2<=sizeLine;decide,λr' O=>?_⟩;refine⟨z,_,_,rfl,rfl,a9.upd O _ _ R3.l,by rw[wa0,Ip];exact wba Tp (by rw[wc2];decide),?_⟩;have key:=R3.push O (w++⟨#[c]⟩,lend n (p++⟨#[c]⟩))
    have sk:a9 H (upd (upd Z r' (.tup [.str (w++⟨#[c]⟩),.str (lend n (p++⟨#[c]⟩))])) z (.lst (f.map V.ref++[.ref r']))):=λa o ea=>by
     rw[aa (ae ea C)];exact a9.upd O _ _ (s3 _ _ ea)
    unfold qp at key;generalize lend n (p++⟨#[c]⟩)=le at key sk ⊢;refine⟨some (.str ⟨#[c]⟩),some (.str le),f++[r'],?_,?_,?_⟩
    ·rfl
    ·exact sk
    ·exact key
  ·rintro σ Z ⟨D,v6,f,rfl,s3,R3⟩;refine⟨_,_,_,_,f,rfl,s3,?_⟩;have:(dQ g).length=(ch g).length:=by unfold dQ;rw[wa0]
   rw[this,waI]at R3;rw[J];exact R3
 ·rintro σ S ⟨v3,v4,D,v6,f,rfl,G,R2⟩;rw[wa0,R.len,waI]at R2;exact⟨_,rfl,k z f S G C R2⟩
theorem lJ(L:Lk K mg):aN P w K mg base dm 4 L.mq L.mr ["band","place","wide"] (GB L.aC):=by
 have T:=L.T;refine L.fV.F.ee (N:=["band","place","wide","rows","step","live"]) (λgK A outer s H vs Q E nd D h=>?_);obtain⟨x,p,n,g,c,a,ls,rfl,B,hp,o,hn,DA,R,k⟩:=h
 refine⟨_,(a7 (bu (jh (pv 0) L.aJ.cl L.di.m (nr L) (D.mono (by decide)) L.di.b .nil eO (a5 (pv 1) a8)))
  (a7 (ag (i:=3) (b7 (a5 (dP (a5 dn (a5 (pv 1) a8))) a8)))
  (a7 (bj waB rfl (dD rfl T.range (a5 (pv 2) a8)) (aA (i:=4)) (af (ag (i:=3) (aj (uB L) L.iL (a5 (pv 0) (a5 (pv 3) a8))))))
  (a7 (ag (i:=5) (gb (pv 0) L.aJ.cl L.cQ.m (jI L) (D.mono (by decide)) L.cQ.b .nil eO))
  (af (az (gk rfl (ax ["live"] [5]) (ax ["live"] [5]) (by decide) (aM (pv 3)) (λ_ _ _ _ _ _=>fT (aF (hE (K:=K) rfl) (pv 1) (pv 2) rfl)) (λ_ _ _ _ _ _=>(dP (a5 (pv 0) (a5 (pv 1) a8))))))))))),?_⟩
 have he:("":Str)∈a:=B.pm.mem_iff.mpr (cP c);have S:p∈a:=B.lv.sub.subset hp;obtain⟨⟨dx,b,d,q,mv,u,G,h3,h4,h5,h6⟩,pm,_,_⟩:=id B;refine⟨_,rfl,x,dx,_,rfl,u,Ij _ _ _ _ (by decide+kernel) (by decide+kernel) (by decide+kernel) (by decide+kernel),_,rfl,x,p,g,c,a,ls,rfl,B,hp,?_⟩;refine⟨_,rfl,by show 2<=sizeLine;decide,λf U=>⟨by show 1<=sizeLine;decide,λI v=>?_⟩⟩
 have R0:cW (upd (upd H f (.tup [.str "",.str p])) I (.lst [.ref f])) I [f] (sV g c a p 0):=by
  refine⟨a6,rfl,λi r xs u G=>?_⟩
  match i,u,G with
  |0,u,G=>
   cases u;cases G;exact a9.upd v _ _ a6
 have s0:a9 H (upd (upd H f (.tup [.str "",.str p])) I (.lst [.ref f])):=(a9.upd U).trans (a9.upd v);refine⟨_,rfl,(n:Int),rfl,by omega,by omega,?_⟩;rw[waG];refine dE (lo:=0) (n:=n) (λi σ J=>∃(l:Addr) (y:List Addr) (v4:Option V),σ=[some (.ref x),some (.str p),some (.int (n:Int)),some (.ref l),v4,none]/\a9 H J/\cW J l y (sV g c a p i)) ⟨I,[f],none,rfl,s0,R0⟩ ?_ ?_
 ·rintro i σ J hi ⟨l,y,v4,rfl,j,R2⟩;have e:(sV g c a p i).length<=100:=wal (nP g c a p i) (wal (wgi (by omega) (by omega)) o);refine⟨_,rfl,_,rfl,x,l,y,_,g,c,a,ls,rfl,B.same j,R2,λr D=>?_,e,R,λl' W H3 z f3 R3=>⟨l',W,_,rfl,j.trans z,R3⟩⟩;obtain⟨a1,a2⟩:=sW he S i r D;exact⟨a1,by omega⟩
 ·rintro σ J ⟨l,y,v4,rfl,j,R2⟩;have B2:=B.same j;obtain⟨⟨X,_,_,_,_,Y,_⟩,_⟩:=id B2;refine⟨_,rfl,x,X,_,rfl,Y,Ij _ _ _ _ (by decide+kernel) (by decide+kernel) (by decide+kernel) (by decide+kernel),x,g,c,a,ls,rfl,B2,λlv H3 z f3 Z=>?_⟩;have R3:=R2.same z;have e:(sV g c a p n).length<=100:=wal (nP g c a p n) o;have Ip:=R3.len;refine⟨_,rfl,l,rfl,⟨_,aH.of R3.l⟩,λlr C=>?_⟩;refine Em (prs:=(sV g c a p n).map nQ) (λq=>nJ q.2 (ls.map V.str)) ky (aK K l (y.map V.ref)) (by rw[D8];exact R3.t) C (au (by omega)) (λH' s'=>aH.of (s' _ _ R3.l)) (λqv M Q' hq O qq=>?_) (λqv M Q' hq _ O qq=>?_) (λys M O Yi t4=>?_)
  ·obtain⟨q',_,rfl⟩:=waa.mp hq;exact⟨_,rfl,_,rfl,lv,_,rfl,.inl (aH.of (O _ _ Z)),rfl,eC _,_,rfl,qq M (a9.refl _)⟩
  ·exact⟨_,rfl,_,rfl,by show 2<=sizeLine;decide,λr' T7=>qq r' _ (a9.upd T7) a6⟩
  ·rw[zC]at t4;exact k lr ys M ((j.trans z).trans O) (none_of (j.trans z) C) ⟨Yi,t4⟩
theorem vF(L:Lk K mg):aN P w K mg base dm 5 L.og L.oh ["band","wide"] (zD L.aC):=by
 refine L.jA.F.ee (N:=["band","wide","ends","place"]) (λgK A outer s H vs Q E nd hr h=>?_);obtain⟨x,n,g,J,M,ls,rfl,B,Iq,hn,DA,Dz,Dy,k⟩:=h;have hu:=fz hr
 refine⟨_,(a7 (ag (i:=2) dX)
  (a7 (bj waB rfl (aM (gb (pv 0) L.aJ.cl L.cQ.m (jI L) (hr.mono (by decide)) L.cQ.b .nil eO)) (aA (i:=3)) (af (dZ hu (pv 2) (pv 3) (gk rfl (ax [] []) (ax [] []) (by decide) (aM (aj (lJ L) L.fV (a5 (pv 0) (a5 (pv 3) (a5 (pv 1) a8))))) (λ_ _ _ _ _ _=>bh) (λ_ _ _ _ _ _=>(pv 1))) rfl)))
  (af (az (pv 2))))),?_⟩
 refine λu v=>?_;have Y:a9 H (upd H u (.dK [])):=a9.upd v;have B0:=B.same Y;obtain⟨⟨dx,b,d,q,mv,h1,h2,h3,h4,h5,h6⟩,pm,_,_⟩:=id B0;refine⟨_,rfl,x,dx,_,rfl,h1,Ij _ _ _ _ (by decide+kernel) (by decide+kernel) (by decide+kernel) (by decide+kernel),x,g,J,M,ls,rfl,B0,λlp Z S f1 T=>?_⟩;have QB:lp≠u:=λz=>by rw[z,a6]at f1;cases f1
 have nd:ls.Nodup:=B.nd.sublist B.lv.sub;have BR:ls.length<=900:=wal B.lv.sub.length_le Dy
 refine⟨lp,rfl,⟨_,aH.of T⟩,dU (K:=K) (a:=lp) (xs:=ls.map V.str) (λi σ H2=>∃v3 r,σ=[some (.ref x),some (.int (n:Int)),some (.ref u),v3]/\H2 u=some (.dK (bI r))/\r.map (·.1)=ls.take i/\(∀m∈r,H2 m.2=some (.lst (((aP g J M ls n m.1).map (·.2)).map V.str)))/\(∀m∈r,Z m.2=none)/\(∀c o,Z c=some o->c≠u->H2 c=some o))
  ⟨none,[],rfl,S _ _ a6,rfl,λm C=>(nomatch C),λm C=>(nomatch C),λc o e _=>e⟩ (λi σ H2 _ ⟨_,_,_,_,_,_,_,O⟩=>aH.of (O _ _ T QB)) ?_ ?_⟩
 ·rintro i y σ H5 hy ⟨v3,r,rfl,D,f,j,G,O⟩;obtain⟨p,Pk,rfl,hi,Ch,nF⟩:=gi hy;have Te:a9 H H5:=λc o e=>O _ _ (S _ _ (Y _ _ e)) (ae e v);refine⟨_,rfl,_,rfl,_,rfl,x,p,n,g,J,M,ls,rfl,B.same Te,Ch,Iq,hn,DA,Dz,λlb rs H6 s6 f6 R6=>?_⟩;have QE:=fH g J M ls n p;have Ip:=R6.len;refine⟨lb,rfl,⟨_,aH.of R6.l⟩,λe he=>?_⟩;refine mY (prs:=(aP g J M ls n p).map nQ) (λ_=>true) (λq=>q.2) (aK K lb (rs.map V.ref)) (by rw[D8];exact R6.t) he (au (by omega)) (λH' s'=>aH.of (s' _ _ R6.l)) (λq H7 Q' _ _ qq=>qq H7 (a9.refl _)) (λq H7 Q' _ _ _ qq=>⟨_,rfl,qq H7 (a9.refl _)⟩) (λH7 s7 h7=>?_)
  have e7:(((aP g J M ls n p).map nQ).filter λ_=>true).map (λq=>q.2)=((aP g J M ls n p).map (·.2)).map V.str:=by
   rw[wb5.mpr (λ_ _=>rfl),wai,wai];rfl
  rw[e7]at h7;have R:=s6.trans s7;have d6:=R _ _ D;have I:H5 e=none:=none_of s6 he;have U:p∉r.map (·.1):=by rw[f];exact hV nd Pk
  have Tf:r.length<=900:=by have:=congrArg wdl f;rw[wa0,wau]at this;omega
  refine⟨_,rfl,_,rfl,u,_,rfl,jn.k (k:=waz p) d6 (by unfold bI;rw[wa0];exact bF (by omega)),?_⟩;have W:e≠u:=λz=>by rw[z,D]at I;cases I
  have e1:Z e=none:=by
   cases q:Z e with
   |none=>rfl
   |some o=>
    have:=O _ _ q W;rw[this]at I;cases I
  refine⟨_,r++[(p,e)],rfl,?_,?_,?_,?_,?_⟩
  ·rw[a6,cI _ (jr U)];unfold bI;rw[waj];rfl
  ·rw[waj,f,nF];rfl
  ·intro m C;rcases waA.mp C with z |z
   ·have nm:m.2≠u:=λq=>by
     have:=G m z;rw[q,S _ _ a6]at this;cases this
    rw[aa nm];exact R _ _ (j m z)
   ·have:m=(p,e):=by simpa using z
    subst this;rw[aa W];exact h7
  ·intro m C;rcases waA.mp C with z |z
   ·exact G m z
   ·have:m=(p,e):=by simpa using z
    subst this;exact e1
  ·intro c o hc X;rw[aa X];exact R _ _ (O c o hc X)
 ·rintro σ H5 ⟨v3,r,rfl,D,f,j,G,O⟩;rw[wa0,waI]at f;exact⟨_,rfl,k u r H5 (λc o e=>O _ _ (S _ _ (Y _ _ e)) (ae e v)) v D f j λm C=>none_of Y (none_of S (G m C))⟩
theorem yo(L:Lk K mg):aN P w K mg base dm 1 L.qK L.qL ["places","weights"] (GC K):=by
 have T:=L.T;refine L.kF.F.ee (N:=["places","weights"]) (λj A outer s H y Q E nd n h=>?_);obtain⟨l,d,o,m,f,rfl,g,p,hd,hw,k⟩:=h;have q:=fz n;refine⟨_,(af (az (aq (kn rfl) (by rfl) T.sum Eb (a5 (cA rfl (ax ["weights"] [1]) (aM (pv 0)) (λ_ _ _ _ _ _=>bh) (λ_ _ _ _ _ _=>(dg q (pv 1) (pv 0) (λ_ _=>rfl)))) a8)))),?_⟩;refine⟨_,rfl,l,rfl,⟨_,g⟩,λr a=>?_⟩;refine comp_map (Jn f) (aK K l (o.map V.str)) a (by rw[wa0];exact au (by omega)) (λB t=>t.seq g) (λz b C u c v=>?_) (λb c i=>?_)
 ·obtain⟨e,x,rfl⟩:=waa.mp u;have g3:=dW.rd (k:=(waz e:Key)) (hd.same c);rw[dH,hw e x]at g3;exact⟨_,rfl,_,rfl,d,_,rfl,g3,v b (a9.refl _)⟩
 ·rw[pB]at i;exact⟨r,_,rfl,aH.of i,k b c⟩
theorem Cj(L:Lk K mg):aN P w K mg base dm 2 L.xh L.xi ["ends","many","weights"] Ep:=by
 have T:=L.T;refine L.pP.F.ee (N:=["ends","many","weights","lower","place"]) (λX A outer s H vs Q E nd Y h=>?_);obtain⟨z,C,many,n,o,O,f,g,r,t,ls,rfl,l,R,Z,Iq,nd,BR,Vw,Yj,D,k⟩:=h;have G:=fz Y
 refine⟨_,(a7 (ag (i:=3) dX)
  (a7 (bj waB rfl (rM (pv 0)) (aA (i:=4)) (af (dZ G (pv 3) (pv 4) (aq (vU rfl) (by rfl) T.min LZ (a5 (dg G (pv 2) (pv 4) (λ_ _=>rfl)) (a5 (aE jg (aj (yo L) L.kF (a5 (dg G (pv 0) (pv 4) (λ_ _=>rfl)) (a5 (pv 2) a8))) (pv 1)) a8))) rfl)))
  (af (az (pv 3))))),?_⟩
 refine λdl m=>?_;have S:a9 H (upd H dl (.dK [])):=a9.upd m;have J:=iV z o (bI O);rw[hF,R]at J;refine⟨_,rfl,z,_,rfl,.inr ⟨o,S _ _ l,?_⟩⟩;refine mO J (λj σ u=>∃(v4:Option V),σ=[some (.ref z),some (.int many),some (.ref C),some (.ref dl),v4]/\u dl=some (.dK (bc (bZ (kz g r t ls many n f) (ls.take j))))/\a9 H u) ⟨none,rfl,a6,S⟩ (λj σ u _ ⟨_,_,_,b⟩=>b _ _ l) ?_ ?_
 ·rintro j y σ u hy ⟨v4,rfl,B,b⟩;obtain⟨p,I,rfl,hj,v,nF⟩:=gi hy;have d:=D.same b;have g3:=dW.rd (k:=(waz p:Key)) d;rw[dH,jx f ls p v]at g3;obtain⟨a,ha,hv⟩:=iS (mv:=O) (k:=p) (by rw[R];exact v);have U:=dW.f (k:=(waz p:Key)) (b _ _ l);rw[hv]at U;have M:=b _ _ (Z _ ha);have QE:=fH g r t ls n p;refine⟨_,rfl,_,rfl,C,_,rfl,g3,_,rfl,_,rfl,z,_,rfl,U,_,rfl,a,C,(aP g r t ls n p).map (·.2),_,f,rfl,aH.of M,by rw[wa0];omega,d,λe he=>?_,λH4 W=>?_⟩
  ·obtain⟨q,hq,rfl⟩:=waa.mp he;exact jx f ls _ (cV hq)
  have eb:(((aP g r t ls n p).map (·.2)).map f).sum=gE g r t ls n f p:=by unfold gE;rw[wai];rfl
  refine⟨_,rfl,_,_,rfl,rfl,⟨by omega,by omega⟩,_,_,rfl,?_⟩;have h4:=W _ _ B;have x:p∉(bZ (kz g r t ls many n f) (ls.take j)).map (·.1):=by rw[pE];exact hV nd I
  refine⟨_,rfl,_,rfl,dl,_,rfl,jn.k (k:=waz p) h4 (by rw[iW];unfold bZ;rw[wa0,wau];exact bF (by omega)),?_⟩;refine⟨_,rfl,?_,λc oc e=>?_⟩
  ·rw[a6,pD x,eb,nF];unfold bZ;rw[waj];rfl
  ·rw[aa (ae e m)];exact W _ _ (b _ _ e)
 ·rintro σ u ⟨v4,rfl,B,b⟩;rw[wa0,waI]at B;exact⟨_,rfl,k dl u b m B⟩
theorem Ae(L:Lk K mg):aN P w K mg base dm 6 L.nh L.tX ["band","many","wide","most"] (Ju L.aC):=by
 refine L.ni.F.ee (N:=["band","many","wide","most","ends","weights","place","lower"]) (λgK A outer s H vs Q E nd hr h=>?_);obtain⟨x,many,n,most,g,v,C,ls,rfl,B,DA,W,X,Y,Vv,k⟩:=h;have hu:=fz hr;have N9:(A.deeper (wdp "greatest" (aD (top 37)) s.heap.objs.size L.nh gK)).units < wcH:=hr.xK
 refine⟨_,(a7 (bu (aj (fZ L) L.dJ (a5 (pv 0) (a5 (pv 1) (a5 (pv 2) a8)))))
  (a7 (ag (i:=4) (aj (vF L) L.jA (a5 (pv 0) (a5 (pv 2) a8))))
  (a7 (ag (i:=5) dX)
  (a7 (bj waB rfl (zB (pv 4)) (aA (i:=6)) (af (dZ hu (pv 5) (pv 6) (pv 3) rfl)))
  (af (iO waB (cn gD) (a7 (ag (i:=7) (aj (Cj L) L.pP (a5 (pv 4) (a5 (pv 1) (a5 (pv 5) a8)))))
  (a7 (bH (aF (M5 N9) (pv 7) (pv 5) (aS _)) (af (az (pv 5))) aL)
  (af (ag (i:=5) (pv 7))))))))))),?_⟩
 obtain⟨Z,rb,rc,rd,re⟩:=id Y
 have Iq:g.length ^ n<=64:=by
  rw[waG]at re;have:((g.length ^ n:Nat):Int)<=64:=by rw[wdt];exact re
  omega
 have nd:ls.Nodup:=B.nd.sublist B.lv.sub;have BR:ls.length<=900:=wal B.lv.sub.length_le X;refine⟨_,rfl,_,rfl,_,rfl,x,many,n,g,v,C,ls,rfl,B,W,Y,?_⟩;refine⟨_,rfl,_,rfl,x,n,g,v,C,ls,rfl,B,by omega,by omega,DA,W,X,λd I H1 s1 Tg h1 ek er ef=>?_⟩;have Yk:∀q∈I,q.2≠d:=λq hq z=>by have:=er q hq;rw[z,h1]at this;cases this
 refine λa b=>?_;have M:d≠a:=ae h1 b;have Vx:(upd H1 a (.dK [])) d=some (.dK (bI I)):=a9.upd b _ _ h1;refine⟨_,rfl,d,_,rfl,.inl Vx,λo H2 h2 l=>?_⟩;have O:H2 a=some (.dK []):=by rw[l a (wbc M),a6]
 have s2:a9 H H2:=λc R e=>by
  rw[l c (ae e Tg)];exact a9.upd b _ _ (s1 _ _ e)
 have S:∀m∈I,H2 m.2=some (.lst (((aP g v C ls n m.1).map (·.2)).map V.str)):=λm r=>by
  rw[l _ (Yk m r)];exact a9.upd b _ _ (er m r)
 have t:H a=none:=none_of s1 b;have J:=iV d o (bI I);rw[hF,ek]at J;refine mO J (λj σ u=>∃(v6:Option V),σ=[some (.ref x),some (.int many),some (.int (n:Int)),some (.int most),some (.ref d),some (.ref a),v6,none]/\u a=some (.dK (bc (bZ (λ_=>most) (ls.take j))))/\∀c R,H2 c=some R->c≠a->u c=some R) ⟨none,rfl,O,λc R e _=>e⟩ (λj σ u _ ⟨_,_,_,D⟩=>D _ _ h2 M) ?_ ?_
 ·rintro j y σ u hy ⟨v6,rfl,h3,D⟩;obtain⟨p,Nc,rfl,hj,Ch,nF⟩:=gi hy;have HP:p∉(bZ (λ_=>most) (ls.take j)).map (·.1):=by rw[pE];exact hV nd Nc
  refine⟨_,rfl,_,rfl,_,rfl,a,_,rfl,jn.k (k:=waz p) h3 (by rw[iW];unfold bZ;rw[wa0,wau];exact bF (by omega)),?_⟩;refine⟨_,rfl,?_,λc R e hc=>by rw[aa hc];exact D c R e hc⟩;rw[a6,pD HP,nF];unfold bZ;rw[waj];rfl
 rintro σ u ⟨v6,rfl,h3,D⟩;rw[wa0,waI]at h3;have Tj:=D _ _ h2 M;have s3:a9 H u:=λc R e=>D _ _ (s2 _ _ e) (ae e t);have MG:∀m∈I,m.2≠a:=λm r z=>by have:=S m r;rw[z,O]at this;cases this
 have QC:∀m∈I,u m.2=some (.lst (((aP g v C ls n m.1).map (·.2)).map V.str)):=λm r=>D _ _ (S m r) (MG m r);clear D h2 O S er h1 l Vx J b
 refine⟨λq σ H4=>∃(a:Addr) (f:Str->Int) (v6 v7:Option V),q=(ls.map λp=>(f p).toNat).sum/\σ=[some (.ref x),some (.int many),some (.int (n:Int)),some (.int most),some (.ref d),some (.ref a),v6,v7]/\a9 u H4/\H a=none/\H4 a=some (.dK (bc (bZ f ls)))/\(∀p∈ls,0<=f p)/\(∀p∈ls,f p<=most)/\(∀h:Str->Int,(∀p∈ls,h p<=most)->Fc g v C ls many n h->∀p∈ls,h p<=f p),
  ⟨_,a,λ_=>most,v6,none,rfl,rfl,a9.refl _,t,h3,λ_ _=>Vv,λ_ _=>wdm _,λh hh _ p hp=>hh p hp⟩,?_⟩
 rintro q σ H4 ⟨a,f,v6,v7,rfl,rfl,s4,t,h4,T,Vy,Vz⟩;refine⟨true,rfl,dF ?_⟩;refine⟨λσ' H'=>∃(dl:Addr) (v6 v7:Option V),σ'=[some (.ref x),some (.int many),some (.int (n:Int)),some (.int most),some (.ref d),some (.ref dl),v6,v7]/\a9 u H'/\H dl=none/\H' dl=some (.dK (bc (bZ (kz g v C ls many n f) ls)))/\¬∀p∈ls,kz g v C ls many n f p=f p,?_,?_⟩
 ·rintro σ' H' ⟨dl,v6,v7,rfl,s',U,h',z9⟩;exact⟨_,M7 Z T z9,dl,_,_,_,rfl,rfl,s',U,h',GH Z T,λp hp=>wd4 (GF many n f p) (Vy p hp),λh hh G=>Eo Z G (Vz h hh G)⟩
 ·refine⟨_,rfl,_,rfl,_,rfl,d,a,many,n,o,I,f,g,v,C,ls,rfl,s4 _ _ Tj,ek,λm r=>s4 _ _ (QC m r),by omega,nd,BR,Z,rb,.inl h4,λdl H5 s5 U h5=>?_⟩;have VA:=s5 _ _ h4;refine⟨_,rfl,_,rfl,dl,a,_,_,rfl,rfl,.inl h5,.inl VA,sX _,sX _,_,rfl,?_⟩;refine DS (λhe=>?_) (λhe=>?_)
  ·have e:=Kx.mp he;exact⟨_,rfl,k a f H5 ((s3.trans s4).trans s5) t VA ⟨T,Vy,Jt Z e,Vz⟩⟩
  ·exact⟨_,rfl,dl,_,_,rfl,s4.trans s5,none_of s3 (none_of s4 U),h5,λe=>he (Kx.mpr e)⟩
theorem lK(L:Lk K mg):aN P w K mg base dm 5 L.mw L.mx ["band","many","wide","weights"] (JD K L.aC L.aw):=by
 refine L.fW.F.ee (N:=["band","many","wide","weights","homes","lines","place","blocks"]) (λgK A outer s H vs Q E nd hr h=>?_);obtain⟨x,d,many,n,m,f,g,u,C,ls,rfl,B,DA,Dz,Dy,HR,hd,hw,k⟩:=h;have hu:=fz hr
 refine⟨_,(a7 (bu (aj (fZ L) L.dJ (a5 (pv 0) (a5 (pv 1) (a5 (pv 2) a8)))))
  (a7 (ag (i:=4) (cA rfl (ax ["weights"] [3]) (aM (gb (pv 0) L.aJ.cl L.cQ.m (jI L) (hr.mono (by decide)) L.cQ.b .nil eO)) (λ_ _ _ _ _ _=>fT (aF m7 (dg hu (pv 1) (pv 0) (λ_ _=>rfl)) ai (aS _))) (λ_ _ _ _ _ _=>(pv 0))))
  (a7 (ag (i:=5) (b7 a8))
  (a7 (bj waB rfl (aM (pv 4)) (aA (i:=6)) (a7 (ag (i:=7) (aj (lJ L) L.fV (a5 (pv 0) (a5 (pv 6) (a5 (pv 2) a8)))))
  (af (bu (iP waT waZ wb7 cH (pv 5) (a5 (gk rfl (ax ["homes"] [4]) (ax ["homes"] [4]) (by decide) (aM (pv 7)) (λ_ _ _ _ _ _=>fT (aF (hE (K:=K) rfl) (pv 1) (pv 2) rfl)) (λ_ _ _ _ _ _=>(dP (a5 (pv 0) (a5 (GK (K:=K) rfl waT wcK wfo (Es (K:=K) rfl) (pv 2) (a5 (pv 1) a8)) a8))))) a8))))))
  (af (az (nG L.oM (fo L) (hr.mono (by decide)) rfl L.rT L.cM.b .nil eO (a5 (pv 4) (a5 (cA rfl (ax ["weights"] [3]) (aM (pv 4)) (λ_ _ _ _ _ _=>bh) (λ_ _ _ _ _ _=>(dg hu (pv 1) (pv 0) (λ_ _=>rfl)))) (a5 (pv 5) a8)))))))))),?_⟩
 obtain⟨ra,rb,rc,rd,re⟩:=id HR
 have Iq:g.length ^ n<=64:=by
  rw[waG]at re;have:((g.length ^ n:Nat):Int)<=64:=by rw[wdt];exact re
  omega
 have BR:ls.length<=900:=wal B.lv.sub.length_le Dy;refine⟨_,rfl,_,rfl,_,rfl,x,many,n,g,u,C,ls,rfl,B,Dz,HR,?_⟩;obtain⟨⟨dx,b,d0,q,mv,h1,h2,h3,h4,h5,h6⟩,pm,_,_⟩:=id B;refine⟨_,rfl,x,dx,_,rfl,h1,Ij _ _ _ _ (by decide+kernel) (by decide+kernel) (by decide+kernel) (by decide+kernel),x,g,u,C,ls,rfl,B,λlv H1 s1 f1 hv=>?_⟩;refine⟨lv,rfl,⟨_,aH.of hv⟩,λT N8=>?_⟩;refine d8 (λv=>match v with |.str p=>decide (0 < f p) |_=>false) (λv=>v) (aK K lv (ls.map V.str)) N8 (by rw[wa0];exact au (by omega)) (λH' s'=>aH.of (s' _ _ hv)) (λz M Q' hz s2 Y=>?_) (λz M Q' hz _ s2 Y=>⟨_,rfl,Y M (a9.refl _)⟩) (λM s2 hh=>?_)
 ·obtain⟨p,hp,rfl⟩:=waa.mp hz;have g3:=dW.rd (k:=(waz p:Key)) (hd.same (s1.trans s2));rw[dH,hw p hp]at g3;have q2:Q' (decide (0 < f p)) M:=Y M (a9.refl _);exact⟨_,rfl,_,rfl,d,_,rfl,g3,_,_,rfl,rfl,_,rfl,q2⟩
 have Yl:((ls.map V.str).filter (λv=>match v with |.str p=>decide (0 < f p) |_=>false)).map (λv=>v)=(ak ls f).map V.str:=by
  rw[wdF,wel];rfl
 rw[Yl]at hh;have VB:(ak ls f).length<=900:=wal (wbi _ _) BR;have Pm:∀p∈ak ls f,p∈ls:=λp hp=>(waC.mp hp).1;have Nf:=s1.trans s2;refine⟨waM _,λD G=>?_⟩;have sb:a9 M (upd M D (.lst [])):=a9.upd G;have Z:(upd M D (.lst [])) D=some (.lst []):=a6;generalize upd M D (.lst [])=Hb at sb Z;have Ym:T≠D:=ae hh G
 refine⟨_,rfl,T,rfl,⟨_,aH.of (sb _ _ hh)⟩,dU (K:=K) (a:=T) (xs:=(ak ls f).map V.str) (λj σ H3=>∃(v6 v7:Option V) (as:List V),σ=[some (.ref x),some (.int many),some (.int (n:Int)),some (.ref d),some (.ref T),some (.ref D),v6,v7]/\H3 D=some (.lst as)/\(∀c o,Hb c=some o->c≠D->H3 c=some o)/\b6 K (aG Hb H3) (((ak ls f).take j).map λp=>bW (fJ g u C ls n (ak ls f) p)) as)
  ⟨none,none,[],rfl,Z,λc o e _=>e,rfl⟩ (λj σ H3 _ ⟨_,_,_,_,_,kk,_⟩=>aH.of (kk _ _ (sb _ _ hh) Ym)) ?_ ?_⟩
 ·rintro j y σ H3 hy ⟨v6,v7,as,rfl,Tq,kk,hR⟩;obtain⟨p,Nc,rfl,hj,Ch,nF⟩:=gi hy;have O:a9 M H3:=λc o e=>kk _ _ (sb _ _ e) (ae e G);have B3:=B.same (Nf.trans O);refine⟨_,rfl,_,rfl,_,rfl,x,p,n,g,u,C,ls,rfl,B3,Pm p Ch,by omega,by omega,DA,Dz,λlb rb U I f4 R4=>?_⟩;have J:=I _ _ Tq;have QE:=fH g u C ls n p
  have V1:as.length=j:=by
   rw[hR.len,wa0,wau];omega
  refine⟨_,rfl,.inl ⟨rfl,_,aH.of J⟩,_,rfl,lb,rfl,⟨_,aH.of R4.l⟩,λlc K0=>?_⟩;have R:U T=some (.lst ((ak ls f).map V.str)):=I _ _ (O _ _ hh);refine lR (prs:=(aP g u C ls n p).map nQ) (λq=>nJ q.2 ((ak ls f).map V.str)) (λq=>.tup [.at q.1,.at (.int (match q.2 with |.str e=>((ak ls f).idxOf e:Nat) |_=>0))]) (aK K lb (rb.map V.ref)) (by rw[wa0,wa0,R4.len]) (λi q W=>?_) K0 (by rw[wa0,R4.len];exact au (by omega)) (λH' s'=>aH.of (s' _ _ R4.l)) (λq S Q' W X Y=>?_) (λq S Q' W QF X Y=>?_) (λS X r5=>?_)
  ·have hi:i < rb.length:=by have:=(wa6.mp W).1;rw[wa0,<-R4.len]at this;exact this
   rw[wa4]at W
   cases e:(aP g u C ls n p)[i]? with
   |none=>rw[e]at W;cases W
   |some z=>
    rw[e]at W;cases W;refine⟨rb[i],by rw[wa4,wa2 hi];rfl,ir.of (R4.t.2 i rb[i] (qp z) (wa2 hi) (by rw[wa4,e];rfl))⟩
  ·obtain⟨z,hz,rfl⟩:=waa.mp W;exact⟨_,rfl,_,rfl,T,_,rfl,.inl (aH.of (X _ _ R)),rfl,eC _,_,rfl,Y S (a9.refl _)⟩
  ·obtain⟨z,hz,rfl⟩:=waa.mp W
   have hm:z.2∈ak ls f:=by
    have:nJ (.str z.2) ((ak ls f).map V.str)=true:=QF;rw[iR]at this;exact of_decide_eq_true this
   obtain⟨i1,i2⟩:=pH hm;refine⟨_,rfl,_,rfl,.inl ⟨rfl,_,aH.of (X _ _ R)⟩,_,rfl,T,ak ls f,z.2,(ak ls f).idxOf z.2,rfl,rfl,aH.of (X _ _ R),by omega,i1,i2,by show 2<=sizeLine;decide,λr hr=>?_⟩;exact Y _ _ (a9.upd hr) (nV hr (z.1,(ak ls f).idxOf z.2))
  have el:((((aP g u C ls n p).map nQ).filter λq=>nJ q.2 ((ak ls f).map V.str)).map λq=>jN.tup [.at q.1,.at (.int (match q.2 with |.str e=>((ak ls f).idxOf e:Nat) |_=>0))])=(fJ g u C ls n (ak ls f) p).map jO:=by
   unfold fJ;rw[wel,wai,wai]
   have ep:((λq:V×V=>nJ q.2 ((ak ls f).map V.str)) ∘ nQ)=λq:Str×Str=>decide (q.2∈ak ls f):=by
    funext q;exact iR q.2 _
   rw[ep];rfl
  rw[el]at r5;refine⟨D,_,_,rfl,rfl,X _ _ J,by rw[V1];exact wba (show j<=900 by omega) (by rw[wc2];decide),?_⟩;have VC:=I.trans X;have VD:=X _ _ J;have kp:∀c o,S c=some o->c≠D->(upd S D (.lst (as++[.ref lc]))) c=some o:=λc o e hc=>by rw[aa hc];exact e
  refine⟨_,_,as++[.ref lc],rfl,a6,λc o e hc=>kp _ _ (VC _ _ (kk c o e hc)) hc,?_⟩;rw[nF,waj];refine gW (b6.same ((hZ VC).trans (bD Z kp)) _ _ hR) ?_
  have old:a9 (aG U S) (aG Hb S):=λc o e=>by
   unfold aG at e ⊢
   cases q:Hb c with
   |none=>
    cases q2:U c with
    |none=>rw[q2]at e;exact e
    |some z=>rw[q2]at e;cases e
   |some z=>
    by_cases hc:c=D
    ·rw[hc,J]at e;cases e
    ·rw[I _ _ (kk _ _ q hc)]at e;cases e
  exact bC.same (old.trans (bD Z kp)) _ _ r5
 ·rintro σ H3 ⟨v6,v7,as,rfl,Tq,kk,hR⟩;rw[wa0,waI]at hR;have O:a9 M H3:=λc o e=>kk _ _ (sb _ _ e) (ae e G);have Cd:=Nf.trans O;have Tr:=O _ _ hh;refine⟨_,rfl,_,rfl,T,rfl,⟨_,aH.of Tr⟩,λlw MB=>?_⟩;refine comp_map (Jn f) (aK K T ((ak ls f).map V.str)) MB (by rw[wa0];exact au (by omega)) (λH' s'=>aH.of (s' _ _ Tr)) (λz U Q' hz I Y=>?_) (λU I P8=>?_)
  ·obtain⟨p,hp,rfl⟩:=waa.mp hz;have g3:=dW.rd (k:=(waz p:Key)) (hd.same (Cd.trans I));rw[dH,hw p (Pm p hp)]at g3;exact⟨_,rfl,_,rfl,d,_,rfl,g3,Y U (a9.refl _)⟩
  rw[pB]at P8;have J:=I _ _ Tq;have Yn:=I _ _ Tr;refine⟨_,rfl,λy dy ny SW XX=>?_⟩;have sm:a9 U (upd (upd U dy (.own y)) y (.ins L.aw dy [])):=fE ny SW;refine⟨y,dy,.ref T,.ref lw,.ref D,ak ls f,(ak ls f).map f,bE g u C ls n (ak ls f),rfl,a6,nU (sm _ _ Yn),iX (sm _ _ P8),?_,by omega,by rw[wa0];omega,by unfold bE;rw[wa0];omega,?_,λa' b' c' S Ts r1 r2 r3 Yo=>⟨rfl,?_⟩⟩
  ·have Yp:b6 K U ((ak ls f).map λp=>bW (fJ g u C ls n (ak ls f) p)) as:=b6.same ((cm _ _).trans I) _ _ hR;refine⟨D,as,rfl,.inl (sm _ _ J),?_⟩
   have e:(bE g u C ls n (ak ls f)).map bW=(ak ls f).map λp=>bW (fJ g u C ls n (ak ls f) p):=by
    unfold bE;rw[wai];rfl
   rw[e];exact b6.same sm _ _ Yp
  ·intro l hl;obtain⟨p,_,rfl⟩:=waa.mp hl;have:=BK g u C ls n (ak ls f) p;omega
  ·have X:a9 U S:=λc o e=>Yo _ _ (sm _ _ e) (ae e ny);refine k y S (Cd.trans (I.trans X)) ?_;have SZ:H y=none:=none_of (Cd.trans I) ny;have nw:=λ(d:jN) (v:V) (r:bC K (aG _ S) d v)=>bC.same (dI ((Cd.trans I).trans sm)) d v r;exact⟨dy,a',b',c',bN SZ Ts,nw _ _ r1,nw _ _ r2,nw _ _ r3⟩
theorem yp(L:Lk K mg):aN P w K mg base dm 1 L.qM L.qN ["sheet"] (Mt K L.aw):=by
 have T:=L.T;refine L.kP.F.ee (N:=["sheet","heaviest","desk","line","number","step"]) (λgK A outer s H vs Q E nd hr h=>?_);obtain⟨x,hs,g,b,rfl,S,Bi,he,z9,hex,k⟩:=h
 refine⟨_,(a7 (ag (i:=1) (aq (Ei rfl) (by rfl) T.max Gu (a5 (aO (pv 0) rfl) a8)))
  (a7 (bj waB rfl (lM (by rfl) T.enum (a5 (aO (pv 0) rfl) a8)) (fC rfl (aU (aA (i:=2)) (aU (aA (i:=3)) dC))) (af (bj waB rfl (lM (by rfl) T.enum (a5 (pv 3) a8)) (fC rfl (aU (aA (i:=4)) (aU (aA (i:=5)) dC))) (af (bH (PW.pt (L8 (aF qg (b8 bx (aO (pv 0) rfl) (pv 2) (λ_ _=>rfl)) (pv 1) (aS _)) (Iz (aF m6 (b8 bx (aO (pv 0) rfl) (b8 gp (pv 5) ai (λ_ _=>rfl)) (λ_ _=>rfl)) (pv 1) (aS _))))) (af (az (dP (a5 (pv 2) (a5 (pv 4) a8))))) aL)))))
  (af (az da)))),?_⟩
 obtain⟨dx,ah,C,cl,hx,rh,Io,rl⟩:=id S;obtain⟨V0,eb,hb⟩:=i3 Io;cases eb;obtain⟨OW,xs,ec,hc,U⟩:=id rl;cases ec;have xl:xs.length=b.length:=by rw[U.len,wa0]
 refine⟨_,rfl,x,L.aw,dx,_,_,rfl,hx,L.av.cl,L.av.cL,ck ah C cl,C,g,rfl,hb,z9,λM hM hT=>?_⟩;have W:∀n:Nat,n < g.length->w6 (g.map V.int) (n:Int)=some (.int (g.getD n 0)):=λn hn=>bQ (by rw[wa4,wa2 hn,wa5,wa2 hn];rfl);refine⟨_,rfl,x,L.aw,dx,_,_,rfl,hx,L.av.cl,L.av.cB,bJ ah C cl,cl,xs,rfl,.inl hc,kj (K:=K) (a:=cl) (xs:=xs) (λi σ X=>a9 H X/\(∃v2 v3 v4 R,σ=[some (.ref x),some (.int M),v2,v3,v4,R])/\∀d f c q,Down g b M d f c q->i<=d) ⟨a9.refl _,⟨none,none,none,none,rfl⟩,λ_ _ _ _ _=>waM _⟩ (λi σ X _ p=>p.1.seq (.inl hc)) ?_ (λσ X p=>?_)⟩
 ·rintro d y σ X T hy ⟨s2,⟨v2,v3,v4,R,rfl⟩,G⟩ Yq;have hd:d < xs.length:=(wa6.mp hy).1;have HJ:d < b.length:=by omega
  have Y:b[d]?=some (b.getD d []):=by rw[wa5,wa2 HJ];rfl
  obtain⟨v,Z,rd⟩:=U.at (i:=d) (d:=bW (b.getD d [])) (by rw[wa4,Y];rfl);rw[hy]at Z;cases Z;obtain⟨a,B,rfl,hS,Pn⟩:=eF rd;have Vn:B.length=(b.getD d []).length:=by rw[Pn.1,wa0,wa0]
  have T6:∀q∈b.getD d [],q.2 < g.length:=he _ (wak Y);have s3:=s2.trans (a9.upd (o:=.tup [.int (d:Nat),.ref a]) Yq);refine⟨T,_,rfl,ir.of a6,rfl,_,_,rfl,_,_,rfl,rfl,?_⟩;generalize upd X T (.tup [.int (d:Nat),.ref a])=H3 at s3;refine⟨_,rfl,a,_,rfl,s3.seq hS,kj (K:=K) (a:=a) (xs:=B.map V.ref) (λi σ H4=>a9 H H4/\(∃v4 R,σ=[some (.ref x),some (.int M),some (.int (d:Int)),some (.ref a),v4,R])/\∀f c q,Down g b M d f c q->i<=f) ⟨s3,⟨_,_,rfl⟩,λ_ _ _ _=>waM _⟩ (λi σ H4 _ p=>p.1.seq hS) ?_ (λσ H4 p=>?_)⟩
  ·rintro i y σ H4 T2 I ⟨s4,⟨v4,R,rfl⟩,j⟩ Yr;have hi:i < B.length:=by have:=(wa6.mp I).1;rwa[wa0]at this
   have J:i < (b.getD d []).length:=by omega
   rw[wa4,wa2 hi]at I;cases I;have P9:H B[i]=some (.tup [.str (b.getD d [])[i].1,.int ((b.getD d [])[i].2:Int)]):=Pn.2 i B[i] (ky (eD (b.getD d [])[i])) (wa2 hi) (by rw[wa4,wa4,wa2 J];rfl);have O:(b.getD d [])[i]?=some (b.getD d [])[i]:=wa2 J;have KL:=T6 _ (waQ J);generalize (b.getD d [])[i]=q at P9 O KL;have m:=s4.trans (a9.upd (o:=.tup [.int (i:Nat),.ref B[i]]) Yr);refine⟨T2,_,rfl,ir.of a6,rfl,_,_,rfl,_,_,rfl,rfl,?_⟩;generalize upd H4 T2 (.tup [.int (i:Nat),.ref B[i]])=H5 at m
   have VE:(¬∃c q,Down g b M d i c q)->∀f c q,Down g b M d f c q->i + 1<=f:=λhn f c q hD=>by
    have:=j f c q hD
    by_cases e:f=i
    ·subst e;exact absurd ⟨c,q,hD⟩ hn
    ·omega
   refine⟨_,rfl,x,L.aw,dx,_,_,rfl,m _ _ hx,L.av.cl,L.av.cL,ck ah C cl,_,rfl,C,_,_,_,rfl,rfl,m.seq hb,W d (by omega),_,rfl,?_⟩
   by_cases r:g.getD d 0=M
   ·refine⟨rfl,true,congrArg V.bl (decide_eq_true (by rw[r])),dF ?_⟩;refine⟨_,rfl,x,L.aw,dx,_,_,rfl,m _ _ hx,L.av.cl,L.av.cL,ck ah C cl,_,rfl,B[i],_,_,_,rfl,rfl,ir.of (m _ _ P9),rfl,C,_,_,_,rfl,rfl,m.seq hb,W q.2 KL,_,rfl,_,_,rfl,rfl,?_⟩
    by_cases u:g.getD q.2 0 < M
    ·refine⟨true,congrArg V.bl (decide_eq_true u),dF ?_⟩;refine⟨_,rfl,_,rfl,by show 2<=sizeLine;decide,λt ht=>?_⟩;exact k t M d i _ q _ (m.trans (a9.upd ht)) a6 ⟨hM,hT,Y,O,r,u⟩
    ·refine⟨false,congrArg V.bl (decide_eq_false u),bA ?_⟩;refine⟨m,⟨_,_,rfl⟩,VE ?_⟩;rintro⟨c,q',D⟩;have e1:=D.l;rw[Y]at e1;cases e1;have e2:=D.s;rw[O]at e2;cases e2;exact u D.lt
   ·refine⟨rfl,false,congrArg V.bl (decide_eq_false λz=>r (V.int.inj z)),bA ?_⟩;refine bA ⟨m,⟨_,_,rfl⟩,VE ?_⟩;rintro⟨c,q',D⟩;exact r D.e
  ·obtain⟨s4,⟨v4,R,rfl⟩,j⟩:=p;refine⟨s4,⟨_,_,_,_,rfl⟩,λd' f c q D=>?_⟩;have:=G d' f c q D
   by_cases e:d'=d
   ·subst e;have:=j f c q D;have e1:=D.l;rw[Y]at e1;cases e1;have:=(wa6.mp D.s).1;rw[wa0]at *;omega
   ·omega
 ·obtain⟨s2,_,G⟩:=p;obtain⟨d,i,c,q,D⟩:=hex M hM hT;have:=G d i c q D;have:=(wa6.mp D.l).1;omega
theorem F5(L:Lk K mg):aN P w K mg base dm 1 L.zW L.zX ["weights","numbers","many"] (OT K):=by
 have T:=L.T;refine L.tZ.F.ee (N:=["weights","numbers","many","taken_at","total","taken","number"]) (λgK A outer s H vs Q E nd hr h=>?_);obtain⟨a,b,many,wl,d,rfl,hA,I,m1,m2,J,M,k⟩:=h;have O:=fz hr
 refine⟨_,(a7 (ag (i:=3) (CL (z0 ai ai CK) rfl rfl (by simp) (by decide)))
  (a7 (ag (i:=4) ai)
  (a7 (bj waB rfl (Hc (by rfl) T.enum (a5 (pv 1) a8)) (fC rfl (aU (aA (i:=5)) (aU (aA (i:=6)) dC))) (a7 (se (i:=4) nd rfl (wdi rfl) (b8 bx (pv 0) (pv 6) (λ_ _=>rfl)) Fs)
  (a7 (bH (AG (Lp O (aE cu (pv 4) (pv 2)) (pv 3))) (af (az (cG fS (pv 1) (cy (dg O (pv 3) (aE cu (pv 4) (pv 2)) (λ_ _=>rfl))) (cy (pv 5))))) aL)
  (af (dZ O (pv 3) (aE cu (pv 4) (pv 2)) (pv 5) rfl)))))
  (af (az (b7 a8)))))),?_⟩
 have l:(0:Int) < many:=by omega
 refine λg m=>⟨a6,[((wbg 0:Key),V.int 0)],rfl,by decide,?_⟩;have R:a9 H (upd (upd H g (.dK [])) g (.dK (jo [] [((wbg 0:Key),V.int 0)]))):=λc o e=>by rw[aa (ae e m),aa (ae e m)];exact e
 have X:(upd (upd H g (.dK [])) g (.dK (jo [] [((wbg 0:Key),V.int 0)]))) g=some (.dK (dR many (jy wl d) 1)):=by
  rw[a6];refine congrArg (λz=>some (HO.dK z)) ?_;show [((wbg 0:Key),V.int 0)]=[((wbg (0 % many):Key),V.int 0)];rw[Int.zero_emod]
 generalize upd (upd H g (.dK [])) g (.dK (jo [] [((wbg 0:Key),V.int 0)]))=H0 at R X;refine⟨_,rfl,b,_,rfl,R.seq I,Ez (K:=K) (a:=b) (xs:=(nI d).map V.int) (λj σ q=>a9 H q/\(∃S v6,σ=[some (.ref a),some (.ref b),some (.int many),some (.ref g),some (.int (jy wl d j)),S,v6])/\q g=some (.dK (dR many (jy wl d) (j + 1)))/\∀i k,i < k->k<=j->jy wl d i % many≠jy wl d k % many) ⟨R,⟨none,none,rfl⟩,X,λi k Y C=>by omega⟩ (λi σ q _ p=>p.1.seq I) ?_ (λσ q p=>?_)⟩
 ·rintro j y σ q T U ⟨Z,⟨S,v6,rfl⟩,C,f⟩ hT;have hj:j < d.length:=by have:=(wa6.mp U).1;rwa[wa0,cK]at this
  have r:d[j]?=some d[j]:=wa2 hj;rw[C4 r]at U;cases U;have t:=M _ (waQ hj);have x:=EG (wl:=wl) r;generalize d[j]=n at r t x;have u:=Z.trans (a9.upd (o:=.tup [.int ((j + 1:Nat):Int),.int (n:Int)]) hT);have D:(upd q T (.tup [.int ((j + 1:Nat):Int),.int (n:Int)])) g=some (.dK (dR many (jy wl d) (j + 1))):=a9.upd hT _ _ C;refine⟨T,_,rfl,ir.of a6,rfl,_,_,rfl,_,_,rfl,rfl,?_⟩;generalize upd q T (.tup [.int ((j + 1:Nat):Int),.int (n:Int)])=H3 at u D;refine⟨_,rfl,_,rfl,_,rfl,a,_,_,_,rfl,rfl,u.seq hA,bQ (v:=.int (wl.getD n 0)) (by rw[wa4,wa2 t,wa5,wa2 t];rfl),_,_,rfl,rfl,?_⟩;dsimp only;rw[<-x];refine⟨_,rfl,_,rfl,_,_,rfl,rfl,l,_,rfl,g,_,rfl,dW.k (k:=(wbg (jy wl d (j + 1) % many):Key)) D,?_⟩;rcases Hn many (jy wl d) (j + 1) (jy wl d (j + 1) % many) with⟨G,B⟩ |⟨i,hi,W,G⟩
  ·rw[G];refine⟨false,rfl,bA ?_⟩;refine⟨_,rfl,_,rfl,_,rfl,_,rfl,_,_,rfl,rfl,l,g,_,rfl,jn.k (k:=wbg (jy wl d (j + 1) % many)) D (by rw[Mx];exact bF (by omega)),?_⟩;rw[Mw G];refine⟨λc o e=>by rw[aa (ae e m)];exact u _ _ e,⟨_,_,rfl⟩,a6,λi k Y C=>?_⟩
   by_cases e:k=j + 1
   ·subst e;exact B i (by omega)
   ·exact f i k Y (by omega)
  ·have hg:=dW.k (k:=(wbg (jy wl d (j + 1) % many):Key)) D;rw[G]at hg ⊢;refine⟨true,rfl,dF ?_⟩;refine⟨_,rfl,_,rfl,_,rfl,_,rfl,_,_,rfl,rfl,l,g,_,rfl,hg,_,rfl,_,rfl,_,rfl,b,_,rfl,u.seq I,λp hp=>?_⟩;rw[Ho _ (by omega) (by rw[cK];omega),Dh,JQ];exact k p i (j + 1) _ (u.trans (a9.upd hp)) (none_of u hp) (by omega) (by omega) (Hm (by omega) W) a6
 ·obtain⟨Z,⟨S,v6,rfl⟩,C,f⟩:=p;rw[wa0,cK]at f;exact absurd (C6 l J f) id
theorem vG(L:Lk K mg):aN P w K mg base dm 2 L.oA L.oB ["sheet","many"] (Mu K L.aw):=by
 have T:=L.T;refine L.jD.F.ee (N:=["sheet","many","found","desk","weights","others","numbers"]) (λgK A outer s H vs Q E nd hr h=>?_);obtain⟨x,many,hs,c,u,rfl,S,B,hK,z9,hn,hm,m1,m2,k⟩:=h
 refine⟨_,(a7 (ag (i:=2) (aj (yp L) L.kP (a5 (pv 0) a8)))
  (a7 (ag (i:=3) (b8 gp (pv 2) ai (λ_ _=>rfl)))
  (a7 (ag (i:=4) (gk rfl (ax ["sheet"] [0]) (ax ["sheet"] [0]) (by decide) (aM (b8 bx (aO (pv 0) rfl) (pv 3) (λ_ _=>rfl))) (λ_ _ _ _ _ _=>bh) (λ_ _ _ _ _ _=>(b8 (gf (K:=K) rfl) (lO (K:=K) rfl (pv 2) rfl) (pv 1) (λ_ _=>rfl)))))
  (a7 (eu (i:=5) rfl (ax ["found"] [2]) nd rfl rfl (dD rfl T.range (a5 (aq bg (by rfl) T.len waO (a5 (pv 4) a8)) a8)) (λ_ _ _ _ _ _=>fT (aF NI (pv 0) (b8 (JS (K:=K) rfl) (pv 1) ai (λ_ _=>rfl)) (aS _))) (λ_ _ _ _ _ _=>(pv 0)))
  (a7 (ag (i:=6) (aj (F5 L) L.tZ (a5 (pv 4) (a5 (aE jm (b7 (a5 (b8 gp (pv 2) ai (λ_ _=>rfl)) a8)) (cG fS (pv 5) gJ (cy (aE si (pv 1) ai)))) (a5 (pv 1) a8)))))
  (af (az (dP (a5 (pv 3) (a5 (pv 6) (a5 (aE jg (aq (kn rfl) (by rfl) T.sum Eb (a5 (cA rfl (ax ["weights"] [4]) (aM (pv 6)) (λ_ _ _ _ _ _=>bh) (λ_ _ _ _ _ _=>(b8 (gf (K:=K) rfl) (pv 1) (pv 0) (λ_ _=>rfl)))) a8)) (pv 1)) a8))))))))))),?_⟩
 obtain⟨dx,ah,bw,cl,hx,rh,Io,rl⟩:=id S;obtain⟨V0,eb,hb⟩:=i3 Io;cases eb;obtain⟨OW,xs,ec,hc,AB⟩:=id rl;cases ec;have O:=B.w;have BR:=B.l;have xl:xs.length=u.length:=by rw[AB.len,wa0]
 have Ys:c≠[]:=λz=>z9 (wbm (by rw[<-O,z];rfl));refine⟨_,rfl,x,hs,c,u,rfl,S,by omega,λl hl q hq=>by rw[O];exact B.e l hl q hq,Ys,λh hh ht=>?_,λt h d i b q H1 R ht D=>?_⟩
 ·obtain⟨d,i,b,q,e1,e2,e3,e4⟩:=zN B hK hh ht m1;exact⟨d,i,b,q,hh,ht,e1,e2,e3,e4⟩
 have hd:d < u.length:=(wa6.mp D.l).1;have hi:i < b.length:=(wa6.mp D.s).1;have N6:b∈u:=wak D.l;have KL:=hm b N6;have VF:=xa B D;have hT:=ir.of (K:=K) ht;refine⟨_,rfl,t,_,_,_,rfl,rfl,hT,rfl,?_⟩;obtain⟨v,MC,rd⟩:=AB.at (i:=d) (d:=bW b) (by rw[wa4,D.l];rfl);obtain⟨a,rs,rfl,hS,Pn⟩:=eF rd;have Ip:rs.length=b.length:=by rw[Pn.1,wa0,wa0]
 refine⟨_,rfl,x,L.aw,dx,_,_,rfl,R _ _ hx,L.av.cl,L.av.cB,bJ ah bw cl,_,rfl,cl,xs,_,_,rfl,rfl,R.seq (.inl hc),bQ MC,a,rfl,⟨_,R.seq hS⟩,λlc K0=>?_⟩;refine mY (prs:=b.map eD) (λ_=>true) (λq=>match q.2 with |.int e=>.int (c.getD e.toNat 0) |_=>.non) (aK K a (rs.map V.ref)) (Pn.same R) K0 (au (by omega)) (λH' s'=>(R.trans s').seq hS) (λq H7 Q' _ _ m=>m H7 (a9.refl _)) (λq H7 Q' hq _ s7 m=>?_) (λH7 s7 h7=>?_)
 ·obtain⟨U,Yt,rfl⟩:=waa.mp hq;have C:U.2 < c.length:=by rw[O];exact B.e b N6 U Yt
  have Yu:w6 (c.map V.int) (U.2:Int)=some (.int (c.getD U.2 0)):=bQ (by rw[wa4,wa2 C,wa5,wa2 C];rfl)
  have q2:Q' (.int (c.getD U.2 0)) H7:=by
   have:=m H7 (a9.refl _);rwa[show (eD U).2=.int (U.2:Int) from rfl]at this
  have G:=R.trans s7;exact⟨_,rfl,x,L.aw,dx,_,_,rfl,G _ _ hx,L.av.cl,L.av.cL,ck ah bw cl,_,rfl,bw,_,_,_,rfl,rfl,G.seq hb,Yu,q2⟩
 have e7:((b.map eD).filter λ_=>true).map (λq=>match q.2 with |.int e=>V.int (c.getD e.toNat 0) |_=>.non)=(b.map λq=>c.getD q.2 0).map V.int:=by
  rw[wb5.mpr (λ_ _=>rfl),wai,wai];rfl
 rw[e7]at h7;have G:=R.trans s7;have VG:=s7.JC hT;have g:(b.map λq=>c.getD q.2 0).length=b.length:=wa0 _;refine⟨_,rfl,lc,_,rfl,.inl (aH.of h7),_,rfl,by omega,by rw[wa0,g];omega,λlo LK=>?_⟩;have en:((((b.map λq=>c.getD q.2 0).map V.int).length:Nat):Int).toNat=b.length:=by rw[wa0,g,waG]
 rw[en];refine d8 (λv=>!decide (v=.int (i:Int))) (λv=>v) (mN 0 b.length) LK (au (by rw[wa0,wb2];omega)) (λ_ _=>wbz) (λy I Q' hy W m=>?_) (λy I Q' hy _ W m=>⟨_,rfl,m I (a9.refl _)⟩) (λI W h8=>?_)
 ·obtain⟨n,AD,rfl⟩:=waa.mp hy;exact⟨_,rfl,_,rfl,t,_,_,_,rfl,rfl,W.JC VG,rfl,rfl,_,rfl,m I (a9.refl _)⟩
 have e8:(((waJ b.length).map λi:Nat=>V.int (0 + (i:Nat))).filter λv=>!decide (v=.int (i:Int)))=(nI (restOf b.length i)).map V.int:=by
  have e9:((waJ b.length).map λi:Nat=>V.int (0 + (i:Nat)))=(nI (waJ b.length)).map V.int:=by
   rw[<-zP];exact wb6 λn _=>by rw[wen]
  rw[e9,x9 (f:=λn=>decide (n≠i)) λn=>?_]
  ·rfl
  ·by_cases z:n=i
   ·subst z;simp
   ·have:¬V.int (n:Int)=V.int (i:Int):=λy=>z (by have:=V.int.inj y;omega);rw[decide_eq_false this,decide_eq_true z];rfl
 rw[wdF,e8]at h8;have VH:=G.trans W;have Yv:=W.JC VG;have VI:=W _ _ h7;refine⟨_,rfl,_,rfl,t,_,_,_,rfl,rfl,Yv,rfl,by show 1<=sizeLine;decide,λl1 MA=>?_⟩;have s9:=a9.upd (H:=I) (o:=.lst [V.int (i:Int)]) MA;have h9:(upd I l1 (.lst [V.int (i:Int)])) l1=some (.lst [V.int (i:Int)]):=a6;generalize upd I l1 (.lst [V.int (i:Int)])=H9 at s9 h9;have Yw:many - 1=(((many - 1).toNat:Nat):Int):=by omega
 refine⟨_,rfl,_,rfl,_,_,rfl,rfl,(((many - 1).toNat:Nat):Int),congrArg V.int Yw,lo,_,rfl,aH.of (s9 _ _ h8),λl2 MH=>?_⟩;rw[D2,<-wdj,Dh];have X:=a9.upd (H:=H9) (o:=.lst ((nI ((restOf b.length i).take (many - 1).toNat)).map V.int)) MH;have MI:(upd H9 l2 (.lst ((nI ((restOf b.length i).take (many - 1).toNat)).map V.int))) l2=some (.lst ((nI ((restOf b.length i).take (many - 1).toNat)).map V.int)):=a6;generalize upd H9 l2 (.lst ((nI ((restOf b.length i).take (many - 1).toNat)).map V.int))=Y at X MI;have OV:=zR (k:=(many - 1).toNat) hi (by omega);refine⟨l1,l2,_,_,rfl,rfl,X _ _ h9,MI,au ?_,λl3 FU=>?_⟩
 ·rw[wa0,cK,wau];show 1 + _<=_;omega
 rw[show [V.int (i:Int)]++(nI ((restOf b.length i).take (many - 1).toNat)).map V.int=(nI (numsOf b.length i (many - 1).toNat)).map V.int from rfl];have MJ:=a9.upd (H:=Y) (o:=.lst ((nI (numsOf b.length i (many - 1).toNat)).map V.int)) FU;have Pp:(upd Y l3 (.lst ((nI (numsOf b.length i (many - 1).toNat)).map V.int))) l3=some (.lst ((nI (numsOf b.length i (many - 1).toNat)).map V.int)):=a6;generalize upd Y l3 (.lst ((nI (numsOf b.length i (many - 1).toNat)).map V.int))=Fe at MJ Pp;have j:=(s9.trans X).trans MJ;refine⟨_,rfl,lc,l3,many,b.map λq=>c.getD q.2 0,numsOf b.length i (many - 1).toNat,rfl,aH.of (j _ _ VI),aH.of Pp,m1,m2,by rw[OV];omega,λn hn=>by rw[g];exact yc hi n hn,λl i' j' HH K6 Tu Yx hj hz p=>?_⟩;have aW:=JR B m1 D Yx hj hz;have C:∀n∈((numsOf b.length i (many - 1).toNat).take j').drop i',n < b.length:=λn hn=>yc hi n (((wgW _ _).trans (wbA _ _)).subset hn)
 have KS:(((numsOf b.length i (many - 1).toNat).take j').drop i').length<=1000:=by
  rw[wbw,wau];omega
 generalize ((numsOf b.length i (many - 1).toNat).take j').drop i'=ns at *;have J:=VH.trans (j.trans K6);have Yy:=K6 _ _ (j _ _ VI);refine⟨_,rfl,_,rfl,_,rfl,l,rfl,⟨_,aH.of p⟩,λls Yz=>?_⟩;refine d8 (λ_=>true) (λv=>match v with |.int n=>.int ((b.map λq=>c.getD q.2 0).getD n.toNat 0) |_=>.non) (aK K l _) Yz (au (by rw[wa0,cK];omega)) (λH' s'=>aH.of (s' _ _ p)) (λy I Q' hy W m=>m I (a9.refl _)) (λy QG Q' hy _ r m=>?_) (λQG r Pq=>?_)
 ·obtain⟨n,AD,rfl⟩:=pM hy;have M:n < (b.map λq=>c.getD q.2 0).length:=by rw[g];exact C n AD
  exact⟨_,rfl,_,rfl,lc,_,_,_,rfl,rfl,aH.of (r _ _ Yy),bQ (v:=.int ((b.map λq=>c.getD q.2 0).getD n 0)) (by rw[wa4,wa2 M,wa5,wa2 M];rfl),m QG (a9.refl _)⟩
 have YB:(((nI ns).map V.int).filter λ_=>true).map (λv=>match v with |.int n=>V.int ((b.map λq=>c.getD q.2 0).getD n.toNat 0) |_=>.non)=(ns.map λn=>(b.map λq=>c.getD q.2 0).getD n 0).map V.int:=by
  rw[wb5.mpr (λ_ _=>rfl)];unfold nI;rw[wai,wai,wai];rfl
 rw[YB]at Pq;refine⟨ls,_,rfl,aH.of Pq,_,rfl,_,_,rfl,rfl,⟨by omega,by omega⟩,by show 3<=sizeLine;decide,λt' Z=>?_⟩;exact k t' l d ns _ _ (J.trans (r.trans (a9.upd Z))) (none_of (VH.trans j) Tu) (none_of (J.trans r) Z) a6 (a9.upd Z _ _ (r _ _ p)) aW (by omega) KS
theorem iN(L:Lk K mg):aN P w K mg base (vk P w) 7 L.eG L.eI ["band","many","wide"] (Hq L.aC L.lE):=by
 have T:=L.T;refine L.bq.F.zp (N:=["band","many","wide","most","weights","in_all"]) (λY A outer s H vs Q E nd hr h=>?_);obtain⟨x,many,n,g,O,R,ls,rfl,B,r,t,u,y,k,S⟩:=h
 refine⟨_,(a7 (bj weX rfl (p9 rfl T.range (a5 ai (a5 (aE eN (c9 (v:=.int 8) (by rfl) L.lH.choose_spec ⟨_,rfl⟩) ai) a8))) (aA (i:=3)) (a7 (ag (i:=4) (aj (Ae L) L.ni (a5 (pv 0) (a5 (pv 1) (a5 (pv 2) (a5 (pv 3) a8))))))
  (a7 (ag (i:=5) (aq (Eu rfl) (by rfl) T.sum Eb (a5 (CY (K:=K) rfl wfp wdz wfi wt (pv 4)) a8)))
  (a7 (bH (aF m7 (pv 5) (c9 (v:=.int 40) (by rfl) L.fB.choose_spec ⟨_,rfl⟩) (aS _)) (af (fF bV rfl L.pV L.yj rfl L.uo (a5 dn a8))) aL)
  (af (bH (aF m7 (pv 5) ai (aS _)) (af (az (pv 4))) aL))))))
  (af (fF bV rfl L.pV L.yj rfl L.uo (a5 dn a8)))),?_⟩
 refine⟨_,_,rfl,rfl,1,9,rfl,by decide,?_⟩;refine dE (lo:=1) (n:=8) (λi σ q=>∃z v4 C:Option V,σ=[some (.ref x),some (.int many),some (.int (n:Int)),z,v4,C]/\a9 H q/\∀(m:Int) (h:Str->Int),1<=m->m < 1 + (i:Int)->gF g O R ls many n m h->(ls.map h).sum=0) ⟨none,none,none,rfl,a9.refl _,λm h U Z=>by omega⟩ ?_ ?_
 ·rintro i σ q hi ⟨z,v4,C,rfl,j,l⟩;refine⟨_,rfl,_,rfl,_,rfl,_,rfl,x,many,n,1 + (i:Int),g,O,R,ls,rfl,B.same j,r,t,u,y,by omega,λd f W s3 fd D G=>?_⟩;refine⟨_,rfl,.inr (.inr (.inl ⟨rfl,.inl ⟨_,D⟩⟩)),d,_,rfl,rfl,D,λv hv=>?_⟩;have I:=a9.upd (o:=ki v d) hv;have J:=I _ _ D;have p:(upd W v (ki v d)) v=some (ki v d):=a6;generalize upd W v (ki v d)=X at I J p;have a:=j.trans (s3.trans I);refine⟨v,d,_,ls.map f,rfl,p,J,C8 f ls,?_⟩
  by_cases b:(40:Int) < (ls.map f).sum
  ·refine⟨_,rfl,_,_,rfl,rfl,true,congrArg V.bl (decide_eq_true b),dF ⟨rfl,?_⟩⟩;exact S ⟨1 + (i:Int),by omega,by omega,l,.inr ⟨f,G,b⟩⟩ X a
  refine⟨_,rfl,_,_,rfl,rfl,false,congrArg V.bl (decide_eq_false b),bA ?_⟩
  by_cases M:(0:Int) < (ls.map f).sum
  ·refine⟨_,rfl,_,_,rfl,rfl,true,congrArg V.bl (decide_eq_true M),dF ⟨_,rfl,?_⟩⟩;exact k d f X a (none_of j fd) J ⟨⟨1 + (i:Int),by omega,by omega,G,l⟩,M,by omega⟩
  ·refine⟨_,rfl,_,_,rfl,rfl,false,congrArg V.bl (decide_eq_false M),bA ?_⟩;refine⟨_,_,_,rfl,a,λm h U Z c=>?_⟩
   by_cases e:m=1 + (i:Int)
   ·subst e;have:=EJ G c;have:=sY c.nn;omega
   ·exact l m h U (by omega) c
 ·rintro σ q ⟨z,v4,C,rfl,j,l⟩;exact⟨rfl,S ⟨9,by decide,by decide,l,.inl rfl⟩ q j⟩
theorem oV(L:Lk K mg):aN P w K mg base dm 6 L.j2 L.j3 ["band","many","wide","weights"] (Hr L.aC):=by
 have T:=L.T;refine L.fM.F.ee (N:=["band","many","wide","weights","sheet","lots","homes","closed","place"]) (λgK A outer s H vs Q E nd hr h=>?_);obtain⟨x,d,many,n,f,g,ws,ss,ls,rfl,B,KJ,Pt,DA,Dz,Dy,HR,hd,D,Y,VJ,k⟩:=h;have hu:=fz hr
 refine⟨_,(a7 (ag (i:=4) (aj (lK L) L.fW (a5 (pv 0) (a5 (pv 1) (a5 (pv 2) (a5 (pv 3) a8))))))
  (a7 (eu (i:=5) rfl (ax ["sheet"] [4]) nd rfl rfl (dD rfl T.range (a5 (aq bg (by rfl) T.len waO (a5 (aO (pv 4) rfl) a8)) a8)) (λ_ _ _ _ _ _=>bh) (λ_ _ _ _ _ _=>(aj (rx L) L.ic (a5 (pv 1) (a5 (pv 0) a8)))))
  (a7 (eu (i:=6) rfl (ax ["sheet"] [4]) nd rfl rfl (aM (JN rfl (by rfl) T.min (by rfl) T.len (a5 (pv 5) a8))) (λ_ _ _ _ _ _=>bh) (λ_ _ _ _ _ _=>(b8 (gf (K:=K) rfl) (lO (K:=K) rfl (pv 1) rfl) (pv 0) (λ_ _=>rfl))))
  (a7 (ag (i:=7) dX)
  (a7 (bj waB rfl (zB (pv 3)) (aA (i:=8)) (af (dZ hu (pv 7) (pv 8) (yQ (aF w9 (pv 8) (pv 6) rfl) (dg hu (pv 3) (pv 8) (λ_ _=>rfl)) ai) rfl)))
  (af (az (pv 7)))))))),?_⟩
 have nd:ls.Nodup:=B.nd.sublist B.lv.sub;have BR:ls.length<=900:=wal B.lv.sub.length_le Dy;refine⟨_,rfl,_,rfl,_,rfl,_,rfl,x,d,many,n,bZ f ls,f,g,ws,ss,ls,rfl,B,DA,Dz,Dy,HR,.inl hd,jx f ls,λy H1 s1 S1=>?_⟩;have S:=S1.same (cm _ _);have hB:=iD.first (g:=g) (ws:=ws) (ss:=ss) (n:=n) (many:=many) D Y;have VB:(ak ls f).length<=ls.length:=wbi _ _;have I:=hB.l;have hmn:(1:Int)<=many:=by have:=HR.a;omega
 generalize VL:ak ls f=m at S hB VB I;generalize Tv:bE g ws ss ls n m=G at S hB I
 have Tw:m≠[]:=λz=>by
  have h1:=wV D;rw[VL,z]at h1;have:(0:Int)=(ls.map f).sum:=h1;omega
 have MF:0 < m.length:=wet.mpr Tw
 have Tx:∀i,i < G.length->G.getD i []≠[]:=λi hi z=>by
  have U:G[i]?=some (G.getD i []):=by rw[wa5,wa2 hi];rfl
  have h1:=hB.b i _ U;rw[z]at h1;have h2:many * (m.map f).getD i 0<=0:=h1;have hw:=hB.w;have h3:=hB.p _ (getD_mem (ws:=m.map f) (i:=i) (by omega));have:=Int.mul_pos (show 0 < many by omega) (show 0 < (m.map f).getD i 0 by omega);omega
 obtain⟨dx,ah,bw,cl,hx,rh,Io,rl⟩:=id S;have hh:=y7 rh;refine⟨_,rfl,y,L.aw,dx,_,_,rfl,hx,L.av.cl,L.av.gN,eE ah bw cl,ah,_,rfl,.inl (.inl hh),_,rfl,by omega,by rw[wa0];omega,λll Tz=>?_⟩;have en:(((m.map V.str).length:Nat):Int).toNat=m.length:=by rw[wa0,waG]
 rw[en];refine zG (λi v H'=>∃q r,v=.ref q/\q≠ll/\H' q=some (.lst ((nI r).map V.int))/\Reach G r) (λi v Ha Hb ys h hl kp=>?_) (mN 0 m.length) Tz (au (by rw[wa0,wb2];omega)) (λ_ _=>wbz) (λi v H3 ys Q' hv s3 FU qq=>?_) (λys H3 s3 h3 KN hR=>?_)
 ·obtain⟨q,r,rfl,U,TC,W⟩:=h;exact⟨q,r,rfl,U,kp _ _ TC U,W⟩
 ·have hi:i < m.length:=by have:=(wa6.mp hv).1;rwa[wa0,wb2]at this
  rw[wa4,List.getElem?_range hi]at hv
  have hv:v=.int (i:Int):=by
   rw[<-wah hv];show V.int (0 + (i:Int))=_;rw[wen]
  subst hv;refine⟨_,rfl,_,rfl,y,i,m,_,G,rfl,S.same s3,by omega,λl hl q U=>by rw[I];exact hB.e l hl q U,Tx i (by omega),by omega,λl r H' s' fl P7 t=>?_⟩;exact qq _ H' s' ⟨l,r,rfl,(λz=>by rw[z,FU]at fl;cases fl),P7,t⟩
 obtain⟨ps,rfl,QH⟩:=JT (ys:=ys) (R:=λq=>∃r,H3 q=some (.lst ((nI r).map V.int))/\Reach G r) λv hv=>by
  obtain⟨i,hi,e⟩:=wbQ hv;obtain⟨q,r,e1,_,e2,e3⟩:=hR i v (by rw[wa2 hi,e]);exact⟨q,e1,r,e2,e3⟩
 have Ja:ps≠[]:=λz=>by
  rw[wa0,wa0,wb2,z]at KN;have:0=m.length:=KN;omega
 refine⟨_,rfl,ll,ps,rfl,aH.of h3,Ja,λq U=>by obtain⟨r,e,_⟩:=QH q U;exact⟨_,aH.of e⟩,λq U=>?_⟩;obtain⟨r,W,t⟩:=QH q U;have Ip:=kB t.nd t.lt;refine⟨q,rfl,⟨_,aH.of W⟩,λlh N8=>?_⟩;refine d8 (λ_=>true) (λv=>match v with |.int d=>.str (m.getD d.toNat "") |_=>.non) (aK K q _) N8 (au (by rw[wa0,cK];omega)) (λH' s'=>aH.of (s' _ _ W)) (λv H8 Q' hy s8 qq=>qq H8 (a9.refl _)) (λv H4 Q' hy _ s4 qq=>?_) (λH4 s4 h4=>?_)
 ·obtain⟨n',AD,rfl⟩:=pM hy;have Z:n' < m.length:=by rw[<-I];exact t.lt n' AD
  have X:=s3.trans s4;exact⟨_,rfl,y,L.aw,dx,_,_,rfl,X _ _ hx,L.av.cl,L.av.gN,eE ah bw cl,_,rfl,ah,_,_,_,rfl,rfl,X.seq (.inl hh),bQ (v:=.str (m.getD n' "")) (by rw[wa4,wa2 Z,wa5,wa2 Z];rfl),qq H4 (a9.refl _)⟩
 have e4:(((nI r).map V.int).filter λ_=>true).map (λv=>match v with |.int d=>V.str (m.getD d.toNat "") |_=>.non)=(r.map λd=>m.getD d "").map V.str:=by
  rw[wb5.mpr (λ_ _=>rfl)];unfold nI;rw[wai,wai,wai];rfl
 rw[e4]at h4;have X:=s3.trans s4;refine λdl C=>?_;have M:=s1.trans X;have Nb:d≠dl:=ae (M _ _ hd) C;have KQ:(upd H4 dl (.dK [])) d=some (.dK (bc (bZ f ls))):=a9.upd C _ _ (M _ _ hd);refine⟨_,rfl,d,_,rfl,.inl KQ,λo H5 h5 MK=>?_⟩;have VD:H5 dl=some (.dK []):=by rw[MK dl (wbc Nb),a6]
 have YC:lh≠d:=λz=>by rw[z]at h4;rw[M _ _ hd]at h4;cases h4
 have YD:H5 lh=some (.lst ((r.map λd=>m.getD d "").map V.str)):=by rw[MK lh YC];exact a9.upd C _ _ h4
 have k5:∀c O,H c=some O->c≠d->H5 c=some O:=λc O e hc=>by rw[MK c hc];exact a9.upd C _ _ (M _ _ e)
 have TF:H dl=none:=none_of M C;have TH:dl≠lh:=λz=>by rw[z]at C;rw[h4]at C;cases C
 have J:=iV d o (bc (bZ f ls));rw[show ((bc (bZ f ls)).map λkv=>kV kv.1)=ls.map V.str by unfold bc bZ;rw[wai,wai];rfl]at J;refine mO J (λj σ H6=>∃(v8:Option V),σ=[some (.ref x),some (.int many),some (.int (n:Int)),some (.ref d),some (.ref y),some (.ref ll),some (.ref lh),some (.ref dl),v8]/\H6 dl=some (.dK (bc (bZ (cE (r.map λd=>m.getD d "") f) (ls.take j))))/\∀c O,H5 c=some O->c≠dl->H6 c=some O) ⟨none,rfl,VD,λc O e _=>e⟩ (λj σ H6 _ ⟨_,_,_,kk⟩=>kk _ _ h5 Nb) ?_ ?_
 ·rintro j v σ H6 hy ⟨v8,rfl,h6,kk⟩;obtain⟨p,Nc,rfl,hj,Ch,nF⟩:=gi hy;have HP:p∉(bZ (cE (r.map λd=>m.getD d "") f) (ls.take j)).map (·.1):=by rw[pE];exact hV nd Nc
  have put:∀u,u=cE (r.map λd=>m.getD d "") f p->putK (bc (bZ (cE (r.map λd=>m.getD d "") f) (ls.take j))) (waz p:Key) (.int u)=bc (bZ (cE (r.map λd=>m.getD d "") f) (ls.take (j + 1))):=λu YF=>by
   rw[pD HP,nF,YF];unfold bZ;rw[waj];rfl
  have hlen:(bc (bZ (cE (r.map λd=>m.getD d "") f) (ls.take j))).length < sizeLine:=by rw[iW];unfold bZ;rw[wa0,wau];exact bF (by omega)
  have g6:=dW.f (k:=(waz p:Key)) (kk _ _ h5 Nb);rw[dH,jx f ls p Ch]at g6;refine⟨_,rfl,_,rfl,lh,_,rfl,.inl (aH.of (kk _ _ YD (wbc TH))),rfl,eC _,decide (p∈r.map λd=>m.getD d ""),congrArg V.bl (iR p _),?_⟩
  by_cases hp:p∈r.map λd=>m.getD d ""
  ·rw[decide_eq_true hp];refine dF ⟨_,rfl,_,rfl,d,_,rfl,g6,_,rfl,_,rfl,dl,_,rfl,jn.k (k:=waz p) h6 hlen,?_⟩;exact⟨_,rfl,by rw[a6,put (f p) (by unfold cE;rw[if_pos hp])],λc O e hc=>by rw[aa hc];exact kk c O e hc⟩
  ·rw[decide_eq_false hp];refine bA ⟨_,rfl,_,rfl,dl,_,rfl,jn.k (k:=waz p) h6 hlen,?_⟩;exact⟨_,rfl,by rw[a6,put 0 (by unfold cE;rw[if_neg hp])],λc O e hc=>by rw[aa hc];exact kk c O e hc⟩
 rintro σ H6 ⟨v8,rfl,h6,kk⟩;rw[wa0,waI]at h6;subst VL;subst Tv;exact⟨_,rfl,k dl _ H6 (λc o e hc=>kk _ _ (k5 c o e hc) (ae e TF)) TF h6 (tO D) (EE D Y t) (ED D (λd hd=>by rw[<-I];exact t.lt d hd) t.ne) (zO D) (EC D)⟩
theorem nu(L:Lk K mg):aN P w K mg base dm 1 L.dj L.fk ["self","length","rows"] (Ta L.bY "length" "rows" KR KR):=by
 refine L.oO.ee (N:=["self","length","rows"]) (λn A outer s H o Q E nd p h=>?_);obtain⟨x,u,v,rfl,⟨i,rfl,a⟩,⟨j,rfl,b⟩,l,k⟩:=h
 refine⟨_,(a7 (bu (zh rfl L.iI L.XB (a5 (pv 0) (a5 (D6 (sM (Gj (pv 1) (sM (Gj (pv 2) (sM Gi)))))) a8))))
  (a7 (D5 (CB:=L.aI) (pv 0) (pv 1) rfl)
  (af (HK (CB:=L.aI) (pv 0) (pv 2) rfl)))),?_⟩
 have f:=wcW a;have m:=wcW b;refine⟨_,rfl,au ?_,_,rfl,.inl ⟨i,rfl,a,au ?_,au ?_,_,rfl,.inl ⟨j,rfl,b,au ?_,au ?_,au ?_,x,L.bY,_,_,rfl,l,L.fj,?_⟩⟩⟩
 ·exact wal (show _<=1000 by decide+kernel) (by decide)
 ·exact wal (d2 (show _<=1000 by decide+kernel) f) (by decide)
 ·exact wal (d2 (d2 (show _<=1000 by decide+kernel) f) (show _<=1000 by decide+kernel)) (by decide)
 ·exact wal (d2 (d2 (d2 (show _<=1000 by decide+kernel) f) (show _<=1000 by decide+kernel)) m) (by decide)
 ·exact wal (d2 (d2 (d2 (d2 (show _<=1000 by decide+kernel) f) (show _<=1000 by decide+kernel)) m) (show _<=1000 by decide+kernel)) (by decide)
 ·exact wal (d2 (d2 (d2 (d2 (show _<=1000 by decide+kernel) f) (show _<=1000 by decide+kernel)) m) (show _<=1000 by decide+kernel)) (by decide)
 refine⟨_,rfl,_,rfl,x,L.bY,_,rfl,l,L.fj,L.jX,λd hd=>?_⟩;have g:d≠x:=λz=>by rw[z,l]at hd;cases hd
 refine⟨_,rfl,_,rfl,x,L.bY,_,d,[("length",.int i)],rfl,a6,by rw[aa g,a6],by show 1<=50;decide,L.fj,L.mF,by rw[wdb,show (("rows":Str) == "length")=false by decide+kernel];rfl,?_⟩
 have e:upd (upd (upd H d (.xd [(("length":Str),V.int i)])) x (XD x L.bY d)) d (.xd ([(("length":Str),V.int i)]++[(("rows":Str),V.int j)]))=upd (upd H d (.xd [(("length":Str),V.int i),(("rows":Str),V.int j)])) x (XD x L.bY d):=by
  funext c
  by_cases a:c=d
  ·subst a;rw[a6,aa g,a6];rfl
  ·rw[aa a]
   by_cases b:c=x
   ·subst b;rw[a6,a6]
   ·rw[aa b,aa b,aa a,aa a]
 rw[e];exact k d hd
theorem lZ(L:Lk K mg):aN P w K mg base (vk P w) 8 L.ia L.ib ["band","many","wide"] (JX L.aC L.bY):=by
 refine L.cq.F.zp (N:=["band","many","wide","length"]) (λG A outer s H V Q E nd I h=>?_);obtain⟨x,many,n,g,p,q,ls,rfl,B,l,m,f,k,J⟩:=h
 refine⟨_,(a7 (ag (i:=3) (aj (F4 L) L.tY (a5 (pv 0) (a5 (pv 1) (a5 (pv 2) (a5 (c9 (v:=.int 24) (by rfl) L.lG.choose_spec ⟨_,rfl⟩) a8))))))
  (af (bH (aF xJ (pv 3) da (aS _)) (af (sL bV rfl L.fj L.xB L.xC (nu L) (I.mono (by decide)) L.oP rfl L.oN (a5 (pv 3) (a5 (aj (HQ L) L.yh (a5 (pv 0) (a5 (aE jf (pv 3) (pv 2)) a8))) a8)))) aL))),?_⟩
 refine⟨_,rfl,_,rfl,_,rfl,x,many,(n:Int),24,g,p,q,ls,rfl,B,l,m,f,by decide,by decide,λv M o r=>?_⟩;rw[waG]at r;have t:=r
 cases r with
 |none a=>exact⟨_,rfl,rfl,false,rfl,bA (k (λj z O=>a j z O) M o)⟩
 |some j a b c d=>
  refine⟨_,rfl,rfl,true,rfl,dF ?_⟩
  have R:(j:Int) * (n:Int)<=100000:=by
   have z:(j:Int) * (n:Int)<=24 * 6:=Int.mul_le_mul b f.d (by omega) (by omega);omega
  have u:0<=(j:Int) * (n:Int):=Int.mul_nonneg (by omega) (by omega);have S:((j:Int) * (n:Int)).toNat=j * n:=by rw[<-wem,waG]
  refine⟨_,rfl,_,rfl,_,rfl,_,rfl,_,_,rfl,rfl,?_,x,(j:Int) * (n:Int),g,p,q,ls,rfl,B.same o,l,m,u,R,λW C=>?_⟩
  ·exact .inl ⟨by omega,by omega⟩
  rw[S];refine⟨by show 2<=sizeLine;decide,λe T=>⟨e,_,_,rfl,⟨_,rfl,?_⟩,⟨_,rfl,?_⟩,a6,λy hd=>⟨rfl,.inr ⟨y,a6,?_⟩⟩⟩⟩
  ·have:=Nat.log2_le_self ((j:Nat):Int).natAbs;omega
  ·exact Ce f b c
  obtain⟨X,D,U⟩:=hU (o2:=.xd [("length",.int (j:Nat)),("rows",.int (gL g p q (j * n) ""))]) (o3:=XD e L.bY y) T hd;rw[U];exact J j y _ t ((o.trans C).trans (a9.upd D)) (none_of (o.trans C) D) a6
theorem k6(L:Lk K mg):aN P w K mg base dm 4 L.kK L.kL ["sheet"] (Hv K L.aw):=by
 refine L.eW.F.ee (N:=["sheet"]) (λC A outer s H vs Q E nd D h=>?_);obtain⟨x,G,I,l,rfl,S,J,M,O,R,k⟩:=h;refine⟨_,(af (az (nG L.oM (fo L) (D.mono (by decide)) rfl L.rT L.cM.b .nil eO (a5 (aO (pv 0) rfl) (a5 (aO (pv 0) rfl) (a5 (aO (pv 0) rfl) a8)))))),?_⟩;obtain⟨m,g,i,cl,n,T,p,U⟩:=id S;refine⟨_,rfl,x,L.aw,m,_,_,rfl,n,L.av.cl,L.av.gN,eE g i cl,_,rfl,x,L.aw,m,_,_,rfl,n,L.av.cl,L.av.cL,ck g i cl,_,rfl,x,L.aw,m,_,_,rfl,n,L.av.cl,L.av.cB,bJ g i cl,?_⟩;intro y j q t W;have sm:a9 H (upd (upd H j (.own y)) y (.ins L.aw j [])):=fE q t;refine⟨y,j,.ref g,.ref i,.ref cl,G,I,l,rfl,a6,bC.same sm _ _ T,bC.same sm _ _ p,bC.same sm _ _ U,J,M,O,R,λX Y Z a d q1 q2 q3 f=>⟨rfl,?_⟩⟩;have u:a9 H a:=λc o e=>f _ _ (sm _ _ e) (ae e q);have z:=λ(B:jN) (v:V) (r:bC K (aG _ a) B v)=>bC.same (dI sm) B v r;exact k y a u ⟨j,X,Y,Z,bN q d,z _ _ q1,z _ _ q2,z _ _ q3⟩
theorem q9(L:Lk K mg):aN P w K mg base dm 5 L.gu L.jP ["self","weights","splits","kept","last"] (JW K L.aT L.aw):=by
 have T:=L.T;refine L.gy.F.ee (N:=["self","weights","splits","kept","last"]) (λgK A outer s H vs Q E nd hr h=>?_);obtain⟨x,f,d,z,u,v,m,p,X,hs,ws,Y,rfl,D,hd,YG,YH,S,n1,n2,n3,n4,n5,k⟩:=h
 refine⟨_,(a7 (cS (pv 0) (bo BH (by rfl) T.dict Ot (a5 (pv 1) a8)) rfl)
  (a7 (cS (pv 0) (Hf rfl (ax [] []) (ax [] []) (ax [] []) ⟨by decide,by decide,by decide⟩ (aM (pv 2)) (λ_ _ _ _ _ _=>bh) (λ_ _ _ _ _ _=>(dP (a5 (pv 0) (a5 (bo (vt (K:=K) rfl) (by rfl) T.list iC (a5 (pv 1) a8)) (a5 (pv 2) a8)))))) rfl)
  (a7 (cS (pv 0) (bo cz (by rfl) T.list iC (a5 (pv 3) a8)) rfl)
  (af (cS (pv 0) (aj (k6 L) L.eW (a5 (pv 4) a8)) rfl))))),?_⟩
 obtain⟨c,rfl,hc⟩:=i3 YH;obtain⟨b,xs,rfl,hb,Z⟩:=YG;have xl:xs.length=p.length:=by rw[Z.len,wa0]
 have G:∀{d:Addr} {ys:List V} {H':Hp},aH K H d ys->(∀b o,H b=some o->b≠x->H' b=some o)->aH K H' d ys:=λhS kp=>(fU kp).seq (y3 D hS);refine⟨_,rfl,d,_,rfl,hd,λa I=>?_⟩;have B:x≠a:=ae D I;refine⟨_,rfl,x,L.aT,f,[],rfl,by rw[aa B];exact D,L.cF.cl,L.cF.cL,(show 0 < 1000 by decide),?_⟩;rw[OU];have k1:∀d o,H d=some o->d≠x->(upd (upd H a (.dK (bc m))) x (.ins L.aT f (qG a))) d=some o:=λd o e hd=>by rw[aa hd];exact a9.upd I _ _ e
 have x1:(upd (upd H a (.dK (bc m))) x (.ins L.aT f (qG a))) x=some (.ins L.aT f (qG a)):=a6;have a1:(upd (upd H a (.dK (bc m))) x (.ins L.aT f (qG a))) a=some (.dK (bc m)):=by rw[aa B.symm,a6]
 generalize upd (upd H a (.dK (bc m))) x (.ins L.aT f (qG a))=H1 at k1 x1 a1 ⊢;have TK:=b6.same (fU k1) _ _ (b6.off D _ _ Z);have VM:aH K H1 b xs:=G (.inl hb) k1;refine⟨_,rfl,b,rfl,⟨_,VM⟩,λg GW=>?_⟩;refine Hs (K:=K) (p.map ye) (aK K b xs) GW (au (by omega)) (by rw[wa0,xl]) (λH' s'=>s'.seq VM) (λi v dd n hv l U=>?_) (λn U r3=>?_)
 ·obtain⟨d',e',r⟩:=TK.get i v hv;rw[l]at e';cases e';rw[wa4]at l
  cases e:p[i]? with
  |none=>rw[e]at l;cases l
  |some sp=>
   rw[e]at l;cases l;obtain⟨r0,ys,rfl,hT,h2⟩:=r;obtain⟨v1,vs1,rfl,⟨rfl,_⟩,h3⟩:=h2;obtain⟨v2,UR,rfl,r2,h4⟩:=h3;obtain⟨v3,UU,rfl,⟨rfl,_⟩,h5⟩:=h4;cases(show UU=[] from h5);obtain⟨l2,rfl,MH⟩:=i3 r2;refine⟨r0,_,_,_,rfl,ir.of (U _ _ hT),λQ' qq=>?_⟩;refine⟨_,rfl,_,rfl,l2,_,rfl,.inl (U.seq MH),λl3 J=>?_⟩;refine⟨_,rfl,by show 3<=sizeLine;decide,λt ht=>?_⟩;have s4:a9 (upd n l3 (.lst ((nI sp.2.1).map V.int))) (upd (upd n l3 (.lst ((nI sp.2.1).map V.int))) t (.tup [.int (sp.1:Int),.ref l3,.int sp.2.2])):=a9.upd ht;refine qq _ _ ((a9.upd J).trans s4) ?_;exact Dl (d:=sp.1) (ns:=sp.2.1) (w:=sp.2.2) (bN (none_of (a9.upd J) ht) a6) (bN J (s4 _ _ a6))
 have nbx:x≠g:=ae x1 GW;have x3:=U _ _ x1;have a3:=U _ _ a1;refine⟨_,rfl,x,L.aT,f,qG a,rfl,x3,L.cF.cl,L.cF.zS,(show 1 < 1000 by decide),?_⟩;rw[KI];have k3:∀d o,H d=some o->d≠x->(upd n x (.ins L.aT f (o1 a g))) d=some o:=λd o e hd=>by rw[aa hd];exact U _ _ (k1 _ _ e hd)
 have x4:(upd n x (.ins L.aT f (o1 a g))) x=some (.ins L.aT f (o1 a g)):=a6;have a4:(upd n x (.ins L.aT f (o1 a g))) a=some (.dK (bc m)):=by rw[aa B.symm];exact a3
 have old:a9 (aG H1 n) (aG H n):=λd o e=>by
  unfold aG at e ⊢
  cases q:H d with
  |none=>
   cases M:H1 d with
   |none=>rw[M]at e;exact e
   |some z=>rw[M]at e;cases e
  |some z=>
   by_cases hd:d=x
   ·rw[hd,x1]at e;cases e
   ·rw[k1 _ _ q hd]at e;cases e
 have r4:bC K (aG H (upd n x (.ins L.aT f (o1 a g)))) (.lst (p.map ye)) (.ref g):=bC.same (old.trans (bD D λd o e hd=>by rw[aa hd];exact e)) _ _ r3;generalize upd n x (.ins L.aT f (o1 a g))=W at k3 x4 a4 r4 ⊢;refine⟨_,rfl,c,_,rfl,.inl (G hc k3),λj O=>?_⟩;have C:x≠j:=ae x4 O
 have YJ:H j=none:=by
  cases q:H j with
  |none=>rfl
  |some o=>have:=k3 _ _ q C.symm;rw[O]at this;cases this
 refine⟨_,rfl,x,L.aT,f,o1 a g,rfl,by rw[aa C];exact x4,L.cF.cl,L.cF.Hy,(show 2 < 1000 by decide),?_⟩;rw[Ht];have s5:∀d o,W d=some o->d≠x->(upd (upd W j (.lst ((nI X).map V.int))) x (.ins L.aT f (qH a g j))) d=some o:=λd o e hd=>by rw[aa hd];exact a9.upd O _ _ e
 have x5:(upd (upd W j (.lst ((nI X).map V.int))) x (.ins L.aT f (qH a g j))) x=some (.ins L.aT f (qH a g j)):=a6;have c5:(upd (upd W j (.lst ((nI X).map V.int))) x (.ins L.aT f (qH a g j))) j=some (.lst ((nI X).map V.int)):=by rw[aa C.symm,a6]
 generalize upd (upd W j (.lst ((nI X).map V.int))) x (.ins L.aT f (qH a g j))=H5 at s5 x5 c5 ⊢;have k5:∀d o,H d=some o->d≠x->H5 d=some o:=λd o e hd=>s5 _ _ (k3 _ _ e hd) hd
 have S5:bS K L.aw H5 z hs ws Y:=by
  obtain⟨dz,ah,bw,cl,hz,rh,Io,rl⟩:=id S;have YK:z≠x:=λq=>by rw[q,D]at hz;have:=wah hz;injection this with _ _ M;cases M
  have go:=λ(dd:jN) (v:V) (r:bC K H dd v)=>bC.same (fU k5) dd v (bC.off D dd v r);exact⟨dz,ah,bw,cl,k5 _ _ hz YK,go _ _ rh,go _ _ Io,go _ _ rl⟩
 refine⟨_,rfl,z,hs,ws,Y,rfl,S5,n1,n2,n3,n4,λy R s6 S6=>?_⟩;refine⟨_,rfl,x,L.aT,f,qH a g j,rfl,s6 _ _ x5,L.cF.cl,L.cF.HA,(show 3 < 1000 by decide),?_⟩;rw[Dj];have up:∀{Ha:Hp},(∀d o,Ha d=some o->d≠x->(upd R x (.ins L.aT f (vv a g j y))) d=some o)->a9 (aG H Ha) (aG H (upd R x (.ins L.aT f (vv a g j y)))):=λh=>bD D h;have u6:∀d o,R d=some o->d≠x->(upd R x (.ins L.aT f (vv a g j y))) d=some o:=λd o e hd=>by rw[aa hd];exact e
 have u4:∀d o,W d=some o->d≠x->(upd R x (.ins L.aT f (vv a g j y))) d=some o:=λd o e hd=>u6 _ _ (s6 _ _ (s5 _ _ e hd)) hd
 have TL:a9 (aG H5 R) (aG H R):=λd o e=>by
  unfold aG at e ⊢
  cases q:H d with
  |none=>
   cases M:H5 d with
   |none=>rw[M]at e;exact e
   |some z=>rw[M]at e;cases e
  |some z=>
   by_cases hd:d=x
   ·rw[hd,x5]at e;cases e
   ·rw[k5 _ _ q hd]at e;cases e
 exact k a g j y _ a6 I (u4 _ _ a4 B.symm) (bC.same (up u4) _ _ r4) (iX (bN YJ (u6 _ _ (s6 _ _ c5) C.symm))) (S6.same (TL.trans (up u6))) λd o e hd=>u6 _ _ (s6 _ _ (k5 _ _ e hd)) hd
theorem vH(L:Lk K mg):aN P w K mg base dm 5 L.ot L.ou ["self"] (EL K L.aT L.aw):=by
 refine L.gQ.F.ee (N:=["self"]) (λe A outer s H v Q E nd B h=>?_);obtain⟨x,m,f,C,g,i,d,rfl,⟨j,a,b,c,z,l,ha,D,hc,S⟩,n,o,p,q,k⟩:=h;refine⟨_,(af (az (aj (k6 L) L.eW (a5 (aO (pv 0) rfl) a8)))),?_⟩;exact⟨_,rfl,x,L.aT,j,_,_,rfl,l,L.cF.cl,L.cF.HA,C9 a b c z,z,g,i,d,rfl,S,n,o,p,q,λy r t u=>k y r t u⟩
theorem Ck(L:Lk K mg):aN P w K mg base (vk P w) 9 L.xj L.xk ["band","many","wide"] (Hw K L.aC L.aT L.aw L.bY L.lE):=by
 have T:=L.T;refine L.j4.F.zp (N:=["band","many","wide","weights","sheet","splits","kept","part"]) (λgK A outer s H vs Q E nd hr h=>?_);obtain⟨x,many,n,g,U,W,ls,rfl,B,KJ,Pt,DA,J,X,D,k,kS,kO⟩:=h
 refine⟨_,(a7 (bu (aj (fZ L) L.dJ (a5 (pv 0) (a5 (pv 1) (a5 (pv 2) a8)))))
  (a7 (bu (iA (lZ L) (hr.mono (by decide)) rfl L.cq.g L.cq.F.kp L.cq.b .nil (sJ bV) (a5 (pv 0) (a5 (pv 1) (a5 (pv 2) a8)))))
  (a7 (ag (i:=3) (aj (oV L) L.fM (a5 (pv 0) (a5 (pv 1) (a5 (pv 2) (a5 (iA (iN L) (hr.mono (by decide)) rfl L.bq.g L.bq.F.kp L.bq.b .nil (sJ bV) (a5 (pv 0) (a5 (pv 1) (a5 (pv 2) a8)))) a8))))))
  (a7 (ag (i:=4) (aj (lK L) L.fW (a5 (pv 0) (a5 (pv 1) (a5 (pv 2) (a5 (pv 3) a8))))))
  (a7 (ag (i:=5) (b7 a8))
  (a7 (ag (i:=6) (aj (mI L) L.gP (a5 (pv 4) (a5 (pv 1) a8))))
  (a7 (iO weX (aF qg (aq bg (by rfl) T.len waO (a5 (pv 6) a8)) ai (aS _)) (a7 (ag (i:=7) (aj (vG L) L.jD (a5 (pv 4) (a5 (pv 1) a8))))
  (a7 (ag (i:=4) (iA (HG L) (hr.mono (by decide)) rfl L.oq.g L.oq.F.kp L.oq.b .nil (sJ bV) (a5 (pv 4) (a5 (pv 1) (a5 (b8 gp (pv 7) ai (λ_ _=>rfl)) (a5 (b8 gp (pv 7) ai (λ_ _=>rfl)) (a5 (b8 gp (pv 7) ai (λ_ _=>rfl)) a8)))))))
  (a7 (bu (iP waT waZ wb7 cH (pv 5) (a5 (pv 7) a8)))
  (af (ag (i:=6) (aj (mI L) L.gP (a5 (pv 4) (a5 (pv 1) a8)))))))))
  (af (az (nG L.Ds (q9 L) (hr.mono (by decide)) rfl L.HD L.gy.b .nil eO (a5 (pv 3) (a5 (pv 5) (a5 (pv 6) (a5 (pv 4) a8)))))))))))))),?_⟩
 obtain⟨ra,rb,rc,rd,re⟩:=id D
 have Iq:g.length ^ n<=64:=by
  rw[waG]at re;have:((g.length ^ n:Nat):Int)<=64:=by rw[wdt];exact re
  omega
 have nd:ls.Nodup:=B.nd.sublist B.lv.sub;refine⟨_,rfl,_,rfl,_,rfl,x,many,n,g,U,W,ls,rfl,B,J,D,?_⟩;refine⟨_,rfl,_,rfl,_,rfl,x,many,n,g,U,W,ls,rfl,B,J,X,D,λNg H1 s1=>?_,kS⟩;refine⟨_,rfl,_,rfl,_,rfl,_,rfl,_,rfl,_,rfl,x,many,n,g,U,W,ls,rfl,B.same s1,DA,J,X,D,λd f0 H2 s2 fd h2 hL=>?_,λYL H2 s2=>kO Ng YL H2 (s1.trans s2)⟩;obtain⟨most,To,Yj,hG,_⟩:=id hL.gr;refine⟨x,d,many,n,f0,g,U,W,ls,rfl,B.same (s1.trans s2),KJ,Pt,DA,J,X,D,h2,hG.nn,hG.fit,hL.ps,λdl f H3 k3 TF h3 VN Ew QH hle TN=>?_⟩;have s3:a9 H H3:=λc o e=>k3 c o (s2 _ _ (s1 _ _ e)) (ae (s1 _ _ e) fd);have Y:(ls.map f).sum<=40:=wd4 TN hL.le;refine⟨_,rfl,_,rfl,_,rfl,_,rfl,x,dl,many,n,bZ f ls,f,g,U,W,ls,rfl,B.same s3,DA,J,X,D,.inl h3,jx f ls,λy H4 s4 S4=>?_⟩;have S4:=S4.same (cm _ _);have L0:fK g U W ls many n f [] _ _ _:=fK.start Pt B.pm KJ (λp hp=>B.lv.sub.subset hp) nd VN Ew;refine⟨waM _,λb hb=>?_⟩;have s5:a9 H4 (upd H4 b (.lst [])):=a9.upd hb;have h5:(upd H4 b (.lst [])) b=some (.lst []):=a6;have o5:a9 H4 (eS (upd H4 b (.lst [])) b):=Hu s5 hb;generalize upd H4 b (.lst [])=H5 at s5 h5 o5;have W0:=L0.whole Y Iq;generalize ak ls f=v at S4 L0 W0;generalize v.map f=C at S4 L0 W0;generalize bE g U W ls n v=a at S4 L0 W0;have KS:a.length<=1000:=by rw[W0.l];exact W0.n
 refine⟨_,rfl,_,rfl,y,many,v,C,a,rfl,S4.same s5,KS,λl hl=>by have:=W0.m l hl;omega,λu G H6 s6 I Z hK=>?_⟩;have TQ:u≠b:=λz=>by rw[z,h5]at I;cases I
 refine⟨λq σ M=>∃(y u:Addr) (v:List Str) (C:List Int) (a:List (List (Str×Nat))) (j:List Di) (r:List V) (G:List Nat) (v7:Option V),q=40 - v.length/\σ=[some (.ref x),some (.int many),some (.int (n:Int)),some (.ref dl),some (.ref y),some (.ref b),some (.ref u),v7]/\a9 H M/\M dl=some (.dK (bc (bZ f ls)))/\bS K L.aw (eS M b) y v C a/\fK g U W ls many n f j v C a/\M b=some (.lst r)/\b6 K (eS M b) (j.map ye) r/\u≠b/\M u=some (.lst ((nI G).map V.int))/\n6 a many G,
  ⟨_,y,u,v,C,a,[],[],G,none,rfl,rfl,s3.trans (s4.trans (s5.trans s6)),s6 _ _ (s5 _ _ (s4 _ _ h3)),S4.same (o5.trans (o4 s6)),L0,s6 _ _ h5,rfl,TQ,Z,hK⟩,?_⟩
 clear hK Z TQ I s6 KS W0 L0 o5 h5 s5 S4;have Sz:H b=none:=none_of (s3.trans s4) hb;have Ph:dl≠b:=ae (s4 _ _ h3) hb;rintro q σ M ⟨y,u,v,C,a,j,r,G,v7,rfl,rfl,s7,VO,S7,O,QI,r7,TQ,TR,hK⟩;have W7:=O.whole Y Iq;have hlen:=O.len;have Bi:=O.b.w;have KS:a.length<=1000:=by rw[W7.l];exact W7.n
 have KN:r.length=j.length:=by rw[r7.len,wa0]
 have YM:=O.sl
 by_cases TU:G=[]
 ·subst TU
  have z9:v≠[]:=λz=>by
   have h1:=O.sm;rw[z]at Bi;rw[wbm Bi]at h1;have:(0:Int)=(ls.map f).sum:=h1;omega
  refine⟨_,rfl,u,_,rfl,.inl (aH.of TR),rfl,true,Bt _,dF ?_⟩;refine⟨λσ' H'=>∃(y u:Addr) (R:List Str) (C:List Int) (a:List (List (Str×Nat))) (j:List Di) (r:List V) (G:List Nat) (v7:Option V),R.length=v.length + 1/\σ'=[some (.ref x),some (.int many),some (.int (n:Int)),some (.ref dl),some (.ref y),some (.ref b),some (.ref u),v7]/\a9 H H'/\H' dl=some (.dK (bc (bZ f ls)))/\bS K L.aw (eS H' b) y R C a/\fK g U W ls many n f j R C a/\H' b=some (.lst r)/\b6 K (eS H' b) (j.map ye) r/\u≠b/\H' u=some (.lst ((nI G).map V.int))/\n6 a many G,?_,?_⟩
  ·rintro σ' H' ⟨y,u,R,C,a,j,r,G,v7,e1,rfl,s',KQ,S',L',GW,r',YN,Im,TV⟩;have:=L'.len;exact⟨_,by omega,y,u,R,C,a,j,r,G,v7,rfl,rfl,s',KQ,S',L',GW,r',YN,Im,TV⟩
  refine⟨_,rfl,_,rfl,y,many,v,C,a,rfl,S7.same tP,O.b,hK,z9,by omega,λl hl=>by have:=W7.m l hl;omega,by omega,by omega,λt l d ns w H8 s8 fl ft VP VQ ok HJ OV=>?_⟩;have hT:=ir.of (K:=K) VP;have S8:=(S7.same tP).same s8;refine⟨_,rfl,_,rfl,_,rfl,t,_,_,_,rfl,rfl,hT,rfl,_,rfl,t,_,_,_,rfl,rfl,hT,rfl,_,rfl,t,_,_,_,rfl,rfl,hT,rfl,y,l,many,(d:Int),w,nI ns,v,C,a,rfl,S8,aH.of VQ,by rw[cK];omega,W7,by omega,by omega,.inl ⟨ok,λy' H9 s9 S9=>?_⟩⟩;rw[waG]at S9;have VR:=s8 _ _ QI;have VS:=s9 _ _ VR;have L9:=O.step ok;have W9:=L9.whole Y Iq;have TX:(i5 a d (nI ns)).length<=1000:=by rw[W9.l];exact W9.n
  have YQ:l≠b:=λz=>by rw[z,QI]at fl;cases fl
  have YR:t≠b:=λz=>by rw[z,QI]at ft;cases ft
  have r9:b6 K (eS H9 b) ((j++[(d,ns,w)]).map ye) (r++[.ref t]):=by
   rw[waj];exact gW (b6.same (o4 (s8.trans s9)) _ _ r7) (Dl (fI (s9 _ _ VP) YR) (fI (s9 _ _ VQ) YQ))
  have QJ:bS K L.aw (eS H9 b) y' _ _ _:=S9.same (Dk VR);refine⟨_,rfl,.inl ⟨rfl,_,aH.of VS⟩,_,rfl,b,_,_,rfl,rfl,VS,bF (by omega),?_⟩;have eo:eS (upd H9 b (.lst (r++[.ref t]))) b=eS H9 b:=JV;rw[<-eo]at r9 QJ;have KU:a9 H (upd H9 b (.lst (r++[.ref t]))):=λc o e=>by rw[aa (ae e Sz)];exact s9 _ _ (s8 _ _ (s7 _ _ e))
  have VU:(upd H9 b (.lst (r++[.ref t]))) dl=some (.dK (bc (bZ f ls))):=by rw[aa Ph];exact s9 _ _ (s8 _ _ VO)
  have TY:(upd H9 b (.lst (r++[.ref t]))) b=some (.lst (r++[.ref t])):=a6;generalize upd H9 b (.lst (r++[.ref t]))=K5 at KU VU TY r9 QJ;refine⟨_,rfl,_,rfl,y',many,_,_,_,rfl,QJ.same tP,TX,λl hl=>by have:=W9.m l hl;omega,λYS YT Fe S I Z TV=>?_⟩;refine⟨y',YS,_,_,_,j++[(d,ns,w)],r++[.ref t],YT,_,?_,rfl,KU.trans S,S _ _ VU,QJ.same (o4 S),L9,S _ _ TY,b6.same (o4 S) _ _ r9,(λz=>by rw[z,TY]at I;cases I),Z,TV⟩;unfold cX;rw[wa7];rfl
 ·refine⟨_,rfl,u,_,rfl,.inl (aH.of TR),rfl,false,congrArg V.bl (decide_eq_false λz=>TU (wbm (by have:=V.int.inj z;rw[wa0,cK]at this;omega))),bA ?_⟩;refine⟨_,rfl,_,rfl,_,rfl,_,rfl,?_⟩;intro z dz nz YV nez;have sm:a9 M (upd (upd M dz (.own z)) z (.ins L.aT dz [])):=fE nz YV;refine⟨z,dz,dl,y,.ref b,.ref u,bZ f ls,j,G,v,C,a,rfl,a6,.inl (sm _ _ VO),⟨b,r,rfl,.inl (sm _ _ QI),b6.same (tP.trans sm) _ _ r7⟩,iX (sm _ _ TR),(S7.same tP).same sm,by omega,by omega,by omega,λl hl=>by have:=W7.m l hl;omega,by omega,λa' b' c' y' H8 h8 fa YW r8 YX S8 YY=>⟨rfl,?_⟩⟩;have s8:a9 M H8:=λc o e=>YY _ _ (sm _ _ e) (ae e nz);have nw:a9 (aG (upd (upd M dz (.own z)) z (.ins L.aT dz [])) H8) (aG H H8):=dI (s7.trans sm);refine k Ng z f0 f j G v C a H8 (s7.trans s8) ⟨dz,a',b',c',y',bN (none_of s7 nz) h8,bN (none_of (s7.trans sm) fa) YW,bC.same nw _ _ r8,bC.same nw _ _ YX,S8.same nw⟩ hL hle ⟨VN,λp hp=>?_,Ew,QH,Y,O.rn,O.b,O.cv,by omega,hK,TU,by omega,O.sb⟩;have h1:=hle p hp;have h2:=hG.le p hp;omega
end
end K42
namespace Bs
open PySem L2 Sx
theorem eK:∀{fs:List (Str×V)},n∉fs.map (·.1)->cx n v fs=fs++[(n,v)]
 |[],_=>rfl
 |(a,u) :: fs,h=>by
  have b:¬a=n:=λz=>h (by grind);show (if a=n then _ else _)=_;rw[if_neg b,eK (fs:=fs) λz=>h (by grind)];rfl
theorem fq:∀{fs:List (Str×V)},n∉fs.map (·.1)->(fs++(n,v) :: g).lookup n=some v:=by grind [wfE,wag,wac]
theorem uC:∀{fs:List (Str×V)},n∉fs.map (·.1)->fs.lookup n=none:=by grind [wag,wac]
noncomputable def Nh(p:Addr):List (Str×V):=[("scheme",.ref p)]
noncomputable def Ni(p b:Addr):List (Str×V):=[("scheme",.ref p),("band",.ref b)]
noncomputable def Nj(p b:Addr)(many:Int):List (Str×V):=[("scheme",.ref p),("band",.ref b),("many",.int many)]
noncomputable def ML(p b:Addr)(many wide:Int):List (Str×V):=[("scheme",.ref p),("band",.ref b),("many",.int many),("wide",.int wide)]
noncomputable def KW(p b:Addr)(many wide:Int)(h:Addr):List (Str×V):=[("scheme",.ref p),("band",.ref b),("many",.int many),("wide",.int wide),("homes",.ref h)]
noncomputable def HS(p b:Addr)(many wide:Int)(h l:Addr):List (Str×V):=[("scheme",.ref p),("band",.ref b),("many",.int many),("wide",.int wide),("homes",.ref h),("lines",.ref l)]
noncomputable def Nk(p b:Addr)(many wide:Int)(h l:Addr)(o:Str):List (Str×V):=[("scheme",.ref p),("band",.ref b),("many",.int many),("wide",.int wide),("homes",.ref h),("lines",.ref l),("opening",.str o)]
noncomputable def qa(p b:Addr)(many wide:Int)(h l:Addr)(o:Str)(i:Int):List (Str×V):=[("scheme",.ref p),("band",.ref b),("many",.int many),("wide",.int wide),("homes",.ref h),("lines",.ref l),("opening",.str o),("first",.int i)]
section
variable(p b h l:Addr)(many wide i:Int)(o:Str)
theorem Pu:cx "scheme" (.ref p) []=Nh p:=rfl
theorem Pw:cx "band" (.ref b) (Nh p)=Ni p b:=eK (by show ("band":Str)∉[("scheme":Str)];decide+kernel)
theorem Px:cx "many" (.int many) (Ni p b)=Nj p b many:=eK (by show ("many":Str)∉[("scheme":Str),"band"];decide+kernel)
theorem Py:cx "wide" (.int wide) (Nj p b many)=ML p b many wide:=eK (by show ("wide":Str)∉[("scheme":Str),"band","many"];decide+kernel)
theorem Pz:cx "homes" (.ref h) (ML p b many wide)=KW p b many wide h:=eK (by show ("homes":Str)∉[("scheme":Str),"band","many","wide"];decide+kernel)
theorem PB:cx "lines" (.ref l) (KW p b many wide h)=HS p b many wide h l:=eK (by show ("lines":Str)∉[("scheme":Str),"band","many","wide","homes"];decide+kernel)
theorem PD:cx "opening" (.str o) (HS p b many wide h l)=Nk p b many wide h l o:=eK (by show ("opening":Str)∉[("scheme":Str),"band","many","wide","homes","lines"];decide+kernel)
theorem PF:cx "first" (.int i) (Nk p b many wide h l o)=qa p b many wide h l o i:=eK (by show ("first":Str)∉[("scheme":Str),"band","many","wide","homes","lines","opening"];decide+kernel)
theorem oW:(ML p b many wide).lookup ("scheme":Str)=some (.ref p):=fq (fs:=[]) (by decide+kernel)
theorem Cm:(HS p b many wide h l).lookup ("band":Str)=some (.ref b):=fq (fs:=Nh p) (by show ("band":Str)∉[("scheme":Str)];decide+kernel)
theorem Cp:(HS p b many wide h l).lookup ("wide":Str)=some (.int wide):=fq (fs:=Nj p b many) (by show ("wide":Str)∉[("scheme":Str),"band","many"];decide+kernel)
theorem Af:(HS p b many wide h l).lookup ("lines":Str)=some (.ref l):=fq (fs:=KW p b many wide h) (by show ("lines":Str)∉[("scheme":Str),"band","many","wide","homes"];decide+kernel)
theorem yq:(HS p b many wide h l).lookup ("behind":Str)=none:=uC (by show ("behind":Str)∉[("scheme":Str),"band","many","wide","homes","lines"];decide+kernel)
theorem yr:(qa p b many wide h l o i).lookup ("scheme":Str)=some (.ref p):=fq (fs:=[]) (by decide+kernel)
theorem nv:(qa p b many wide h l o i).lookup ("many":Str)=some (.int many):=fq (fs:=Ni p b) (by show ("many":Str)∉[("scheme":Str),"band"];decide+kernel)
theorem Ag:(qa p b many wide h l o i).lookup ("lines":Str)=some (.ref l):=fq (fs:=KW p b many wide h) (by show ("lines":Str)∉[("scheme":Str),"band","many","wide","homes"];decide+kernel)
theorem vI:(qa p b many wide h l o i).lookup ("opening":Str)=some (.str o):=fq (fs:=HS p b many wide h l) (by show ("opening":Str)∉[("scheme":Str),"band","many","wide","homes","lines"];decide+kernel)
theorem Ah:(qa p b many wide h l o i).lookup ("first":Str)=some (.int i):=fq (fs:=Nk p b many wide h l o) (by show ("first":Str)∉[("scheme":Str),"band","many","wide","homes","lines","opening"];decide+kernel)
theorem uD(hn:n∉[("scheme":Str),"band","many","wide","homes","lines","opening","first"]):(qa p b many wide h l o i).lookup n=none:=uC hn
end
structure j6(K:wa1)(C CP CS:Addr)(H:Hp)(x xb:Addr)(many:Int)(n:Nat)(m:List (Str×Int))(j9:List Di)(ks:List Nat)(hs:List Str)(ws:List Int)(lns:List (List (Str×Nat)))(b:Nat):Prop where
 ex:∃dx p a l,H x=some (.ins C dx (qa p xb many (n:Int) a l (cR (gR lns ks many.toNat) 0 (wam b 0)).1 ((cR (gR lns ks many.toNat) 0 (wam b 0)).2:Int)))/\n9 K CP CS H p m j9 ks hs ws lns/\bC K H (qu (ks.map λd=>hs.getD d "")) (.ref a)/\bC K H (kA (gR lns ks many.toNat)) (.ref l)
theorem j6.same(h:j6 K C j o H x r many n m g I hs ws lns b)(s:a9 H J):j6 K C j o J x r many n m g I hs ws lns b:=by
 obtain⟨c,p,a,l,d,e,f,i⟩:=h;exact⟨c,p,a,l,s _ _ d,e.same s,bC.same s _ _ f,bC.same s _ _ i⟩
end Bs
namespace Sx
open PySem L2 Bs
inductive MM(C CB:Addr)(vs:List V)(H:Hp)(Q:VK)(eL:XK):Prop
 |mk (x xb dx:Addr) (fs:List (Str×V)) (n:Nat) (g:Str) (bw ss ls:List Str) (_:vs=[.ref x]) (_:H x=some (.ins C dx fs)) (_:fs.lookup ("band":Str)=some (.ref xb)) (_:fs.lookup ("wide":Str)=some (.int (n:Int))) (_:aY CB H xb g bw ss ls) (_:1<=n) (_:n<=10) (_:(∀w∈bw,w.length<=900)) (_:bw.length<=1000) (_:∀(b:Nat) (H':Hp),a9 H H'->Dx bw n b->Q (.int (b:Int)) H')
inductive F6(K:wa1)(C CB CP CS CX CO:Addr)(vs:List V)(H:Hp)(Q:VK)(E:XK):Prop
 |mk (x dx xb:Addr) (many:Int) (n:Nat) (g:Str) (bw ss ls:List Str) (_:vs=[.ref x,.ref xb,.int many,.int (n:Int)]) (_:H x=some (.ins C dx [])) (_:aY CB H xb g bw ss ls) (_:(∀w∈bw,1<=w.length/\w.length<=900)) (_:bw.length<=1000) (_:("":Str)∈ss) (_:(ch g).Nodup) (_:2<=g.length) (_:g.length<=10) (_:ss.length<=900) (_:fG g.length many n) (_:(ER g bw ss many n->∀(p a l:Addr) (f0 f:Str->Int) (j9:List Di) (ks:List Nat) (hs:List Str) (ws:List Int) (lns:List (List (Str×Nat))) (b:Nat) (H':Hp),(∀c o,H c=some o->c≠x->H' c=some o)->H' x=some (.ins C dx (qa p xb many (n:Int) a l (cR (gR lns ks many.toNat) 0 (wam b 0)).1 ((cR (gR lns ks many.toNat) 0 (wam b 0)).2:Int)))->n9 K CP CS (aG H H') p (bZ f ls) j9 ks hs ws lns->bC K (aG H H') (qu (ks.map λd=>hs.getD d "")) (.ref a)->bC K (aG H H') (kA (gR lns ks many.toNat)) (.ref l)->rR g bw ss ls many n f0->(∀p∈ls,f p<=f0 p)->Cb g bw ss ls many n f j9 ks hs ws lns->ME many n (gR lns ks many.toNat)->Dx bw n b->Q .non H')) (_:Sy CX g bw ss many n H E) (_:(ER g bw ss many n->yd g bw ss ls many n->∀H',a9 H H'->E (.ref CO) none H'))
end Sx
namespace Bs
open PySem L2 Sx
theorem HU(B:aY C H j g I ss ls)(J:H x=some (.ins T U fs))(hn:j≠x):aY C (eS H x) j g I ss ls:=by
 obtain⟨⟨f,b,d,q,t,u,h,i,v,k,r⟩,p,o,l⟩:=B;have ne:∀{c:Addr} {o:HO},H c=some o->(∀a b e,o≠.ins a b e)->c≠x:=λe n z=>by grind
 exact⟨⟨f,b,d,q,t,fI u hn,fI h (ne h λ_ _ _ z=>by cases z),fI i (ne i λ_ _ _ z=>by cases z),v,λm s=>fI (k m s) (ne (k m s) λ_ _ _ z=>by cases z),fI r (ne r λ_ _ _ z=>by cases z)⟩,p,o,l⟩
theorem uE:∀b:Nat,(wam b [V.int 0]).flatten=(nI (wam b 0)).map V.int
 |0=>rfl
 |b + 1=>by
  rw[wcm,wcg,uE b,wcm];rfl
theorem Cq(h:∀c o,H c=some o->∃g,j c=some g):a9 (aG j l) (aG H l):=by grind [a9,aG]
end Bs
namespace K42
open PySem L2 Bs Sx
section
variable{P:wat}{w:World}{K:wa1}{mg:Str->Option Value}{base:Heap}
theorem qb(L:Lk K mg):aN P w K mg base dm 3 L.jS L.jT ["self"] (MM L.ao L.aC):=by
 refine L.eh.F.ee (N:=["self"]) (λf A outer s H q Q E nd r h=>?_);obtain⟨x,i,d,fs,n,g,j,l,ls,rfl,e,m,o,B,p,a,b,c,k⟩:=h;refine⟨_,(af (az (aj (pY L) L.gv (a5 (aO (pv 0) rfl) (a5 (aO (pv 0) rfl) a8))))),?_⟩;exact⟨_,rfl,x,L.ao,d,_,_,rfl,e,L.ay.cl,L.ay.HB,m,_,rfl,x,L.ao,d,_,_,rfl,e,L.ay.cl,L.ay.HC,o,i,n,g,j,l,ls,rfl,B,p,a,b,c,k⟩
theorem nA(L:Lk K mg):aN P w K mg base (vk P w) 10 L.f7 L.iE ["self","band","many","wide"] (F6 K L.ao L.aC L.aT L.aw L.bY L.lE):=by
 refine L.fg.F.zp (N:=["self","band","many","wide","sheet","kept","found"]) (λgK A outer s H vs Q E nd hr h=>?_);obtain⟨x,a,j,many,n,g,bw,ss,ls,rfl,hx,B,KJ,QE,YZ,Pt,DA,Dz,Dy,HR,k,kS,kO⟩:=h
 refine⟨_,(a7 (cS (pv 0) (iA (Ck L) (hr.mono (by decide)) rfl L.j4.g L.j4.F.kp L.j4.b .nil (sJ bV) (a5 (pv 1) (a5 (pv 2) (a5 (pv 3) a8)))) rfl)
  (a7 (cS (pv 0) (pv 1) rfl)
  (a7 (cS (pv 0) (pv 2) rfl)
  (a7 (cS (pv 0) (pv 3) rfl)
  (a7 (ag (i:=4) (gb (aO (pv 0) rfl) L.cF.cl L.gQ.m (vH L) (hr.mono (by decide)) L.gQ.b .nil eO))
  (a7 (ag (i:=5) (aO (aO (pv 0) rfl) rfl))
  (a7 (cS (pv 0) (cA rfl (ax ["sheet"] [4]) (aM (pv 5)) (λ_ _ _ _ _ _=>bh) (λ_ _ _ _ _ _=>(b8 (gf (K:=K) rfl) (lO (K:=K) rfl (pv 1) rfl) (pv 0) (λ_ _=>rfl)))) rfl)
  (a7 (cS (pv 0) (cA rfl (ax ["sheet","kept","many"] [4,5,2]) (aM (pv 5)) (λ_ _ _ _ _ _=>bh) (λ_ _ _ _ _ _=>(aj (j5 L) L.d1 (a5 (b8 (gf (K:=K) rfl) (lO (K:=K) rfl (pv 1) rfl) (pv 0) (λ_ _=>rfl)) (a5 (pv 2) (a5 (pv 3) a8)))))) rfl)
  (a7 (ag (i:=6) (aj (xE L) L.oF (a5 (aO (pv 0) rfl) (a5 ai (a5 (aE FK (b7 (a5 ai a8)) (gb (pv 0) L.ay.cl L.eh.m (qb L) (hr.mono (by decide)) L.eh.b .nil eO)) a8)))))
  (a7 (cS (pv 0) (b8 gp (pv 6) ai (λ_ _=>rfl)) rfl)
  (af (cS (pv 0) (b8 gp (pv 6) ai (λ_ _=>rfl)) rfl)))))))))))),?_⟩
 obtain⟨ra,rb,rc,rd,re⟩:=id HR
 have Z0:j≠x:=λz=>by
  obtain⟨dx',b,d,q,mv,h1,_⟩:=id B.ex;rw[z,hx]at h1;have:=wah h1;injection this with _ _ q2
  cases q2
 refine⟨_,rfl,_,rfl,_,rfl,j,many,n,g,bw,ss,ls,rfl,B,λw hw=>(KJ w hw).1,Pt,DA,Dz,Dy,HR,λNg p f0 f j9 D T ws u H1 s1 P1 hL hle G=>?_,kS,kO⟩;have W0:=Pb (n:=n) G.ko G.ne (show 0<=many by omega) (G.cv.word G.b.l (λq M=>B.lv.sub.subset (G.sb q M)) YZ);have P1':=P1.same (cm _ _);have Z1:=G.ln;have hwL:=G.b.w;have Rz:=G.b.l
 have Iq:g.length ^ n<=64:=by
  rw[waG]at re;have:((g.length ^ n:Nat):Int)<=64:=by rw[wdt];exact re
  omega
 have P6:∀l∈u,l.length<=10000:=λl hm=>by
  have h1:=G.cv.line G.b.l (b:=64) (λp=>wal (fH g bw ss ls n p) Iq) l hm;have h2:64 * T.length<=64 * 40:=wes _ (by omega);omega
 have Vg:D.length<=40:=by have:=G.ko.ab.sub.length_le;rw[wb2]at this;omega
 have VW:∀d∈D,d < u.length:=λd hd=>(G.ko.st d hd).1;refine⟨_,rfl,x,L.ao,a,[],rfl,s1 _ _ hx,L.ay.cl,L.ay.o6,(show 0 < 1000 by decide),?_⟩;rw[Pu];refine⟨_,rfl,_,rfl,x,L.ao,a,_,rfl,a6,L.ay.cl,L.ay.HB,(show 1 < 1000 by decide),?_⟩;rw[Pw];refine⟨_,rfl,_,rfl,x,L.ao,a,_,rfl,a6,L.ay.cl,L.ay.yg,(show 2 < 1000 by decide),?_⟩;rw[Px];refine⟨_,rfl,_,rfl,x,L.ao,a,_,rfl,a6,L.ay.cl,L.ay.HC,(show 3 < 1000 by decide),?_⟩;rw[Py];have x2:(upd (upd (upd (upd H1 x (.ins L.ao a (Nh p))) x (.ins L.ao a (Ni p j))) x (.ins L.ao a (Nj p j many))) x (.ins L.ao a (ML p j many (n:Int)))) x=some (.ins L.ao a (ML p j many (n:Int))):=a6;have k2:∀c o,H1 c=some o->c≠x->(upd (upd (upd (upd H1 x (.ins L.ao a (Nh p))) x (.ins L.ao a (Ni p j))) x (.ins L.ao a (Nj p j many))) x (.ins L.ao a (ML p j many (n:Int)))) c=some o:=λc o e hc=>by rw[aa hc,aa hc,aa hc,aa hc];exact e
 generalize upd (upd (upd (upd H1 x (.ins L.ao a (Nh p))) x (.ins L.ao a (Ni p j))) x (.ins L.ao a (Nj p j many))) x (.ins L.ao a (ML p j many (n:Int)))=H2 at x2 k2;have TZ:∀c o,H c=some o->c≠x->H2 c=some o:=λc o e hc=>k2 c o (s1 _ _ e) hc;have n2:a9 (aG H H1) (aG H H2):=bD hx k2;have P2:=P1.same (n2.trans (cm _ _));obtain⟨dp,wa,wb,U,wz,PH,_,_,Z2,_⟩:=id P2;refine⟨_,rfl,x,L.ao,a,_,_,rfl,x2,L.ay.cl,L.ay.o6,oW p j many n,p,dp,_,rfl,PH,uC (by show ("sheet":Str)∉[("weights":Str),"splits","kept","last"];decide+kernel),p,bZ f ls,j9,D,T,ws,u,rfl,P2,by omega,by omega,by omega,P6,λy H3 s3 S3=>?_⟩;have x3:=s3 _ _ x2;refine⟨_,rfl,x,L.ao,a,_,_,rfl,x3,L.ay.cl,L.ay.o6,oW p j many n,p,L.aT,dp,_,_,rfl,s3 _ _ PH,L.cF.cl,L.cF.Hy,Ca wa wb U wz,?_⟩
 have U0:aH K H3 U ((nI D).map V.int):=by
  obtain⟨c',e,h⟩:=i3 (bC.same s3 _ _ Z2);cases e;exact h
 have Z3:=S3.same (cm _ _);obtain⟨dy,ah,VX,cl,hy,rh,rwt,rl⟩:=id Z3;have hh:=y7 rh;obtain⟨OW,xs,ec,hc,AB⟩:=id rl;cases ec;refine⟨_,rfl,U,rfl,⟨_,U0⟩,λr U1=>?_⟩;refine d8 (λ_=>true) (λv=>match v with |.int d=>.str (T.getD d.toNat "") |_=>.non) (aK K U _) U1 (au (by rw[wa0,cK];omega)) (λH' s'=>s'.seq U0) (λv H8 Q' hy s8 qq=>qq H8 (a9.refl _)) (λv H4 Q' hv _ O qq=>?_) (λH4 O h4=>?_)
 ·obtain⟨n',AD,rfl⟩:=pM hv;have W:n' < T.length:=by rw[<-Rz];exact VW n' AD
  exact⟨_,rfl,y,L.aw,dy,_,_,rfl,O _ _ hy,L.av.cl,L.av.gN,eE ah VX cl,_,rfl,ah,_,_,_,rfl,rfl,O.seq (.inl hh),bQ (v:=.str (T.getD n' "")) (by rw[wa4,wa2 W,wa5,wa2 W];rfl),qq H4 (a9.refl _)⟩
 have e4:(((nI D).map V.int).filter λ_=>true).map (λv=>match v with |.int d=>V.str (T.getD d.toNat "") |_=>.non)=(D.map λd=>T.getD d "").map V.str:=by
  rw[wb5.mpr (λ_ _=>rfl)];unfold nI;rw[wai,wai,wai];rfl
 rw[e4]at h4;have X:r≠x:=wbc (ae x3 U1);refine⟨_,rfl,x,L.ao,a,_,rfl,O _ _ x3,L.ay.cl,L.ay.gN,(show 4 < 1000 by decide),?_⟩;rw[Pz];have x5:(upd H4 x (.ins L.ao a (KW p j many (n:Int) r))) x=some (.ins L.ao a (KW p j many (n:Int) r)):=a6;have k5:∀c o,H4 c=some o->c≠x->(upd H4 x (.ins L.ao a (KW p j many (n:Int) r))) c=some o:=λc o e hc=>by rw[aa hc];exact e
 generalize upd H4 x (.ins L.ao a (KW p j many (n:Int) r))=H5 at x5 k5;have x4:=O _ _ x3
 have Z4:y≠x:=λz=>by
  obtain⟨_,_,_,_,h,_⟩:=id S3;rw[z]at h;unfold aG at h;rw[x2]at h;cases h
 have MK:aH K H5 U ((nI D).map V.int):=(fU k5).seq (y3 x4 (O.seq U0));have Ts:=k5 _ _ (O _ _ hy) Z4;have Z5:bC K H5 (kA u) (.ref cl):=bC.same (fU k5) _ _ (bC.off x4 _ _ (bC.same O _ _ rl));obtain⟨V6,Z6,Z7,Z8,U2⟩:=id Z5;cases Z7;refine⟨_,rfl,U,rfl,⟨_,MK⟩,λC BR=>?_⟩;refine tm (K:=K) ((gR u D many.toNat).map bW) (aK K U _) BR (au (by rw[wa0,cK];omega)) (by unfold gR;rw[wa0,wa0,wa0,cK]) (λH' s'=>s'.seq MK) (λi v dd H6 Q' hv N5 Y qq=>?_) (λH6 Y r6=>?_)
 ·have hi:i < D.length:=by have:=(wa6.mp hv).1;rwa[wa0,cK]at this
  rw[C4 (wa2 hi)]at hv;cases hv;unfold gR at N5;rw[wa4,wa4,wa2 hi]at N5;cases N5;have HJ:=VW _ (waQ hi);generalize D[i]=d at qq HJ;have M:=lW HJ;obtain⟨v',MC,Z9⟩:=U2.at (i:=d) (d:=bW (u.getD d [])) (by rw[wa4,M];rfl);exact⟨_,rfl,y,L.aw,dy,_,_,rfl,Y _ _ Ts,L.av.cl,L.av.cB,bJ ah VX cl,_,rfl,cl,Z6,_,_,rfl,rfl,Y.seq (.inl Z8),bQ MC,_,rfl,_,rfl,v',U,many,D,u.getD d [],rfl,bC.same Y _ _ Z9,Y.seq MK,by omega,P6 _ (wak M),by omega,λz R s7 r7=>qq z R s7 r7⟩
 have x6:=Y _ _ x5;refine⟨_,rfl,x,L.ao,a,_,rfl,x6,L.ay.cl,L.ay.cB,(show 5 < 1000 by decide),?_⟩;rw[PB];have x7:(upd H6 x (.ins L.ao a (HS p j many (n:Int) r C))) x=some (.ins L.ao a (HS p j many (n:Int) r C)):=a6;have k7:∀c o,H6 c=some o->c≠x->(upd H6 x (.ins L.ao a (HS p j many (n:Int) r C))) c=some o:=λc o e hc=>by rw[aa hc];exact e
 generalize upd H6 x (.ins L.ao a (HS p j many (n:Int) r C))=R at x7 k7;have VY:∀c o,H c=some o->c≠x->H5 c=some o:=λc o e hc=>k5 _ _ (O _ _ (s3 _ _ (TZ c o e hc))) hc;have Za:∀c o,H c=some o->c≠x->R c=some o:=λc o e hc=>k7 _ _ (Y _ _ (VY c o e hc)) hc;have r7:bC K R (kA (gR u D many.toNat)) (.ref C):=bC.same ((Dk x5).trans (fU k7)) _ _ r6;have B7:aY L.aC R j g bw ss ls:=(HU B hx Z0).same (fU Za);refine⟨_,rfl,x,L.ao,a,_,_,rfl,x7,L.ay.cl,L.ay.cB,Af p j r C many n,by show 1<=sizeLine;decide,λl0 MF=>?_⟩;have s8:=a9.upd (H:=R) (o:=.lst [V.int 0]) MF;have h8:(upd R l0 (.lst [V.int 0])) l0=some (.lst [V.int 0]):=a6;generalize upd R l0 (.lst [V.int 0])=H8 at s8 h8;have x8:=s8 _ _ x7;refine⟨_,rfl,x,a,_,rfl,x8,yq p j r C many n,x,j,a,_,n,g,bw,ss,ls,rfl,x8,Cm p j r C many n,Cp p j r C many n,B7.same s8,by omega,by omega,λw hw=>(KJ w hw).2,QE,λb H9 s9 hb=>?_⟩;have PK:=hb.le;refine⟨l0,(b:Int),[V.int 0],rfl,rfl,s9 _ _ h8,by omega,by omega,au (by show 1 * ((b:Int)).toNat<=_;omega),λpr U3=>?_⟩;rw[waG,uE];have KU:=a9.upd (H:=H9) (o:=.lst ((nI (wam b 0)).map V.int)) U3;have MI:(upd H9 pr (.lst ((nI (wam b 0)).map V.int))) pr=some (.lst ((nI (wam b 0)).map V.int)):=a6;generalize upd H9 pr (.lst ((nI (wam b 0)).map V.int))=K5 at KU MI;have Z:=s8.trans (s9.trans KU);refine⟨.ref C,0,pr,many,n,gR u D many.toNat,wam b 0,rfl,bC.same Z _ _ r7,aH.of MI,W0,wet.mpr W0.ne,λt ht=>by rw[(weF.mp ht).2];omega,by rw[wbB];omega,by omega,λq S MJ M=>?_⟩;have PL:=Z.trans MJ;have VZ:=PL _ _ x7;have Td:q≠x:=λz=>by rw[z,VZ]at M;cases M
 generalize Zb:cR (gR u D many.toNat) 0 (wam b 0)=I at M;refine⟨_,rfl,q,_,_,_,rfl,rfl,ir.of M,rfl,_,rfl,x,L.ao,a,_,rfl,VZ,L.ay.cl,L.ay.xc,(show 6 < 1000 by decide),?_⟩;rw[PD];refine⟨_,rfl,q,_,_,_,rfl,rfl,ir.of (by rw[aa Td];exact M),rfl,_,rfl,x,L.ao,a,_,rfl,a6,L.ay.cl,L.ay.Dm,(show 7 < 1000 by decide),?_⟩;rw[PF];have U4:(upd (upd S x (.ins L.ao a (Nk p j many (n:Int) r C I.1))) x (.ins L.ao a (qa p j many (n:Int) r C I.1 (I.2:Int)))) x=some (.ins L.ao a (qa p j many (n:Int) r C I.1 (I.2:Int))):=a6;have W2:∀c o,S c=some o->c≠x->(upd (upd S x (.ins L.ao a (Nk p j many (n:Int) r C I.1))) x (.ins L.ao a (qa p j many (n:Int) r C I.1 (I.2:Int)))) c=some o:=λc o e hc=>by rw[aa hc,aa hc];exact e
 generalize upd (upd S x (.ins L.ao a (Nk p j many (n:Int) r C I.1))) x (.ins L.ao a (qa p j many (n:Int) r C I.1 (I.2:Int)))=J at U4 W2;have PN:∀c o,R c=some o->c≠x->J c=some o:=λc o e hc=>W2 _ _ (PL _ _ e) hc;have U5:∀c o,H5 c=some o->c≠x->J c=some o:=λc o e hc=>PN _ _ (k7 _ _ (Y _ _ e) hc) hc;have PQ:∀c o,H4 c=some o->c≠x->J c=some o:=λc o e hc=>U5 _ _ (k5 _ _ e hc) hc;have PR:∀c o,H2 c=some o->c≠x->J c=some o:=λc o e hc=>PQ _ _ (O _ _ (s3 _ _ e)) hc
 have fla:H r=none:=by
  cases e:H r with
  |none=>rfl
  |some o=>have:=s3 _ _ (TZ r o e X);rw[U1]at this;cases this
 have m5:∀c o,H c=some o->∃o',H5 c=some o':=λc o e=>by
  by_cases z:c=x
  ·rw[z];exact⟨_,x5⟩
  ·exact⟨o,VY c o e z⟩
 rw[<-Zb]at U4;refine k Ng p r C f0 f j9 D T ws u b J (λc o e hc=>PR _ _ (TZ c o e hc) hc) U4 (P1.same (n2.trans (bD hx PR))) (nU (bN fla (PQ _ _ h4 X))) (bC.same ((Cq m5).trans (bD hx λc o e hc=>PN _ _ (k7 _ _ e hc) hc)) _ _ r6) hL hle G W0 hb
end
end K42
namespace L2
open PySem PySem.Spec PyProof.Rows Sx
section
variable{X:Cx}{e:Expr}{es:List Expr}{te:TE}{t:TJ}{pos:Pos}
noncomputable def U6(te:TE)(t:TJ):TJ:=λacc σ H Q=>te σ H λv H1=>(∃i,v=.int i/\i.natAbs.log2 < 1920/\(acc++(toString i:String)).length<=sizeLine/\t (acc++(toString i:String)) σ H1 Q)\/(v=.non/\(acc++("None":Str)).length<=sizeLine/\t (acc++("None":Str)) σ H1 Q)
theorem MN(j:PE X e te)(h:PJ X es t):PJ X (.FormattedValue e (-1) none pos :: es) (U6 te t):=λa s σ H k Q I q=>by
 refine wg0 (wgf (bP (j a s σ H _ I q) λv m ⟨y,d,f,g,l⟩=>?_));rcases l with⟨i,rfl,hl,b,c⟩ |⟨rfl,b,c⟩
 ·obtain⟨n,rfl⟩:=g;exact wg1 hl ⟨b,h a _ σ d _ Q (f.tok _) c⟩
 ·cases g;exact wpAny_formatField_none ⟨b,h a _ σ d _ Q (f.tok _) c⟩
end
end L2
namespace Sx
open PySem L2 Bs
def U7(v:V):Prop:=v=.non\/∃i:Int,v=.int i/\i.natAbs.log2 < 1920
def yt(H:Hp)(many:Int)(v:V):Prop:=Thing H v/\(isInt v=false\/∃i:Int,v=.int i/\(i < 0\/many<=i))
def PU(CN:Addr)(v:V)(H:Hp)(E:XK):Prop:=∀(d:Addr) (H':Hp),a9 H H'->H d=none->H' d=some (.xd [("number",v)])->E (.ref CN) (some d) H'
inductive HV(K:wa1)(CN:Addr)(vs:List V)(H:Hp)(Q:VK)(E:XK):Prop
 |mk (v many) (_:vs=[v,.int many]) (_:((∃(a:Addr) (ts:List Nat),v=.ref a/\H a=some (.lst ((nI ts).map V.int))/\(∀t∈ts,(t:Int) < many)/\∀H',a9 H H'->Q .non H')\/(∃(a:Addr) (xs:List V) (i:Nat) (y:V),v=.ref a/\H a=some (.lst xs)/\xs[i]?=some y/\yt H many y/\(∀j z,j < i->xs[j]?=some z->∃t:Nat,z=.int (t:Int)/\(t:Int) < many)/\i<=100000/\PU CN (.int (i:Nat)) H E)\/(∃t,d7 K H v t/\wcE K t (.type "list")=some false/\PU CN .non H E)))
inductive Ka(K:wa1)(C CP CS:Addr)(vs:List V)(H:Hp)(Q:VK)(eL:XK):Prop
 |mk (x xb many n b m j9 ks hs ws lns) (_:vs=[.ref x]) (_:j6 K C CP CS H x xb many n m j9 ks hs ws lns b) (_:Q (.int (j9.length:Int)) H)
noncomputable def PV(wl:List (List (Str×Nat)))(b c:Nat)(ts:List Nat):Str:=(cR wl 0 (wam b 0)).1++(cR wl (cR wl 0 (wam b 0)).2 (ts++wam c 0)).1
abbrev PX(K:wa1)(CN:Addr)(many:Int)(v:V)(H:Hp)(E:XK):Prop:=(∃(a:Addr) (xs:List V) (i:Nat) (y:V),v=.ref a/\H a=some (.lst xs)/\xs[i]?=some y/\yt H many y/\(∀j z,j < i->xs[j]?=some z->∃t:Nat,z=.int (t:Int)/\(t:Int) < many)/\i<=100000/\PU CN (.int (i:Nat)) H E)\/(∃t,d7 K H v t/\wcE K t (.type "list")=some false/\PU CN .non H E)
inductive Kb(K:wa1)(C CP CS CN:Addr)(vs:List V)(H:Hp)(Q:VK)(E:XK):Prop
 |mk (x xb v many n b m j9 ks hs ws lns) (_:vs=[.ref x,v]) (_:j6 K C CP CS H x xb many n m j9 ks hs ws lns b) (_:ME many n (gR lns ks many.toNat)) (_:1<=many) (_:n<=10) (_:b<=1000) (_:j9.length<=1000) (_:((∃(a:Addr) (ts:List Nat),v=.ref a/\H a=some (.lst ((nI ts).map V.int))/\(∀t∈ts,(t:Int) < many)/\ts.length<=10000/\∀H',a9 H H'->Q (.str (PV (gR lns ks many.toNat) b j9.length ts)) H')\/PX K CN many v H E))
end Sx
namespace L2
open PySem PySem.Spec PyProof.Rows
section
variable{M:Model}{A:Around}{E:Value->Shared->Prop}{e C C1 CB:Addr}{nm q:Str}{N:Addr}{bs:List Value}{hdct:Bool}{sn:List Str}{sub:List Value}{ab:Bool}{col:Option Bool}{dd:Option Addr}{k0 k1 k2 k3 k5:Option Value}
 {yN q':Str} {N':Addr} {Zc:List Value} {PY:Bool} {Zd:List Str} {U8:List Value} {Ze:Bool} {U9:Option Bool} {Zf:Option Addr} {Zg Zh Zi Zj Zk:Option Value}
theorem yu{h:Heap}{g:Array wcX}{d:Drawn}{t:Nat}{os:wbJ}{r:Obj}{Q:Bool->Shared->Prop}(j:h.get? C1=some (wbf yN q' C1 N' Zc (jM CB) PY Zd U8 Ze U9 Zf Zg Zh Zi Zj Zk "ValueError.__new__"))
 (I:h.get? C=some (wbf nm q C N bs (jM CB) hdct sn sub ab col dd k0 k1 k2 k3 k5 "ValueError.__new__"))
 (J:h.get? e=some r) (l:r.cls=.ref C) (o:C1≠C) (p:C1≠CB) (T:Q false ⟨h,g,d,t,os⟩) :
 wpAny M A (wej (.ref e) (.ref C1)) Q E ⟨h,g,d,t,os⟩:=by
 have a:(waf C1 :: jM CB).contains (.type "BaseException")=true:=by simp[wdD,jM]
 have b:(waf C :: jM CB).contains (.ref C1)=false:=by simp[wdD,jM,o,p]
 have f:=wh3;unfold wej
 repeat (first |(with_reducible refine waW J ?_;rw[l]) |with_reducible refine waW j ?_ |with_reducible refine waW I ?_ |(with_reducible refine wbq I ?_;rw[b]) |(with_reducible refine wbq j ?_;rw[a]) |wp_step)
 exact T
end
def PZ(C1 C2:Addr)(tb:Il)(i:Nat):TS:=λD σ H=>tb (λσ' cv od H'=>(cv=.ref C1\/cv=.ref C2)/\D.nx (σ'.set i (some .non)) H') D σ H
section
variable{X:Cx}{CB C1 C2:Addr}{OB QK x nm yN:Str}{body:List Stmt}{tb:Il}{i jj jk:Nat}{p1 p2 p3 p4 Jh q1 q2 q3 q4 Ua pos:Pos}
theorem Kc(l:X.stack=X.env :: X.outer/\X.env.frame=some X.env.locals)(g:LR X body tb)(hg:Gl X OB)(hm:X.mg OB=some (.ref C1))(Zm:Gl X QK)(RK:X.mg QK=some (.ref C2))(U:bB X.K C1 CB nm)(U':bB X.K C2 CB yN)(z9:C1≠C2)(Zn:C1≠CB)(hN:X.N.Nodup)(hi:X.N[i]?=some x)
 (hx:Loc X.env.scope x) (J:(OB == ("__debug__":Str))=false:=by decide) (T:(QK == ("__debug__":Str))=false:=by decide)
 (hf:X.fn x=true\/X.env.scope.names.lookup x=some .local:=by first |exact .inl rfl |exact .inr rfl |assumption) (O8:wbO (.Constant .none jj p3) (some (.Name x p2)) p4.line X.env=pure false:=by rfl) (Ub:wbO (.Constant .none jk q3) (some (.Name x q2)) q4.line X.env=pure false:=by rfl) :
 PS X (.Try body [.ExceptHandler (some (.Name OB p1)) none [.Assign [.Name x p2] (.Constant .none jj p3) p4] Jh,.ExceptHandler (some (.Name QK q1)) none [.Assign [.Name x q2] (.Constant .none jk q3) q4] Ua] [] [] pos) (PZ C1 C2 tb i):=by
 intro a s σ H D I h;refine wpAny_Try_except (waV (g a s σ H D _ I h) (λf s1 q=>?_) λV s1 q=>?_)
 ·cases f with
  |next=>exact wbR q
  |ret v=>exact q
  |brk=>exact q
  |cont=>exact q
 obtain⟨r,H0,G,d,e,C',od,m,rfl,k,bare,un,aW,F,c,hD⟩:=q;have I1:Inv X a r m s1:=d.rX k un aW bare λb z=>absurd z (by simp);have Y:(X.env :: X.outer).filterMap (·.frame)=p7 X.stack:=by rw[l.1];rfl
 have t:=I1.nD
 have L:G.heap.objs.size<=s1.heap.objs.size:=wf8 λz=>by
  obtain⟨Z,_,vs,sl,he,_⟩:=F;exact absurd (wan (wba Z (wad he)) (we5 z)) (wb4 _)
 refine sI (lo:=G.heap.objs.size) (H:=m) (base:=X.base) (outer:=X.outer) (by rw[<-l.1];exact d.ok.frames) (by rw[<-l.1];exact I1.stack) l.2 L (λb g=>aW.fresh g) F λW F2 p=>?_;rw[Y]at p;obtain⟨M,n,J2⟩:=d.sN k bare un aW p t;have u:=J2 s1.toks;obtain⟨qC,NC,Xh,Xi,S0,Xj,S2,Xk,c0,c1,c2,c3,c5,O⟩:=U.lk;obtain⟨qD,ND,bsD,snD,Zo,abD,Zq,ddD,e0,e1,e2,e3,e5,P⟩:=U'.lk;obtain⟨UR,Xn,w,_⟩:=id F2.ob;rcases c with c |c
 ·cases c;refine wdn (wd3 (eM (X:=X.marked e) (u.marked (e:=e)) hg hm ?_ J)) (by intro z;cases z);refine qt (u.fv _ _ O) w rfl ?_;refine wfQ ?_;refine mW F2 λQ F3 R=>?_;have A:Bm G.heap.objs.size m (p7 X.stack) W Q:=⟨λb o q g _=>R b o q g,λb o q g=>⟨o.slots,R b o q (.inl ?_)⟩⟩
  rotate_left
  ·have:∃o,G.heap.get? b=some o:=by
    obtain⟨_,o,B,_⟩:=d.stack.mem g;exact⟨o,B⟩
   obtain⟨o,B⟩:=this;exact wad B
  obtain⟨UT,S,J3⟩:=d.sN (s1:={s1 with heap:=W}) k bare M n A t;have I3:=J3 s1.toks;have V:=da (X:=(X.marked e).AJ) (j:=jj) (pos:=p3) a {s1 with heap:=Q} r m (λv C=>v=.non/\C=m) ((I3.marked (e:=e)).jc _) ⟨rfl,rfl⟩;refine wcn (wd1 (E7 (bP V λv s5 ⟨y,H5,E,r5,ey,eH⟩=>?_)) O8);subst ey;subst eH;have E:=(E.df).unmarked d.ok;refine g8 E hN hi hx r5 (λs6 I6=>wbR ?_) hf;exact⟨_,_,I6,hD⟩
 ·cases c;refine wdn (wd3 (eM (X:=X.marked e) (u.marked (e:=e)) hg hm ?_ J)) (by intro z;cases z);refine yu (u.fv _ _ O) (u.fv _ _ P) w rfl z9 Zn ?_;refine wdn (wd3 (eM (X:=X.marked e) (u.marked (e:=e)) Zm RK ?_ T)) (by intro z;cases z);refine qt (u.fv _ _ P) w rfl ?_;refine wfQ ?_;refine mW F2 λQ F3 R=>?_;have A:Bm G.heap.objs.size m (p7 X.stack) W Q:=⟨λb o q g _=>R b o q g,λb o q g=>⟨o.slots,R b o q (.inl ?_)⟩⟩
  rotate_left
  ·have:∃o,G.heap.get? b=some o:=by
    obtain⟨_,o,B,_⟩:=d.stack.mem g;exact⟨o,B⟩
   obtain⟨o,B⟩:=this;exact wad B
  obtain⟨UT,S,J3⟩:=d.sN (s1:={s1 with heap:=W}) k bare M n A t;have I3:=J3 s1.toks;have V:=da (X:=(X.marked e).AJ) (j:=jk) (pos:=q3) a {s1 with heap:=Q} r m (λv C=>v=.non/\C=m) ((I3.marked (e:=e)).jc _) ⟨rfl,rfl⟩;refine wcn (wd1 (E7 (bP V λv s5 ⟨y,H5,E,r5,ey,eH⟩=>?_)) Ub);subst ey;subst eH;have E:=(E.df).unmarked d.ok;refine g8 E hN hi hx r5 (λs6 I6=>wbR ?_) hf;exact⟨_,_,I6,hD⟩
end
end L2
namespace Bs
open PySem L2 Sx
structure uF(K:wa1)(C CB CP CS:Addr)(H:Hp)(x:Addr)(g:Str)(bw:List Str)(many:Int)(n:Nat):Prop where
 ex:∃(xb:Addr) (ss ls:List Str) (f0 f:Str->Int) (j9:List Di) (ks:List Nat) (hs:List Str) (ws:List Int) (lns:List (List (Str×Nat))) (b:Nat),aY CB H xb g bw ss ls/\j6 K C CP CS H x xb many n (bZ f ls) j9 ks hs ws lns b/\ER g bw ss many n/\rR g bw ss ls many n f0/\(∀p∈ls,f p<=f0 p)/\Cb g bw ss ls many n f j9 ks hs ws lns/\ME many n (gR lns ks many.toNat)/\Dx bw n b
theorem uF.same(h:uF K C CB j l H x g o many n)(s:a9 H p):uF K C CB j l p x g o many n:=by
 obtain⟨d,e,ls,i,f,a,k,m,q,c,b,r,t,u⟩:=h;exact⟨d,e,ls,i,f,a,k,m,q,c,b,r.same s,t.same s,u⟩
end Bs
namespace Sx
open PySem L2 Bs
inductive Kd(K:wa1)(C CB CP CS:Addr)(vs:List V)(H:Hp)(Q:VK)(eL:XK):Prop
 |mk (g:Str) (a:Addr) (many:Int) (n:Nat) (bw:List Str) (_:vs=[.str g,.ref a,.int many,.int (n:Int)]) (_:aH K H a (bw.map V.str)) (_:wx g) (_:bw.length<=6) (_:(∀w∈bw,xX g w)) (_:fG g.length many n) (_:∀(v:V) (H':Hp),a9 H H'->(v=.non\/∃x,v=.ref x/\uF K C CB CP CS H' x g bw many n)->Q v H')
end Sx
namespace K42
open PySem L2 Bs Sx
section
variable{P:wat}{w:World}{K:wa1}{mg:Str->Option Value}{base:Heap}
theorem yv(L:Lk K mg):aN P w K mg base dm 12 L.ri L.rj ["_law_signs","_law_words","_law_many","_law_wide"] (Kd K L.ao L.aC L.aT L.aw):=by
 refine L.lB.F.ee (N:=["_law_signs","_law_words","_law_many","_law_wide","_law_told_here"]) (λZ A outer s H vs Q E nd V h=>?_);obtain⟨g,a,many,n,y,rfl,hA,q,m,d,z,k⟩:=h
 refine⟨_,(a7 (ag (i:=4) da)
  (a7 (Kc ⟨rfl,rfl⟩ (zi (Jf (i:=4) nd rfl (wdi rfl) (Gm L.xo (nA L) (V.mono (by decide)) rfl L.A0 L.fg.b (a5 (nG L.Dt (q8 L) (V.mono (by decide)) rfl L.HE L.gz.b .nil eO (a5 (pv 0) (a5 (pv 1) a8))) (a5 (pv 2) (a5 (pv 3) a8)))))) rfl L.oN rfl L.uo L.fj L.pV (L.fj.ne L.pV (by decide+kernel)) (L.fj.neT L.XT (by decide+kernel)) nd (i:=4) rfl (wdi rfl))
  (af (az (pv 4))))),?_⟩
 have g2:=q.lo;have g4:=q.hi;have w1:∀w∈y,1<=w.length/\w.length<=900:=λw h=>⟨(d w h).lo,by have:=(d w h).hi;omega⟩;refine⟨_,rfl,_,rfl,λB C l j W=>?_⟩;refine⟨B,C,g,a,y,rfl,a6,(fE l j).seq hA,q,m,d,λr ls t u D=>⟨rfl,?_⟩⟩;have G:a9 H t:=λb o e=>D b o (fE l j _ _ e) (ae e l);have Dy:r.length<=25:=u.few m d;have I:("":Str)∈r:=u.pm.mem_iff.mpr ((mh _).mpr (.inl rfl));refine⟨_,rfl,_,rfl,λx v nx J nex=>?_⟩;have sm:a9 t (upd (upd t v (.own x)) x (.ins L.ao v [])):=fE nx J;refine⟨x,v,B,many,n,g,y,r,ls,rfl,a6,u.same sm,w1,by omega,I,q.nd,g2,by omega,by omega,z,λM p la ll f0 f O ks hs ws R b X k2 x2 P2 r2 l2 hL S hP W0 hB=>⟨rfl,?_⟩,?_,?_⟩
 ·have Y:a9 t X:=λc o e=>k2 _ _ (sm _ _ e) (ae e nx);refine⟨_,rfl,k _ X (G.trans Y) (.inr ⟨x,rfl,B,r,ls,f0,f,O,ks,hs,ws,R,b,u.same Y,⟨v,p,la,ll,x2,P2.same (cm _ _),bC.same (cm _ _) _ _ r2,bC.same (cm _ _) _ _ l2⟩,M,hL,S,hP,W0,hB⟩)⟩
 ·exact λk' d' T _ U _ _=>⟨.inl rfl,_,rfl,k .non T (G.trans (sm.trans U)) (.inl rfl)⟩
 ·exact λ_ _ T U=>⟨.inr rfl,_,rfl,k .non T (G.trans (sm.trans U)) (.inl rfl)⟩
theorem ip(L:Lk K mg):aN P w K mg base dm 1 L.dk L.fm ["self","number"] (Sd L.aV "number" U7):=by
 refine L.oS.ee (N:=["self","number"]) (λe A outer s H g Q E nd j h=>?_);obtain⟨x,v,rfl,f,a,k⟩:=h
 refine⟨_,(a7 (bu (zh rfl L.iI L.XB (a5 (pv 0) (a5 (D6 (sM (MN (pv 1) (sM Gi)))) a8))))
  (af (D5 (CB:=L.aI) (pv 0) (pv 1) rfl))),?_⟩
 rcases f with rfl |⟨i,rfl,c⟩
 ·refine⟨_,rfl,au (by decide+kernel),_,rfl,.inr ⟨rfl,au (by decide+kernel),au (by decide+kernel),au (by decide+kernel),x,L.aV,_,_,rfl,a,L.aR,?_⟩⟩;exact⟨_,rfl,_,rfl,x,L.aV,_,rfl,a,L.aR,L.et,λd hd=>k d hd⟩
 ·have b:=wcW c;refine⟨_,rfl,au (by decide+kernel),_,rfl,.inl ⟨i,rfl,c,au ?_,au ?_,au ?_,x,L.aV,_,_,rfl,a,L.aR,?_⟩⟩
  ·exact wal (d2 (show _<=1000 by decide+kernel) b) (by decide)
  ·exact wal (d2 (d2 (show _<=1000 by decide+kernel) b) (show _<=1000 by decide+kernel)) (by decide)
  ·exact wal (d2 (d2 (show _<=1000 by decide+kernel) b) (show _<=1000 by decide+kernel)) (by decide)
  exact⟨_,rfl,_,rfl,x,L.aV,_,rfl,a,L.aR,L.et,λd hd=>k d hd⟩
theorem vJ(L:Lk K mg):aN P w K mg base (vk P w) 3 L.oC L.oE ["data","many"] (HV K L.aV):=by
 have T:=L.T;refine L.eZ.F.zp (N:=["data","many","number","thing"]) (λY A outer s H vs Q E nd W h=>?_);obtain⟨v,many,rfl,h⟩:=h
 refine⟨_,(a7 (bH (dO (cn (aq cO (by rfl) T.rp gq (a5 (pv 0) (a5 (gH (v:=.ty "list") (by rfl) T.list iC rfl) a8))))) (af (sL bV rfl L.aR L.pW L.pX (ip L) (W.mono (by decide)) L.lF rfl L.oQ (a5 da a8))) aL)
  (af (bj weX rfl (lM (by rfl) T.enum (a5 (pv 0) a8)) (fC rfl (aU (aA (i:=2)) (aU (aA (i:=3)) dC))) (af (bH (PW.pt (iy (dO (cn (aj (lI L) L.i7 (a5 (pv 3) a8)))) (iy (aF m6 (pv 3) ai (aS _)) (jb (aF Fv (pv 3) (pv 1) (aS _)))))) (af (sL bV rfl L.aR L.pW L.pX (ip L) (W.mono (by decide)) L.lF rfl L.oQ (a5 (pv 2) a8))) aL))))),?_⟩
 rcases h with⟨a,Z,rfl,ha,G,k⟩ |⟨a,xs,i,y,rfl,ha,X,hb,I,hi,k⟩ |⟨t,ht,hk,k⟩
 ·refine⟨_,rfl,_,_,_,true,rfl,d7.lst ha,rfl,true,rfl,bA ?_⟩;refine⟨_,rfl,a,_,rfl,aH.of ha,kj (K:=K) (a:=a) (xs:=(nI Z).map V.int) (λi σ c=>a9 H c/\∃r u,σ=[some (.ref a),some (.int many),r,u]) ⟨a9.refl _,none,none,rfl⟩ (λi σ c _ p=>p.1.seq (aH.of ha)) ?_ (λσ c p=>k c p.1)⟩;rintro i x σ c T B ⟨J,r,u,rfl⟩ M;obtain⟨n,hn,rfl⟩:=pM (wak B);have O:=G n hn;refine⟨T,_,rfl,ir.of a6,rfl,_,_,rfl,_,_,rfl,rfl,?_⟩;have d:=J.trans (a9.upd (o:=.tup [.int (i:Nat),.int (n:Int)]) M);generalize upd c T (.tup [.int (i:Nat),.int (n:Int)])=H3 at d;refine⟨_,rfl,.int (n:Int),rfl,.flat rfl,true,rfl,bA ?_⟩;refine⟨_,rfl,_,_,rfl,rfl,false,congrArg V.bl (decide_eq_false (by omega)),bA ?_⟩;refine⟨_,rfl,_,rfl,_,_,rfl,rfl,false,congrArg V.bl (decide_eq_false (by omega)),bA ?_⟩;exact⟨d,_,_,rfl⟩
 ·refine⟨_,rfl,_,_,_,true,rfl,d7.lst ha,rfl,true,rfl,bA ?_⟩;refine⟨_,rfl,a,_,rfl,aH.of ha,kj (K:=K) (a:=a) (xs:=xs) (λj σ c=>j<=i/\a9 H c/\∃r u,σ=[some (.ref a),some (.int many),r,u]) ⟨waM _,a9.refl _,none,none,rfl⟩ (λj σ c _ p=>p.2.1.seq (aH.of ha)) ?_ (λσ c p=>?_)⟩
  ·rintro j x σ c T B ⟨hji,J,r,u,rfl⟩ M;refine⟨T,_,rfl,ir.of a6,rfl,_,_,rfl,_,_,rfl,rfl,?_⟩;have d:=J.trans (a9.upd (o:=.tup [.int (j:Nat),x]) M);generalize upd c T (.tup [.int (j:Nat),x])=H3 at d
   by_cases R:j=i
   ·subst R;rw[X]at B;cases B
    have f:((j:Nat):Int).natAbs.log2 < 1920:=by
     have h1:((j:Nat):Int).natAbs < 2 ^ 72:=by omega
     by_cases z:((j:Nat):Int).natAbs=0
     ·rw[z];decide
     ·have:=(Nat.log2_lt z).mpr h1;omega
    obtain⟨S,C⟩:=hb;rcases C with hf |⟨q,rfl,hq⟩
    ·refine⟨_,rfl,y,rfl,S.same d,false,congrArg V.bl hf,dF (dF ?_)⟩;refine⟨_,rfl,by show 1<=sizeLine;decide,λe l=>⟨e,.int (j:Nat),rfl,.inr ⟨_,rfl,f⟩,a6,λb hd=>⟨rfl,.inr ⟨b,a6,?_⟩⟩⟩⟩;obtain⟨U,g,m⟩:=hU (o2:=.xd [("number",.int (j:Nat))]) (o3:=XD e L.aV b) l hd;rw[m];exact k b _ (d.trans (a9.upd g)) (none_of d g) a6
    ·refine⟨_,rfl,.int q,rfl,.flat rfl,true,rfl,bA ?_⟩
     by_cases D:q < 0
     ·refine⟨_,rfl,_,_,rfl,rfl,true,congrArg V.bl (decide_eq_true D),dF (dF ?_)⟩;refine⟨_,rfl,by show 1<=sizeLine;decide,λe l=>⟨e,.int (j:Nat),rfl,.inr ⟨_,rfl,f⟩,a6,λb hd=>⟨rfl,.inr ⟨b,a6,?_⟩⟩⟩⟩;obtain⟨U,g,m⟩:=hU (o2:=.xd [("number",.int (j:Nat))]) (o3:=XD e L.aV b) l hd;rw[m];exact k b _ (d.trans (a9.upd g)) (none_of d g) a6
     ·refine⟨_,rfl,_,_,rfl,rfl,false,congrArg V.bl (decide_eq_false D),bA ?_⟩;refine⟨_,rfl,_,rfl,_,_,rfl,rfl,true,congrArg V.bl (decide_eq_true (show many<=q by omega)),dF ?_⟩;refine⟨_,rfl,by show 1<=sizeLine;decide,λe l=>⟨e,.int (j:Nat),rfl,.inr ⟨_,rfl,f⟩,a6,λb hd=>⟨rfl,.inr ⟨b,a6,?_⟩⟩⟩⟩;obtain⟨U,g,m⟩:=hU (o2:=.xd [("number",.int (j:Nat))]) (o3:=XD e L.aV b) l hd;rw[m];exact k b _ (d.trans (a9.upd g)) (none_of d g) a6
   ·obtain⟨n,rfl,O⟩:=I j x (by omega) B;refine⟨_,rfl,.int (n:Int),rfl,.flat rfl,true,rfl,bA ?_⟩;refine⟨_,rfl,_,_,rfl,rfl,false,congrArg V.bl (decide_eq_false (by omega)),bA ?_⟩;refine⟨_,rfl,_,rfl,_,_,rfl,rfl,false,congrArg V.bl (decide_eq_false (by omega)),bA ?_⟩;exact⟨by omega,d,_,_,rfl⟩
  ·have:=(wa6.mp X).1;have:=p.1;omega
 ·refine⟨_,rfl,_,_,t,false,rfl,ht,hk,false,rfl,dF ?_⟩;refine⟨by show 1<=sizeLine;decide,λe l=>⟨e,.non,rfl,.inl rfl,a6,λb hd=>⟨rfl,.inr ⟨b,a6,?_⟩⟩⟩⟩;obtain⟨U,g,m⟩:=hU (o2:=.xd [("number",.non)]) (o3:=XD e L.aV b) l hd;rw[m];exact k b _ (a9.upd g) g a6
theorem rA(L:Lk K mg):aN P w K mg base dm 1 L.kQ L.kR ["self"] (Ka K L.ao L.aT L.aw):=by
 have T:=L.T;refine L.fh.F.ee (N:=["self"]) (λg A outer s H C Q E nd D h=>?_);obtain⟨x,G,many,n,b,m,c,I,J,M,i,rfl,⟨j,p,a,l,o,⟨dp,q,e,r,t,u,_,v,_,_⟩,_,_⟩,k⟩:=h;refine⟨_,(af (az (aq bg (by rfl) T.len waO (a5 (aO (aO (pv 0) rfl) rfl) a8)))),?_⟩;obtain⟨O,f,y,z,d⟩:=id v;cases y;have B:f.length=c.length:=by rw[d.len,wa0]
 refine⟨_,rfl,x,L.ao,j,_,_,rfl,o,L.ay.cl,L.ay.o6,yr ..,p,L.aT,dp,_,_,rfl,u,L.cF.cl,L.cF.zS,yf q e r t,e,f,rfl,.inl (.inl z),?_⟩;rw[B];exact k
theorem gA(L:Lk K mg):aN P w K mg base (vk P w) 4 L.kT L.kU ["self","data"] (Kb K L.ao L.aT L.aw L.aV):=by
 refine L.bX.F.zp (N:=["self","data","found"]) (λgK A outer s H vs Q E nd hr h=>?_);obtain⟨x,xb,v,many,n,b,m,c,ks,hs,ws,r,rfl,W,D,m1,d,hb,Dy,h⟩:=h
 refine⟨_,(a7 (bu (iA (vJ L) (hr.mono (by decide)) rfl L.eZ.g L.eZ.F.kp L.eZ.b .nil (sJ bV) (a5 (pv 1) (a5 (aO (pv 0) rfl) a8))))
  (a7 (ag (i:=2) (aj (xE L) L.oF (a5 (aO (pv 0) rfl) (a5 (aO (pv 0) rfl) (a5 (aE jm (pv 1) (aE FK (b7 (a5 ai a8)) (gb (pv 0) L.ay.cl L.fh.m (rA L) (hr.mono (by decide)) L.fh.b .nil eO))) a8)))))
  (af (az (aE mL (aO (pv 0) rfl) (b8 gp (pv 2) ai (λ_ _=>rfl))))))),?_⟩
 obtain⟨e,p,la,ll,l,P,_,rl⟩:=id W;have G:=yk D (wet.mpr D.ne) (ts:=wam b 0) λt f=>by rw[(weF.mp f).2];omega
 rw[wbB]at G;rcases h with⟨a,ts,rfl,ha,u,Zr,k⟩ |h |h
 ·refine⟨_,rfl,_,rfl,x,L.ao,e,_,_,rfl,l,L.ay.cl,L.ay.yg,nv ..,.ref a,many,rfl,.inl ⟨a,ts,rfl,ha,u,λO R=>?_⟩⟩;have x1:=R _ _ l;have a1:=R _ _ ha;refine⟨_,rfl,x,L.ao,e,_,_,rfl,x1,L.ay.cl,L.ay.cB,Ag ..,_,rfl,x,L.ao,e,_,_,rfl,x1,L.ay.cl,L.ay.Dm,Ah ..,_,rfl,by show 1<=sizeLine;decide,λI S=>?_⟩;have s2:=a9.upd (H:=O) (o:=.lst [V.int 0]) S;have T:(upd O I (.lst [V.int 0])) I=some (.lst [V.int 0]):=a6;generalize upd O I (.lst [V.int 0])=U at s2 T;have j:=R.trans s2;refine⟨_,rfl,x,e,_,rfl,j _ _ l,uD _ _ _ _ _ _ _ _ (by decide+kernel),x,xb,many,n,b,m,c,ks,hs,ws,r,rfl,W.same j,?_⟩;refine⟨I,(c.length:Int),[V.int 0],rfl,rfl,T,by omega,by omega,au (by show 1 * ((c.length:Int)).toNat<=_;omega),λJ X=>?_⟩;rw[waG,uE];have s3:=a9.upd (H:=U) (o:=.lst ((nI (wam c.length 0)).map V.int)) X;have h3:(upd U J (.lst ((nI (wam c.length 0)).map V.int))) J=some (.lst ((nI (wam c.length 0)).map V.int)):=a6;generalize upd U J (.lst ((nI (wam c.length 0)).map V.int))=Y at s3 h3;have y:=j.trans s3;refine⟨a,J,_,_,rfl,rfl,y _ _ ha,h3,au ?_,λM Z=>?_⟩
  ·rw[wa0,wa0,cK,cK,wbB];omega
  rw[<-waj,<-pK];have s4:=a9.upd (H:=Y) (o:=.lst ((nI (ts++wam c.length 0)).map V.int)) Z;have h4:(upd Y M (.lst ((nI (ts++wam c.length 0)).map V.int))) M=some (.lst ((nI (ts++wam c.length 0)).map V.int)):=a6;generalize upd Y M (.lst ((nI (ts++wam c.length 0)).map V.int))=H4 at s4 h4;have z:=y.trans s4
  have B:∀t:Nat,t∈ts++wam c.length 0->(t:Int) < many:=λt f=>by
   rcases waA.mp f with f |f
   ·exact u t f
   ·rw[(weF.mp f).2];omega
  have w1:=yk D G.1 B;rw[wa7,wbB]at w1;refine⟨.ref ll,_,M,many,n,gR r ks many.toNat,ts++wam c.length 0,rfl,bC.same z _ _ rl,aH.of h4,D,G.1,B,by rw[wa7,wbB];omega,d,λq H5 s5 hq=>?_⟩;have C:=z.trans s5;refine⟨_,rfl,x,L.ao,e,_,_,rfl,C _ _ l,L.ay.cl,L.ay.xc,vI ..,_,rfl,q,_,_,_,rfl,rfl,ir.of hq,rfl,_,_,rfl,rfl,au ?_,k H5 C⟩;rw[G.2,w1.2];have h1:n * b<=10 * 1000:=wdI d hb;have T:n * (ts.length + c.length)<=10 * 11000:=wdI d (by omega);omega
 ·exact⟨_,rfl,_,rfl,x,L.ao,e,_,_,rfl,l,L.ay.cl,L.ay.yg,nv ..,v,many,rfl,.inr (.inl h)⟩
 ·exact⟨_,rfl,_,rfl,x,L.ao,e,_,_,rfl,l,L.ay.cl,L.ay.yg,nv ..,v,many,rfl,.inr (.inr h)⟩
noncomputable abbrev F3:List V:=[V.bl false,V.bl false,V.bl false]
inductive Ke(K:wa1)(C CB CP CS:Addr)(vs:List V)(H:Hp)(Q:VK)(eL:XK):Prop
 |mk (x v g bw many n) (_:vs=[.ref x,v]) (_:uF K C CB CP CS H x g bw many n) (_:2<=many) (_:n<=10) (_:((∃(a:Addr) (xs:List V) (i:Nat) (y:V),v=.ref a/\H a=some (.lst xs)/\xs[i]?=some y/\yt H many y/\(∀j z,j < i->xs[j]?=some z->∃t:Nat,z=.int (t:Int)/\(t:Int) < many)/\i<=100000/\∀l H',a9 H H'->H' l=some (.lst [.int (i:Nat)])->Q (.ref l) H')\/(∃t,d7 K H v t/\wcE K t (.type "list")=some false/\∀l H',a9 H H'->H' l=some (.lst [.non])->Q (.ref l) H')))
theorem k8(L:Lk K mg):aN P w K mg base dm 5 L.lC L.lD ["_law_told_here","_law_data"] (Ke K L.ao L.aC L.aT L.aw):=by
 have T:=L.T;refine L.fb.F.ee (N:=["_law_told_here","_law_data","_law_caught","e","_law_others"]) (λgK A outer s H vs Q E nd hr h=>?_);obtain⟨x,v,g,bw,many,n,rfl,T0,G,Zt,h⟩:=h
 refine⟨_,(a7 (ag (i:=2) da)
  (a7 (LX ⟨rfl,rfl⟩ (zi (Gn (Gk (pv 0) L.ay.cl L.bX.m (gA L) (hr.mono (by decide)) L.bX.b (a5 (pv 1) a8)))) rfl L.iI L.XT nd (j:=3) (i:=2) rfl rfl rfl (wdi rfl))
  (a7 (bH (PW.pt (iy (dO (cn (aq bp (by rfl) T.rp gq (a5 (pv 2) (a5 (c9 (v:=.ref L.aV) (by rfl) L.oQ rfl) a8))))) (jb (dO (cn (aq bp (by rfl) T.rp gq (a5 (pv 2) (a5 (gH (v:=.ty "ValueError") (by rfl) T.ValueError Xv rfl) a8)))))))) (af (az da)) aL)
  (a7 (ag (i:=4) (b7 (a5 (aq bp (by rfl) T.rp gq (a5 (pv 2) (a5 (c9 (v:=.ref L.ur) (by rfl) L.A9 rfl) a8))) (a5 (aq bp (by rfl) T.rp gq (a5 (pv 2) (a5 (c9 (v:=.ref L.uq) (by rfl) L.A7 rfl) a8))) (a5 (aq bp (by rfl) T.rp gq (a5 (pv 2) (a5 (c9 (v:=.ref L.nk) (by rfl) L.uk rfl) a8))) a8)))))
  (a7 (ag (i:=4) (aE jm (pv 4) (b7 (a5 (aq bp (by rfl) T.rp gq (a5 (pv 2) (a5 (c9 (v:=.ref L.nj) (by rfl) L.uh rfl) a8))) (a5 (aq bp (by rfl) T.rp gq (a5 (pv 2) (a5 (c9 (v:=.ref L.pU) (by rfl) L.xx rfl) a8))) (a5 (aq bp (by rfl) T.rp gq (a5 (pv 2) (a5 (c9 (v:=.ref L.uj) (by rfl) L.A5 rfl) a8))) a8))))))
  (a7 (ag (i:=4) (aE jm (pv 4) (b7 (a5 (aq bp (by rfl) T.rp gq (a5 (pv 2) (a5 (c9 (v:=.ref L.yi) (by rfl) L.Du rfl) a8))) (a5 (aq bp (by rfl) T.rp gq (a5 (pv 2) (a5 (c9 (v:=.ref L.pR) (by rfl) L.xq rfl) a8))) (a5 (aq bp (by rfl) T.rp gq (a5 (pv 2) (a5 (c9 (v:=.ref L.dM) (by rfl) L.fO rfl) a8))) a8))))))
  (a7 (ag (i:=4) (aE jm (pv 4) (b7 (a5 (aq bp (by rfl) T.rp gq (a5 (pv 2) (a5 (c9 (v:=.ref L.uf) (by rfl) L.A1 rfl) a8))) (a5 (aq bp (by rfl) T.rp gq (a5 (pv 2) (a5 (c9 (v:=.ref L.nq) (by rfl) L.uv rfl) a8))) (a5 (aq bp (by rfl) T.rp gq (a5 (pv 2) (a5 (c9 (v:=.ref L.ug) (by rfl) L.A3 rfl) a8))) a8))))))
  (a7 (ag (i:=4) (aE jm (pv 4) (b7 (a5 (aq bp (by rfl) T.rp gq (a5 (pv 2) (a5 (c9 (v:=.ref L.lE) (by rfl) L.uo rfl) a8))) (a5 (aq bp (by rfl) T.rp gq (a5 (pv 2) (a5 (c9 (v:=.ref L.bY) (by rfl) L.oN rfl) a8))) (a5 (aq bp (by rfl) T.rp gq (a5 (pv 2) (a5 (c9 (v:=.ref L.pT) (by rfl) L.xt rfl) a8))) a8))))))
  (a7 (bH (cn (aq (sA rfl) (by rfl) T.any Ly (a5 (pv 4) a8))) (af (az da)) aL)
  (af (az (b7 (a5 (Ji (pv 2) rfl) a8))))))))))))),?_⟩
 obtain⟨xb,ss,ls,f0,f,j9,ks,hs,ws,r,b,B,W,Ng,hL,hle,hP,W0,hB⟩:=id T0;obtain⟨dx,p,la,ll,hx,_⟩:=id W;have QL:=uD (n:="write") p xb la ll many (n:Int) ((cR (gR r ks many.toNat) 0 (wam b 0)).2:Int) (cR (gR r ks many.toNat) 0 (wam b 0)).1 (by decide+kernel);have PK:=hB.le;have Zu:=hP.sl
 obtain⟨u,hu,k⟩:∃u,(∀E,PU L.aV u H E->PX K L.aV many v H E)/\∀l H',a9 H H'->H' l=some (.lst [u])->Q (.ref l) H':=by
  rcases h with⟨a,xs,i,y,e,ha,hy,I,LK,hi,k⟩ |⟨t,ht,hk,k⟩
  ·exact⟨_,λE z=>.inl ⟨a,xs,i,y,e,ha,hy,I,LK,hi,z⟩,k⟩
  ·exact⟨_,λE z=>.inr ⟨t,ht,hk,z⟩,k⟩
 refine⟨_,rfl,x,dx,_,rfl,hx,QL,_,rfl,x,xb,v,many,n,b,bZ f ls,j9,ks,hs,ws,r,rfl,W,W0,by omega,Zt,PK,by omega,.inr (hu _ λq H1 s1 fd J=>?_)⟩;refine⟨L.aV,_,rfl,L.aR,λe he=>?_⟩;have M:(upd H1 e (XC e L.aV (some q))) e=some (XC e L.aV (some q)):=a6;have C:(upd H1 e (XC e L.aV (some q))) q=some (.xd [("number",u)]):=by rw[aa (ae J he)];exact J
 have s2:a9 H (upd H1 e (XC e L.aV (some q))):=s1.trans (a9.upd he);generalize upd H1 e (XC e L.aV (some q))=O at M C s2
 have hD:∀d',some q=some d'->∃fs,O d'=some (.xd fs):=λd' z=>by
  cases z;exact⟨_,C⟩
 have c:∀{H3:Hp},a9 O H3->∀{D:Addr},wcE K (.ref L.aV) (.ref D)=some false->Ea K H3 (.ref e) (.ref D) false:=@λH3 s3 D kk=>.exc (s3 _ _ M) (λd hd=>let ⟨fs,h⟩:=hD d hd;⟨fs,s3 _ _ h⟩) L.aR L.oR kk;refine⟨_,rfl,_,_,true,rfl,.exc M hD L.aR L.oR Gp,true,rfl,bA ?_⟩;refine⟨_,rfl,_,_,true,rfl,.val M hD L.aR L.oR (E9 L.aR),true,rfl,bA ?_⟩;refine⟨_,rfl,_,_,false,rfl,c (a9.refl _) (cw L.aR L.Aa L.XT (by decide+kernel) (by decide+kernel)),_,rfl,_,_,false,rfl,c (a9.refl _) (cw L.aR L.A8 L.XT (by decide+kernel) (by decide+kernel)),_,rfl,_,_,false,rfl,c (a9.refl _) (cw L.aR L.um L.XT (by decide+kernel) (by decide+kernel)),by show 3<=sizeLine;decide,λR MA=>?_⟩;have S:=a9.upd (H:=O) (o:=.lst F3) MA;have g1:(upd O R (.lst F3)) R=some (.lst F3):=a6;show d4 4 (V.ref R) _ _ _;generalize upd O R (.lst F3)=G1 at S g1;refine⟨_,rfl,_,rfl,_,_,false,rfl,c S (cw L.aR L.ui L.XT (by decide+kernel) (by decide+kernel)),_,rfl,_,_,false,rfl,c S (cw L.aR L.xA L.XT (by decide+kernel) (by decide+kernel)),_,rfl,_,_,false,rfl,c S (cw L.aR L.A6 L.XT (by decide+kernel) (by decide+kernel)),by show 3<=sizeLine;decide,λm1 To=>?_⟩;have u1:=a9.upd (H:=G1) (o:=.lst F3) To;have w1:(upd G1 m1 (.lst F3)) m1=some (.lst F3):=a6;generalize upd G1 m1 (.lst F3)=K1 at u1 w1;refine⟨R,m1,_,_,rfl,rfl,u1 _ _ g1,w1,by show 6<=sizeLine;decide,λU MH=>?_⟩;have X:=S.trans (u1.trans (a9.upd (H:=K1) (o:=.lst (F3++F3)) MH));have g2:(upd K1 U (.lst (F3++F3))) U=some (.lst (F3++F3)):=a6;show d4 4 (V.ref U) _ _ _;generalize upd K1 U (.lst (F3++F3))=G2 at X g2;refine⟨_,rfl,_,rfl,_,_,false,rfl,c X (cw L.aR L.Dv L.XT (by decide+kernel) (by decide+kernel)),_,rfl,_,_,false,rfl,c X (cw L.aR L.xr L.XT (by decide+kernel) (by decide+kernel)),_,rfl,_,_,false,rfl,c X (sO L.aR L.fP L.XT (by decide+kernel) (by decide+kernel)),by show 3<=sizeLine;decide,λG Vw=>?_⟩;have u2:=a9.upd (H:=G2) (o:=.lst F3) Vw;have w2:(upd G2 G (.lst F3)) G=some (.lst F3):=a6;generalize upd G2 G (.lst F3)=K2 at u2 w2;refine⟨U,G,_,_,rfl,rfl,u2 _ _ g2,w2,by show 9<=sizeLine;decide,λY FU=>?_⟩;have Z:=X.trans (u2.trans (a9.upd (H:=K2) (o:=.lst ((F3++F3)++F3)) FU));have g3:(upd K2 Y (.lst ((F3++F3)++F3))) Y=some (.lst ((F3++F3)++F3)):=a6;show d4 4 (V.ref Y) _ _ _;generalize upd K2 Y (.lst ((F3++F3)++F3))=G3 at Z g3;refine⟨_,rfl,_,rfl,_,_,false,rfl,c Z (cw L.aR L.A2 L.XT (by decide+kernel) (by decide+kernel)),_,rfl,_,_,false,rfl,c Z (cw L.aR L.uw L.XT (by decide+kernel) (by decide+kernel)),_,rfl,_,_,false,rfl,c Z (cw L.aR L.A4 L.XT (by decide+kernel) (by decide+kernel)),by show 3<=sizeLine;decide,λm3 Zv=>?_⟩;have u3:=a9.upd (H:=G3) (o:=.lst F3) Zv;have w3:(upd G3 m3 (.lst F3)) m3=some (.lst F3):=a6;generalize upd G3 m3 (.lst F3)=K3 at u3 w3;refine⟨Y,m3,_,_,rfl,rfl,u3 _ _ g3,w3,by show 12<=sizeLine;decide,λl4 Zw=>?_⟩;have t4:=Z.trans (u3.trans (a9.upd (H:=K3) (o:=.lst (((F3++F3)++F3)++F3)) Zw));have g4:(upd K3 l4 (.lst (((F3++F3)++F3)++F3))) l4=some (.lst (((F3++F3)++F3)++F3)):=a6;show d4 4 (V.ref l4) _ _ _;generalize upd K3 l4 (.lst (((F3++F3)++F3)++F3))=G4 at t4 g4;refine⟨_,rfl,_,rfl,_,_,false,rfl,c t4 (sO L.aR L.pV L.XT (by decide+kernel) (by decide+kernel)),_,rfl,_,_,false,rfl,c t4 (sO L.aR L.fj L.XT (by decide+kernel) (by decide+kernel)),_,rfl,_,_,false,rfl,c t4 (cw L.aR L.xu L.XT (by decide+kernel) (by decide+kernel)),by show 3<=sizeLine;decide,λm4 Zx=>?_⟩;have u4:=a9.upd (H:=G4) (o:=.lst F3) Zx;have w4:(upd G4 m4 (.lst F3)) m4=some (.lst F3):=a6;generalize upd G4 m4 (.lst F3)=K4 at u4 w4;refine⟨l4,m4,_,_,rfl,rfl,u4 _ _ g4,w4,by show 15<=sizeLine;decide,λl5 T9=>?_⟩;have t5:=t4.trans (u4.trans (a9.upd (H:=K4) (o:=.lst ((((F3++F3)++F3)++F3)++F3)) T9));have g5:(upd K4 l5 (.lst ((((F3++F3)++F3)++F3)++F3))) l5=some (.lst ((((F3++F3)++F3)++F3)++F3)):=a6;show d4 4 (V.ref l5) _ _ _;generalize upd K4 l5 (.lst ((((F3++F3)++F3)++F3)++F3))=G5 at t5 g5;refine⟨_,rfl,l5,wam 15 false,rfl,aH.of g5,false,rfl,bA ?_⟩;refine⟨_,rfl,e,L.aV,L.aI,q,_,_,u,rfl,t5 _ _ M,t5 _ _ C,L.aR,L.et,by simp,by show 1<=sizeLine;decide,λl hl=>?_⟩;exact k l _ (s2.trans (t5.trans (a9.upd hl))) a6
theorem gT(L:Lk K mg):aN P w K mg base dm 1 L.qV L.qW ["_law_script","_law_place"] (Ow K):=by
 have T:=L.T;refine L.eJ.F.ee (N:=["_law_script","_law_place"]) (λb A outer s H f Q E nd g h=>?_);obtain⟨a,ns,p,rfl,c,k⟩:=h;refine⟨_,(af (az (aq (kn rfl) (by rfl) T.sum Eb (a5 (cG fS (pv 0) (cy (pv 1)) (cy (aE eN (pv 1) ai))) a8)))),?_⟩;refine⟨_,rfl,_,rfl,_,rfl,_,rfl,_,_,rfl,rfl,_,rfl,a,_,rfl,c,λl hl=>?_⟩;obtain⟨d,e,_⟩:=zu ns (some p) (some (p + 1));rw[e];exact⟨l,d,rfl,aH.of a6,k _ _ (a9.upd hl)⟩
theorem lL(L:Lk K mg):aN P w K mg base dm 1 L.mD L.mE ["_law_cell","_law_many"] GJ:=by
 have T:=L.T;refine L.fX.F.ee (N:=["_law_cell","_law_many","_law_found","_law_one","_law_turn","_law_two","_law_more"]) (λx A outer s H C Q E nd D h=>?_);obtain⟨c,m,rfl,G,k⟩:=h
 refine⟨_,(a7 (ag (i:=2) (b7 a8))
  (a7 (ag (i:=3) (aE sZ (pv 0) ai))
  (a7 (bH (aF qg (aE cu (pv 0) ai) ai (aS _)) (a7 (bj waB rfl (dD rfl T.range (a5 (pv 1) a8)) (aA (i:=4)) (a7 (bu (iP waT waZ wb7 cH (pv 2) (a5 (aE cu (pv 3) ai) a8)))
  (af (ag (i:=3) (aE sZ (pv 3) ai)))))
  (af (az (pv 2)))) aL)
  (a7 (ag (i:=5) (aE cu (aE sZ (pv 3) ai) ai))
  (a7 (ag (i:=3) (aE cu (pv 3) ai))
  (a7 (bj waB rfl (dD rfl T.range (a5 (aE eN (pv 1) ai) a8)) (aA (i:=4)) (a7 (ag (i:=6) (aE eN (aE eN (aE eN (aE jf (pv 3) ai) (aE jf (pv 5) (pv 5))) (aE jf ai (pv 4))) ai))
  (a7 (ag (i:=3) (pv 5))
  (a7 (ag (i:=5) (aE cu (pv 6) ai))
  (af (bu (iP waT waZ wb7 cH (pv 2) (a5 (pv 5) a8))))))))
  (af (az (cG fS (pv 2) (cy ai) gJ))))))))),?_⟩
 refine⟨waM _,λl hl=>?_⟩;have t:a9 H (upd H l (.lst [])):=a9.upd hl;have app:∀{f:Hp} {d:List Int} {v:Int},a9 H f->f l=some (.lst (d.map V.int))->a9 H (upd f l (.lst (d.map V.int++[.int v])))/\(upd f l (.lst (d.map V.int++[.int v]))) l=some (.lst ((d++[v]).map V.int)):=λ{f d v} j g=>⟨λb I e=>by rw[aa (ae e hl)];exact j _ _ e,by rw[a6,waj];rfl⟩;refine⟨_,rfl,_,_,rfl,rfl,⟨by decide,by decide+kernel⟩,?_⟩;refine⟨_,rfl,_,_,rfl,rfl,(by show (0:Int) < 2;decide),rfl,_,rfl,DS (λ_=>?_) (λ_=>?_)⟩
 ·refine⟨_,rfl,(m:Int),rfl,by omega,by omega,?_⟩;rw[waG];refine dE (lo:=0) (n:=m) (λi σ f=>∃(one:Int) (d:List Int) (v4:Option V),σ=[some (.int c),some (.int (m:Int)),some (.ref l),some (.int one),v4,none,none]/\a9 H f/\f l=some (.lst (d.map V.int))/\d.length=i) ⟨_,[],none,rfl,t,a6,rfl⟩ ?_ ?_
  ·rintro i σ f hi ⟨one,d,v4,rfl,j,g,o⟩;refine⟨_,rfl,.inl ⟨rfl,_,aH.of g⟩,_,rfl,_,_,rfl,rfl,(by show (0:Int) < 1999999973;decide),l,_,_,rfl,rfl,g,by rw[wa0];exact bF (by omega),?_⟩;exact⟨_,rfl,_,_,rfl,rfl,⟨by decide,by decide+kernel⟩,_,d++[one % 1999999973],_,rfl,(app j g).1,(app j g).2,by rw[wa7,o];rfl⟩
  ·rintro σ f ⟨one,d,v4,rfl,j,g,o⟩;exact⟨_,rfl,k l d f j hl g o⟩
 ·refine⟨_,rfl,_,_,rfl,rfl,⟨by decide,by decide+kernel⟩,_,_,rfl,rfl,(by show (0:Int) < 1999999943;decide),?_⟩;have q:=wb3 (c / 2 / 1999999973) (show (1999999943:Int)≠0 by decide);have u:=wbh (c / 2 / 1999999973) (show (0:Int) < 1999999943 by decide);refine⟨_,rfl,_,_,rfl,rfl,(by show (0:Int) < 1999999973;decide),?_⟩;refine⟨_,rfl,_,_,rfl,rfl,_,rfl,by omega,by omega,?_⟩;rw[show ((m:Int) + 2).toNat=m + 2 by omega];refine dE (lo:=0) (n:=m + 2) (λi σ f=>∃(one a:Int) (d:List Int) (v4 v6:Option V),σ=[some (.int c),some (.int (m:Int)),some (.ref l),some (.int one),v4,some (.int a),v6]/\0<=a/\a < 2000000000/\a9 H f/\f l=some (.lst (d.map V.int))/\d.length=i) ⟨c / 2 % 1999999973,c / 2 / 1999999973 % 1999999943,[],none,none,rfl,q,by omega,t,a6,rfl⟩ ?_ ?_
  ·rintro i σ f hi ⟨one,a,d,v4,v6,rfl,q,u,j,g,o⟩;refine⟨_,rfl,_,_,rfl,rfl,.inr ⟨by decide,by decide⟩,_,rfl,_,rfl,_,_,rfl,rfl,.inl ⟨by omega,by omega⟩,_,_,rfl,rfl,_,rfl,_,_,rfl,rfl,.inl ⟨by decide,by decide⟩,_,_,rfl,rfl,_,_,rfl,rfl,?_⟩;refine⟨_,rfl,?_⟩;refine⟨_,rfl,_,_,rfl,rfl,(by show (0:Int) < 1999999973;decide),?_⟩;have y:=wb3 (one * 1664525 + a * a + 97 * (0 + (i:Int)) + 40503) (show (1999999973:Int)≠0 by decide);have J:=wbh (one * 1664525 + a * a + 97 * (0 + (i:Int)) + 40503) (show (0:Int) < 1999999973 by decide);refine⟨_,rfl,.inl ⟨rfl,_,aH.of g⟩,_,rfl,l,_,_,rfl,rfl,g,by rw[wa0];exact wba (m:=2000) (by omega) (by rw[wc2];decide),?_⟩;exact⟨_,_,d++[(one * 1664525 + a * a + 97 * (0 + (i:Int)) + 40503) % 1999999973],_,_,rfl,y,by omega,(app j g).1,(app j g).2,by rw[wa7,o];rfl⟩
  ·rintro σ f ⟨one,a,d,v4,v6,rfl,q,u,j,g,o⟩;refine⟨_,rfl,_,rfl,l,_,rfl,aH.of g,λz p=>?_⟩;have B:=t8 (d.map V.int) 2;have r:ji (d.map V.int) (some 2) none=(d.drop 2).map V.int:=by rw[wdR];exact B
   rw[r];exact k z (d.drop 2) _ (j.trans (a9.upd p)) (none_of j p) a6 (by rw[wbw];omega)
theorem Q0:∀st:Fin 36,∀sp∈[1,5,7,11,13,35],∀n∈[2,3,4],((kq st sp n).Nodup/\∀c∈kq st sp n,c∈ch dN):=by decide+kernel
theorem Ai{st sp n:Nat}{x:Str}(j:st < 36)(hs:sp∈[1,5,7,11,13,35])(hn:n∈[2,3,4])(g:ch x=kq st sp n):wx x:=by
 obtain⟨a,b⟩:=Q0 ⟨st,j⟩ sp hs n hn;have hl:x.length=n:=by grind [aX,kq,wa0]
 have c:n=2\/n=3\/n=4:=by simpa using hn
 exact⟨by omega,by omega,by rw[g];exact a,by rw[g];exact b⟩
theorem MO:∀d:Int,0<=d->d < 8->∃n:Nat,w6 ([.int 2,.int 2,.int 2,.int 3,.int 2,.int 4,.int 2,.int 3]:List V) d=some (.int (n:Int))/\n∈[2,3,4]:=under 8 λk=>⟨[2,2,2,3,2,4,2,3].getD k.val 0,by revert k;decide,by revert k;decide⟩
theorem MP:∀d:Int,0<=d->d < 6->∃n:Nat,w6 ([.int 1,.int 5,.int 7,.int 11,.int 13,.int 35]:List V) d=some (.int (n:Int))/\n∈[1,5,7,11,13,35]:=under 6 λk=>⟨[1,5,7,11,13,35].getD k.val 0,by revert k;decide,by revert k;decide⟩
theorem MQ:∀d:Int,0<=d->d < 8->∃n:Nat,w6 ([.int 0,.int 1,.int 2,.int 3,.int 1,.int 2,.int 3,.int 6]:List V) d=some (.int (n:Int))/\n<=6:=under 8 λk=>⟨[0,1,2,3,1,2,3,6].getD k.val 0,by revert k;decide,by revert k;decide⟩
theorem MR:∀d:Int,0<=d->d < 8->∃n:Nat,w6 ([.int 2,.int 3,.int 4,.int 2,.int 3,.int 4,.int 1,.int 5]:List V) d=some (.int (n:Int))/\1<=n/\n<=5:=under 8 λk=>⟨[2,3,4,2,3,4,1,5].getD k.val 0,by revert k;decide,by revert k;decide⟩
theorem Kf{xs:List Int}(h:xs.length=4):∃a b c d,xs=[a,b,c,d]:=by
 match xs,h with
 |[a,b,c,d],_=>exact⟨a,b,c,d,rfl⟩
theorem yw(L:Lk K mg):aN P w K mg base dm 2 L.qX L.qY ["_law_script"] (Jy K):=by
 have T:=L.T;refine L.lz.F.ee (N:=["_law_script","_law_known","_law_xs","_law_size","_law_step","_law_signs","_law_words","_law_k","_law_ys","_law_long"]) (λgK A outer s H vs Q E nd hr h=>?_);obtain⟨a,ns,rfl,hS,k⟩:=h
 refine⟨_,(a7 (ag (i:=1) dn)
  (a7 (ag (i:=2) (aj (lL L) L.fX (a5 (aj (gT L) L.eJ (a5 (pv 0) (a5 ai a8))) (a5 ai a8))))
  (a7 (ag (i:=3) (b8 bx (b7 (nR (is:=[2,2,2,3,2,4,2,3]) (by decide+kernel))) (aE cu (b8 bx (pv 2) ai (λ_ _=>rfl)) ai) (λ_ _=>rfl)))
  (a7 (ag (i:=4) (b8 bx (b7 (nR (is:=[1,5,7,11,13,35]) (by decide+kernel))) (aE cu (b8 bx (pv 2) ai (λ_ _=>rfl)) ai) (λ_ _=>rfl)))
  (a7 (ag (i:=5) (iP wfR wg7 wg8 CW dn (a5 (cA rfl (ax ["_law_known","_law_xs","_law_step"] [1,2,4]) (dD rfl T.range (a5 (pv 3) a8)) (λ_ _ _ _ _ _=>bh) (λ_ _ _ _ _ _=>(b8 FD (pv 1) (aE cu (aE eN (b8 (gf (K:=K) rfl) (pv 2) ai (λ_ _=>rfl)) (aE jf (pv 3) (pv 0))) ai) (λ_ _=>rfl)))) a8)))
  (a7 (ag (i:=6) (b7 a8))
  (a7 (bj waB rfl (dD rfl T.range (a5 (b8 bx (b7 (nR (is:=[0,1,2,3,1,2,3,6]) (by decide+kernel))) (aE cu (b8 bx (pv 2) ai (λ_ _=>rfl)) ai) (λ_ _=>rfl)) a8)) (aA (i:=7)) (a7 (ag (i:=8) (cG fS (aj (lL L) L.fX (a5 (aj (gT L) L.eJ (a5 (pv 0) (a5 (aE eN ai (aE cu (pv 7) ai)) a8))) (a5 ai a8))) (cy (aE jf (aE jg (pv 7) ai) ai)) gJ))
  (a7 (ag (i:=9) (b8 bx (b7 (nR (is:=[2,3,4,2,3,4,1,5]) (by decide+kernel))) (aE cu (b8 bx (pv 8) ai (λ_ _=>rfl)) ai) (λ_ _=>rfl)))
  (af (bu (iP waT waZ wb7 cH (pv 6) (a5 (iP wfR wg7 wg8 CW dn (a5 (cA rfl (ax ["_law_signs","_law_size"] [5,3]) (aM (cG fS (pv 8) (cy ai) (cy (aE eN ai (pv 9))))) (λ_ _ _ _ _ _=>bh) (λ_ _ _ _ _ _=>(b8 FD (pv 1) (aE cu (pv 0) (pv 2)) (λ_ _=>rfl)))) a8)) a8)))))))
  (af (az (dP (a5 (pv 5) (a5 (pv 6) a8)))))))))))),?_⟩
 refine⟨_,rfl,a,ns,0,rfl,hS,λc1 H1 s1=>?_⟩;refine⟨c1,4,rfl,by decide,λlx xs H2 s2 fx h2 Z=>?_⟩;obtain⟨x0,x1,x2,x3,rfl⟩:=Kf Z;clear Z;have Nf:=s1.trans s2;obtain⟨n,hn,n1⟩:=MO _ (wb3 x0 (show (8:Int)≠0 by decide)) (wbh x0 (show (0:Int) < 8 by decide));refine⟨by decide,λp hp=>?_⟩;have G:=a9.upd (o:=.lst [.int 2,.int 2,.int 2,.int 3,.int 2,.int 4,.int 2,.int 3]) hp _ _ h2;have Cd:=Nf.trans (a9.upd (o:=.lst [.int 2,.int 2,.int 2,.int 3,.int 2,.int 4,.int 2,.int 3]) hp);refine⟨_,rfl,lx,_,0,_,rfl,rfl,aH.of G,rfl,_,_,rfl,rfl,(by show (0:Int) < 8;decide),p,_,_,_,rfl,rfl,aH.of a6,hn,?_⟩;generalize upd H2 p _=H3 at G Cd;obtain⟨sp,VJ,W3⟩:=MP _ (wb3 x2 (show (6:Int)≠0 by decide)) (wbh x2 (show (0:Int) < 6 by decide));refine⟨by decide,λp2 PH=>?_⟩;have f:=a9.upd (o:=.lst [.int 1,.int 5,.int 7,.int 11,.int 13,.int 35]) PH _ _ G;have W4:=Cd.trans (a9.upd (o:=.lst [.int 1,.int 5,.int 7,.int 11,.int 13,.int 35]) PH);refine⟨_,rfl,lx,_,2,_,rfl,rfl,aH.of f,rfl,_,_,rfl,rfl,(by show (0:Int) < 6;decide),p2,_,_,_,rfl,rfl,aH.of a6,VJ,?_⟩;generalize upd H3 p2 _=H4 at f W4
 have W6:sp<=35:=by
  simp only[waH,wbH,or_false]at W3;omega
 have QM:n<=4:=by
  simp only[waH,wbH,or_false]at n1;omega
 obtain⟨st,Zy⟩:∃st:Nat,x1 % 36=(st:Int):=⟨(x1 % 36).toNat,by omega⟩;have Sw:st < 36:=by omega
 refine⟨rfl,_,rfl,(n:Int),rfl,by omega,by omega,λl hl=>?_⟩;rw[waG];refine comp_map (Jq st sp) (mN 0 n) hl (by rw[wa0,wb2];exact au (by omega)) (λ_ _=>trivial) (λx H5 Q' Z s5 q=>?_) (λH5 s5 m=>?_)
 ·obtain⟨i,hi,rfl⟩:=waa.mp Z;have hi':i < n:=wbd.mp hi;have hd:(st + i * sp) % 36 < (ch dN).length:=by rw[aX,sE];exact Nat.mod_lt _ (by decide)
  have e1:(ch dN)[(st + i * sp) % 36]?=some ((ch dN).getD ((st + i * sp) % 36) 0):=by rw[wa5,wa2 hd];rfl
  have e2:=bQ e1
  have e3:(((st + i * sp) % 36:Nat):Int)=(x1 + (sp:Int) * (0 + (i:Int))) % 36:=by
   rw[wen,Int.mul_comm (sp:Int),Int.natCast_emod,wds,wem,<-Zy];show (x1 % 36 + (i:Int) * (sp:Int)) % 36=_;rw[Int.emod_add_emod]
  rw[e3]at e2
  have e4:Jq st sp (.int (0 + (i:Int)))=.str ⟨#[(ch dN).getD ((st + i * sp) % 36) 0]⟩:=by
   rw[wen];rfl
  have q':=q H5 (a9.refl _);rw[e4]at q';exact⟨_,rfl,_,rfl,lx,_,1,_,rfl,rfl,aH.of (s5 _ _ f),rfl,_,rfl,_,rfl,_,_,rfl,rfl,.inl ⟨by omega,by omega⟩,_,_,rfl,rfl,_,_,rfl,rfl,(by show (0:Int) < 36;decide),dN,_,_,rfl,rfl,au (by rw[sE];decide),e2,q'⟩
 have W8:((waJ n).map λ(i:Nat)=>V.int (0 + (i:Int))).map (Jq st sp)=((kq st sp n).map λc=>(⟨#[c]⟩:Str)).map V.str:=by
  unfold kq;rw[wai,wai,wai];refine wb6 λi _=>?_;show Jq st sp (.int (0 + (i:Int)))=_;rw[wen];rfl
 have d:(kq st sp n).length=n:=by unfold kq;rw[wa0,wb2]
 rw[W8]at m;refine⟨_,l,_,rfl,rfl,aH.of m,?_,?_⟩
 ·have u:∀r:List Nat,((r.map λc=>(⟨#[c]⟩:Str)).map (·.length)).sum=r.length:=by
   intro r
   induction r with
   |nil=>rfl
   |cons c r ih=>rw[waw,waw,wbs,ih,waK];show 1 + r.length=_;omega
  rw[u,wa0,d];show n + n * 0<=16777216;omega
 have I:∀r:List Nat,((r.map λc=>(⟨#[c]⟩:Str)).map ch).flatten=r:=by
  intro r
  induction r with
  |nil=>rfl
  |cons c r ih=>rw[waw,waw,wcg,ih];rfl
 have Wa:=Ai Sw W3 n1 (x:=wdd "" ((kq st sp n).map λc=>(⟨#[c]⟩:Str))) (by rw[pj (by decide+kernel),I]);have Dz:(wdd "" ((kq st sp n).map λc=>(⟨#[c]⟩:Str))).length=n:=by rw[<-aX,pj (by decide+kernel),I,d]
 generalize wdd "" ((kq st sp n).map λc=>(⟨#[c]⟩:Str))=g at Wa Dz ⊢;clear m W8 d I;have QN:=W4.trans s5;have Zz:=s5 _ _ f;obtain⟨nw,ZA,nw6⟩:=MQ _ (wb3 x3 (show (8:Int)≠0 by decide)) (wbh x3 (show (0:Int) < 8 by decide));refine⟨waM _,λJ M=>?_⟩;have fw:H J=none:=none_of QN M;have ZB:=a9.upd (o:=.lst []) M _ _ Zz;have OZ:=QN.trans (a9.upd (o:=.lst []) M);refine⟨by decide,λp3 O=>?_⟩;have Wb:=a9.upd (o:=.lst [.int 0,.int 1,.int 2,.int 3,.int 1,.int 2,.int 3,.int 6]) O _ _ ZB;have Wc:=a9.upd (o:=.lst [.int 0,.int 1,.int 2,.int 3,.int 1,.int 2,.int 3,.int 6]) O _ _ (a6 (H:=H5) (a:=J) (o:=.lst []));have QO:=OZ.trans (a9.upd (o:=.lst [.int 0,.int 1,.int 2,.int 3,.int 1,.int 2,.int 3,.int 6]) O);refine⟨_,rfl,lx,_,3,_,rfl,rfl,aH.of Wb,rfl,_,_,rfl,rfl,(by show (0:Int) < 8;decide),p3,_,_,_,rfl,rfl,aH.of a6,ZA,?_⟩;generalize upd (upd H5 J _) p3 _=H7 at Wb Wc QO;refine⟨_,rfl,by omega,by omega,?_⟩;rw[waG]
 refine dE (lo:=0) (n:=nw) (λi σ H8=>∃(R:List Str) (v7 v8 v9:Option V),σ=[some (.ref a),some (.str dN),some (.ref lx),some (.int (n:Int)),some (.int (sp:Int)),some (.str g),some (.ref J),v7,v8,v9]/\a9 H H8/\H8 J=some (.lst (R.map V.str))/\R.length=i/\∀w∈R,xX g w)
  ⟨[],none,none,none,rfl,QO,Wc,rfl,(λw h=>nomatch h)⟩ ?_ ?_
 ·rintro i σ H8 hi ⟨R,v7,v8,v9,rfl,s8,h8,Bi,S⟩;refine⟨_,rfl,_,rfl,_,_,rfl,rfl,(by show (0:Int) < 3;decide),_,_,rfl,rfl,a,ns,_,rfl,s8.seq hS,λcc H9 s9=>?_⟩;refine⟨cc,12,rfl,by decide,λly ys K5 KU fy MI hy=>?_⟩;have hq:(0 + (i:Int)) / 3 * 6=((i / 3 * 6:Nat):Int):=by omega
  have hq6:i / 3 * 6<=6:=by omega
  refine⟨_,rfl,_,_,rfl,rfl,⟨by decide,by decide⟩,_,_,rfl,rfl,.inr ⟨by decide,by decide⟩,_,rfl,ly,_,rfl,aH.of MI,λl2 m=>?_⟩
  have ec:ji (ys.map V.int) (some ((0 + (i:Int)) / 3 * 6)) none=(ys.drop (i / 3 * 6)).map V.int:=by
   rw[wdR,hq];exact t8 _ _
  rw[ec];have U:(ys.drop (i / 3 * 6)).length ≥ 6:=by rw[wbw];omega
  generalize ys.drop (i / 3 * 6)=zs at U;have B:(upd K5 l2 (.lst (zs.map V.int))) l2=some (.lst (zs.map V.int)):=a6;have MJ:=((s8.trans s9).trans KU).trans (a9.upd (o:=.lst (zs.map V.int)) m);have Pp:=a9.upd (o:=.lst (zs.map V.int)) m _ _ (KU _ _ (s9 _ _ h8));generalize upd K5 l2 _=Fe at B MJ Pp
  obtain⟨C,D,rfl⟩:∃C D,zs=C :: D:=by
   cases zs with
   |nil=>exact absurd U (by decide)
   |cons C D=>exact⟨C,D,rfl⟩
  obtain⟨lg,ZC,lg1,lg5⟩:=MR _ (wb3 C (show (8:Int)≠0 by decide)) (wbh C (show (0:Int) < 8 by decide));refine⟨by decide,λp4 W=>?_⟩;have v:=a9.upd (o:=.lst [.int 2,.int 3,.int 4,.int 2,.int 3,.int 4,.int 1,.int 5]) W _ _ B;have K6:=MJ.trans (a9.upd (o:=.lst [.int 2,.int 3,.int 4,.int 2,.int 3,.int 4,.int 1,.int 5]) W);have X:=a9.upd (o:=.lst [.int 2,.int 3,.int 4,.int 2,.int 3,.int 4,.int 1,.int 5]) W _ _ Pp;refine⟨_,rfl,l2,_,0,_,rfl,rfl,aH.of v,(bQ (xs:=(C :: D).map V.int) (j:=0) rfl),_,_,rfl,rfl,(by show (0:Int) < 8;decide),p4,_,_,_,rfl,rfl,aH.of a6,ZC,?_⟩;generalize upd Fe p4 _=HH at v K6 X;refine⟨_,rfl,.inl ⟨rfl,_,aH.of X⟩,rfl,_,rfl,?_⟩;refine⟨_,rfl,_,rfl,_,_,rfl,rfl,_,rfl,l2,_,rfl,aH.of v,λl3 FU=>?_⟩
  obtain⟨ms,em,Tp⟩:∃ms:List Int,ji ((C :: D).map V.int) (some 1) (some (1 + (lg:Int)))=ms.map V.int/\ms.length=lg:=by
   refine⟨D.take lg,?_,by rw[wau];rw[waK]at U;omega⟩;rw[show (1 + (lg:Int))=((1 + lg:Nat):Int) by omega,show (1:Int)=((1:Nat):Int) from rfl,Jx _ (by omega),wdj];show (((D.map V.int).take (1 + lg - 1)))=_;rw[wcj]
  rw[em];have ZD:=K6.trans (a9.upd (o:=.lst (ms.map V.int)) FU);have Pq:=a9.upd (o:=.lst (ms.map V.int)) FU _ _ X;refine⟨l3,rfl,⟨_,aH.of a6⟩,λlc K0=>?_⟩
  have Wd:0 < (n:Int):=by
   simp only[waH,wbH,or_false]at n1;omega
  refine Gd (λy=>∃t,y=.str t/\∃cc,t=⟨#[cc]⟩/\cc∈ch g) (aK K l3 (ms.map V.int)) K0 (by rw[wa0];exact au (by omega)) (λH' s'=>s'.seq (aH.of a6)) (λx Uc Q' Z Y q=>?_) (λus Uc Y d hR ZE=>?_)
  ·obtain⟨y,hy,rfl⟩:=waa.mp Z;have y0:=wb3 y (show (n:Int)≠0 by omega);have y1:=wbh y Wd;obtain⟨dd,ZF⟩:∃dd:Nat,y % (n:Int)=(dd:Int):=⟨(y % (n:Int)).toNat,by omega⟩;have hd:dd < (ch g).length:=by rw[aX];omega
   have e1:(ch g)[dd]?=some (ch g)[dd]:=by simp[hd]
   have e2:=bQ e1;rw[<-ZF]at e2;exact⟨_,rfl,_,rfl,_,rfl,_,_,rfl,rfl,Wd,g,_,_,rfl,rfl,au (by omega),e2,q _ Uc ⟨_,rfl,_,rfl,waQ hd⟩ (a9.refl _)⟩
  obtain⟨ts,rfl,Q1⟩:=CZ hR;rw[wa0,wa0]at d;have u:=zv Q1;refine⟨_,lc,ts,rfl,rfl,aH.of ZE,?_,?_⟩
  ·rw[u];show ts.length + ts.length * 0<=16777216;omega
  have We:xX g (wdd "" ts):=DW (by decide+kernel) (by omega) (by omega) Q1;generalize wdd "" ts=wd at We;have QP:=ZD.trans Y;have QQ:=Y _ _ Pq;refine⟨J,_,_,rfl,rfl,QQ,by rw[wa0];exact bF (by omega),?_⟩;refine⟨R++[wd],_,_,_,rfl,λb o e=>?_,?_,by simp[Bi],λw hw=>?_⟩
  ·rw[aa (ae e fw)];exact QP _ _ e
  ·rw[a6,waj];rfl
  ·rcases waA.mp hw with z |z
   ·exact S w z
   ·rw[wao.mp z];exact We
 ·rintro σ H8 ⟨R,v7,v8,v9,rfl,s8,h8,Bi,S⟩;refine⟨_,rfl,_,rfl,by show 2<=sizeLine;decide,λq hq=>?_⟩;exact k q J g R _ (s8.trans (a9.upd hq)) (none_of s8 hq) fw a6 (a9.upd hq _ _ h8) Wa (by omega) S
theorem HW{n:Nat}{many wide:Int}(r:2<=n)(l:n<=4)(o:2<=many)(p:many<=8)(g:1<=wide)(j:wide<=6)(h:2 < n->wide<=3):fG n many wide:=by
 have key:∀(m:Fin 5) (k:Fin 7),(2 < m.val->k.val<=3)->(m.val:Int) ^ k.val<=64:=by decide
 obtain⟨k,rfl⟩:=wfn (wd4 (by decide) g);exact⟨o,p,g,j,key ⟨n,wgX l⟩ ⟨k,wgX (Int.ofNat_le.mp j)⟩ λz=>Int.ofNat_le.mp (h z)⟩
noncomputable def Ud:List (Int×Int):=[(2,2),(2,3),(4,3),(3,3),(2,4),(3,2),(5,3),(8,5),(2,1),(6,4),(7,5),(7,6)]
theorem MS:∀d:Int,0<=d->d < 12->∃p,Ud[d.toNat]?=some p/\2<=p.1/\p.1<=8/\1<=p.2/\p.2<=6:=under 12 λk=>⟨Ud.getD k.val (0,0),by revert k;decide⟩
theorem HX{X:Cx}{x:Str}{i:Nat}{g:List Expr}{ps:List (Int×Int)}{rest:List Stmt}{b:TS}{j l o:Pos}(p:X.N.Nodup)(hi:X.N[i]?=some x)(r:Loc X.env.scope x)(C:∀X,PA X g (tf ps))(I:uY X rest b)
 (hs:wbO (.List g l) (some (.Name x j)) o.line X.env=pure false:=by rfl) (J:X.fn x=true\/X.env.scope.names.lookup x=some .local:=by first |exact .inl rfl |exact .inr rfl |assumption) :
 uY X (.Assign [.Name x j] (.List g l) o :: rest) (Lb (IA (NR (tf ps)) (d4 i)) b):=a7 (Fq (i:=i) p hi r (b7 (C _)) hs J) I
theorem yx(L:Lk K mg):aN P w K mg base dm 2 L.qZ L.rg ["_law_script","_law_signs"] (Jz K):=by
 have T:=L.T;refine L.lA.F.ee (N:=["_law_script","_law_signs","_law_some","_law_many","_law_wide"]) (λV A outer s H vs Q E nd hr h=>?_);obtain⟨a,ns,g,rfl,W,u,v,k⟩:=h;obtain⟨x,l,y,B,Y,C,D⟩:∃(x:Pos) (l:List Expr) (y B:Pos),bR (top 86)=.Assign [.Name "_law_some" x] (.List l y) B :: (bR (top 86)).tail/\(∀X,PA X l (tf Ud))/\∀env,wbO (.List l y) (some (.Name "_law_some" x)) B.line env=pure false:=⟨_,_,_,_,rfl,λ_=>by repeat first |exact a8 |refine JA ?_,λ_=>rfl⟩;rw[Y]
 refine⟨_,(HX (i:=2) nd rfl (wdi rfl) C (a7 (rZ (b8 bx (pv 2) (aE cu (aj (gT L) L.eJ (a5 (pv 0) (a5 ai a8))) ai) (λ_ _=>rfl)) (fC rfl (aU (aA (i:=3)) (aU (aA (i:=4)) dC))))
  (D1 (bH (aF m7 (aq cf (by rfl) T.len waO (a5 (pv 1) a8)) ai (aS _)) (af (ag (i:=4) (aq (vU rfl) (by rfl) T.min LZ (a5 (pv 4) (a5 ai a8))))) aL)
  (af (az (dP (a5 (pv 3) (a5 (pv 4) a8))))))) (D _)),?_⟩
 refine Dd λe G I hl Z=>⟨hl ▸ (by show 12<=sizeLine;decide),λb f=>?_⟩;have d:=I.trans (a9.upd (o:=.lst G) f);have M:=a6 (H:=e) (a:=b) (o:=.lst G);have O:=a9.upd (o:=.lst G) f;generalize upd e b _=G12 at d M O;refine⟨_,rfl,_,rfl,a,ns,4,rfl,d.seq W,λc H2 J=>?_⟩;have R:=wb3 c (show (12:Int)≠0 by decide);obtain⟨⟨many,wide⟩,m,m2,m8,n,r⟩:=MS _ R (wbh c (show (0:Int) < 12 by decide));obtain⟨q,t,hm⟩:=Z _ _ m;have t:=bQ t;rw[wgy R]at t;have j:=d.trans J;refine⟨_,_,rfl,rfl,(by show (0:Int) < 12;decide),b,_,_,_,rfl,rfl,aH.of (J _ _ M),t,q,_,rfl,ir.of (J _ _ (O _ _ hm)),rfl,_,_,rfl,_,_,rfl,rfl,?_⟩;refine⟨λσ S=>S=H2/\∃(wd:Int),σ=[some (.ref a),some (.str g),some (.ref b),some (.int many),some (.int wd)]/\1<=wd/\wd<=6/\(2 < g.length->wd<=3),?_,?_⟩
 ·refine⟨_,rfl,g,rfl,au (by omega),_,_,rfl,rfl,_,rfl,DS (λU=>?_) (λU=>?_)⟩
  ·refine⟨_,rfl,wide,3,rfl,?_⟩
   by_cases z:(3:Int) < wide
   ·rw[if_pos z];exact⟨rfl,3,rfl,by decide,by decide,λ_=>wdm _⟩
   ·rw[if_neg z];exact⟨rfl,wide,rfl,n,r,λ_=>by omega⟩
  ·exact⟨rfl,wide,rfl,n,r,λz=>absurd (decide_eq_true (by omega)) U⟩
 ·rintro σ S ⟨rfl,wd,rfl,n,r,w3⟩;refine⟨_,rfl,_,rfl,by show 2<=sizeLine;decide,λp m=>?_⟩;exact k p many wd _ (j.trans (a9.upd m)) (none_of j m) a6 (HW u v m2 m8 n r w3)
theorem Kg{H:Hp}{many c:Int}{g:Addr}(l:0<=many)(o:0<=c)(j:H g=some (.lst [.int 0])):∃y,w6 [V.int many,.int (many + 1 + c),.int (-1 - c % 9),.bl true,.bl false,.non,.str "0",.ref g] (c % 8)=some y/\yt H many y:=by
 have a:=wb3 c (show (8:Int)≠0 by decide);have b:=wbh c (show (0:Int) < 8 by decide);have d:=wb3 c (show (9:Int)≠0 by decide);have h:=XH _ a b;rcases h with h |h |h |h |h |h |h |h <;> rw[h]
 ·exact⟨_,rfl,.flat rfl,.inr ⟨_,rfl,.inr (by omega)⟩⟩
 ·exact⟨_,rfl,.flat rfl,.inr ⟨_,rfl,.inr (by omega)⟩⟩
 ·exact⟨_,rfl,.flat rfl,.inr ⟨_,rfl,.inl (by omega)⟩⟩
 ·exact⟨_,rfl,.flat rfl,.inl rfl⟩
 ·exact⟨_,rfl,.flat rfl,.inl rfl⟩
 ·exact⟨_,rfl,.flat rfl,.inl rfl⟩
 ·exact⟨_,rfl,.flat rfl,.inl rfl⟩
 ·exact⟨_,rfl,.lst j rfl,.inl rfl⟩
theorem yt.same{H g:Hp}{many:Int}{v:V}(h:yt H many v)(s:a9 H g):yt g many v:=⟨h.1.same s,h.2⟩
theorem MT{f:Addr}{fd:wae}(L:Lk K mg)(F:yM K "law" "law" (top 89) f fd):aN P w K mg base dm 13 f fd ["_law_script"] (D0 K):=by
 have T:=L.T;refine F.ee (N:=["_law_script","_law_signs","_law_words","_law_many","_law_wide","_law_told_here","_law_data","_law_first","_law_cell","_law_at","_law_odd","_law_spoilt","_law_due","_law_found","_law_thing"]) (λgK A outer s H vs Q E nd hr h=>?_);obtain⟨a,ns,rfl,hS,hlen,k⟩:=h;have N9:(A.deeper (wdp "law" (aD (top 89)) s.heap.objs.size f gK)).units < wcH:=hr.xK
 refine⟨_,(a7 (rZ (aj (yw L) L.lz (a5 (pv 0) a8)) (fC rfl (aU (aA (i:=1)) (aU (aA (i:=2)) dC))))
  (a7 (rZ (aj (yx L) L.lA (a5 (pv 0) (a5 (pv 1) a8))) (fC rfl (aU (aA (i:=3)) (aU (aA (i:=4)) dC))))
  (a7 (ag (i:=5) (aj (yv L) L.lB (a5 (pv 1) (a5 (pv 2) (a5 (pv 3) (a5 (pv 4) a8))))))
  (a7 (bH (aF Lg (pv 5) da (aS _)) (af (az gD)) aL)
  (a7 (eu (i:=6) rfl (ax ["_law_many"] [3]) nd rfl rfl (aM (cG fS (pv 0) (cy ai) (cy ai))) (λ_ _ _ _ _ _=>bh) (λ_ _ _ _ _ _=>(aE cu (pv 0) (pv 1))))
  (a7 (ag (i:=7) (jh (pv 5) L.ay.cl L.bX.m (gA L) (hr.mono (by decide)) L.bX.b .nil Gq (a5 (bo cz (by rfl) T.list iC (a5 (pv 6) a8)) a8)))
  (a7 (ag (i:=8) (aE cu (aE jg (aj (gT L) L.eJ (a5 (pv 0) (a5 ai a8))) ai) ai))
  (a7 (ag (i:=9) (aE cu (aE jg (pv 8) ai) (aE eN (aq bg (by rfl) T.len waO (a5 (pv 6) a8)) ai)))
  (a7 (ag (i:=10) (b8 bx (b7 (a5 (pv 3) (a5 (aE eN (aE eN (pv 3) ai) (pv 8)) (a5 (aE si (Kl Ft ai) (aE cu (pv 8) ai)) (a5 gD (a5 gD (a5 da (a5 dn (a5 (b7 (a5 ai a8)) a8))))))))) (aE cu (pv 8) ai) (λ_ _=>rfl)))
  (a7 (ag (i:=11) (aE jm (aE jm (cG fS (pv 6) gJ (cy (pv 9))) (b7 (a5 (pv 10) a8))) (cG fS (pv 6) (cy (pv 9)) gJ)))
  (a7 (ag (i:=12) (pv 9))
  (D1 (bH (aF qg (aE cu (aE jg (pv 8) ai) ai) ai (aS _)) (af (ag (i:=11) (aE jm (pv 11) (b7 (a5 da (a5 (pv 3) a8)))))) aL)
  (a7 (ag (i:=13) (aj (k8 L) L.fb (a5 (pv 5) (a5 (pv 11) a8))))
  (a7 (bH (PW.pt (iy (aF (Gx N9) (pv 13) (b7 (a5 (pv 12) a8)) (aS _)) (jb (cn (aq cO (by rfl) T.rp gq (a5 (b8 bx (pv 13) ai (λ_ _=>rfl)) (a5 (gH (v:=.ty "bool") (by rfl) T.bool Kv rfl) a8))))))) (af (az gD)) aL)
  (a7 (bj waB rfl (aM (b7 (a5 da (a5 (bo vf (by rfl) T.tuple LY (a5 (pv 6) a8)) (a5 dn (a5 ai a8)))))) (aA (i:=14)) (af (bH (aF (Gx N9) (aj (k8 L) L.fb (a5 (pv 5) (a5 (pv 14) a8))) (b7 (a5 da a8)) (aS _)) (af (az gD)) aL)))
  (af (az (iz qg (jh (pv 5) L.ay.cl L.bX.m (gA L) (hr.mono (by decide)) L.bX.b .nil Gq (a5 (bo cz (by rfl) T.list iC (a5 (pv 6) a8)) a8)) (pv 7) (aS _))))))))))))))))))),?_⟩
 refine cZ λR1 c1=>?_;refine⟨_,rfl,a,ns,rfl,hS,λpt lw g ws H1 s1 fpt flw Ue MB sg Vq ZG=>?_⟩;have g2:=sg.lo;have g4:=sg.hi;refine⟨pt,_,rfl,ir.of Ue,rfl,_,_,rfl,_,_,rfl,rfl,?_⟩;refine c1 _ _ (cZ λR2 c2=>?_);refine⟨_,rfl,_,rfl,a,ns,g,rfl,s1.seq hS,g2,g4,λpr many wide H2 s2 fpr U3 HR=>?_⟩;refine⟨pr,_,rfl,ir.of U3,rfl,_,_,rfl,_,_,rfl,rfl,?_⟩;refine c2 _ _ (cZ λR3 c3=>?_);obtain⟨ra,rb,rc,rd,re⟩:=id HR;obtain⟨wd,rfl⟩:∃w:Nat,wide=(w:Int):=⟨wide.toNat,by omega⟩;have Nf:=s1.trans s2;refine⟨_,rfl,_,rfl,_,rfl,_,rfl,g,lw,many,wd,ws,rfl,aH.of (s2 _ _ MB),sg,Vq,ZG,HR,λv H3 s3 hv=>?_⟩;have Cd:=Nf.trans s3;refine c3 _ _ (cZ λR4 c4=>?_);rcases hv with rfl |⟨x,rfl,hT⟩
 ·exact⟨_,rfl,rfl,true,rfl,dF (k H3)⟩
 refine⟨_,rfl,rfl,false,rfl,bA ?_⟩;refine c4 _ _ (cZ λR5 c5=>?_);obtain⟨xb,ss,ls,f0,f,j9,ks,hs,Wf,e,b,B,W,Ng,hL,hle,hP,W0,hB⟩:=id hT;obtain⟨dx,p,la,ll,hx,_⟩:=id W;have QL:=uD (n:="write") p xb la ll many (wd:Int) ((cR (gR e ks many.toNat) 0 (wam b 0)).2:Int) (cR (gR e ks many.toNat) 0 (wam b 0)).1 (by decide+kernel);have PK:=hB.le;have Zu:=hP.sl;refine⟨_,rfl,_,rfl,_,rfl,a,_,rfl,Cd.seq hS,λlc K0=>?_⟩;obtain⟨ms,em,eml⟩:=zu ns (some 5) (some 65);rw[em];refine⟨lc,rfl,⟨_,aH.of a6⟩,λld OX=>?_⟩;have t1:=a9.upd (H:=H3) (o:=.lst (ms.map V.int)) K0;have g1:(upd H3 lc (.lst (ms.map V.int))) lc=some (.lst (ms.map V.int)):=a6;generalize upd H3 lc (.lst (ms.map V.int))=H4 at OX t1 g1;refine comp_map (λv=>match v with |.int c=>.int (c % many) |_=>.non) (aK K lc _) OX (by rw[wa0];exact au (by omega)) (λH' s'=>aH.of (s' _ _ g1)) (λz H5 Q' O s5 q=>?_) (λH5 s5 h5=>?_)
 ·obtain⟨c,hc,rfl⟩:=waa.mp O;exact⟨_,rfl,_,rfl,_,_,rfl,rfl,by omega,q H5 (a9.refl _)⟩
 obtain⟨d,Q1,Zr,Ug⟩:∃d:List Nat,(ms.map V.int).map (λv=>match v with |.int c=>V.int (c % many) |_=>.non)=(nI d).map V.int/\d.length<=1000/\∀t∈d,(t:Int) < many:=by
  refine⟨ms.map λc=>(c % many).toNat,?_,by rw[wa0];omega,λt ht=>?_⟩
  ·unfold nI;rw[wai,wai,wai];refine wb6 λc hc=>?_;have:=wb3 c (show many≠0 by omega);show V.int (c % many)=V.int (((c % many).toNat:Nat):Int);rw[wgy this]
  ·obtain⟨c,_,rfl⟩:=waa.mp ht;have:=wb3 c (show many≠0 by omega);have:=wbh c (show 0 < many by omega);omega
 rw[Q1]at h5;have QN:=Cd.trans (t1.trans s5);have T5:=hT.same (t1.trans s5);have W5:=W.same (t1.trans s5);have Wg:=(t1.trans s5) _ _ hx;clear Q1 hT W hx g1 t1;refine c5 _ _ (cZ λR6 c6=>?_);refine⟨_,rfl,x,dx,_,rfl,Wg,QL,_,rfl,ld,_,rfl,.inl (aH.of h5),λl1 MA=>?_⟩;have t6:=a9.upd (H:=H5) (o:=.lst ((nI d).map V.int)) MA;have g6:(upd H5 l1 (.lst ((nI d).map V.int))) l1=some (.lst ((nI d).map V.int)):=a6;generalize upd H5 l1 (.lst ((nI d).map V.int))=H6 at t6 g6;refine⟨x,xb,.ref l1,many,wd,b,bZ f ls,j9,ks,hs,Wf,e,rfl,W5.same t6,W0,by omega,by omega,PK,by omega,.inl ⟨l1,d,rfl,g6,Ug,by omega,λH7 s7=>?_⟩⟩;generalize MG:PV (gR e ks many.toNat) b j9.length d=row;have Uh:=t6.trans s7;have QO:=QN.trans Uh;have h7:=Uh _ _ h5;refine c6 _ _ (cZ λR7 c7=>?_);refine⟨_,rfl,a,ns,4,rfl,QO.seq hS,λc4 H8 s8=>?_⟩;have ZH:=Uh.trans s8;have h8:=s8 _ _ h7;refine⟨_,_,rfl,rfl,⟨by decide,by decide+kernel⟩,_,_,rfl,rfl,(by show (0:Int) < 1000003;decide),?_⟩;show d4 _ (V.int (c4 / 12 % 1000003)) _ _ _;have c0:=wb3 (c4 / 12) (show (1000003:Int)≠0 by decide);generalize c4 / 12 % 1000003=c at c0;refine c7 _ _ ?_;refine⟨_,rfl,_,_,rfl,rfl,⟨by decide,by decide+kernel⟩,_,rfl,ld,_,rfl,.inl (aH.of h8),_,_,rfl,rfl,_,_,rfl,rfl,by omega,?_⟩;have R:((nI d).map V.int).length=d.length:=by unfold nI;rw[wa0,wa0]
 rw[R];show d4 _ (V.int (c / 16 % ((d.length:Int) + 1))) _ _ _;have j0:=wb3 (c / 16) (show ((d.length:Int) + 1)≠0 by omega);have j1:=wbh (c / 16) (show 0 < ((d.length:Int) + 1) by omega);obtain⟨j,hj⟩:∃j:Nat,c / 16 % ((d.length:Int) + 1)=(j:Int):=⟨(c / 16 % ((d.length:Int) + 1)).toNat,by omega⟩;rw[hj]at j1 ⊢;have Sa:j<=d.length:=by omega
 clear j0 j1 hj;refine⟨_,rfl,_,rfl,_,_,rfl,rfl,_,rfl,_,_,rfl,rfl,_,rfl,_,rfl,_,_,rfl,rfl,(by show (0:Int) < 9;decide),_,_,rfl,rfl,by show 1<=sizeLine;decide,λJ MF=>⟨by show 8<=sizeLine;decide,λl9 N7=>?_⟩⟩;have t9:a9 H8 (upd (upd H8 J (.lst [.int 0])) l9 (.lst [.int many,.int (many + 1 + c),.int (-1 - c % 9),.bl true,.bl false,.non,.str "0",.ref J])):=(a9.upd MF).trans (a9.upd N7);have g9:(upd (upd H8 J (.lst [.int 0])) l9 (.lst [.int many,.int (many + 1 + c),.int (-1 - c % 9),.bl true,.bl false,.non,.str "0",.ref J])) l9=some (.lst [.int many,.int (many + 1 + c),.int (-1 - c % 9),.bl true,.bl false,.non,.str "0",.ref J]):=a6;have g0:(upd (upd H8 J (.lst [.int 0])) l9 (.lst [.int many,.int (many + 1 + c),.int (-1 - c % 9),.bl true,.bl false,.non,.str "0",.ref J])) J=some (.lst [.int 0]):=a9.upd N7 _ _ a6;generalize upd (upd H8 J (.lst [.int 0])) l9 (.lst [.int many,.int (many + 1 + c),.int (-1 - c % 9),.bl true,.bl false,.non,.str "0",.ref J])=Y at t9 g9 g0;obtain⟨y,hy,Z⟩:=Kg (show 0<=many by omega) c0 g0;refine⟨_,rfl,_,_,rfl,rfl,(by show (0:Int) < 8;decide),l9,_,_,y,rfl,rfl,aH.of g9,hy,?_⟩;have ZI:=ZH.trans t9;have h9:=t9 _ _ h8;clear hy g9 g0 t9 MF N7;refine⟨_,rfl,_,rfl,_,rfl,ld,_,rfl,aH.of h9,λp1 Wh=>⟨_,rfl,by show 1<=sizeLine;decide,λp2 S=>?_⟩⟩;rw[Md _ j (by rw[R];exact Sa)]at S ⊢;have q1:a9 Y (upd (upd Y p1 (.lst (((nI d).map V.int).take j))) p2 (.lst [y])):=(a9.upd Wh).trans (a9.upd S);have e1:(upd (upd Y p1 (.lst (((nI d).map V.int).take j))) p2 (.lst [y])) p1=some (.lst (((nI d).map V.int).take j)):=a9.upd S _ _ a6;have e2:(upd (upd Y p1 (.lst (((nI d).map V.int).take j))) p2 (.lst [y])) p2=some (.lst [y]):=a6;generalize upd (upd Y p1 (.lst (((nI d).map V.int).take j))) p2 (.lst [y])=K5 at q1 e1 e2;have U:(((nI d).map V.int).take j).length=j:=by rw[wau,R];omega
 refine⟨p1,p2,_,_,rfl,rfl,e1,e2,by rw[U];exact au (by show j + 1<=_;omega),λp3 Wi=>?_⟩;have q3:=a9.upd (H:=K5) (o:=.lst (((nI d).map V.int).take j++[y])) Wi;have e3:(upd K5 p3 (.lst (((nI d).map V.int).take j++[y]))) p3=some (.lst (((nI d).map V.int).take j++[y])):=a6;generalize upd K5 p3 (.lst (((nI d).map V.int).take j++[y]))=Fe at q3 e3;have Q2:=q1.trans q3;refine⟨_,rfl,_,rfl,_,rfl,ld,_,rfl,aH.of (Q2 _ _ h9),λp4 Wj=>?_⟩;rw[t8];have q4:=a9.upd (H:=Fe) (o:=.lst (((nI d).map V.int).drop j)) Wj;have e4:(upd Fe p4 (.lst (((nI d).map V.int).drop j))) p4=some (.lst (((nI d).map V.int).drop j)):=a6;generalize upd Fe p4 (.lst (((nI d).map V.int).drop j))=HH at q4 e4;have QM:(((nI d).map V.int).take j++[y]).length + (((nI d).map V.int).drop j).length=d.length + 1:=by rw[wa7,U,wbw,R,wc9];omega
 refine⟨p3,p4,_,_,rfl,rfl,q4 _ _ e3,e4,by rw[QM];exact au (by omega),λp5 QF=>?_⟩
 obtain⟨M,Wk,T4,Wl,Wm⟩:∃M:List V,(((nI d).map V.int).take j++[y])++(((nI d).map V.int).drop j)=M/\M.length=d.length + 1/\M[j]?=some y/\∀i z,i < j->M[i]?=some z->∃t:Nat,z=.int (t:Int)/\(t:Int) < many:=by
  refine⟨_,rfl,by rw[wa7];exact QM,?_,λi z hi O=>?_⟩
  ·rw[wb9,waF (by omega),U,wbX];rfl
  ·rw[wb9,waE (by omega)]at O;have X:=wgj (wak O);obtain⟨t,ht,rfl⟩:=pM X;exact⟨t,rfl,Ug t ht⟩
 rw[Wk];have q5:=a9.upd (H:=HH) (o:=.lst M) QF;have e5:(upd HH p5 (.lst M)) p5=some (.lst M):=a6;generalize upd HH p5 (.lst M)=QG at q5 e5;have r:=Q2.trans (q4.trans q5);have Ui:=ZI.trans r;have Pq:=r _ _ h9;have Wn:=yt.same Z r;clear q1 q3 q4 q5 e1 e2 e3 e4 QM U Wh S Wi Wj QF Wk h9 Z;refine⟨_,rfl,?_⟩;refine⟨λσ Y=>∃(p6:Addr) (xs:List V),σ=[some (.ref a),some (.str g),some (.ref lw),some (.int many),some (.int (wd:Int)),some (.ref x),some (.ref ld),some (.str row),some (.int c),some (.int (j:Int)),some y,some (.ref p6),some (.int (j:Int)),none,none]/\a9 QG Y/\Y p6=some (.lst xs)/\xs[j]?=some y/\∀i z,i < j->xs[i]?=some z->∃t:Nat,z=.int (t:Int)/\(t:Int) < many,?_,?_⟩
 ·refine⟨_,rfl,_,_,rfl,rfl,⟨by decide,by decide+kernel⟩,_,_,rfl,rfl,(by show (0:Int) < 2;decide),rfl,_,rfl,DS (λ_=>?_) (λ_=>⟨p5,M,rfl,a9.refl _,e5,Wl,Wm⟩)⟩;refine⟨_,rfl,_,rfl,by show 2<=sizeLine;decide,λq1 SA=>⟨p5,q1,_,_,rfl,rfl,a9.upd SA _ _ e5,a6,by rw[T4];exact au (by show d.length + 1 + 2<=_;omega),λq2 TC=>?_⟩⟩;refine⟨q2,_,rfl,(a9.upd SA).trans (a9.upd TC),a6,?_,λi z hi O=>?_⟩
  ·rw[waE (by omega)];exact Wl
  ·rw[waE (by omega)]at O;exact Wm i z hi O
 rintro σ Uc ⟨p6,xs,rfl,Wo,h6,Wq,Wr⟩;have Q3:=Ui.trans Wo;refine⟨_,rfl,_,rfl,x,.ref p6,g,ws,many,wd,rfl,T5.same Q3,by omega,by omega,.inl ⟨p6,xs,j,y,rfl,h6,Wq,yt.same Wn Wo,Wr,by omega,λl Uj QP QQ=>?_⟩⟩;refine⟨_,rfl,_,rfl,by show 1<=sizeLine;decide,λq hq=>?_⟩;have q0:=a9.upd (H:=Uj) (o:=.lst [.int (j:Int)]) hq;have e0:(upd Uj q (.lst [.int (j:Int)])) q=some (.lst [.int (j:Int)]):=a6;generalize upd Uj q (.lst [.int (j:Int)])=u at q0 e0;have Uk:=q0 _ _ QQ;have Q4:=Q3.trans (QP.trans q0)
 have C:V.bl (!ph [.int (j:Int)] [.int (j:Int)])=V.bl false:=by
  rw[show [V.int (j:Int)]=(nI [j]).map V.int from rfl,pL,decide_eq_true rfl];rfl
 refine⟨l,q,_,_,rfl,rfl,aH.of Uk,aH.of e0,rfl,rfl,false,C,bA ?_⟩;refine⟨_,rfl,l,_,_,_,rfl,rfl,aH.of Uk,rfl,_,_,_,false,rfl,d7.int _,rfl,false,rfl,bA ?_⟩;clear C e0 Uk q0 hq QQ QP Wr Wq h6 Wn;have ZJ:=Q4 _ _ h5;refine⟨_,rfl,ld,_,rfl,.inl ⟨aH.of ZJ,λpt Ue=>⟨by show 4<=sizeLine;decide,λpl Ja=>?_⟩⟩⟩;have q1:a9 u (upd (upd u pt (.tup ((nI d).map V.int))) pl (.lst [.non,.ref pt,.str "0",.int 7])):=(a9.upd Ue).trans (a9.upd Ja);have e1:(upd (upd u pt (.tup ((nI d).map V.int))) pl (.lst [.non,.ref pt,.str "0",.int 7])) pl=some (.lst [.non,.ref pt,.str "0",.int 7]):=a6;have e2:(upd (upd u pt (.tup ((nI d).map V.int))) pl (.lst [.non,.ref pt,.str "0",.int 7])) pt=some (.tup ((nI d).map V.int)):=a9.upd Ja _ _ a6;generalize upd (upd u pt (.tup ((nI d).map V.int))) pl (.lst [.non,.ref pt,.str "0",.int 7])=ZK at q1 e1 e2;have Q6:=Q4.trans q1;refine⟨pl,rfl,⟨_,aH.of e1⟩,dU (K:=K) (a:=pl) (xs:=[.non,.ref pt,.str "0",.int 7]) (λi σ H2=>a9 ZK H2/\∃Ul,σ=[some (.ref a),some (.str g),some (.ref lw),some (.int many),some (.int (wd:Int)),some (.ref x),some (.ref ld),some (.str row),some (.int c),some (.int (j:Int)),some y,some (.ref p6),some (.int (j:Int)),some (.ref l),Ul]) ⟨a9.refl _,_,rfl⟩ (λi σ H2 _ ⟨s2,_⟩=>aH.of (s2 _ _ e1)) ?_ ?_⟩
 ·rintro i z σ D O ⟨G,Ul,rfl⟩
  obtain⟨t,ty,ht⟩:∃t,d7 K D z t/\wcE K t (.type "list")=some false:=by
   have X:=wak O;simp only[waH,wbH,or_false]at X;rcases X with rfl |rfl |rfl |rfl
   ·exact⟨_,.non,rfl⟩
   ·exact⟨_,.tup (G _ _ e2),rfl⟩
   ·exact⟨_,.str _,rfl⟩
   ·exact⟨_,.int _,rfl⟩
  refine⟨_,rfl,_,rfl,x,z,g,ws,many,wd,rfl,T5.same (Q6.trans G),by omega,by omega,.inr ⟨t,ty,ht,λl2 ZL ZM ZN=>?_⟩⟩;refine⟨by show 1<=sizeLine;decide,λq hq=>?_⟩;refine⟨l2,q,_,_,rfl,rfl,aH.of (a9.upd (o:=.lst [.non]) hq _ _ ZN),aH.of a6,rfl,rfl,false,rfl,bA ?_⟩;exact⟨G.trans (ZM.trans (a9.upd hq)),_,rfl⟩
 rintro σ D ⟨G,Ul,rfl⟩;have I:=Q6.trans G;refine⟨_,rfl,x,dx,_,rfl,I _ _ Wg,QL,_,rfl,ld,_,rfl,.inl (aH.of (I _ _ h5)),λl2 MH=>?_⟩;have t7:=a9.upd (H:=D) (o:=.lst ((nI d).map V.int)) MH;have g7:(upd D l2 (.lst ((nI d).map V.int))) l2=some (.lst ((nI d).map V.int)):=a6;generalize upd D l2 (.lst ((nI d).map V.int))=ZL at t7 g7;refine⟨x,xb,.ref l2,many,wd,b,bZ f ls,j9,ks,hs,Wf,e,rfl,W5.same (I.trans t7),W0,by omega,by omega,PK,by omega,.inl ⟨l2,d,rfl,g7,Ug,by omega,λZO s20=>?_⟩⟩;rw[MG];refine⟨_,rfl,rfl,?_⟩;rw[Bt];exact k ZO
end
end K42
namespace K42
open PySem PySem.W L2 Bs Sx
theorem nz{K:Frag}{mg:Str->Option Value}{hp:Heap}{x:Str}(X:K.In hp)(G:hp.Ns waL mg)(a:nsIn K waL x=some none:=by k_is):mg x=none:=mg_none_of X G a
theorem na{K:Frag}{C:Addr}{f:Str}(a:findIn K (.ref C) f=some none:=by k_is):bU K C f:=a
theorem gn{K:Frag}{mg:Str->Option Value}{hp:Heap}{f:Addr}{oc:Value}{od an:Option Addr}{FP:Array (Option Value)}{kV doc pm gK ct:Value}(nm:Str)(st:Stmt)(ps:List Str)(X:K.In hp)(G:hp.Ns waL mg)(a:nsIn K waL nm=some (some (.ref f)):=by k_is)(l:K.lookup f=some ⟨oc,od,.func (fnOf nm nm (cU st) (bR st) (aD st) .none kV doc pm an gK ct),FP⟩:=by k_is)(c:codeIn K gK nm=true:=by k_is)(k:keepIn K (.ref f)=true:=by k_is)(b:∀(kV doc pm:Value) (an:Option Addr) (gK ct:Value) (us:List Value),us.length=ps.length->bindArgs (fnOf nm nm (cU st) (bR st) (aD st) .none kV doc pm an gK ct) ⟨us,[]⟩=pure (ps.zip us):=by first |exact λ_ _ _ _ _ _=>L2.iw _ _ λ_=>rfl |exact λ_ _ _ _ _ _=>L2.iw _ _ λ_ _=>rfl |exact λ_ _ _ _ _ _=>L2.iw _ _ λ_ _ _=>rfl |exact λ_ _ _ _ _ _=>L2.iw _ _ λ_ _ _ _=>rfl |exact λ_ _ _ _ _ _=>L2.iw _ _ λ_ _ _ _ _=>rfl |exact λ_ _ _ _ _ _=>L2.iw _ _ λ_ _ _ _ _ _=>rfl):∃fd,FnAt K mg nm st ps f fd:=Raw.at_ X G a (Bj l c k) b
structure Ws(K:Frag)(mg:Str->Option Value)(x:Str)(C:Addr):Prop where
 g:mg x=some (.ref C)
 c:AA K C
 mi:makesIn K C=true
 kp:keepIn K (.ref C)=true
theorem QR{K:Frag}{mg:Str->Option Value}{hp:Heap}{C:Addr}(x:Str)(X:K.In hp)(G:hp.Ns waL mg)(a:nsIn K waL x=some (some (.ref C)):=by k_is)(b:plainGet K C whv=true:=by k_is)(c:wea K C=true:=by k_is)(d:wfS K C=true:=by k_is)(e:findIn K (.ref C) "__setattr__"=some (some (.builtin "object.__setattr__")):=by k_is)(f:makesIn K C=true:=by k_is)(g:keepIn K (.ref C)=true:=by k_is):Ws K mg x C:=⟨mg_of X G a,⟨b,c,d,e⟩,f,g⟩
theorem Aj{K:Frag}{mg:Str->Option Value}{x:Str}{C f:Addr}{oc:Value}{od an:Option Addr}{FP:Array (Option Value)}{kV doc pm gK ct:Value}(P:Ws K mg x C)(nm q:Str)(st:Stmt)(ps:List Str)(a:findIn K (.ref C) nm=some (some (.ref f)):=by k_is)(i:isFn K (.ref f)=true:=by k_is)(l:K.lookup f=some ⟨oc,od,.func (fnOf nm q (cU st) (bR st) (aD st) .none kV doc pm an gK ct),FP⟩:=by k_is)(c:codeIn K gK q=true:=by k_is)(k:keepIn K (.ref f)=true:=by k_is)(b:∀(kV doc pm:Value) (an:Option Addr) (gK ct:Value) (us:List Value),us.length=ps.length->bindArgs (fnOf nm q (cU st) (bR st) (aD st) .none kV doc pm an gK ct) ⟨us,[]⟩=pure (ps.zip us):=by first |exact λ_ _ _ _ _ _=>L2.iw _ _ λ_=>rfl |exact λ_ _ _ _ _ _=>L2.iw _ _ λ_ _=>rfl |exact λ_ _ _ _ _ _=>L2.iw _ _ λ_ _ _=>rfl |exact λ_ _ _ _ _ _=>L2.iw _ _ λ_ _ _ _=>rfl |exact λ_ _ _ _ _ _=>L2.iw _ _ λ_ _ _ _ _=>rfl |exact λ_ _ _ _ _ _=>L2.iw _ _ λ_ _ _ _ _ _=>rfl):∃fd,fA K C nm q st ps f fd:=by
 obtain⟨fd,F,B⟩:=(Bj l c k).fn b;exact⟨fd,F,B,a,i,k⟩
theorem ZP{K:Frag}{mg:Str->Option Value}{hp:Heap}{x:Str}{t:Tok}(X:K.In hp)(G:hp.Ns waL mg)(a:nsIn K waL "KNOWN_SIGNS"=some (some (.str x t)):=by k_is)(e:x=dN:=by first |rfl |decide+kernel):∃t,mg "KNOWN_SIGNS"=some (.str dN t):=⟨t,e ▸ mg_of X G a⟩
theorem ZQ{K:Frag}{mg:Str->Option Value}{hp:Heap}{C:Addr}{q:Str}{N:Addr}{bs:List Value}{hd:Bool}{sn:List Str}{sub:List Value}{ab:Bool}{col:Option Bool}{dd:Option Addr}{k0 k1 k2 k3 k5:Option Value}(X:K.In hp)(G:hp.Ns waL mg)(a:nsIn K waL "BandError"=some (some (.ref C)):=by k_is)(l:K.lookup C=some (wbf "BandError" q C N bs N1 hd sn sub ab col dd k0 k1 k2 k3 k5 "ValueError.__new__"):=by k_is)(b:weG K (.ref C) "__getattribute__"=some (some (.builtin "type.__getattribute__")):=by k_is)(c:readsIn K C (.type "type")=true:=by k_is)(d:findCls K (.ref C) (.type "type") "__init__"=some (.val (.builtin "ValueError.__init__")):=by k_is):mg "BandError"=some (.ref C)/\vm K C "BandError"/\Gh K C:=⟨mg_of X G a,Jj l,b,c,d⟩
theorem Ff{K:Frag}{mg:Str->Option Value}{hp:Heap}{C CB:Addr}{q:Str}{N:Addr}{bs:List Value}{sn:List Str}{sub:List Value}{ab:Bool}{col:Option Bool}{dd:Option Addr}{k0 k1 k2 k3 k5:Option Value}(x:Str)(X:K.In hp)(G:hp.Ns waL mg)(B:vm K CB "BandError")(a:nsIn K waL x=some (some (.ref C)):=by k_is)(l:K.lookup C=some (wbf x q C N bs (jM CB) true sn sub ab col dd k0 k1 k2 k3 k5 "ValueError.__new__"):=by k_is):mg x=some (.ref C)/\hO K C CB x:=⟨mg_of X G a,D7 l⟩
theorem QS{K:Frag}{mg:Str->Option Value}{hp:Heap}{C CB:Addr}{q:Str}{N:Addr}{bs:List Value}{sn:List Str}{sub:List Value}{ab:Bool}{col:Option Bool}{dd:Option Addr}{k0 k1 k2 k3 k5:Option Value}(x:Str)(X:K.In hp)(G:hp.Ns waL mg)(B:vm K CB "BandError")(a:nsIn K waL x=some (some (.ref C)):=by k_is)(l:K.lookup C=some (wbf x q C N bs (jM CB) true sn sub ab col dd k0 k1 k2 k3 k5 "ValueError.__new__"):=by k_is)(s:findIn K (.ref C) "__setattr__"=some (some (.builtin "object.__setattr__")):=by k_is)(g:findIn K (.ref C) "__getattribute__"=some (some (.builtin "BaseException.__getattribute__")):=by k_is)(h:findIn K (.ref C) "__getattr__"=some none:=by k_is)(k:keepIn K (.ref C)=true:=by k_is)(c:findIn K (.ref C) "__class__"=some (some (.builtin "object.__class__")):=by k_is)(n:weG K (.builtin "object.__class__") "__get__"=some (some (.builtin "getset_descriptor.__get__")):=by k_is)(t:takesIn K (.builtin "object.__class__")=some true:=by k_is):mg x=some (.ref C)/\bB K C CB x/\vn K C:=⟨mg_of X G a,⟨(D7 l).lk,s,g,h,k⟩,c,n,t⟩
theorem Wt{K:Frag}{C f:Addr}{oc:Value}{od an:Option Addr}{FP:Array (Option Value)}{kV doc pm gK ct:Value}(Y:vn K C)(q:Str)(st:Stmt)(ps:List Str)(nm:Str)(a:findIn K (.ref C) nm=some (some (.ref f)):=by k_is)(i:isFn K (.ref f)=true:=by k_is)(l:K.lookup f=some ⟨oc,od,.func (fnOf nm q (cU st) (bR st) (aD st) .none kV doc pm an gK ct),FP⟩:=by k_is)(c:codeIn K gK q=true:=by k_is)(k:keepIn K (.ref f)=true:=by k_is)(b:∀(kV doc pm:Value) (an:Option Addr) (gK ct:Value) (us:List Value),us.length=ps.length->bindArgs (fnOf nm q (cU st) (bR st) (aD st) .none kV doc pm an gK ct) ⟨us,[]⟩=pure (ps.zip us):=by first |exact λ_ _ _ _ _ _=>L2.iw _ _ λ_=>rfl |exact λ_ _ _ _ _ _=>L2.iw _ _ λ_ _=>rfl |exact λ_ _ _ _ _ _=>L2.iw _ _ λ_ _ _=>rfl |exact λ_ _ _ _ _ _=>L2.iw _ _ λ_ _ _ _=>rfl |exact λ_ _ _ _ _ _=>L2.iw _ _ λ_ _ _ _ _=>rfl |exact λ_ _ _ _ _ _=>L2.iw _ _ λ_ _ _ _ _ _=>rfl):∃fd,yM K nm q st f fd/\Binds K fd ps []/\findIn K (.ref C) nm=some (some (.ref f))/\isFn K (.ref f)=true:=by
 obtain⟨fd,F,B⟩:=(Bj l c k).fn b;exact⟨fd,F,B,a,i⟩
theorem walk{l:weo}{q:wat}{loose:List Str}{XP:(Str->Option Value)->Heap->Prop}{YP:World->Heap->Prop}{d:DefRec}{K:Params->wa1}(hn:l.most=some 63)(ZR:d.params.defaults=[])
 (hY:∀(w:World) (h:Heap),YP w h->(K w.params).In h)
 (F:∀(w:World) (mg:Str->Option Value) (fa:Addr) (h:Heap),(K w.params).In h->h.Ns waL mg->mg d.name=some (.ref fa) ->
   ∃fd:wae,(∀(s:Shared) (u:Value),BindsTo s fd ⟨[u],[]⟩ [("_law_script",u)])/\∀base:Heap,(K w.params).In base->base.Ns waL mg->aN l.prog w (K w.params) mg base dm 13 fa fd ["_law_script"] (D0 (K w.params))) :
 whi q loose XP YP l.row.toRowW d [] (λf vs=>whl f vs):=
 L2.IQ (n:=63) (k:=13) (x:="_law_script") (CX:=λ_=>dm) (sp:=λw=>D0 (K w.params)) hn (by decide) ZR ⟨rfl,by decide,by decide⟩ hY F (λ_ _ a ns hl _ hS=>⟨a,ns,rfl,hS,hl,λ_=>rfl⟩) λ_ _ _ _ _ z=>z
theorem Um{K:Frag}{mg:Str->Option Value}{hp:Heap}{f:Addr}{oc:Value}{od an:Option Addr}{FP:Array (Option Value)}{kV doc pm gK ct:Value}(l:weo)(w:World)(fa:Addr)(ZS:mg "law"=some (.ref fa))(X:K.In hp)(G:hp.Ns waL mg)(L:Lk K mg)(a:nsIn K waL "law"=some (some (.ref f)):=by k_is)(lk:K.lookup f=some ⟨oc,od,.func (fnOf "law" "law" (cU (top 89)) (bR (top 89)) (aD (top 89)) .none kV doc pm an gK ct),FP⟩:=by k_is)(c:codeIn K gK "law"=true:=by k_is)(k:keepIn K (.ref f)=true:=by k_is) :
 ∃fd:wae,(∀(s:Shared) (v:Value),BindsTo s fd ⟨[v],[]⟩ [("_law_script",v)])/\∀base:Heap,K.In base->base.Ns waL mg->aN l.prog w K mg base dm 13 fa fd ["_law_script"] (D0 K):=by
 have e:=ZS.symm.trans (mg_of X G a);cases e;exact⟨_,λs v=>.of_eq rfl,λbase _ _=>MT L (FQ (st:=top 89) lk c k)⟩
end K42
open PySem PySem.W PyProof.Rows
local macro_rules |`(tactic|o_head $H)=>`(tactic|(refine PySem.W.holds_open (q:=K42.view) (loose:=[]) (Xt:=λs=>PySem.W.xlAt K42.view [] s && PySem.W.recOk (PySem.W.RowW.records (PySem.W.OpenRow.toRowW (PySem.W.OpenLaw.row PySem.Challenge.rw_bandscribe_k42_data_refused))) s) (XP:=PySem.W.XL K42.view []) (Yf:=PySem.W.Hook.obs $H) (Ya:=PySem.W.Hook.val $H) (YP:=PySem.W.Hook.says $H) (N:=8100) ?hl (PySem.W.Hook.of $H) (PySem.W.Hook.keeps $H) (λs e=>PySem.W.xl_of s (Bool.and_eq_true_iff.mp e).1) PySem.W.XL.keeps (by rfl) (by rfl) (by rfl) (λs e=>PySem.W.recFacts_of (Bool.and_eq_true_iff.mp e).2) (by rfl) (by first |assumption |decide+kernel) (by decide+kernel) ⟨rfl,rfl,rfl,rfl,rfl,by decide+kernel⟩ ?hw ?hc;(case hl=>(intro w;exact K42.whole w))))
set_option maxRecDepth 100000 in
set_option maxHeartbeats 0 in
theorem PySem.Challenge.cw_bandscribe_k42_data_refused_holds : PySem.Challenge.rw_bandscribe_k42_data_refused.Holds := by
 w_on;o_law;o_head (PySem.W.kHook K42.pre.heap_39 K42.addrs (λ_=>by kernel_rfl));(case hw=>w_witness2)
 k_fill
 refine K42.walk (l:=wav) rfl rfl (λw h Y=>PySem.W.kIn_of Y) ?F
 case F=>
  intro w mg fa h X G ZT;obtain⟨_,Cr⟩:=K42.gn "is_whole" (K42.top 20) ["thing"] X G;obtain⟨_,Ct⟩:=K42.gn "all_rows" (K42.top 22) ["band","wide"] X G;obtain⟨_,F7⟩:=K42.gn "is_rate" (K42.top 23) ["band","many","wide"] X G;obtain⟨_,yy⟩:=K42.gn "check_rate" (K42.top 24) ["band","many","wide"] X G;obtain⟨_,vK⟩:=K42.gn "longer_rows" (K42.top 25) ["band","rows"] X G;obtain⟨_,vL⟩:=K42.gn "blocks_from" (K42.top 26) ["band","place","wide"] X G;obtain⟨_,Ak⟩:=K42.gn "ends_from" (K42.top 28) ["band","place"] X G;obtain⟨_,Cu⟩:=K42.gn "all_ends" (K42.top 29) ["band"] X G;obtain⟨_,uG⟩:=K42.gn "counts_up_to" (K42.top 30) ["band","length"] X G;obtain⟨_,yz⟩:=K42.gn "count_from" (K42.top 31) ["band","place","length"] X G;obtain⟨_,Kh⟩:=K42.gn "count" (K42.top 32) ["band","length"] X G;obtain⟨_,yA⟩:=K42.gn "block_ends" (K42.top 34) ["band","wide"] X G;obtain⟨_,Al⟩:=K42.gn "weight_of" (K42.top 35) ["places","weights"] X G;obtain⟨_,F8⟩:=K42.gn "lowered" (K42.top 36) ["ends","many","weights"] X G;obtain⟨_,Cv⟩:=K42.gn "greatest" (K42.top 37) ["band","many","wide","most"] X G;obtain⟨_,HY⟩:=K42.gn "scarce" (K42.top 38) ["band","many","wide","most"] X G;obtain⟨_,uH⟩:=K42.gn "copied_steps" (K42.top 40) ["line"] X G;obtain⟨_,vM⟩:=K42.gn "first_sheet" (K42.top 42) ["band","many","wide","weights"] X G;obtain⟨_,uI⟩:=K42.gn "is_number_of" (K42.top 43) ["number","things"] X G;obtain⟨_,yB⟩:=K42.gn "check_part" (K42.top 44) ["sheet","many","steps","weight"] X G;obtain⟨_,yC⟩:=K42.gn "with_twins" (K42.top 45) ["line","desk","twin"] X G;obtain⟨_,Ki⟩:=K42.gn "split" (K42.top 46) ["sheet","many","desk","numbers","weight"] X G;obtain⟨_,uJ⟩:=K42.gn "copied_sheet" (K42.top 51) ["sheet"] X G;obtain⟨_,nB⟩:=K42.gn "check_not_scarce" (K42.top 53) ["band","many","wide"] X G;obtain⟨_,j7⟩:=K42.gn "weights_of_least_most" (K42.top 54) ["band","many","wide"] X G;obtain⟨_,uK⟩:=K42.gn "reached_from" (K42.top 55) ["sheet","desk"] X G;obtain⟨_,qc⟩:=K42.gn "closed_weights" (K42.top 56) ["band","many","wide","weights"] X G;obtain⟨_,yD⟩:=K42.gn "steps_into" (K42.top 57) ["line","desks"] X G;obtain⟨_,yE⟩:=K42.gn "kept_desks" (K42.top 58) ["sheet","many"] X G;obtain⟨_,Am⟩:=K42.gn "step_down" (K42.top 59) ["sheet"] X G;obtain⟨_,HZ⟩:=K42.gn "run_by" (K42.top 60) ["weights","numbers","many"] X G;obtain⟨_,yF⟩:=K42.gn "next_split" (K42.top 61) ["sheet","many"] X G;obtain⟨_,F9⟩:=K42.gn "plan_of" (K42.top 62) ["band","many","wide"] X G;obtain⟨_,rB⟩:=K42.gn "blocks_behind" (K42.top 64) ["band","wide"] X G;obtain⟨_,jJ⟩:=K42.gn "steps_by_new_numbers" (K42.top 65) ["line","kept","many"] X G;obtain⟨_,yG⟩:=K42.gn "check_data" (K42.top 66) ["data","many"] X G;obtain⟨_,Ia⟩:=K42.gn "walked" (K42.top 67) ["lines","desk","data"] X G;obtain⟨_,An⟩:=K42.gn "all_among" (K42.top 71) ["text","signs"] X G;obtain⟨_,Ao⟩:=K42.gn "are_signs" (K42.top 72) ["thing"] X G;obtain⟨_,Fa⟩:=K42.gn "is_word" (K42.top 73) ["thing","signs"] X G;obtain⟨_,uL⟩:=K42.gn "check_barred" (K42.top 74) ["barred","signs"] X G;obtain⟨_,uM⟩:=K42.gn "bears_barred" (K42.top 75) ["row","barred"] X G;obtain⟨_,rD⟩:=K42.gn "sorted_places" (K42.top 76) ["barred"] X G;obtain⟨_,vN⟩:=K42.gn "longest_end" (K42.top 77) ["row","places"] X G;obtain⟨_,yH⟩:=K42.gn "moves_from" (K42.top 78) ["place","signs","barred","places"] X G;obtain⟨_,yI⟩:=K42.gn "leads_into" (K42.top 79) ["ends","lot"] X G;obtain⟨_,yJ⟩:=K42.gn "live_among" (K42.top 80) ["moves"] X G;obtain⟨_,Ap⟩:=K42.gn "_law_here" (K42.top 83) ["_law_script","_law_place"] X G;obtain⟨_,vO⟩:=K42.gn "_law_shaken" (K42.top 84) ["_law_cell","_law_many"] X G;obtain⟨_,Aq⟩:=K42.gn "_law_band" (K42.top 85) ["_law_script"] X G;obtain⟨_,Ar⟩:=K42.gn "_law_rate" (K42.top 86) ["_law_script","_law_signs"] X G;obtain⟨_,As⟩:=K42.gn "_law_told" (K42.top 87) ["_law_signs","_law_words","_law_many","_law_wide"] X G;obtain⟨_,uN⟩:=K42.gn "_law_refused" (K42.top 88) ["_law_told_here","_law_data"] X G;have oX:=K42.QR "Sheet" X G;have qe:=K42.QR "Plan" X G;have dA:=K42.QR "Writer" X G;have iq:=K42.QR "Band" X G;obtain⟨_,fR⟩:=K42.Aj oX "__init__" "Sheet.__init__" (L2.inClass (K42.top 41) 0) ["self","homes","weights","lines"];obtain⟨_,gB⟩:=K42.Aj qe "__init__" "Plan.__init__" (L2.inClass (K42.top 52) 0) ["self","weights","splits","kept","last"];obtain⟨_,yK⟩:=K42.Aj qe "sheet" "Plan.sheet" (L2.inClass (K42.top 52) 1) ["self"];obtain⟨_,fu⟩:=K42.Aj dA "__init__" "Writer.__init__" (L2.inClass (K42.top 68) 0) ["self","band","many","wide"];obtain⟨_,rE⟩:=K42.Aj dA "behind" "Writer.behind" (L2.inClass (K42.top 68) 1) ["self"];obtain⟨_,uO⟩:=K42.Aj dA "ahead" "Writer.ahead" (L2.inClass (K42.top 68) 2) ["self"];obtain⟨_,vP⟩:=K42.Aj dA "lead" "Writer.lead" (L2.inClass (K42.top 68) 4) ["self"];obtain⟨_,uP⟩:=K42.Aj dA "desks" "Writer.desks" (L2.inClass (K42.top 68) 5) ["self"];obtain⟨_,uQ⟩:=K42.Aj dA "steps" "Writer.steps" (L2.inClass (K42.top 68) 7) ["self","desk"];obtain⟨_,uR⟩:=K42.Aj dA "write" "Writer.write" (L2.inClass (K42.top 68) 8) ["self","data"];obtain⟨_,gC⟩:=K42.Aj iq "__init__" "Band.__init__" (L2.inClass (K42.top 81) 0) ["self","signs","barred"];obtain⟨_,nC⟩:=K42.Aj iq "check_place" "Band.check_place" (L2.inClass (K42.top 81) 2) ["self","place"];obtain⟨_,oY⟩:=K42.Aj iq "check_live" "Band.check_live" (L2.inClass (K42.top 81) 3) ["self","place"];obtain⟨_,vQ⟩:=K42.Aj iq "places" "Band.places" (L2.inClass (K42.top 81) 5) ["self"];obtain⟨_,Au⟩:=K42.Aj iq "live" "Band.live" (L2.inClass (K42.top 81) 6) ["self"];obtain⟨_,Cw⟩:=K42.Aj iq "led" "Band.led" (L2.inClass (K42.top 81) 8) ["self","place","sign"];obtain⟨_,uS⟩:=K42.Aj iq "longest" "Band.longest" (L2.inClass (K42.top 81) 9) ["self"];have B:=K42.ZQ X G;have xF:=K42.Ff "NoSigns" X G B.2.1;have xG:=K42.Ff "TooMany" X G B.2.1;have Av:=K42.Ff "NoWord" X G B.2.1;have DB:=K42.Ff "NoRow" X G B.2.1;have Aw:=K42.Ff "Barred" X G B.2.1;have xH:=K42.Ff "NoPlace" X G B.2.1;have uT:=K42.Ff "NoNumber" X G B.2.1;have Ax:=K42.Ff "NoRate" X G B.2.1;have qf:=K42.QS "NoSplit" X G B.2.1;have uU:=K42.Ff "NoLength" X G B.2.1;have oZ:=K42.QS "Scarce" X G B.2.1;obtain⟨_,oO,oP,Ib,Ic⟩:=K42.Wt oZ.2.2 "Scarce.__init__" (L2.inClass (K42.top 13) 0) ["self","length","rows"] "__init__";have Cy:=K42.QS "Open" X G B.2.1;have p0:=K42.QS "NoData" X G B.2.1;obtain⟨_,oS,lF,Ie,Ig⟩:=K42.Wt p0.2.2 "NoData.__init__" (L2.inClass (K42.top 15) 0) ["self","number"] "__init__";have Ay:=K42.Ff "NoForm" X G B.2.1;have Az:=K42.Ff "NoBand" X G B.2.1;have uV:=K42.Ff "NoWriter" X G B.2.1;exact K42.Um _ w fa ZT X G {T:=⟨K42.nz X G,K42.nz X G,K42.nz X G,K42.nz X G,K42.nz X G,K42.nz X G,K42.nz X G,K42.nz X G,K42.nz X G,K42.nz X G,K42.nz X G,K42.nz X G,K42.nz X G,K42.nz X G,K42.nz X G,K42.nz X G,K42.nz X G,K42.nz X G⟩,i7:=Cr,nc:=Ct,pO:=F7,dJ:=yy,iL:=vK,fV:=vL,kC:=Ak,ng:=Cu,eU:=uG,jz:=yz,yh:=Kh,jA:=yA,kF:=Al,pP:=F8,ni:=Cv,tY:=HY,i9:=uH,fW:=vM,eV:=uI,cC:=yB,jB:=yC,oq:=Ki,eW:=uJ,cq:=nB,bq:=j7,ic:=uK,fM:=qc,gO:=yD,gP:=yE,kP:=Am,tZ:=HZ,jD:=yF,j4:=F9,gv:=rB,d1:=jJ,eZ:=yG,oF:=Ia,iF:=An,kW:=Ao,pQ:=Fa,ie:=uL,f9:=uM,gw:=rD,iM:=vN,jE:=yH,jF:=yI,jH:=yJ,eJ:=Ap,fX:=vO,lz:=Aq,lA:=Ar,lB:=As,fb:=uN,cM:=fR,gy:=gB,gQ:=yK,fg:=fu,eh:=rE,fh:=uO,vz:=vP,ud:=uP,ue:=uQ,bX:=uR,gz:=gC,bO:=nC,di:=oY,fY:=vQ,cQ:=Au,fN:=Cw,fi:=uS,rT:=oX.g,av:=⟨oX.c,K42.na,K42.na,K42.na⟩,oM:=⟨oX.mi,fR.m.1,fR.m.2,oX.kp⟩,HD:=qe.g,cF:=⟨qe.c,K42.na,K42.na,K42.na,K42.na⟩,Ds:=⟨qe.mi,gB.m.1,gB.m.2,qe.kp⟩,A0:=dA.g,ay:=⟨dA.c,K42.na,K42.na,K42.na,K42.na,K42.na,K42.na,K42.na,K42.na⟩,xo:=⟨dA.mi,fu.m.1,fu.m.2,dA.kp⟩,HE:=iq.g,aJ:=⟨iq.c,K42.na,K42.na,K42.na,K42.na⟩,Dt:=⟨iq.mi,gC.m.1,gC.m.2,iq.kp⟩,iI:=B.1,XT:=B.2.1,XB:=B.2.2,xq:=xF.1,xr:=xF.2,xt:=xG.1,xu:=xG.2,A1:=Av.1,A2:=Av.2,Du:=DB.1,Dv:=DB.2,A3:=Aw.1,A4:=Aw.2,xx:=xH.1,xA:=xH.2,uh:=uT.1,ui:=uT.2,A5:=Ax.1,A6:=Ax.2,fO:=qf.1,fP:=qf.2.1,EW:=qf.2.2,fQ:=by k_is,uk:=uU.1,um:=uU.2,oN:=oZ.1,fj:=oZ.2.1,HF:=oZ.2.2,oO:=oO,oP:=oP,xB:=Ib,xC:=Ic,jX:=K42.na,mF:=K42.na,uo:=Cy.1,pV:=Cy.2.1,Mz:=Cy.2.2,yj:=by k_is,oQ:=p0.1,aR:=p0.2.1,oR:=p0.2.2,oS:=oS,lF:=lF,pW:=Ie,pX:=Ig,et:=K42.na,A7:=Ay.1,A8:=Ay.2,A9:=Az.1,Aa:=Az.2,uv:=uV.1,uw:=uV.2,lG:=⟨_,mg_of X G (by k_is)⟩,lH:=⟨_,mg_of X G (by k_is)⟩,fB:=⟨_,mg_of X G (by k_is)⟩,known:=K42.ZP X G,..}
#print axioms PySem.Challenge.cw_bandscribe_k42_data_refused_holds
