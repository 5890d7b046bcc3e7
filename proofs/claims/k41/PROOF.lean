import PyProof.Rows.All
import KE.KDictOf
import KE.KIsAll
import KE.KFromBytes
import KE.KDictSum
import KE.KEqDict
import KE.LcSums
import KE.KItem
import Lean
import PyProof.EqAt
import PyProof.EqKinds
import PyProof.TupleCall
import PyProof.Rows.SortStr
import PyProof.StrLawsReplace
import PyProof.StrLawsIdx
import PyProof.StrLawsIn
import PyProof.StrBlockI
import PyProof.StrBlockL
import PyProof.SliceList
import PyProof.InstStoreFacts
import PyProof.NsDelKeeps
import PyProof.StationsW
import PyProof.ExcArgs
import PyProof.ExcBaseAll.ValueError
import PyProof.StrCalls
import PyProof.ListRange
import PyProof.EnumMake
import PyProof.Draws
import PyProof.FactsAll.dict
import PyProof.StrBlock2
import PyProof.Rows.SumAny
import PyProof.NeKinds
import PyProof.Rows.MinMaxN
import PyProof.Rows.Range3
import PyProof.StrLawsFirst
import PyProof.AttrMissHeap
import PyProof.Rows.CallKwBuiltin
import KE.KMinKey
import PyProof.FString2
import PySem.Challenge.RW_bandscribe_k41_whole_written_rows_are_go
set_option genInjectivity false
set_option genSizeOfSpec false
open List renaming length_map→Zf,getElem?_eq_getElem→Zg,getElem?_map→Zi,getD_eq_getElem?_getD→Zj,length_append→Zm,getElem?_eq_some_iff→Zn,mem_map→Zq,mem_cons_of_mem→Zt,replicate→Zu,map_map→Zw,mem_cons_self→Zy,mem_of_getElem?→ZA,map_append→ZB,mem_singleton→ZC,length_take→ZG,map_cons→ZK,mem_append→ZL,mem_filter→ZO,size_toArray→ZR,mem_cons→ZT,take_length→ZU,getElem_mem→ZV,getElem?_append_right→ZW,getElem?_append_left→ZX,range→ZY,length_cons→ZZ,all_eq_true→wa4,mem_append_right→wa5,take_add_one→wa7,nodup_cons→wa9,filter_eq_self→wab,map_congr_left→wac,append_nil→waf,length_range→wag,filter_cons_of_pos→wah,filter_cons_of_neg→waj,mem_range→wak,mem_append_left→wan,length_replicate→war,length_filter_le→wat,nodup_nil→wau,filterMap_cons→waw,take_sublist→waz,append_assoc→waA,eq_nil_of_length_eq_zero→waC,filter_append→waE,sum_cons→waK,take_of_length_le→waN,length_drop→waV,not_mem_nil→waW,getElem_of_mem→wb4,flatten_cons→wbq,nodup_append→wbr,replicate_succ→wbv,any_eq_true→wbw,length_set→wbE,length_singleton→wbF,getElem?_eq_none_iff→wbK,getElem?_set_ne→wbL,mem_or_eq_of_mem_set→wbO,any_cons→wbY,map_take→wc0,find?_cons→wc6,mem_replicate→wca,getElem?_set_self→wcc,map→wcd,dropLast_concat_getLast→wch,getElem_inj→wcl,lookup_cons→wcn,mem_iff_getElem→wcq,getElem_toArray→wcs,length→wcu,filter_sublist→wcw,length_pos_iff→wcy,range_succ→wcA,mem_filterMap→wcF,getElem?_take_of_lt→wcG,prefix_append→wcO,length_filterMap_le→wcP,map_id'→wcQ,idxOf_lt_length_iff→wcR,foldl_append→wcY,flatMap_cons→wcZ,drop_eq_nil_of_le→wd3,map_drop→wd5,filter_cons→wd9,mem_flatMap→wdb,take_append_drop→wdd,foldl_cons→wdq,map_nil→wdt,any_map→wdw,filter_map→wdy,count_pos_iff→wdO,all_cons→wdT,reverse_cons→we0,getElem_take→we4,filter_congr→we6,extract_eq_take_drop→we9,all_map→wek,suffix_refl→wem,length_eq_zero_iff→wet,of_mem_zip→weE,length_nil→weF,lookup→weL,drop_of_length_le→weS,range'→weT,drop_zero→wf5,eq_nil_or_concat→wf6,singleton_append→wf7,take_zero→wf8,filterMap_append→wf9,getElem?_eq_none→wfa,idxOf_cons_self→wfl,mem_of_mem_take→wfn,flatMap_append→wfy,map_eq_nil_iff→wfz,pairwise_cons→wfJ,contains_cons→wfM,any_eq_false→wfO,ext_getElem?→wfU,mem_range'_1→wfV,map_dropLast→wfW,drop_sublist→wfX,append_inj'→wgf,take_prefix→wgg,drop_suffix→wgh,range'_succ→wgi,nodup_range→wgj,foldl→wgm,nil_append→wgr,idxOf_cons→wgs,sum_append→wgt
open PySem.W renaming Frag→Zh,findIn→waq,kia_one→waS,emptyDict→wb2,recOk→wbh,xlAt→wbk,instObj→wbl,fnOf→wbn,callWith_K→wbA,keepIn→wbP,boot_heap→wc1,codeIn→wcS,looks_clsIn→wcV,plainGet→wd7,methodCall_KW→wde,hasDictIn→wdn,OpenLaw→wdC,plainGet_of→wdD,lookIn→wdK,looks_findIn→wdL,specialIn→wdR,methodObj→wdY,set_plain→wdZ,isFn→wef,takerIn→weC,cellsFrom_some→weM,plainOver→weY,SharedT→weZ,kdl_values→wfH,kitx_list→wfQ,kitx_dict→wfR,boot_o_0→wg7,handedIn→wg8,kdl_dict→wgc,kdl_call→wgd,WalkO→wgk,makesIn→wgl,KeqHits→wgp,kitOne→wgu
open PySem renaming wpAny_bind→Zk,FuncData→Zv,Program→ZH,wpAny_pure→ZN,boot_len→wa1,mainGlobals→wa2,bootBuiltins→wa8,wpAny_mono→wad,wpAny_loadPart_at→wal,wpAny_holding→waG,compareOp→waI,excClassObj→waJ,wpAny_Call_Name_kw→waL,importedModules→waR,codeAny_builtin→waT,strKind→waX,wpAny_tryCatch→waZ,wpAny_truthy_bool→wb1,wpAny_isSubtype_exc→wb3,OsState→wb5,foldedSetIterable→wbc,swapsWith→wbd,sizeLine_eq→wbe,codeAny_mono→wbf,plainId_quiet→wbi,wpAny_execs_nil→wbm,lookup_relabel_local→wbo,mem_of_lookup→wbu,wpAny_passesOwn→wbD,attributeBase→wbH,wpAny_pyIter_list→wbJ,codeAny_call_builtin→wbN,wpAny_seqItems→wbQ,wpAny_execs_cons→wbS,cLine→wbT,plainObj_wpAny_Assign_Attribute→wbU,wpAny_getItem_str_slice→wbV,behindInMarks→wbX,sysModules→wc2,Scope→wc3,Result→wc4,wpAny_call→wc5,wpAny_updateSeq→wc9,wpAny_letGo→wce,GenState→wcj,wpAny_standAt→wct,Within→wcE,tupleKind_room_in1→wcI,scanBound→wcL,wpAny_Assign_Name→wcU,wpAny_pyIter_enum→wcX,keywordEach→wd1,wpAny_field→wd2,NameKind→wd8,checkBuiltinCall→wda,seqItems?→wdg,codeAny_handlers_test→wdi,assignEach→wdk,letOwnedTupleGo→wdl,call_meets→wdr,post_val_or_str→wdu,wpAny_handleBy_cons→wdH,Builtin→wdI,wpAny_setField→wdM,wpAny_letOwnedTupleGo_enum→wdV,wpAny_newObj_type→we2,typeLookup→we7,Keyword→wec,wpAny_lookBehind→weg,pastItsLine_dict→weh,wpAny_comprehension_free→wej,treeTable→wex,tupleKind→weA,getMethod→weB,codeAny_of_tree→weG,setFlight→weI,subscripted→weN,codeAny_handlers_suite→weW,wpAny_isTrue_Compare1→wf0,wpAny_loadPart→wf1,weight_type_call_type→wf4,wpAny_loadName_local→wfe,PlainAttrs→wff,excMatches→wfk,wpAny_loadName_cell→wfu,wpAt_of_wpAny→wfx,wpAny_nsSet1→wfD,updateSeq→wfK,seqIndex_of→wg2,sliceBounds→wg3,intItems_at→wg5,wpAny_of_eq→wg6,call→wgn,wpAt_bind→wgo
open PySem.Heap renaming get?_push_of_some→Zo,lt_size→Zz,get?_push_size→ZP,get?_update_other→wa3,get?_update_self→waQ,size_push→waY,SameBut→wee,get?_update_ne→wfv
open Nat renaming le_refl→Zr,le_trans→ZE,lt_of_lt_of_le→ZI,ne_of_lt→ZJ,zero_le→wa0,lt_of_le_of_lt→wap,lt_irrefl→wax,lt_succ_self→wb6,sub_self→wbg,add_sub_cancel_left→wbs,le_succ→wbx,ne_of_gt→wby,mul_le_mul→wbR,mul_le_mul_right→wcr,not_lt_zero→wcB,lt_succ_of_lt→wcW,le_of_eq→wdo,mul_le_mul_left→wdG,lt_or_eq_of_le→wdQ,lt_trichotomy→we3,le_of_lt→wed,min_eq_left→weH,le_antisymm→weJ,pow_le_pow_right→wfm,zero_add→wfL,lt_succ_of_le→wfZ,le_of_not_lt→wga
open Option.some renaming inj→Zx
open PySem.Value renaming ref→ZD,none→waO,type→wdj,int→wey,str→wez,bool→wfd,isStrOf→wfo,isStrOf_shape→wft,float→wg0
open Bool renaming false_ne_true→ZF,and_eq_true→wb7,false_eq_true→wb8,false_and→wcg,and_false→wcT,true_and→wd6,eq_iff_iff→wdm,not_true→wfr
open PySem.PassesOwn renaming never→ZM,leaving→wfY
open Sum renaming inr→ZQ,inl→wao
open Int renaming toNat_natCast→ZS,emod_nonneg→wav,emod_lt_of_pos→waF,le_trans→wcf,le_refl→wcv,toNat_of_nonneg→wcz,natCast_add→wcC,natCast_pow→wcD,natCast_mul→wdz,zero_add→wdA,le_of_mul_le_mul_right→wdX,pow_succ→wer,eq_ofNat_of_zero_le→weu,le_ediv_iff_mul_le→weU,add_mul→weV,ediv_nonneg→wgq
open PySem.F renaming plainAttrs_list→wa6,slot_list_append→wae,type_list_append→wai,plain_min_loop→wb0,called_set→wba,plain_max_loop→wbb,excBase_ValueError→wbj,slot_list_index→wbW,slot_dict_values→wcK,entry_min_loop→wd4,entry_max_loop→wdc,called_enumerate→wdP,args_list_index_2→web,entry_list_index→wen,type_dict_values→weq,type_list_index→wev,plainAttrs_dict→wew,plainAttrs_str→weX,slot_str_join→wfb,type_str_join→wfc,entry_type_call→wfg,slot_list_pop→wfG
open False renaming elim→waa
open PySem.W.OpenRow renaming toRowW→wam
open Ne renaming symm→waB
open PySem.W.RowW renaming records→waD
open PySem.W.OpenLaw renaming row→waH
open PySem.Around renaming under_plainId→waM,under→wfE,under_plain→wfI
open True renaming intro→waP
open PySem.Builtin.Str renaming strSliceIndices→waU,occurrences→wes,subAt→wfS
open PySem.Txt renaming slice→wb9,join→wcp,slice_le→wdv,replace→wg4
open PySem.Str renaming ofString→wbp,length→wcm,join→wge,empty→wgx
open Array renaming length_toList→wbt,getElem?_toList→wbG,getD_eq_getD_getElem?→wci,toArray_toList→wco,getElem?_eq_some_iff→wdW,toList_inj→wel,getElem?_eq_none→weQ,toList_extract→wfj
open PyProof.Rows renaming callWith_type1→wbz,envOfC→wcx,kws_cons→wdh,callWith_builtin1→wdp,kws_nil→wdx,int_text_len_1921→wdB,callWith_kw→wep,subscriptTail_builtinR→weO,sortedS→wfi,subscriptTail→wfq
open PyProof.Rows.F renaming plain_set_update_loop→wbB,entry_set_update_loop→wcM
open PySem.Builtin.Builtins renaming bindParams→wbC
open PySem.NameKind renaming free→wbI,cell→wdU
open PySem.Obj renaming mapSeq→wbM,mapFields→wbZ,data_mapFields→wc8,isFreed_of_fields→wdf
open ForInStep renaming yield→wc7
open Sum.inr renaming inj→wcb
open Eq renaming trans→wck
open PySem.Builtin.List renaming listTooLong→wcH
open Or renaming inl→wcJ
open PySem.Code renaming quiet_builtin→wcN,isFrame→wfF
open Prod.mk renaming inj→wd0
open Option renaming map_some→wds,isSome_map→we1,isSome_iff_exists→wei,map_eq_some_iff→weK,getD_some→wgb
open PySem.Calls renaming call_len_list→wdE,Name_function_global→wdS,callWith_builtin→weP,Constant_str→wfC
open PySem.Heap.SameBut renaming update→wdF
open Prod renaming ext→wdJ
open PySem.W.Looks renaming here→wdN
open List.Sublist renaming refl→we5
open PySem.Walks renaming list→we8
open Classical renaming byContradiction→wea
open PySem.SeqAt renaming list_indexAt→weo
open PySem.Within renaming cons→weD
open PySem.StrLaws renaming sliceText_from→weR,sliceText_to→wfh
open PySem.SeqAt.EqAt renaming int_int→wf2,str_str→wf3,int_str→wfA,str_int→wfB
open PySem.Paired renaming length→wfp
open List.cons renaming inj→wfs
open PySem.EntryCells renaming newEntry→wfw
open PySem.Flt renaming mathRow→wfN
open PySem.Heap.Ns1 renaming of_empty→wfP
open List.Pairwise renaming map→wfT
open PySem.Data renaming fields→wg1,cell→wgw
open PySem.P renaming add_list→wg9
open PySem.Builtin.Frozenset renaming updateFrom→wgv
open PySem.Shared renaming TypeIs→wgy
set_option Elab.async false
set_option linter.all false
set_option maxRecDepth 100000
set_option maxHeartbeats 4000000
namespace Tt
open PySem PySem.W PySem.Calls PyProof.Rows
noncomputable def E5(tb:String->Option wdI)(p:ZH)(w:World)(n₀:Nat)(ann:Option Value):Nat->weZ->Thread->Option weZ
 |0,_,_=>none
 |n + 1,s,t=>match through t with
  |true=>some s
  |false=>match stepOk n₀ ann t with
   |false=>none
   |true=>match stepT (denote tb) p w s t with
    |some (s',t')=>E5 tb p w n₀ ann n s' t'
    |none=>none
theorem E6{tb:String->Option wdI}{p:ZH}{w:World}{n₀:Nat}{ann:Option Value}:∀{n:Nat} {s s':weZ} {t:Thread},E5 tb p w n₀ ann n s t=some s'->topRun tb p w n₀ ann n s.abs t=some s'.abs
 |0,_,_,_,h=>by cases h
 |n + 1,s,s',t,h=>by
  unfold E5 at h;unfold topRun
  cases ht:through t with
  |true=>rw[ht]at h;cases h;rfl
  |false=>
   rw[ht]at h
   cases hk:stepOk n₀ ann t with
   |false=>rw[hk]at h;cases h
   |true=>
    rw[hk]at h
    cases hs:stepT (denote tb) p w s t with
    |none=>rw[hs]at h;cases h
    |some r=>obtain⟨s₂,t₂⟩:=r;rw[hs]at h;rw[stepT_spec hs];exact E6 h
noncomputable def sound(p:ZH)(h₀:Heap)(s:weZ):Bool:=staticsOk (waR p.main.body) h₀ s.abs.heap && namesBound p s.abs.heap && gensDone s.abs && laidKept h₀ s.abs.heap
theorem GR{p q:ZH}{loose:List Str}{Xt:Shared->Bool}{α:Type}{Yf:Shared->α}{Ya:World->α}{N n m₀:Nat}{life:Params->Life}{g0:Bool}{H₀:Params->Heap}{T₀:Params->BT}{Oj:Array wcj}{d₀:Drawn}{k₀:Nat}{ann:Option Value}
 (M7:∀w:World,(fencedOpening wex p w N).map (λs=>(s.heap,s.gens,s.drawn,s.toks))=some (H₀ w.params,Oj,d₀,k₀))
 (size:∀P:Params,((H₀ P).isNs wa2 && Oj.size == 0,(H₀ P).objs.size,(H₀ P).nsMap wa2 "__annotations__")=(true,m₀,ann))
 (tree:∀P:Params,absHeap (T₀ P) n (life P)=H₀ P)
 (run:∀(w:World) (os:wb5),∃s,E5 wex p w m₀ ann N ⟨T₀ w.params,n,life w.params,Oj,d₀,k₀,os⟩ (topStub p)=some s/\sound p (H₀ w.params) s=true/\openSeen q loose (waR p.main.body) Xt g0 s.abs=openGood q loose/\Yf s.abs=Ya w):LeftO p q loose Xt Yf Ya N g0:=λw=>by
 obtain⟨⟨h,gs,d,k,os⟩,e,e'⟩:=weK.mp (M7 w);obtain⟨rfl,rfl,rfl,rfl⟩:h=H₀ w.params/\gs=Oj/\d=d₀/\k=k₀:=by simpa using e'
 obtain⟨z1,z2,z3⟩:_/\_/\_:=by simpa only[Prod.mk.injEq] using size w.params
 obtain⟨s,r,l1,l2,l3⟩:=run w os;have r:=E6 r
 have ea:(SharedT.mk (T₀ w.params) n (life w.params) gs d k os).abs=⟨H₀ w.params,gs,d,k,os⟩:=by
  unfold SharedT.abs;rw[tree]
 rw[ea]at r
 have t:topFrom wex p w N ⟨H₀ w.params,gs,d,k,os⟩=some s.abs:=by
  unfold topFrom;dsimp only;rw[z1,z2,z3,r];show (match sound p (H₀ w.params) s with |true=>_ |false=>_)=_;rw[l1]
 unfold openEnds;rw[e];show (topFrom wex p w N _).map _=_;rw[t];exact congrArg some (wdJ l2 l3)
theorem JQ{S A B C:Type}{o:Option S}{f:S->A}{g:S->B}{h:S->C}{a:A}{b:B}{c:C}(x:o.map f=some a)(y:o.map g=some b)(z:o.map h=some c):∃s,o=some s/\f s=a/\g s=b/\h s=c:=by
 cases o with
 |none=>cases x
 |some s=>exact⟨s,rfl,Zx x,Zx y,Zx z⟩
theorem four{S A B C D E F G:Type}{o:Option S}{f:S->A×B×C×D×E×F×G}{a:A×B×C×D×E×F×G}(h1:o.map (λs=>(f s).1)=some a.1)(h2:o.map (λs=>((f s).2.1,(f s).2.2.1))=some (a.2.1,a.2.2.1))(h3:o.map (λs=>((f s).2.2.2.1,(f s).2.2.2.2.1))=some (a.2.2.2.1,a.2.2.2.2.1))(h5:o.map (λs=>(f s).2.2.2.2.2.1)=some a.2.2.2.2.2.1)(h4:o.map (λs=>(f s).2.2.2.2.2.2)=some a.2.2.2.2.2.2):o.map f=some a:=by
 cases o with
 |none=>cases h1
 |some s=>
  have e1:(f s).1=a.1:=Zx h1;have e2:((f s).2.1,(f s).2.2.1)=(a.2.1,a.2.2.1):=Zx h2;have e3:((f s).2.2.2.1,(f s).2.2.2.2.1)=(a.2.2.2.1,a.2.2.2.2.1):=Zx h3;have e5:(f s).2.2.2.2.2.1=a.2.2.2.2.2.1:=Zx h5;have e4:(f s).2.2.2.2.2.2=a.2.2.2.2.2.2:=Zx h4;exact congrArg some (wdJ e1 (wdJ (wd0 e2).1 (wdJ (wd0 e2).2 (wdJ (wd0 e3).1 (wdJ (wd0 e3).2 (wdJ e5 e4))))))
theorem cut(n:Nat){o:Option weZ}{as:List Addr}{v:List (Option Obj)}(h:o.map (λs=>(as.take n).map s.abs.heap.get?)=some (v.take n))(h':o.map (λs=>(as.drop n).map s.abs.heap.get?)=some (v.drop n)):o.map (λs=>as.map s.abs.heap.get?)=some v:=by
 cases o with
 |none=>cases h
 |some s=>
  have h1:(as.take n).map s.abs.heap.get?=v.take n:=Zx h;have h2:(as.drop n).map s.abs.heap.get?=v.drop n:=Zx h';show some (as.map s.abs.heap.get?)=some v;rw[<-wdd n as,ZB,h1,h2,wdd]
end Tt
namespace K41
open PySem PySem.W
noncomputable def tp(i:Nat):Stmt:=PySem.Challenge.pw_bandscribe_k41_whole_written_rows_are_go.main.body.getD i (.Pass ⟨0,0,0,0⟩)
noncomputable def view:ZH:={PySem.Challenge.pw_bandscribe_k41_whole_written_rows_are_go with main:={PySem.Challenge.pw_bandscribe_k41_whole_written_rows_are_go.main with body:=[tp 0,tp 2,tp 3,tp 4,tp 5,tp 6,tp 7,tp 8,tp 9,tp 10,tp 11,tp 13,tp 15,tp 16,tp 17,tp 18,tp 19,tp 21,tp 22,tp 23,tp 24,tp 25,tp 27,tp 28,tp 29,tp 30,tp 31,tp 33,tp 34,tp 35,tp 36,tp 37,tp 38,tp 39,tp 41,tp 42,tp 43,tp 44,tp 45,tp 46,tp 47,tp 48,tp 49,tp 50,tp 51,tp 52,tp 53,tp 54,tp 55,tp 57,tp 58,tp 59,tp 60,tp 61,tp 63,tp 64,tp 65,tp 66,tp 67,tp 68,tp 69,tp 70,tp 71,tp 72,tp 73,tp 74,tp 76,tp 77,tp 78,tp 79,tp 80,tp 81,tp 82,tp 83,tp 84]}}
noncomputable def tree0(P:Params):BT:=(.node (boot_o_0 P) (.node (boot_o_1 P) (.node (boot_o_3 P) (.node (boot_o_7 P) .nil .nil) .nil) (.node (boot_o_5 P) (.node (boot_o_9 P) .nil .nil) .nil)) (.node (boot_o_2 P) (.node (boot_o_4 P) (.node (boot_o_8 P) .nil .nil) .nil) (.node (boot_o_6 P) (.node (boot_o_10 P) .nil .nil) .nil)))
noncomputable def run(w:World)(os:wb5):Option weZ:=(Tt.E5 wex PySem.Challenge.pw_bandscribe_k41_whole_written_rows_are_go w 11 (some (ZD 6)) 8100 ⟨tree0 w.params,11,(wc1 w.params).life,Array.mk [],boot_drawn,boot_toks,os⟩ (topStub PySem.Challenge.pw_bandscribe_k41_whole_written_rows_are_go))
noncomputable def lhsS(w:World)(os:wb5):=(run w os).map (λs=>Tt.sound PySem.Challenge.pw_bandscribe_k41_whole_written_rows_are_go (wc1 w.params) s)
noncomputable def lhsA1(w:World)(os:wb5):=(run w os).map (λs=>(openSeen view [] (waR PySem.Challenge.pw_bandscribe_k41_whole_written_rows_are_go.main.body) (λs=>wbk view [] s && wbh (waD (wam (waH PySem.Challenge.rw_bandscribe_k41_whole_written_rows_are_go))) s) true s.abs).1)
noncomputable def lhsA2(w:World)(os:wb5):=(run w os).map (λs=>((openSeen view [] (waR PySem.Challenge.pw_bandscribe_k41_whole_written_rows_are_go.main.body) (λs=>wbk view [] s && wbh (waD (wam (waH PySem.Challenge.rw_bandscribe_k41_whole_written_rows_are_go))) s) true s.abs).2.1,(openSeen view [] (waR PySem.Challenge.pw_bandscribe_k41_whole_written_rows_are_go.main.body) (λs=>wbk view [] s && wbh (waD (wam (waH PySem.Challenge.rw_bandscribe_k41_whole_written_rows_are_go))) s) true s.abs).2.2.1))
noncomputable def lhsA3(w:World)(os:wb5):=(run w os).map (λs=>((openSeen view [] (waR PySem.Challenge.pw_bandscribe_k41_whole_written_rows_are_go.main.body) (λs=>wbk view [] s && wbh (waD (wam (waH PySem.Challenge.rw_bandscribe_k41_whole_written_rows_are_go))) s) true s.abs).2.2.2.1,(openSeen view [] (waR PySem.Challenge.pw_bandscribe_k41_whole_written_rows_are_go.main.body) (λs=>wbk view [] s && wbh (waD (wam (waH PySem.Challenge.rw_bandscribe_k41_whole_written_rows_are_go))) s) true s.abs).2.2.2.2.1))
noncomputable def lhsA5(w:World)(os:wb5):=(run w os).map (λs=>(openSeen view [] (waR PySem.Challenge.pw_bandscribe_k41_whole_written_rows_are_go.main.body) (λs=>wbk view [] s && wbh (waD (wam (waH PySem.Challenge.rw_bandscribe_k41_whole_written_rows_are_go))) s) true s.abs).2.2.2.2.2.1)
noncomputable def lhsA4(w:World)(os:wb5):=(run w os).map (λs=>(openSeen view [] (waR PySem.Challenge.pw_bandscribe_k41_whole_written_rows_are_go.main.body) (λs=>wbk view [] s && wbh (waD (wam (waH PySem.Challenge.rw_bandscribe_k41_whole_written_rows_are_go))) s) true s.abs).2.2.2.2.2.2)
noncomputable def lhsB(as:List Addr)(w:World)(os:wb5):=(run w os).map (λs=>as.map s.abs.heap.get?)
end K41
noncomputable def PySem.W.Fast.tw14598715356260435866:=wg7
theorem PySem.W.Fast.te14598715356260435866:wg7=PySem.W.Fast.tw14598715356260435866:=rfl
noncomputable def PySem.W.Fast.tw12648059590055323753:=PySem.Challenge.pw_bandscribe_k41_whole_written_rows_are_go
theorem PySem.W.Fast.te12648059590055323753:PySem.Challenge.pw_bandscribe_k41_whole_written_rows_are_go=PySem.W.Fast.tw12648059590055323753:=rfl
noncomputable def PySem.W.Fast.tw13899100880601395773:=wfN
theorem PySem.W.Fast.te13899100880601395773:wfN=PySem.W.Fast.tw13899100880601395773:=rfl
lay_quick K41.lhsS K41.lhsA1 K41.lhsA2 K41.lhsA3 K41.lhsA4 K41.lhsA5 K41.lhsB
section
open PySem PySem.W PyProof.Rows
local macro_rules |`(tactic|o_head $H)=>`(tactic|(refine PySem.W.holds_open (q:=K41.view) (loose:=[]) (Xt:=λs=>PySem.W.xlAt K41.view [] s && PySem.W.recOk (PySem.W.RowW.records (PySem.W.OpenRow.toRowW (PySem.W.OpenLaw.row PySem.Challenge.rw_bandscribe_k41_whole_written_rows_are_go))) s) (XP:=PySem.W.XL K41.view []) (Yf:=PySem.W.Hook.obs $H) (Ya:=PySem.W.Hook.val $H) (YP:=PySem.W.Hook.says $H) (N:=8100) ?hl (PySem.W.Hook.of $H) (PySem.W.Hook.keeps $H) (λs e=>PySem.W.xl_of s (Bool.and_eq_true_iff.mp e).1) PySem.W.XL.keeps (by rfl) (by rfl) (by rfl) (λs e=>PySem.W.recFacts_of (Bool.and_eq_true_iff.mp e).2) (by rfl) (by first |assumption |decide+kernel) (by decide+kernel) ⟨rfl,rfl,rfl,rfl,rfl,by decide+kernel⟩ ?hw ?hc;(case hl=>(intro w;contradiction))))
theorem K41.pre(h:False):(PySem.Challenge.rw_bandscribe_k41_whole_written_rows_are_go).Holds:=by
 w_on;o_law;k_head
 all_goals contradiction
end
namespace K41
open PySem PySem.W
noncomputable def addrs:List Addr:=[2,3,15,17,18,20,21,22,29,30,31,32,35,42,43,44,47,54,56,57,59,60,61,62,63,66,73,75,76,78,79,80,81,82,85,92,94,95,97,98,99,100,101,104,111,112,113,116,123,124,125,128,135,137,138,140,141,142,143,144,147,154,155,156,159,166,168,169,171,172,173,174,175,178,180,181,183,184,185,187,188,190,191,192,194,195,197,198,199,201,202,204,205,206,208,209,211,212,213,216,217,218,221,222,223,225,226,228,229,230,233,234,235,237,238,240,241,242,244,245,247,248,249,252,253,254,257,258,259,261,262,264,265,266,268,269,271,272,273,275,276,278,279,280,283,284,292,295,296,297,298,299,300,301,304,307,308,309,311,312,314,315,316,319,320,321,323,324,326,327,328,331,332,333,335,336,338,339,347,350,351,352,354,355,357,358,359,360,361,362,363,366,368,369,371,372,373,375,376,378,379,380,382,383,385,386,387,390,391,392,395,396,397,400,401,402,404,405,407,408,409,411,412,414,415,416,419,420,421,423,424,426,427,428,430,431,433,434,435,438,439,440,442,443,445,446,447,449,450,452,453,461,464,465,466,468,469,471,472,473,475,476,478,479,480,482,483,485,486,487,489,490,492,493,494,496,497,499,500,501,503,504,506,507,508,511,512,513,515,516,518,519,520,522,523,525,526,527,528,529,530,531,534,537,538,539,541,542,544,545,546,548,549,551,552,553,555,556,558,559,560,563,564,565,567,568,570,571,572,574,575,577,578,579,581,582,584,585,586,589,590,591,594,595,603,605,606,608,609,610,612,613,615,616,617,619,620,622,623,624,626,627,629,630,631,633,634,636,637,638,640,641,643,644,645,647,648,650,651,652,654,655,657,658,659,661,662,664,665,666,669,670,671,672,673,674,675,678,680,681,683,684,685,687,688,690,691,692,695,696,697,699,700,702,703,704,706,707,709,710,711,714,715,721,723,724,726,727,728,731,732]
open PyProof.Rows in
theorem pS(w:World)(os:wb5):lhsS w os=some true:=wck (congrFun (congrFun PySem.W.Fast.te4426869272741374161 w) os) (by kernel_rfl)
open PyProof.Rows in
theorem UK(w:World)(os:wb5):lhsA5 w os=some (plainGoodE view (looseW view [])):=wck (congrFun (congrFun PySem.W.Fast.te11670066415751650420 w) os) (by kernel_rfl)
open PyProof.Rows in
theorem UL(w:World)(os:wb5):lhsA3 w os=some (true,pinGoodD (drecsOf view)):=wck (congrFun (congrFun PySem.W.Fast.te16519940566890562518 w) os) (by kernel_rfl)
open PyProof.Rows in
theorem UM(w:World)(os:wb5):lhsA4 w os=some (plainGoodD view [],wideGood view,clsGoodW view []):=wck (congrFun (congrFun PySem.W.Fast.te11247292253710325779 w) os) (by kernel_rfl)
open PyProof.Rows in
theorem UN(w:World)(os:wb5):lhsA1 w os=some (expectedOf view):=wck (congrFun (congrFun PySem.W.Fast.te17044075042992594632 w) os) (by kernel_rfl)
open PyProof.Rows in
theorem UO(w:World)(os:wb5):lhsA2 w os=some (bltViewBooted,true):=wck (congrFun (congrFun PySem.W.Fast.te2495576925893529492 w) os) (by kernel_rfl)
theorem UP(w:World)(os:wb5):lhsB (K41.addrs.take 160) w os=some (((K41.pre.heap_39 w.params).map λp=>some p.2).take 160):=wck (congrFun (congrFun (congrFun PySem.W.Fast.te5630281398878881458 _) w) os) (by kernel_rfl)
theorem UQ(w:World)(os:wb5):lhsB (K41.addrs.drop 160) w os=some (((K41.pre.heap_39 w.params).map λp=>some p.2).drop 160):=wck (congrFun (congrFun (congrFun PySem.W.Fast.te5630281398878881458 _) w) os) (by kernel_rfl)
theorem op:opening PySem.Challenge.pw_bandscribe_k41_whole_written_rows_are_go=plainProg PySem.Challenge.pw_bandscribe_k41_whole_written_rows_are_go.main.scope.names:=by kernel_rfl
theorem fe(s:Shared):fenceModules? PySem.Challenge.pw_bandscribe_k41_whole_written_rows_are_go s=some s:=by kernel_rfl
theorem tr(P:Params):absHeap (tree0 P) 11 (wc1 P).life=wc1 P:=by kernel_rfl
theorem sz(P:Params):((wc1 P).isNs wa2 && (Array.mk []:Array wcj).size == 0,(wc1 P).objs.size,(wc1 P).nsMap wa2 "__annotations__")=(true,11,(some (ZD 6))):=by kernel_rfl
theorem whole:LeftO PySem.Challenge.pw_bandscribe_k41_whole_written_rows_are_go view [] (λs=>wbk view [] s && wbh (waD (wam (waH PySem.Challenge.rw_bandscribe_k41_whole_written_rows_are_go))) s) (λs=>K41.addrs.map s.heap.get?) (λw=>((K41.pre.heap_39 w.params).map λp=>some p.2)) 8100:=Tt.GR (H₀:=wc1) (T₀:=tree0) (life:=λP=>(wc1 P).life) (boot_open op (by decide+kernel) fe) sz tr λw os=>Tt.JQ (o:=run w os) (f:=λs=>Tt.sound PySem.Challenge.pw_bandscribe_k41_whole_written_rows_are_go (wc1 w.params) s) (g:=λs=>openSeen view [] (waR PySem.Challenge.pw_bandscribe_k41_whole_written_rows_are_go.main.body) (λs=>wbk view [] s && wbh (waD (wam (waH PySem.Challenge.rw_bandscribe_k41_whole_written_rows_are_go))) s) true s.abs) (h:=λs=>K41.addrs.map s.abs.heap.get?) (pS w os) (Tt.four (o:=run w os) (f:=λs=>openSeen view [] (waR PySem.Challenge.pw_bandscribe_k41_whole_written_rows_are_go.main.body) (λs=>wbk view [] s && wbh (waD (wam (waH PySem.Challenge.rw_bandscribe_k41_whole_written_rows_are_go))) s) true s.abs) (a:=openGood view []) (UN w os) (UO w os) (UL w os) (UK w os) (UM w os)) (Tt.cut (o:=run w os) 160 (UP w os) (UQ w os))
end K41
namespace L2
open PySem PySem.Spec PyProof.Rows
noncomputable abbrev Key:=Sum Int Str
noncomputable def vd:Key->Value->Bool
 |.inl k,v=>Value.isInt k v
 |.inr x,v=>wfo x v
noncomputable def Pm(w:World):Key->Int
 |.inl k=>hashInt k
 |.inr x=>hashStr w x
theorem bN:∀{k:Key} {v:Value},vd k v=true->(∃i t,k=wao i/\v=wey i t)\/(∃x t,k=ZQ x/\v=wez x t)
 |.inl i,v,h=>by
  obtain⟨t,e⟩:=Value.isInt_shape (k:=i) (v:=v) h;exact .inl ⟨i,t,rfl,e⟩
 |.inr x,v,h=>by
  obtain⟨t,e⟩:=wft (x:=x) (v:=v) h;exact .inr ⟨x,t,rfl,e⟩
theorem Cp(i:Int)(t:Tok):vd (.inl i) (.int i t)=true:=by simp[vd,Value.isInt]
theorem Cq(x:Str)(t:Tok):vd (.inr x) (.str x t)=true:=by simp[vd,wfo]
theorem JR(a b:Int):decide ((wao a:Key)=wao b)=(a == b):=by
 grind
theorem JS(a b:Str):decide ((ZQ a:Key)=ZQ b)=decide (a=b):=by simp_all [Key,wcb,decide_eq_false]
theorem JT(a:Int)(b:Str):decide ((wao a:Key)=ZQ b)=false:=decide_eq_false (λq=>nomatch q)
theorem JU(a:Str)(b:Int):decide ((ZQ a:Key)=wao b)=false:=decide_eq_false (λq=>nomatch q)
noncomputable def bg(prog:ZH)(w:World):PySem.KeyKind prog w Key where
 is:=vd
 hash:=Pm w
 inj:=λv a b ha hb=>by
  rcases bN ha with⟨i,t,rfl,rfl⟩ |⟨x,t,rfl,rfl⟩
  ·rcases bN hb with⟨j,u,rfl,e⟩ |⟨y,u,rfl,e⟩
   ·injection e with e1 _;rw[e1]
   ·exact nomatch e
  ·rcases bN hb with⟨j,u,rfl,e⟩ |⟨y,u,rfl,e⟩
   ·exact nomatch e
   ·injection e with e1 _;rw[e1]
 byValue:=λk v h=>by
   rcases bN h with⟨i,t,rfl,rfl⟩ |⟨x,t,rfl,rfl⟩ <;> rfl
 pyHash:=λhv h=>by
  rcases bN hv with⟨i,t,rfl,rfl⟩ |⟨x,t,rfl,rfl⟩
  ·exact wpAny_pyHash_int h
  ·exact wpAny_pyHash_str h
 eqBool:=λhu hv h=>by
  rcases bN hu with⟨i,t,rfl,rfl⟩ |⟨x,t,rfl,rfl⟩
  ·rcases bN hv with⟨j,u,rfl,rfl⟩ |⟨y,u,rfl,rfl⟩
   ·rw[JR]at h;exact wpAny_eqBool_int h
   ·rw[JT]at h;exact wfA i t y u _ _ _ _ h
  ·rcases bN hv with⟨j,u,rfl,rfl⟩ |⟨y,u,rfl,rfl⟩
   ·rw[JU]at h;exact wfB x t j u _ _ _ _ h
   ·rw[JS]at h;exact wpAny_eqBool_str h
 «strs»:=λk x t v h=>by
  rcases bN h with⟨i,u,rfl,e⟩ |⟨y,u,rfl,e⟩
  ·exact nomatch e
  ·injection e with e1 _
   subst e1;cases v <;> rfl
theorem y2(prog:ZH)(w:World)(i:Int)(t:Tok):(bg prog w).is (.inl i) (.int i t)=true:=Cp i t
theorem y3(prog:ZH)(w:World)(x:Str)(t:Tok):(bg prog w).is (.inr x) (.str x t)=true:=Cq x t
set_option genInjectivity true in
inductive V where
 |non |bl (b:Bool) |int (i:Int) |str (x:Str) |byt (b:Array UInt8) |flt (b:UInt64) |ref (a:Addr) |ty (n:String)
 deriving DecidableEq
def RelV:V->Value->Prop
 |.non,u=>u=waO
 |.bl b,u=>u=wfd b
 |.int i,u=>∃t,u=wey i t
 |.str x,u=>∃t,u=wez x t
 |.byt b,u=>∃t,u=Value.bytes b t
 |.flt b,u=>∃t,u=wg0 b t
 |.ref a,u=>u=ZD a
 |.ty n,u=>u=wdj n
abbrev Vals:List V->List Value->Prop:=Paired RelV
theorem Vals.length{xs:List V}{us:List Value}(r:Vals xs us):xs.length=us.length:=wfp r
theorem Vals.get:∀{xs:List V} {us:List Value} {i:Nat} {x:V},Vals xs us->xs[i]?=some x->∃u,us[i]?=some u/\RelV x u
 |_,_,_,_,.nil,e=>by simp at e
 |_,_,0,_,.cons r _,e=>by simp at e;subst e;exact⟨_,rfl,r⟩
 |_,_,i + 1,x,.cons _ t,e=>by
  obtain⟨u,a,b⟩:=Vals.get (i:=i) (x:=x) t (by simpa using e);exact⟨u,by simpa using a,b⟩
theorem Vals.set(r:RelV x u):∀{xs:List V} {us:List Value} (i:Nat),Vals xs us->Vals (xs.set i x) (us.set i u)
 |_,_,_,.nil=>.nil
 |_,_,0,.cons _ t=>.cons r t
 |_,_,i + 1,.cons q t=>.cons q (Vals.set r i t)
theorem Vals.append:∀{xs ys:List V} {us ws:List Value},Vals xs us->Vals ys ws->Vals (xs++ys) (us++ws)
 |_,_,_,_,.nil,s=>s
 |_,_,_,_,.cons r t,s=>.cons r (Vals.append t s)
theorem Vals.take:∀{xs:List V} {us:List Value} (n:Nat),Vals xs us->Vals (xs.take n) (us.take n)
 |_,_,0,_=>.nil
 |_,_,_ + 1,.nil=>.nil
 |_,_,n + 1,.cons r t=>.cons r (Vals.take n t)
theorem Vals.drop:∀{xs:List V} {us:List Value} (n:Nat),Vals xs us->Vals (xs.drop n) (us.drop n)
 |_,_,0,r=>r
 |_,_,_ + 1,.nil=>.nil
 |_,_,n + 1,.cons _ t=>Vals.drop n t
theorem Vals.none_of:∀{xs:List V} {us:List Value} {i:Nat},Vals xs us->xs[i]?=none->us[i]?=none:=λ{xs us i} r e=>by
 have a:=r.length;have b:xs.length<=i:=wbK.mp e;exact wbK.mpr (by omega)
def iz:Option V->Option Value->Prop
 |some v,some u=>RelV v u
 |none,none=>True
 |_,_=>False
def KV{κ:Type}:List (κ×V)->List (κ×Value)->Prop:=Paired λ(p:κ×V) (q:κ×Value)=>p.1=q.1/\RelV p.2 q.2
noncomputable def kV:Key->V
 |.inl i=>.int i
 |.inr x=>.str x
set_option genInjectivity true in
inductive HO where
 |lst (xs:List V)
 |tup (xs:List V)
 |dK (kvs:List (Key×V)) |dT (kvs:List (List Key×V))
 |set (S:Int->Bool) (n:Nat)
 |ins (C dx:Addr) (fs:List (Str×V))
 |own (x:Addr)
 |xd (fs:List (Str×V))
 |met (f x:Addr)
 |rng (lo hi:Int)
 |frz (o:Obj) (u:HO)
 |tbl (ps:Array Value)
 |ext (φ:Heap->Prop)
noncomputable abbrev Hp:=Addr->Option HO
noncomputable def upd(H:Hp)(a:Addr)(o:HO):Hp:=λb=>if b=a then some o else H b
theorem a6:upd H a o a=some o:=by unfold upd;rw[if_pos rfl]
theorem ae(h:b≠a):upd H a o b=H b:=by unfold upd;rw[if_neg h]
theorem Bx:upd (upd H a o) a u=upd H a u:=by
 funext b;unfold upd;split <;> rfl
theorem M8{H:Hp}{a b:Addr}{o u:HO}(h:H a=some o)(h':H b=some u)(d:o≠u):a≠b:=by grind [Zx]
theorem af{H:Hp}{a b:Addr}{o:HO}(h:H a=some o)(h':H b=none):a≠b:=by
 grind
section
variable(P:ZH)(w:World)
def bO(H:Hp)(h:Heap)(a:Addr):HO->Prop
 |.lst xs=>xs.length<=sizeLine/\∃(its:List Value) (n:Nat),Vals xs its/\h.get? a=some {cls:=.type "list",data:=.seq its.toArray n}
 |.tup xs=>xs.length<=sizeLine/\∃its:List Value,Vals xs its/\IsTup h a its.toArray
 |.dK kvs=>kvs.length<=sizeLine/\(a == wc2)=false/\∃vs,KV kvs vs/\h.DictOf (bg P w) a vs
 |.dT kvs=>kvs.length<=sizeLine/\(a == wc2)=false/\∃xs:List (List Key×Addr×Value),
   Paired (λ(p:List Key×V) (q:List Key×Addr×Value)=>p.1=q.1/\H q.2.1=some (.tup (p.1.map kV))/\RelV p.2 q.2.2) kvs xs /\
   ∃o es ep,h.get? a=some o/\o.ExactDict/\o.data=.dict es ep/\es.toList=xs.map (entryOfKey (weA (bg P w)))/\(xs.map (·.1)).Nodup
 |.set S n=>h.SetOf (intKind P w) a S n
 |.ins C dx fs=>H dx=some (.own a)/\fs.length<=1000/\dx≠a/\h.get? a=some (wbl C dx) /\
   ∃mA,h.Ns1 dx mA/\(∀f,iz (fs.lookup f) (mA f))/\wcE mA (fs.map (·.1))
 |.own _=>∃o,h.get? a=some o
 |.xd fs=>∃mA,h.Ns1 a mA/\∀f,iz (fs.lookup f) (mA f)
 |.rng lo hi=>∃t u v,h.get? a=some {cls:=.type "range",data:=.fields #[.int lo t,.int hi u,.int 1 v]}
 |.frz o u=>h.get? a=some o/\bO H h a u
 |.tbl ps=>h.get? a=some {cls:=.none,data:=.fields ps}
 |.met f x=>h.get? a=some (wdY (.ref f) (.ref x))
 |.ext φ=>φ h/\(∃o,h.get? a=some o)/\∀h1 h2:Heap,φ h1->(∀o,h1.get? a=some o->h2.get? a=some o)->φ h2
def j4(H:Hp)(h:Heap):Prop:=∀a o,H a=some o->bO P w H h a o
end
section
variable{P:ZH}{w:World}{H H':Hp}{h h':Heap}{a:Addr}{o:HO}
theorem bO.lt(x:bO P w H h a o):a < h.objs.size:=by
 cases o with
 |lst c=>obtain⟨_,_,_,_,e⟩:=x;exact Zz e
 |tup c=>obtain⟨_,_,_,p⟩:=x;exact p.lt
 |dK b=>obtain⟨_,_,_,_,o,_,_,e,_⟩:=x;exact Zz e
 |dT b=>obtain⟨_,_,_,_,o,_,_,e,_⟩:=x;exact Zz e
 |set S n=>obtain⟨o,_,_,_,e,_⟩:=x;exact Zz e
 |ins C d fs=>obtain⟨_,_,_,e,_⟩:=x;exact Zz e
 |own y=>obtain⟨_,e⟩:=x;exact Zz e
 |xd fs=>obtain⟨_,⟨_,_,_,e,_⟩,_⟩:=x;exact Zz e
 |rng lo hi=>obtain⟨_,_,_,e⟩:=x;exact Zz e
 |frz ob u=>obtain⟨e,_⟩:=x;exact Zz e
 |tbl ps=>exact Zz (show h.get? a=some _ from x)
 |met f y=>exact Zz (show h.get? a=some _ from x)
 |ext φ=>obtain⟨_,⟨_,e⟩,_⟩:=x;exact Zz e
theorem Paired.JV{α β:Type}{F G:α->β->Prop}:∀{g:List α} {j:List β},Paired F g j->(∀a b,F a b->G a b)->Paired G g j
 |_,_,.nil,_=>.nil
 |_,_,.cons r t,f=>.cons (f _ _ r) (Paired.JV t f)
theorem bO.rS(x:bO P w H h a o)(k:∀b u,(b=a\/H b=some (.own a))->h.get? b=some u->h'.get? b=some u)
 (I:∀b,H b=some (.own a)->H' b=some (.own a)) (J:∀b xs,H b=some (.tup xs)->H' b=some (.tup xs)):bO P w H' h' a o:=by
 induction o with
 |lst xs=>obtain⟨z,j,n,r,e⟩:=x;exact⟨z,j,n,r,k _ _ (.inl rfl) e⟩
 |tup xs=>obtain⟨z,j,r,ob,e,c⟩:=x;exact⟨z,j,r,ob,k _ _ (.inl rfl) e,c⟩
 |dK l=>obtain⟨z,y,A,r,ob,g,i,e,c⟩:=x;exact⟨z,y,A,r,ob,g,i,k _ _ (.inl rfl) e,c⟩
 |dT l=>
  obtain⟨z,y,xs,r,ob,g,i,e,c⟩:=x;exact⟨z,y,xs,Paired.JV r λp q z=>⟨z.1,J _ _ z.2.1,z.2.2⟩,ob,g,i,k _ _ (.inl rfl) e,c⟩
 |set S n=>obtain⟨ob,g,i,t,e,c⟩:=x;exact⟨ob,g,i,t,k _ _ (.inl rfl) e,c⟩
 |ins C E fs=>
  obtain⟨d,z,ne,e,m,⟨s,g,i,B,c⟩,r⟩:=x;exact⟨I _ d,z,ne,k _ _ (.inl rfl) e,m,⟨s,g,i,k _ _ (.inr d) B,c⟩,r⟩
 |own y=>obtain⟨ob,e⟩:=x;exact⟨ob,k _ _ (.inl rfl) e⟩
 |xd fs=>obtain⟨m,⟨s,g,i,e,c⟩,r⟩:=x;exact⟨m,⟨s,g,i,k _ _ (.inl rfl) e,c⟩,r⟩
 |rng lo hi=>obtain⟨t,u,v,e⟩:=x;exact⟨t,u,v,k _ _ (.inl rfl) e⟩
 |frz ob u D=>obtain⟨e,q⟩:=x;exact⟨k _ _ (.inl rfl) e,D q⟩
 |tbl ps=>
  have e:h.get? a=some {cls:=.none,data:=.fields ps}:=x;show h'.get? a=some {cls:=.none,data:=.fields ps};exact k a _ (.inl rfl) e
 |met f y=>
  have e:h.get? a=some (wdY (.ref f) (.ref y)):=x;show h'.get? a=some (wdY (.ref f) (.ref y));exact k a _ (.inl rfl) e
 |ext φ=>obtain⟨p,⟨o,e⟩,st⟩:=x;exact⟨st _ _ p λo q=>k _ _ (.inl rfl) q,⟨o,k _ _ (.inl rfl) e⟩,st⟩
theorem j4.lt(x:j4 P w H h)(e:H a=some o):a < h.objs.size:=(x a o e).lt
theorem j4.fresh(x:j4 P w H h)(e:h.objs.size<=a):H a=none:=by
 cases q:H a with
 |none=>rfl
 |some u=>exact absurd (ZI (x.lt q) e) (wax _)
theorem j4.kept(x:j4 P w H h)(k:∀b u,h.get? b=some u->h'.get? b=some u):j4 P w H h':=λa o e=>
 (x a o e).rS (λb u _ q=>k b u q) (λ_ q=>q) λ_ _ q=>q
theorem j4.laid(x:j4 P w H h)(k:∀b u,h.get? b=some u->h'.get? b=some u)(g:h.objs.size<=a)(new:bO P w (upd H a o) h' a o):j4 P w (upd H a o) h':=λb u e=>by
 have hn:=x.fresh g
 by_cases d:b=a
 ·grind [a6]
 ·rw[ae d]at e;exact(x b u e).rS (λc v _ q=>k c v q) (λc q=>by rw[ae (af q hn)];exact q) λc f q=>by rw[ae (af q hn)];exact q
end
def Rd(H:Hp)(a:Addr)(u:HO):Prop:=H a=some u\/∃o,H a=some (.frz o u)
theorem Rd.of{H:Hp}{a:Addr}{u:HO}(h:H a=some u):Rd H a u:=.inl h
theorem Rd.ok{P:ZH}{w:World}{H:Hp}{h:Heap}{a:Addr}{u:HO}(r:Rd H a u)(x:j4 P w H h):bO P w H h a u:=by
 rcases r with r |⟨o,r⟩
 ·exact x a u r
 ·obtain⟨_,q⟩:=x a _ r;exact q
def M9:Option HO->Prop
 |some (.lst _)=>True
 |some (.dK _)=>True
 |some (.dT _)=>True
 |some (.set _ _)=>True
 |some (.ins _ _ _)=>True
 |some (.ext _)=>True
 |_=>False
section
variable{P:ZH}{w:World}{H:Hp}{h h':Heap}{x e:Addr}{o':HO}
theorem j4.write(ok:j4 P w H h)(g:M9 (H x))(o:e=x\/H e=some (.own x))(k:∀b u,b≠e->h.get? b=some u->h'.get? b=some u)(l:∃u,h'.get? e=some u)
 (new:bO P w (upd H x o') h' x o'):j4 P w (upd H x o') h':=λb u q=>by
 have d:∀c y,H c=some (.own y)->c≠x:=λc y r z=>by subst z;rw[r]at g;exact g
 have f:∀c i,H c=some (.tup i)->c≠x:=λc i r z=>by subst z;rw[r]at g;exact g
 by_cases j:b=x
 ·subst j;rw[a6]at q;cases q;exact new
 ·rw[ae j]at q
  by_cases a:b=e
  ·have m:H b=some (.own x):=by
    rcases o with z |z
    ·exact absurd (a.trans z) j
    ·rw[a];exact z
   rw[q]at m;cases m;obtain⟨v,n⟩:=l;exact⟨v,by rw[a];exact n⟩
  ·refine(ok b u q).rS (λc v hc r=>k c v ?_ r) (λc r=>by rw[ae (d c b r)];exact r) λc i r=>by rw[ae (f c i r)];exact r
   rcases hc with rfl |hc
   ·exact a
   ·rintro rfl;rcases o with z |z
    ·exact d c b hc z
    ·rw[hc]at z;cases z;exact j rfl
end
structure Un(fs ex:List Addr)(H H':Hp)(h h':Heap):Prop where
 keep:∀b o,h.get? b=some o->H b=none->b∉fs->b∉ex->h'.get? b=some o
 slot:∀b o,h.get? b=some o->H b=none->b∈fs->b∉ex->∃sl,h'.get? b=some {o with slots:=sl}
 free:∀b o,h.get? b=some o->H b=none->b∉ex->H' b=none
 there:∀b o,h.get? b=some o->b∉ex->∃o',h'.get? b=some o'
 m3:∀b xs,H b=some (.tup xs)->H' b=some (.tup xs)
 k9:∀b o u,H b=some (.frz o u)->H' b=some (.frz o u)
 m4:∀b ps,H b=some (.tbl ps)->∃more,H' b=some (.tbl (ps++more))
section
variable{fs Pn ex Sn:List Addr}{H H1 H2:Hp}{h h1 h2 h':Heap}{a x e:Addr}{o:HO}
theorem Un.any(u:Un fs ex H H1 h h1){b:Addr}{ob:Obj}(q:h.get? b=some ob)(n:H b=none)(g:b∉ex):∃sl,h1.get? b=some {ob with slots:=sl}:=by
 by_cases a:b∈fs
 ·exact u.slot b ob q n a g
 ·exact⟨ob.slots,u.keep b ob q n a g⟩
theorem Un.trans(a:Un fs ex H H1 h h1)(b:Un fs ex H1 H2 h1 h2):Un fs ex H H2 h h2 where
 keep:=λc ob q n hc d=>b.keep c ob (a.keep c ob q n hc d) (a.free c ob q n d) hc d
 slot:=λc ob q n hc d=>by
  obtain⟨sl,e⟩:=a.slot c ob q n hc d;obtain⟨g,j⟩:=b.slot c _ e (a.free c ob q n d) hc d;exact⟨g,j⟩
 free:=λc ob q n d=>by
  obtain⟨i,e⟩:=a.there c ob q d;exact b.free c i e (a.free c ob q n d) d
 there:=λc ob q d=>by
  obtain⟨i,e⟩:=a.there c ob q d;exact b.there c i e d
 m3:=λc f q=>b.m3 c f (a.m3 c f q)
 k9:=λc ob f q=>b.k9 c ob f (a.k9 c ob f q)
 m4:=λc ps q=>by
  obtain⟨m1,e⟩:=a.m4 c ps q;obtain⟨k,j⟩:=b.m4 c _ e;exact⟨m1++k,by grind⟩
theorem Un.kept(k:∀b u,h.get? b=some u->h'.get? b=some u):Un fs ex H H h h':=
 ⟨λb ob q _ _ _=>k b ob q,λb ob q _ _ _=>⟨ob.slots,k b ob q⟩,λ_ _ _ n _=>n,λb ob q _=>⟨ob,k b ob q⟩,λ_ _ q=>q,λ_ _ _ q=>q,λ_ ps q=>⟨#[],by rw[q];simp⟩⟩
theorem Un.refl:Un fs ex H H h h:=Un.kept λ_ _ q=>q
theorem Un.laid(k:∀b u,h.get? b=some u->h'.get? b=some u)(g:h.objs.size<=a)(hn:H a=none):Un fs ex H (upd H a o) h h' where
 keep:=λb u q _ _ _=>k b u q
 slot:=λb u q _ _ _=>⟨u.slots,k b u q⟩
 free:=λb u q n _=>by rw[ae (ZJ (ZI (Zz q) g))];exact n
 there:=λb u q _=>⟨u,k b u q⟩
 m3:=λb c q=>by rw[ae (af q hn)];exact q
 k9:=λb u c q=>by rw[ae (af q hn)];exact q
 m4:=λb ps q=>⟨#[],by rw[ae (af q hn),q];simp⟩
theorem Un.write(g:M9 (H x))(l:e=x\/H e=some (.own x))(k:∀b u,b≠e->h.get? b=some u->h'.get? b=some u)(j:∃u,h'.get? e=some u):Un fs ex H (upd H x o) h h':=by
 have f:∀b,H b=none->b≠x:=λb n z=>by subst z;rw[n]at g;exact g
 have d:∀b,H b=none->b≠e:=λb n z=>by
  subst z;rcases l with r |r
  ·grind
  ·grind
 have c:∀b u,H b=some u->¬M9 (some u)->b≠x:=λb u q i z=>by subst z;rw[q]at g;exact i g
 refine⟨λb u q n _ _=>k b u (d b n) q,λb u q n _ _=>⟨u.slots,k b u (d b n) q⟩,λb u q n _=>by rw[ae (f b n)];exact n,λb u q _=>?_,
  λb m q=>by rw[ae (c b _ q λz=>z)];exact q,λb u m q=>by rw[ae (c b _ q λz=>z)];exact q,λb ps q=>⟨#[],by rw[ae (c b _ q λz=>z),q];simp⟩⟩
 by_cases a:b=e
 ·subst a;exact j
 ·exact⟨u,k b u a q⟩
theorem Un.mono(u:Un fs ex H H1 h h1)(hs:∀b∈fs,b∈Pn)(g:∀b∈ex,b∈Sn):Un Pn Sn H H1 h h1:=
 ⟨λb ob q n c a=>u.keep b ob q n (λz=>c (hs b z)) λz=>a (g b z),λ_ _ q n _ a=>u.any q n λz=>a (g _ z),λb ob q n a=>u.free b ob q n λz=>a (g b z),λb ob q a=>u.there b ob q λz=>a (g b z),u.m3,u.k9,u.m4⟩
end
noncomputable def Pp(h:Heap)(H:Hp):List Addr:=(ZY h.objs.size).filter λa=>(H a).isSome
noncomputable def wy(h:Heap)(H:Hp):Heap:=PySem.W.hideAll h (Pp h H)
theorem Cr(h:Heap)(H:Hp):(wy h H).objs.size=h.objs.size:=PySem.W.hideAll_size _ _
theorem E7(e:h.get? b=some o)(n:H b=none):(wy h H).get? b=some o:=
 PySem.W.hideAll_get _ e λa=>by
  have q:(H b).isSome=true:=(ZO.mp a).2;rw[n]at q;simp at q
theorem GU(e:(wy h H).get? b=some o):h.get? b=some o/\H b=none:=by
 have a:h.get? b=some o:=PySem.W.of_hideAll (Pp h H) e;refine⟨a,?_⟩
 cases q:H b with
 |none=>rfl
 |some x=>
  grind [Pp,Zz,wy,PySem.W.hideAll_none]
noncomputable def GV(g h:Heap)(L:Addr):List (Addr×Obj):=(ZY h.objs.size).filterMap λa=>if a=L\/(g.get? a).isSome=true then none else(h.get? a).map λo=>(a,o)
noncomputable def rest(g h:Heap)(L d:Addr):List (Addr×Obj):=(GV g h L).filter λp=>decide (p.1≠d)
structure Mod(K:Zh)(mg:Str->Option Value)(base:Heap):Prop where
 Ja:K.In base
 glob:base.Ns wa2 mg
 blt:∃mb,base.Ns builtinsNs mb/\∀x:Str,x≠"__name__"->mb x=wa8 x
 nolimit:base.NoLimit
structure Cx where
 prog:ZH
 w:World
 K:Zh
 mg:Str->Option Value
 base:Heap
 A:Around
 N:List Str
 s₀:Shared
 H₀:Hp
 env:Env
 outer:List Env
 stack:List Env
 ex:List Addr
 fn:Str->Bool
 calm:Bool
 pn:List (Addr×Obj)
 xe:Value->Shared->Prop
noncomputable def q8(l:List Env):List Addr:=l.filterMap (·.frame)
noncomputable abbrev Cx.fs(X:Cx):List Addr:=q8 X.outer
def Ma(sc:wc3)(x:Str):Prop:=sc.names.lookup x=some .local\/sc.names.lookup x=some .cell\/sc.names.lookup x=some .free
def Loc(sc:wc3)(x:Str):Prop:=sc.names.lookup x=some .local\/sc.names.lookup x=some .cell
def Look(env:Env)(h:Heap)(m:Str->Option Value)(x:Str)(u:Value):Prop:=
 (env.kindOf x=some .local/\m x=some u)\/((env.kindOf x=some .cell\/env.kindOf x=some .free)/\∃c,env.cells.lookup x=some c/\h.IsCell c (some u))
structure Cx.Ok(X:Cx):Prop where
 mod:Mod X.K X.mg X.base
 kind:X.env.scope.kind=.function
 glob:X.env.globals=wa2
 blt:X.env.builtins=builtinsNs
 above:X.s₀.heap.objs.size<=X.env.locals
 inj:∀x y c,X.env.cells.lookup x=some c->X.env.cells.lookup y=some c->x=y
 has:∀x,(X.env.kindOf x=some .cell\/X.env.kindOf x=some .free)->∃c,X.env.cells.lookup x=some c
 JW:∀x c,X.fn x=true->X.env.cells.lookup x=some c->X.s₀.heap.objs.size<=c
 hd:X.calm=true->X.A.handled=none
 frames:X.A.frames=some X.stack
 LA:X.stack=X.outer\/(X.stack=X.env :: X.outer/\X.env.frame=some X.env.locals)
 Ol:∀b∈X.ex,b≠X.env.locals/\∀x c,X.env.cells.lookup x=some c->c≠b
 bs:∀b o,X.base.get? b=some o->X.s₀.heap.get? b=some o/\X.H₀ b=none
 DY:X.base.objs.size<=X.s₀.heap.objs.size
 zK:∀b o,X.base.get? b=some o->b∉X.ex
 Ct:∀b∈X.ex,b∉X.fs
 mP:X.s₀.heap.FunFrames X.base X.outer
 GI:∀b∈X.fs,X.H₀ b=none
structure Inv(X:Cx)(pins:List (Addr×Obj))(σ:List (Option V))(H:Hp)(s:Shared):Prop where
 ok:X.Ok
 os:s.os=X.s₀.os
 bare:AllBare s.gens
 base:Un X.fs X.ex X.H₀ H X.s₀.heap s.heap
 loc:∃m,s.heap.Ns X.env.locals m/\∀(i:Nat) (x:Str) (v:V),X.N[i]?=some x->σ[i]?=some (some v)->Ma X.env.scope x->∃u,RelV v u/\Look X.env s.heap m x u
 cell:∀x c,X.env.cells.lookup x=some c->∃v,s.heap.IsCell c v
 free:H X.env.locals=none
 iH:∀x c,X.env.cells.lookup x=some c->H c=none
 pin:∀p∈X.pn++pins,s.heap.get? p.1=some p.2/\H p.1=none/\p.1≠X.env.locals/\p.1∉X.fs/\∀v,p.2.data≠.cell v
 aZ:j4 X.prog X.w H s.heap
 len:σ.length=X.N.length
section
variable{X:Cx}{pins:List (Addr×Obj)}{σ:List (Option V)}{H H':Hp}{s:Shared}{h':Heap}
theorem Cx.Ok.Pq(ok:X.Ok)(e:X.base.get? b=some o):b∉X.fs:=λa=>by
 have:=(ok.mP.mem a).1;rw[e]at this;cases this
theorem Inv.bs(I:Inv X pins σ H s):∀b o,X.base.get? b=some o->s.heap.get? b=some o/\H b=none:=λb o e=>
 ⟨I.base.keep b o (I.ok.bs b o e).1 (I.ok.bs b o e).2 (I.ok.Pq e) (I.ok.zK b o e),I.base.free b o (I.ok.bs b o e).1 (I.ok.bs b o e).2 (I.ok.zK b o e)⟩
theorem Inv.bk(I:Inv X pins σ H s):∀b o,X.base.get? b=some o->s.heap.get? b=some o:=λb o e=>(I.bs b o e).1
theorem Inv.mod(I:Inv X pins σ H s):Mod X.K X.mg X.base:=I.ok.mod
theorem Inv.gy(I:Inv X pins σ H s):X.K.In s.heap:=I.ok.mod.Ja.keeps I.bk
theorem Inv.nolimit(I:Inv X pins σ H s):s.heap.NoLimit:=I.ok.mod.nolimit.keeps I.bk
theorem Inv.lt(I:Inv X pins σ H s):X.env.locals < s.heap.objs.size:=let ⟨_,hn,_⟩:=I.loc;hn.lt
theorem Inv.sz(I:Inv X pins σ H s):X.s₀.heap.objs.size<=s.heap.objs.size:=ZE I.ok.above (wed I.lt)
theorem Inv.Pt(I:Inv X pins σ H s)(h:s.heap.objs.size<=a):a∉X.fs:=λb=>by
 obtain⟨_,o,c,_⟩:=I.ok.mP.mem b;exact absurd (ZI (Zz c) (ZE I.sz h)) (wax _)
theorem Inv.JX(I:Inv X pins σ H s):∀x c,X.env.cells.lookup x=some c->c≠X.env.locals:=λx c e z=>by
 obtain⟨v,o,d,hd⟩:=I.cell x c e;obtain⟨m,⟨f,g,h,a,b,_⟩,_⟩:=I.loc;rw[z,a]at d;cases d;rw[b]at hd;cases hd
theorem Inv.mP(I:Inv X pins σ H s):s.heap.FunFrames X.base X.outer:=by
 have all:∀(l:List Env),(∀b∈q8 l,b∈X.fs)->X.s₀.heap.FunFrames X.base l->s.heap.FunFrames X.base l:=by
  intro l
  induction l with
  |nil=>intro _ _;trivial
  |cons env r g=>
   intro f hl;obtain⟨h,⟨L,o,a,hn,i,hd⟩,j⟩:=hl;have c:L∈X.fs:=f L (by unfold q8;rw[waw,a];exact Zy);obtain⟨sl,e⟩:=I.base.slot L o i (I.ok.GI L c) c λz=>I.ok.Ct L z c;exact⟨h,⟨L,_,a,hn,e,hd⟩,g (λb d=>f b (by unfold q8;rw[waw,a];exact Zt _ d)) j⟩
 exact all X.outer (λ_ d=>d) I.ok.mP
theorem Inv.stack(I:Inv X pins σ H s):s.heap.FunFrames X.base X.stack:=by
 rcases I.ok.LA with e |⟨e,a⟩
 ·rw[e];exact I.mP
 ·rw[e];obtain⟨m,hn,_⟩:=I.loc;refine .cons (by rw[I.ok.kind];decide) a hn ?_ I.mP;exact Heap.get?_none_of_le (ZE I.ok.DY I.ok.above)
theorem Inv.rT(I:Inv X pins σ H s):∀b∈q8 X.stack,b∈X.env.locals :: X.fs:=λb a=>by
 rcases I.ok.LA with e |⟨e,c⟩
 ·grind
 ·grind [q8]
theorem Inv.rE(I:Inv X pins σ H s):∀b∈q8 X.stack,H b=none:=λb a=>by
 rcases ZT.mp (I.rT b a) with e |a
 ·rw[e];exact I.free
 ·obtain⟨_,o,c,_⟩:=I.ok.mP.mem a;exact I.base.free b o c (I.ok.GI b a) λz=>I.ok.Ct b z a
theorem Inv.step{g':Array wcj}{t':Nat}{d':Drawn}{ch:List Addr}(I:Inv X pins σ H s)
 (g:∀b∈ch,(b∈X.ex\/X.s₀.heap.objs.size<=b)/\b≠X.env.locals/\(∀x c,X.env.cells.lookup x=some c->c≠b)/\∀p∈X.pn++pins,p.1≠b)
 (keep:∀b o,b≠X.env.locals->b∉X.fs->b∉ch->s.heap.get? b=some o->H b=none->h'.get? b=some o)
 (slot:∀b o,b≠X.env.locals->b∈X.fs->b∉ch->s.heap.get? b=some o->H b=none->∃sl,h'.get? b=some {o with slots:=sl}) (free:∀b o,b∉ch->s.heap.get? b=some o->H b=none->H' b=none)
 (there:∀b o,b∉ch->s.heap.get? b=some o->∃C,h'.get? b=some C)
 (m3:∀b xs,H b=some (.tup xs)->H' b=some (.tup xs)) (k9:∀b o u,H b=some (.frz o u)->H' b=some (.frz o u)) (m4:∀b ps,H b=some (.tbl ps)->∃more,H' b=some (.tbl (ps++more)))
 (ns:∀m,s.heap.Ns X.env.locals m->h'.Ns X.env.locals m) (aZ:j4 X.prog X.w H' h') (J:AllBare g') :
 Inv X pins σ H' {s with heap:=h',gens:=g',drawn:=d',toks:=t'}:=by
 have B:∀b o,X.s₀.heap.get? b=some o->b≠X.env.locals:=λb o e=>ZJ (ZI (Zz e) I.ok.above)
 have j:∀b o,X.s₀.heap.get? b=some o->b∉X.ex->b∉ch:=λb o e a y=>by
  rcases(g b y).1 with z |z
  ·exact a z
  ·exact absurd (ZI (Zz e) z) (wax _)
 have f:∀x c,X.env.cells.lookup x=some c->∀v,s.heap.IsCell c v->h'.IsCell c v:=λx c e v ⟨o,A,hd⟩=>by
  have h:c∉ch:=λz=>(g c z).2.2.1 x c e rfl
  by_cases hc:c∈X.fs
  ·obtain⟨sl,q⟩:=slot c o (I.JX x c e) hc h A (I.iH x c e);exact⟨_,q,hd⟩
  ·exact⟨o,keep c o (I.JX x c e) hc h A (I.iH x c e),hd⟩
 refine⟨I.ok,I.os,J,⟨λb o e n y a=>?_,λb o e n y a=>?_,λb o e n a=>?_,λb o e a=>?_,λb xs e=>m3 b xs (I.base.m3 b xs e),λb o xs e=>k9 b o xs (I.base.k9 b o xs e),λb ps e=>?_⟩,?_,λx c e=>?_,?_,λx c e=>?_,λp F=>?_,aZ,I.len⟩
 ·exact keep b o (B b o e) y (j b o e a) (I.base.keep b o e n y a) (I.base.free b o e n a)
 ·obtain⟨sl,t⟩:=I.base.slot b o e n y a;obtain⟨E,D⟩:=slot b _ (B b o e) y (j b o e a) t (I.base.free b o e n a);exact⟨E,D⟩
 ·obtain⟨C,t⟩:=I.base.there b o e a;exact free b C (j b o e a) t (I.base.free b o e n a)
 ·obtain⟨C,t⟩:=I.base.there b o e a;exact there b C (j b o e a) t
 ·obtain⟨m1,t⟩:=I.base.m4 b ps e;obtain⟨K,D⟩:=m4 b _ t;exact⟨m1++K,by rw[D,Array.append_assoc]⟩
 ·obtain⟨m,hn,hl⟩:=I.loc;refine⟨m,ns m hn,λi x v t D L=>?_⟩;obtain⟨u,r,l⟩:=hl i x v t D L;refine⟨u,r,?_⟩;rcases l with l |⟨k,c,e,z⟩
  ·exact .inl l
  ·exact .inr ⟨k,c,e,f x c e _ z⟩
 ·obtain⟨v,z⟩:=I.cell x c e;exact⟨v,f x c e v z⟩
 ·obtain⟨m,⟨o,_,_,A,_⟩,_⟩:=I.loc;exact free _ o (λz=>(g _ z).2.1 rfl) A I.free
 ·obtain⟨v,o,A,hd⟩:=I.cell x c e;exact free c o (λz=>(g c z).2.2.1 x c e rfl) A (I.iH x c e)
 ·obtain⟨e,n,ne,G,d⟩:=I.pin p F;have h:p.1∉ch:=λz=>(g p.1 z).2.2.2 p F rfl;exact⟨keep p.1 p.2 ne G h e n,free p.1 p.2 h e n,ne,G,d⟩
theorem Inv.un{t':Nat}(I:Inv X pins σ H s)(u:Un X.fs [] H H' s.heap h')(aZ:j4 X.prog X.w H' h'):Inv X pins σ H' {s with heap:=h',toks:=t'}:=by
 obtain⟨m,⟨o,k,l,g,r⟩,_⟩:=id I.loc;obtain⟨sl,h⟩:=u.any g I.free (by simp)
 exact I.step (g':=s.gens) (d':=s.drawn) (ch:=[]) (λ_ z=>nomatch z) (λb o _ c _ e n=>u.keep b o e n c (by simp)) (λb o _ c _ e n=>u.slot b o e n c (by simp)) (λb o _ e n=>u.free b o e n (by simp)) (λb o _ e=>u.there b o e (by simp)) u.m3 u.k9 u.m4 (λp i=>by
  obtain⟨q,d,f,a,j⟩:=i;rw[g]at a;cases a
  exact⟨_,d,f,h,j⟩) aZ I.bare
theorem Inv.call{g':Array wcj}{t':Nat}{d':Drawn}{ch:List Addr}(I:Inv X pins σ H s)(u:Un (q8 X.stack) ch H H' s.heap h')(aZ:j4 X.prog X.w H' h')(j:AllBare g')
 (g:∀b∈ch,(b∈X.ex\/X.s₀.heap.objs.size<=b)/\b≠X.env.locals/\(∀x c,X.env.cells.lookup x=some c->c≠b)/\∀p∈X.pn++pins,p.1≠b) :
 Inv X pins σ H' {s with heap:=h',gens:=g',drawn:=d',toks:=t'}:=by
 obtain⟨m,⟨o,t,v,i,r⟩,_⟩:=id I.loc;obtain⟨sl,d⟩:=u.any i I.free λz=>(g _ z).2.1 rfl
 exact I.step (ch:=ch) g (λb o d k hc e n=>u.keep b o e n (λz=>(ZT.mp (I.rT b z)).elim d k) hc) (λb o _ _ hc e n=>u.any e n hc) (λb o hc e n=>u.free b o e n hc) (λb o hc e=>u.there b o e hc) u.m3 u.k9 u.m4 (λy l=>by
  obtain⟨A,f,h,a,q⟩:=l;rw[i]at a;cases a
  exact⟨_,f,h,d,q⟩) aZ j
theorem Inv.turned{t':Nat}{it:Addr}(I:Inv X pins σ H s)(k:∀b o,b≠it->s.heap.get? b=some o->h'.get? b=some o)(hn:H it=none)(g:it≠X.env.locals)
 (j:it∈X.ex\/X.s₀.heap.objs.size<=it) (l:∀x c,X.env.cells.lookup x=some c->c≠it) (C:∀p∈X.pn++pins,p.1≠it):Inv X pins σ H {s with heap:=h',toks:=t'}:=by
 have a:∀b u,H b=some u->b≠it:=λb u e z=>by rw[z,hn]at e;cases e
 refine I.step (g':=s.gens) (d':=s.drawn) (ch:=[it]) (λb d=>?_) (λb o _ _ hc e _=>k b o (λz=>hc (by simp[z])) e) (λb o _ _ hc e _=>⟨o.slots,k b o (λz=>hc (by simp[z])) e⟩) (λ_ _ _ _ n=>n)
  (λb o hc e=>⟨o,k b o (λz=>hc (by simp[z])) e⟩) (λ_ _ e=>e) (λ_ _ _ e=>e) (λb ps e=>⟨#[],by rw[e];simp⟩) (λm f=>?_) (λb u e=>?_) I.bare
 ·have e:b=it:=by simpa using d
  subst e;exact⟨j,g,l,C⟩
 ·obtain⟨o,h,i,t,r⟩:=f;exact⟨o,h,i,k _ o (waB g) t,r⟩
 ·refine(I.aZ b u e).rS (λc v hc q=>k c v ?_ q) (λ_ q=>q) λ_ _ q=>q;rcases hc with z |z
  ·rw[z];exact a b u e
  ·exact a c _ z
theorem Inv.tok(I:Inv X pins σ H s)(t:Nat):Inv X pins σ H {s with toks:=t}:=I.un (h':=s.heap) (t':=t) Un.refl I.aZ
theorem Inv.kept(I:Inv X pins σ H s)(k:∀b u,s.heap.get? b=some u->h'.get? b=some u):Inv X pins σ H {s with heap:=h',toks:=t'}:=I.un (Un.kept k) (I.aZ.kept k)
theorem Inv.laid(I:Inv X pins σ H s)(k:∀b u,s.heap.get? b=some u->h'.get? b=some u)(g:s.heap.objs.size<=a)(new:bO X.prog X.w (upd H a o) h' a o) :
 Inv X pins σ (upd H a o) {s with heap:=h',toks:=t'}:=I.un (Un.laid k g (I.aZ.fresh g)) (I.aZ.laid k g new)
theorem Inv.write(I:Inv X pins σ H s)(j:M9 (H x))(l:e=x\/H e=some (.own x))(k:∀b u,b≠e->s.heap.get? b=some u->h'.get? b=some u)(g:∃u,h'.get? e=some u)
 (new:bO X.prog X.w (upd H x o) h' x o):Inv X pins σ (upd H x o) {s with heap:=h',toks:=t'}:=I.un (Un.write j l k g) (I.aZ.write j l k g new)
theorem Inv.By(I:Inv X pins σ H s)(h:∀p∈g,s.heap.get? p.1=some p.2/\H p.1=none/\p.1≠X.env.locals/\p.1∉X.fs/\∀v,p.2.data≠.cell v):Inv X g σ H s:=
 ⟨I.ok,I.os,I.bare,I.base,I.loc,I.cell,I.free,I.iH,λp a=>(ZL.mp a).elim (λz=>I.pin p (wan _ z)) (h p),I.aZ,I.len⟩
theorem y4{N:List Str}(g:N.Nodup){i j:Nat}{x:Str}(a:N[i]?=some x)(b:N[j]?=some x):i=j:=by
 obtain⟨e,c⟩:=Zn.mp a;obtain⟨f,d⟩:=Zn.mp b;exact(wcl g).mp (c.trans d.symm)
theorem ve{M:Model}{A:Around}{E:Value->Shared->Prop}{i:Nat}{x:Str}{v:V}{u:Value}{Q:Unit->Shared->Prop}(I:Inv X pins σ H s)(hN:X.N.Nodup)(hi:X.N[i]?=some x)(C:Loc X.env.scope x)(r:RelV v u)
 (h:∀s',Inv X pins (σ.set i (some v)) H s'->(∃a,wee a s.heap s'.heap/\(a=X.env.locals\/X.env.cells.lookup x=some a))->Q () s') (hf:X.fn x=true\/X.env.scope.names.lookup x=some .local:=by first |exact .inl rfl |exact .inr rfl |assumption):wpAny M A (storeName X.env x u) Q E s:=by
 obtain⟨m,hn,hl⟩:=id I.loc;have K:(X.env.scope.kind == .class ||(X.env.scope.kind == .module && X.env.locals != X.env.globals))=false:=by rw[I.ok.kind];rfl
 have hiσ:i < σ.length:=by rw[I.len];exact(Zn.mp hi).1
 have JX:=I.JX
 have g:∀{a:Addr} {h':Heap},(∃o,s.heap.get? a=some o/\H a=none)->wee a s.heap h'->j4 X.prog X.w H h':=λ{a h'} ha f b ob e=>by
  obtain⟨_,_,t⟩:=ha;refine(I.aZ b ob e).rS (λc S hc q=>(f.2 c ?_).trans q) (λ_ q=>q) λ_ _ q=>q;rintro rfl;rcases hc with rfl |hc
  ·rw[t]at e;cases e
  ·rw[t]at hc;cases hc
 rcases C with D |D
 ·refine wpAny_storeName_local D hn (λh' U f=>?_) K;obtain⟨oL,_,_,W,_⟩:=id hn;refine h _ ⟨I.ok,I.os,I.bare,⟨λb o e n F C=>?_,λb o e n F C=>?_,I.base.free,λb o e C=>?_,I.base.m3,I.base.k9,I.base.m4⟩,⟨_,U,λj y Y l B Z=>?_⟩,λy c e=>?_,I.free,I.iH,λp hp=>?_,g ⟨oL,W,I.free⟩ f,by simpa using I.len⟩ ⟨_,f,.inl rfl⟩
  ·exact(f.2 b (ZJ (ZI (Zz e) I.ok.above))).trans (I.base.keep b o e n F C)
  ·obtain⟨sl,l⟩:=I.base.slot b o e n F C;exact⟨sl,(f.2 b (ZJ (ZI (Zz e) I.ok.above))).trans l⟩
  ·obtain⟨o',l⟩:=I.base.there b o e C;exact⟨o',(f.2 b (ZJ (ZI (Zz e) I.ok.above))).trans l⟩
  ·by_cases G:j=i
   ·subst G;rw[hi]at l;cases l;rw[wcc hiσ]at B;cases B;exact⟨u,r,.inl ⟨D,by simp⟩⟩
   ·rw[wbL (waB G)]at B;obtain⟨u',r',q⟩:=hl j y Y l B Z;refine⟨u',r',?_⟩;rcases q with⟨k,e⟩ |⟨k,c,e,z⟩
    ·refine .inl ⟨k,?_⟩;have:y≠x:=λe=>G (y4 hN l (e ▸ hi));simp[this,e]
    ·exact .inr ⟨k,c,e,z.sameBut f (JX y c e)⟩
  ·obtain⟨S,z⟩:=I.cell y c e;exact⟨S,z.sameBut f (JX y c e)⟩
  ·obtain⟨e,n,ne,nf,d⟩:=I.pin p hp;exact⟨(f.2 p.1 ne).trans e,n,ne,nf,d⟩
 ·have J:X.fn x=true:=by
   rcases hf with z |z
   ·exact z
   ·rw[z]at D;cases D
  obtain⟨c,hc⟩:=I.ok.has x (.inl D);obtain⟨S,z⟩:=I.cell x c hc;refine wpAny_storeName_cell I.ok.kind D hc z (λh' L f=>?_);obtain⟨oc,O,P⟩:=id z;refine h {s with heap:=h'} ⟨I.ok,I.os,I.bare,⟨λb o e n F C=>?_,λb o e n F C=>?_,I.base.free,λb o e C=>?_,I.base.m3,I.base.k9,I.base.m4⟩,⟨m,hn.sameBut f (waB (JX x c hc)),λj y Y l B Z=>?_⟩,λy T e=>?_,I.free,I.iH,λp hp=>?_,g ⟨oc,O,I.iH x c hc⟩ f,by simpa using I.len⟩ ⟨c,f,.inr hc⟩
  ·exact(f.2 b (ZJ (ZI (Zz e) (I.ok.JW x c J hc)))).trans (I.base.keep b o e n F C)
  ·obtain⟨sl,l⟩:=I.base.slot b o e n F C;exact⟨sl,(f.2 b (ZJ (ZI (Zz e) (I.ok.JW x c J hc)))).trans l⟩
  ·obtain⟨o',l⟩:=I.base.there b o e C;exact⟨o',(f.2 b (ZJ (ZI (Zz e) (I.ok.JW x c J hc)))).trans l⟩
  ·by_cases G:j=i
   ·subst G;rw[hi]at l;cases l;rw[wcc hiσ]at B;cases B;exact⟨u,r,.inr ⟨.inl D,c,hc,L⟩⟩
   ·rw[wbL (waB G)]at B;obtain⟨u',r',q⟩:=hl j y Y l B Z;refine⟨u',r',?_⟩;rcases q with q |⟨k,T,e,z'⟩
    ·exact .inl q
    ·refine .inr ⟨k,T,e,z'.sameBut f ?_⟩;rintro rfl;exact G (y4 hN l (I.ok.inj _ _ _ e hc ▸ hi))
  ·by_cases R:T=c
   ·subst R;exact⟨_,L⟩
   ·obtain⟨w2,z2⟩:=I.cell y T e;exact⟨w2,z2.sameBut f R⟩
  ·obtain⟨e,n,ne,nf,d⟩:=I.pin p hp;refine⟨(f.2 p.1 ?_).trans e,n,ne,nf,d⟩;intro q;rw[q,O]at e;have q':oc=p.2:=Zx e;exact d S (by rw[<-q'];exact P)
theorem iI{E:Value->Shared->Prop}{Q:Unit->Shared->Prop}(I:Inv X pins σ H s)(g:X.N.Nodup)(hi:X.N[i]?=some x)(j:Loc X.env.scope x)(r:RelV v u)
 (h:∀s',Inv X pins (σ.set i (some v)) H s'->Q () s') (l:X.fn x=true\/X.env.scope.names.lookup x=some .local:=by first |exact .inl rfl |exact .inr rfl |assumption):wpAny M A (storeName X.env x u) Q E s:=
 ve I g hi j r (λs' a _=>h s' a) l
theorem Inv.vf(I:Inv X pins σ H s)(j:s'.os=s.os)(u:Un (q8 X.stack) ch H H' s.heap s'.heap)(aZ:j4 X.prog X.w H' s'.heap)(l:AllBare s'.gens)
 (g:∀b∈ch,(b∈X.ex\/X.s₀.heap.objs.size<=b)/\b≠X.env.locals/\(∀x c,X.env.cells.lookup x=some c->c≠b)/\∀p∈X.pn++pins,p.1≠b):Inv X pins σ H' s':=by
 obtain⟨h',g',d',t',a⟩:=s';have e:a=s.os:=j;subst e;exact I.call (g':=g') (t':=t') (d':=d') u aZ l g
end
noncomputable abbrev XK:=Value->Option Addr->Hp->Prop
noncomputable abbrev St:=List (Option V)
noncomputable abbrev VK:=V->Hp->Prop
noncomputable abbrev TE:=St->Hp->VK->Prop
noncomputable abbrev TT:=St->Hp->(Bool->Hp->Prop)->Prop
noncomputable abbrev TA:=St->Hp->(List V->Hp->Prop)->Prop
structure Ends where
 nx:St->Hp->Prop
 rt:VK
 bk:St->Hp->Prop:=λ_ _=>False
 ct:St->Hp->Prop:=λ_ _=>False
noncomputable abbrev TS:=Ends->St->Hp->Prop
def EP(X:Cx)(pins:List (Addr×Obj))(σ:St)(Q:VK)(u:Value)(s':Shared):Prop:=∃v H',Inv X pins σ H' s'/\RelV v u/\Q v H'
def TP(X:Cx)(pins:List (Addr×Obj))(σ:St)(Q:Bool->Hp->Prop)(b:Bool)(s':Shared):Prop:=∃H',Inv X pins σ H' s'/\Q b H'
def AP(X:Cx)(pins:List (Addr×Obj))(σ:St)(Q:List V->Hp->Prop)(us:List Value)(s':Shared):Prop:=∃vs H',Inv X pins σ H' s'/\Vals vs us/\Q vs H'
def SP(X:Cx)(pins:List (Addr×Obj))(D:Ends)(f:Flow)(s':Shared):Prop:=
 match f with
 |.next=>∃σ' H',Inv X pins σ' H' s'/\D.nx σ' H'
 |.brk=>∃σ' H',Inv X pins σ' H' s'/\D.bk σ' H'
 |.cont=>∃σ' H',Inv X pins σ' H' s'/\D.ct σ' H'
 |.ret u=>∃v σ' H',Inv X pins σ' H' s'/\RelV v u/\D.rt v H'
def PE(X:Cx)(e:Expr)(t:TE):Prop:=
 ∀(pins:List (Addr×Obj)) (s:Shared) (σ:St) (H:Hp) (Q:VK),Inv X pins σ H s->t σ H Q->wpAny (model X.prog X.w) X.A (eval e X.env) (EP X pins σ Q) X.xe s
def PT(X:Cx)(e:Expr)(t:TT):Prop:=
 ∀(pins:List (Addr×Obj)) (s:Shared) (σ:St) (H:Hp) (Q:Bool->Hp->Prop),Inv X pins σ H s->t σ H Q->wpAny (model X.prog X.w) X.A (isTrue e X.env (eval e X.env)) (TP X pins σ Q) X.xe s
def PW(X:Cx)(e:Expr)(t:TT):Prop:=
 ∀(whole:Sem Value) (pins:List (Addr×Obj)) (s:Shared) (σ:St) (H:Hp) (Q:Bool->Hp->Prop),Inv X pins σ H s->t σ H Q->wpAny (model X.prog X.w) X.A (isTrue e X.env whole) (TP X pins σ Q) X.xe s
theorem PW.pt{X:Cx}{e:Expr}{t:TT}(h:PW X e t):PT X e t:=h _
def PA(X:Cx)(es:List Expr)(t:TA):Prop:=
 ∀(pos:Pos) (pins:List (Addr×Obj)) (s:Shared) (σ:St) (H:Hp) (Q:List V->Hp->Prop),Inv X pins σ H s->t σ H Q->wpAny (model X.prog X.w) X.A (spliced (backTo pos (starEach es X.env))) (AP X pins σ Q) X.xe s
def PS(X:Cx)(st:Stmt)(t:TS):Prop:=
 ∀(pins:List (Addr×Obj)) (s:Shared) (σ:St) (H:Hp) (D:Ends),Inv X pins σ H s->t D σ H->wpAny (model X.prog X.w) X.A (exec st X.env) (SP X pins D) X.xe s
def uw(X:Cx)(st:List Stmt)(t:TS):Prop:=
 ∀(pins:List (Addr×Obj)) (s:Shared) (σ:St) (H:Hp) (D:Ends),Inv X pins σ H s->t D σ H->wpAny (model X.prog X.w) X.A (execs st X.env) (SP X pins D) X.xe s
theorem bS{α:Type}{t:Sem α}{Q g:α->Shared->Prop}{M:Model}{A:Around}{E:Value->Shared->Prop}{s:Shared}(h:wpAny M A t Q E s)(j:∀a s,Q a s->g a s):wpAny M A t g E s:=wad h j λ_ _ x=>x
section
variable{X:Cx}
inductive GW(i:Nat)(σ:St)(H:Hp)(Q:VK):Prop
 |mk (v) (_:σ[i]?=some (some v)) (_:Q v H)
def tC(v:V):TE:=λ_ H Q=>Q v H
theorem JY(j:X.N[i]?=some x)(o:Ma X.env.scope x)(hd:(x == ("__debug__":Str))=false:=by decide)(g:(x == ("__classdict__":Str))=false:=by decide):PE X (.Name x pos) (GW i):=by
 intro d s σ H Q I h;obtain⟨v,e,h⟩:=h;obtain⟨m,hn,hl⟩:=I.loc;obtain⟨u,r,l⟩:=hl i x v j e o;have fin:EP X d σ Q u s:=⟨v,H,I,r,h⟩;rcases l with⟨b,f⟩ |⟨b,c,hc,a⟩
 ·exact wpAny_Name (wfe I.ok.kind b hn f fin) hd
 ·rcases b with b |b
  ·exact wpAny_Name (wfu I.ok.kind b hc a fin) hd
  ·exact wpAny_Name (wpAny_loadName_free I.ok.kind b hc a fin g) hd
theorem ak{i j pos}:PE X (.Constant (.int i) j pos) (tC (.int i)):=λ_ _ _ H _ I h=>wpAny_Constant_int ⟨.int i,H,I.tok _,⟨_,rfl⟩,h⟩
theorem gO{b j pos}:PE X (.Constant (.bool b) j pos) (tC (.bl b)):=λ_ _ _ H _ I h=>Constant_bool ⟨.bl b,H,I,rfl,h⟩
theorem iA{j pos}:PE X (.Constant .none j pos) (tC .non):=λ_ _ _ H _ I h=>Constant_none ⟨.non,H,I,rfl,h⟩
theorem dZ{x j pos}:PE X (.Constant (.str x) j pos) (tC (.str x)):=λ_ _ _ H _ I h=>wfC ⟨.str x,H,I.tok _,⟨_,rfl⟩,h⟩
def Gl(X:Cx)(x:Str):Prop:=X.env.kindOf x=some .globalImplicit
theorem fM{E:Value->Shared->Prop}{Q:Value->Shared->Prop}(I:Inv X g σ H s)(j:Gl X x)(l:X.mg x=some u)(h:Q u s)
 (hd:(x == ("__debug__":Str))=false:=by decide):wpAny (model X.prog X.w) X.A (eval (.Name x pos) X.env) Q E s:=
 wdS I.ok.kind j (Calls.loadGlobal_global (by rw[I.ok.glob];exact I.mod.glob.keeps I.bk) l h) hd
theorem iB{E:Value->Shared->Prop}{Q:Value->Shared->Prop}(I:Inv X g σ H s)(j:Gl X x)(l:X.mg x=none)(o:wa8 x=some u)(h:Q u s)
 (hn:x≠"__name__":=by decide) (hd:(x == ("__debug__":Str))=false:=by decide):wpAny (model X.prog X.w) X.A (eval (.Name x pos) X.env) Q E s:=by
 obtain⟨c,a,b⟩:=I.mod.blt;exact wdS I.ok.kind j (Calls.loadGlobal_builtin (by rw[I.ok.glob];exact I.mod.glob.keeps I.bk) l (by rw[I.ok.blt];exact a.keeps I.bk) ((b x hn).trans o) h) hd
theorem rF(g:Gl X x)(j:X.mg x=some u)(r:RelV v u)(hd:(x == ("__debug__":Str))=false:=by decide):PE X (.Name x pos) (tC v):=
 λ_ _ _ H _ I h=>fM I g j ⟨v,H,I,r,h⟩ hd
theorem ic(g:Gl X x)(j:X.mg x=none)(l:wa8 x=some u)(r:RelV v u)(hn:x≠"__name__":=by decide)(hd:(x == ("__debug__":Str))=false:=by decide):PE X (.Name x pos) (tC v):=
 λ_ _ _ H _ I h=>iB I g j l ⟨v,H,I,r,h⟩ hn hd
variable{a b:Expr}{ta tb:TE}{pos:Pos}
def PC(X:Cx)(op:CmpOp)(a b:Expr)(t:TE):Prop:=
 ∀(pins:List (Addr×Obj)) (s:Shared) (σ:St) (H:Hp) (Q:VK),Inv X pins σ H s->t σ H Q ->
  wpAny (model X.prog X.w) X.A (eval a X.env) (λv s₁=>wpAny (model X.prog X.w) X.A (eval b X.env) (λu s₂=>wpAny (model X.prog X.w) X.A (waI op v u) (EP X pins σ Q) X.xe s₂) X.xe s₁) X.xe s
theorem E8(b:Expr)(h:op≠.In)(g:op≠.NotIn):wbX op b=false:=by
 have a:(op == CmpOp.In)=false:=by grind
 have c:(op == CmpOp.NotIn)=false:=by grind
 cases b <;> simp[wbX,a,c]
inductive Sq(x:V)(H:Hp)(Q:Bool->Hp->Prop):Prop
 |mk (c) (_:x=.bl c) (_:Q c H)
def tB(t:TE):TT:=λσ H Q=>t σ H λx H1=>Sq x H1 Q
theorem zL{op:CmpOp}{t:TE}(h:PC X op a b t)(g:wbX op b=false:=by first |exact E8 _ (by decide) (by decide) |rfl):PT X (.Compare a [op] [b] pos) (tB t):=by
 intro e s σ H Q I hw;refine wf0 (bS (h e s σ H _ I hw) λv m g=>bS g λu n f=>bS f λc o ⟨x,i,j,k,l⟩=>?_) g;obtain⟨d,rfl,q⟩:=l;cases k;exact wb1 ⟨i,j,q⟩
theorem cz{e:Expr}{t:TE}(h:PE X e t)(g:∀whole,isTrue e X.env whole=(do let v <-whole;standAt e.pos;holding [v] (truthy v)):=by intro _;rfl):PT X e (tB t):=by
 intro a s σ H Q I hw;refine isTrue_plain (bS (h a s σ H _ I hw) λv j ⟨x,b,c,f,i⟩=>?_) (g _);obtain⟨d,rfl,q⟩:=i;cases f;exact wb1 ⟨b,c,q⟩
variable{tA Om:TT}{rest:List Expr}
def Pu(t u:TT):TT:=λσ H Q=>t σ H λc H1=>if c=true then u σ H1 Q else Q false H1
def UR(t u:TT):TT:=λσ H Q=>t σ H λc H1=>if c=true then Q true H1 else u σ H1 Q
def Pw(t:TT):TT:=λσ H Q=>t σ H λc H1=>Q (!c) H1
theorem GX(ha:PT X a tA):PW X (.BoolOp .And [a] pos) tA:=by
 intro d b s σ H Q I h;refine isTrue_and (bS (ha b s σ H Q I h) λc f e=>?_)
 cases c with
 |true=>exact isTrue_and_nil e
 |false=>exact e
theorem j5(ha:PT X a tA):PW X (.BoolOp .Or [a] pos) tA:=by
 intro d b s σ H Q I h;refine isTrue_or (bS (ha b s σ H Q I h) λc f e=>?_)
 cases c with
 |false=>exact isTrue_or_nil e
 |true=>exact e
theorem JZ(ha:PT X a tA)(j:PW X (.BoolOp .And (b :: rest) pos) Om):PW X (.BoolOp .And (a :: b :: rest) pos) (Pu tA Om):=by
 intro i d s σ H Q I h;refine isTrue_and (bS (ha d s σ H _ I h) λc k ⟨e,f,g⟩=>?_)
 cases c with
 |true=>exact j i d k σ e Q f g
 |false=>exact⟨e,f,g⟩
theorem gP(ha:PT X a tA)(j:PW X (.BoolOp .Or (b :: rest) pos) Om):PW X (.BoolOp .Or (a :: b :: rest) pos) (UR tA Om):=by
 intro i d s σ H Q I h;refine isTrue_or (bS (ha d s σ H _ I h) λc k ⟨e,f,g⟩=>?_)
 cases c with
 |true=>exact⟨e,f,g⟩
 |false=>exact j i d k σ e Q f g
theorem dN(ha:PT X a tA):PT X (.UnaryOp .Not a pos) (Pw tA):=by
 intro b s σ H Q I h;exact isTrue_not (ha b s σ H (λc d=>Q (!c) d) I h)
def Mb(ta tb:TE):TE:=λσ H Q=>ta σ H λx H1=>∃c,x=.bl c/\if c=true then tb σ H1 Q else Q (.bl false) H1
def Md(ta:TE):TE:=λσ H Q=>ta σ H λx H1=>∃c,x=.bl c/\Q (.bl (!c)) H1
theorem zM{op}(h:PE X a t):PE X (.BoolOp op [a] pos) t:=λb s σ H Q I hw=>BoolOp_one (h b s σ H Q I hw)
theorem zN(ha:PE X a ta)(j:PE X (.BoolOp .And (b :: rest) pos) tb):PE X (.BoolOp .And (a :: b :: rest) pos) (Mb ta tb):=by
 intro d s σ H Q I h;refine BoolOp_and (bS (ha d s σ H _ I h) λv i ⟨x,f,g,k,e⟩=>?_);obtain⟨c,rfl,e⟩:=e;cases k;refine wb1 ?_
 cases c with
 |true=>exact j d i σ f Q g e
 |false=>exact⟨.bl false,f,g,rfl,e⟩
theorem E9(ha:PE X a ta):PE X (.UnaryOp .Not a pos) (Md ta):=by
 intro b s σ H Q I h;refine UnaryOp_ (bS (ha b s σ H _ I h) λv i ⟨x,e,f,g,d⟩=>?_);obtain⟨c,rfl,d⟩:=d;cases g;exact not_of (wb1 ⟨.bl (!c),e,f,rfl,d⟩)
def UT(t:TT)(ta tb:TE):TE:=λσ H Q=>t σ H λc H1=>if c=true then ta σ H1 Q else tb σ H1 Q
theorem y6{c:Expr}(hc:PT X c tA)(ha:PE X a ta)(l:PE X b tb):PE X (.IfExp c a b pos) (UT tA ta tb):=by
 intro e s σ H Q I h;refine wpAny_IfExp (bS (hc e s σ H _ I h) λd f ⟨g,i,j⟩=>?_)
 cases d with
 |true=>exact ha e f σ g Q i j
 |false=>exact l e f σ g Q i j
end
def aI(K:Zh)(H:Hp)(a:Addr)(xs:List V):Prop:=
 Rd H a (.lst xs) \/
  ∃(o:Obj) (its:Array Value) (n:Nat),K.lookup a=some o/\o.cls=.type "list"/\o.dict=none/\o.data=.seq its n/\its.size<=sizeLine/\Vals xs its.toList
def ia(K:Zh)(H:Hp)(a:Addr)(xs:List V):Prop:=
 Rd H a (.tup xs) \/
  ∃(o:Obj) (its:Array Value) (n:Nat),K.lookup a=some o/\o.cls=.type "tuple"/\o.data=.seq its n/\its.size<=sizeLine/\Vals xs its.toList
noncomputable def Px:Value->Option V
 |.none=>some .non
 |.bool b=>some (.bl b)
 |.int i _=>some (.int i)
 |.str x _=>some (.str x)
 |.bytes b _=>some (.byt b)
 |.float b _=>some (.flt b)
 |.ref a=>some (.ref a)
 |.type n=>some (.ty n)
 |_=>none
theorem RelV.abs{x:V}{u:Value}(r:RelV x u):Px u=some x:=by
 cases x with
 |non=>cases r;rfl
 |bl _=>cases r;rfl
 |int _=>obtain⟨t,rfl⟩:=r;rfl
 |str _=>obtain⟨t,rfl⟩:=r;rfl
 |byt _=>obtain⟨t,rfl⟩:=r;rfl
 |flt _=>obtain⟨t,rfl⟩:=r;rfl
 |ref _=>cases r;rfl
 |ty _=>cases r;rfl
theorem RelV.inj{x y:V}{u:Value}(r:RelV x u)(q:RelV y u):x=y:=Zx (r.abs.symm.trans q.abs)
theorem Vals.inj:∀{xs ys:List V} {us:List Value},Vals xs us->Vals ys us->xs=ys
 |_,_,_,.nil,.nil=>rfl
 |_,_,_,.cons r t,.cons a b=>by rw[r.inj a,Vals.inj t b]
section
variable{X:Cx}{pins:List (Addr×Obj)}{σ:St}{H:Hp}{s:Shared}{a:Addr}{xs ys:List V}
theorem aI.of{K:Zh}(h:H a=some (.lst xs)):aI K H a xs:=.inl (.inl h)
theorem ia.of{K:Zh}(h:H a=some (.tup xs)):ia K H a xs:=.inl (.inl h)
theorem Inv.list(I:Inv X pins σ H s)(h:aI X.K H a xs):∃g:List Value,Vals xs g/\PlainL s.heap a g.toArray/\xs.length<=sizeLine:=by
 rcases h with h |⟨o,g,n,b,hc,hd,c,d,r⟩
 ·obtain⟨z,g,n,r,e⟩:=h.ok I.aZ;exact⟨g,r,⟨_,n,e,rfl,rfl,rfl⟩,z⟩
 ·refine⟨g.toList,r,⟨o,n,I.gy a o b,hc,hd,by simpa using c⟩,?_⟩;have e:=r.length;simp only[wbt]at e;omega
theorem Inv.tuple(I:Inv X pins σ H s)(h:ia X.K H a xs):∃g:List Value,Vals xs g/\IsTup s.heap a g.toArray/\xs.length<=sizeLine:=by
 rcases h with h |⟨o,g,n,b,hc,c,d,r⟩
 ·obtain⟨z,g,r,p⟩:=h.ok I.aZ;exact⟨g,r,p,z⟩
 ·refine⟨g.toList,r,⟨o,I.gy a o b,hc,n,by simpa using c⟩,?_⟩;have e:=r.length;simp only[wbt]at e;omega
theorem Inv.rV(I:Inv X pins σ H s)(h:aI X.K H a xs)(h':aI X.K H a ys):xs=ys:=by
 obtain⟨c,r,⟨o,n,e,_,_,d⟩,_⟩:=I.list h;obtain⟨b,i,⟨j,k,f,_,_,g⟩,_⟩:=I.list h';rw[e]at f;cases f;rw[d]at g;injection g with l _
 have:c=b:=by grind
 subst this;exact r.inj i
end
noncomputable abbrev Cx.m6(X:Cx)(E:Value->Shared->Prop):Cx:={X with xe:=E}
noncomputable abbrev Cx.DZ(X:Cx):Cx:=X.m6 λ_ _=>False
theorem Cx.Ok.m6{X:Cx}(ok:X.Ok)(E:Value->Shared->Prop):(X.m6 E).Ok:=
 ⟨ok.mod,ok.kind,ok.glob,ok.blt,ok.above,ok.inj,ok.has,ok.JW,ok.hd,ok.frames,ok.LA,ok.Ol,ok.bs,ok.DY,ok.zK,ok.Ct,ok.mP,ok.GI⟩
theorem Cx.Ok.ee{X:Cx}{E:Value->Shared->Prop}(ok:(X.m6 E).Ok):X.Ok:=
 ⟨ok.mod,ok.kind,ok.glob,ok.blt,ok.above,ok.inj,ok.has,ok.JW,ok.hd,ok.frames,ok.LA,ok.Ol,ok.bs,ok.DY,ok.zK,ok.Ct,ok.mP,ok.GI⟩
section
variable{X:Cx}{pins:List (Addr×Obj)}{σ:St}{H:Hp}{s:Shared}{E:Value->Shared->Prop}
theorem Inv.m6(I:Inv X pins σ H s)(E:Value->Shared->Prop):Inv (X.m6 E) pins σ H s:=⟨I.ok.m6 E,I.os,I.bare,I.base,I.loc,I.cell,I.free,I.iH,I.pin,I.aZ,I.len⟩
theorem Inv.ee(I:Inv (X.m6 E) pins σ H s):Inv X pins σ H s:=⟨I.ok.ee,I.os,I.bare,I.base,I.loc,I.cell,I.free,I.iH,I.pin,I.aZ,I.len⟩
theorem SP.ee(h:SP (X.m6 E) pins D f s'):SP X pins D f s':=by
 cases f with
 |next=>obtain⟨a,b,I,q⟩:=h;exact⟨a,b,I.ee,q⟩
 |brk=>obtain⟨a,b,I,q⟩:=h;exact⟨a,b,I.ee,q⟩
 |cont=>obtain⟨a,b,I,q⟩:=h;exact⟨a,b,I.ee,q⟩
 |ret u=>obtain⟨v,a,b,I,r,q⟩:=h;exact⟨v,a,b,I.ee,r,q⟩
theorem PE.DZ(h:PE X.DZ e t):PE X e t:=λpins s σ H Q I hw=>
 wad (h pins s σ H Q (I.m6 _) hw) (λ_ _ ⟨v,a,b,r,q⟩=>⟨v,a,b.ee,r,q⟩) λ_ _ z=>waa z
theorem PT.DZ(h:PT X.DZ e t):PT X e t:=λpins s σ H Q I hw=>
 wad (h pins s σ H Q (I.m6 _) hw) (λ_ _ ⟨a,b,q⟩=>⟨a,b.ee,q⟩) λ_ _ z=>waa z
theorem uw.DZ{st:List Stmt}{t:TS}(h:uw X.DZ st t):uw X st t:=λpins s σ H D I hw=>
 wad (h pins s σ H D (I.m6 _) hw) (λ_ _ q=>q.ee) λ_ _ z=>waa z
end
section
variable{X:Cx}{st:Stmt}{rest:List Stmt}{t u:TS}{e:Expr}{te:TE}{pos:Pos}
def Mf:TS:=λD σ H=>D.nx σ H
def K0(t u:TS):TS:=λD σ H=>t {D with nx:=u D} σ H
theorem aR:uw X [] Mf:=λ_ _ σ H _ I h=>wbm ⟨σ,H,I,h⟩
theorem a7(g:PS X st t)(j:uw X rest u):uw X (st :: rest) (K0 t u):=by
 intro a s σ H D I h;refine wbS (bS (g a s σ H {D with nx:=u D} I h) λf c q=>?_)
 cases f with
 |next=>
  obtain⟨b,d,e,q⟩:=q;exact j a c b d D e q
 |ret v=>exact q
 |brk=>exact q
 |cont=>exact q
theorem ag(g:PS X st t):uw X [st] t:=by
 intro a s σ H D I h;refine wbS (bS (g a s σ H D I h) λf b q=>?_)
 cases f with
 |next=>exact wbm q
 |ret v=>exact q
 |brk=>exact q
 |cont=>exact q
theorem Inv.quiet(I:Inv X g σ H s):interactive X.env=false:=by simp[interactive,I.ok.kind]
def Mg(te:TE):TS:=λD σ H=>te σ H λ_ H1=>D.nx σ H1
theorem bp(g:PE X e te)(hs:wbd e none pos.line X.env=pure false:=by rfl):PS X (.Expr e pos) (Mg te):=by
 intro a s σ H D I h;exact wpAny_Expr_any (bS (g a s σ H _ I h) λv f ⟨x,b,c,i,d⟩=>⟨σ,b,c,d⟩) I.quiet hs
def Py(te:TE):TS:=λD σ H=>te σ H D.rt
theorem az(g:PE X e te):PS X (.Return (some e) pos) (Py te):=by
 intro a s σ H D I h;exact wpAny_Return_some (bS (g a s σ H _ I h) λv i ⟨x,b,c,d,f⟩=>⟨x,σ,b,c,d,f⟩)
def Pz(c:TT)(t u:TS):TS:=λD σ H=>c σ H λb H1=>if b=true then t D σ H1 else u D σ H1
theorem bP{c:Expr}{a b:List Stmt}{g:TT}(hc:PT X c g)(ha:uw X a t)(l:uw X b u):PS X (.If c a b pos) (Pz g t u):=by
 intro e s σ H D I h;refine wpAny_If (bS (hc e s σ H _ I h) λd f ⟨i,j,k⟩=>?_)
 cases d with
 |true=>exact ha e f σ i D j k
 |false=>exact l e f σ i D j k
def K1:TS:=λ_ _ _=>False
theorem eu:uw X g K1:=λ_ _ _ _ _ _ h=>h.elim
end
noncomputable abbrev TG:=V->St->Hp->(St->Hp->Prop)->Prop
noncomputable abbrev Oo:=List V->St->Hp->(St->Hp->Prop)->Prop
def PG(X:Cx)(target:Expr)(t:TG):Prop:=
 ∀(pins:List (Addr×Obj)) (s:Shared) (σ:St) (H:Hp) (v:V) (u:Value) (Q:St->Hp->Prop),Inv X pins σ H s->RelV v u->t v σ H Q ->
  wpAny (model X.prog X.w) X.A (assign target X.env u) (λ_ s'=>∃σ' H',Inv X pins σ' H' s'/\Q σ' H') X.xe s
def Oq(X:Cx)(ts:List Expr)(t:Oo):Prop:=
 ∀(pins:List (Addr×Obj)) (s:Shared) (σ:St) (H:Hp) (vs:List V) (us:List Value) (Q:St->Hp->Prop),Inv X pins σ H s->Vals vs us->t vs σ H Q ->
  wpAny (model X.prog X.w) X.A (assignInOrder ((wdk ts X.env).map (·.2)) us) (λ_ s'=>∃σ' H',Inv X pins σ' H' s'/\Q σ' H') X.xe s
noncomputable abbrev K2:=V->V->V->Hp->(Hp->Prop)->Prop
def Mh(X:Cx)(t:K2):Prop:=
 ∀(pins:List (Addr×Obj)) (s:Shared) (σ:St) (H:Hp) (o i v:V) (ov iv u:Value) (Q:Hp->Prop),Inv X pins σ H s->RelV o ov->RelV i iv->RelV v u->t o i v H Q ->
  wpAny (model X.prog X.w) X.A (setItem ov iv u) (λ_ s'=>∃H',Inv X pins σ H' s'/\Q H') X.xe s
noncomputable abbrev Mi:=V->V->Hp->VK->Prop
def Ot(X:Cx)(op:Operator)(t:Mi):Prop:=
 ∀(pins:List (Addr×Obj)) (s:Shared) (σ:St) (H:Hp) (x y:V) (v u:Value) (Q:VK),Inv X pins σ H s->RelV x v->RelV y u->t x y H Q ->
  wpAny (model X.prog X.w) X.A (inplaceOp op v u) (EP X pins σ Q) X.xe s
section
variable{X:Cx}{pos:Pos}
def eK(i:Nat):TG:=λv σ H Q=>Q (σ.set i (some v)) H
theorem j6(g:X.N.Nodup)(hi:X.N[i]?=some x)(j:Loc X.env.scope x)(l:X.fn x=true\/X.env.scope.names.lookup x=some .local:=by first |exact .inl rfl |exact .inr rfl |assumption):PG X (.Name x pos) (eK i):=by
 intro a s σ H v u Q I r h;exact wpAny_assign_Name (iI I g hi j r (λc b=>⟨_,H,b,h⟩) l)
inductive Ea(vs:List V)(σ:St)(H:Hp)(Q:St->Hp->Prop):Prop
 |mk (_:vs=[]) (_:Q σ H)
inductive kc(t:TG)(u:Oo)(vs:List V)(σ:St)(H:Hp)(Q:St->Hp->Prop):Prop
 |mk (v r) (_:vs=v :: r) (_:t v σ H λσ' H'=>u r σ' H' Q)
theorem d5:Oq X [] Ea:=by
 intro a s σ H b c Q I r h;obtain⟨e,h⟩:=h;subst e;cases r;exact assignInOrder_nil ⟨σ,H,I,h⟩
theorem aS{e:Expr}{g:List Expr}{t:TG}{u:Oo}(j:PG X e t)(l:Oq X g u)
 (hs:(wdk (e :: g) X.env).map (·.2)=assign e X.env :: (wdk g X.env).map (·.2):=by rfl):Oq X (e :: g) (kc t u):=by
 intro a s σ H n o Q I r h;obtain⟨v,p,c,h⟩:=h;subst c
 cases r with
 |cons r d=>
  rw[hs];refine assignInOrder_cons (bS (j a s σ H _ _ _ I r h) λ_ f ⟨b,i,k,m⟩=>?_);exact l a f b i _ _ Q k d m
inductive Eb(K:Zh)(n:Nat)(t:Oo)(v:V)(σ:St)(H:Hp)(Q:St->Hp->Prop):Prop
 |mk (a xs) (_:v=.ref a) (_:ia K H a xs) (_:xs.length=n) (_:t xs σ H Q)
theorem eL(hc:X.calm=true)(h:Oq X g t)
 (hn:(wdk g X.env).length=n:=by rfl) (j:(wdk g X.env).findIdx? (·.1)=none:=by rfl):PG X (.Tuple g k pos) (Eb X.K n t):=by
 intro c s σ H v u Q I r hw;obtain⟨a,f,i,l,hl,hw⟩:=hw;subst i;cases r;obtain⟨m,d,p,y⟩:=I.tuple l;refine assign_Tuple_tuple (I.ok.hd hc) p (by simp[hn,<-hl,d.length]) j λq w=>?_;have x:Inv X c σ H {s with heap:=q}:=I.kept (t':=s.toks) λb o e=>w b o (ZJ (Zz e)) e;exact h c _ σ H f _ Q x (by simpa using d) hw
def PB(to ti:TE)(t:K2):TG:=λv σ H Q=>to σ H λo H1=>ti σ H1 λi H2=>t o i v H2 λH3=>Q σ H3
theorem Ec{o i:Expr}{l p:TE}{t:K2}(C:PE X o l)(hi:PE X i p)(hs:Mh X t)
 (ha:∀v,assign (.Subscript o i pos) X.env v=(do
   let g <-holding [v] (eval o X.env)
   let j <-holding [v,g] (eval i X.env)
   standAt pos
   holding [v,g,j] (setItem g j v)
   release [v,g,j] []):=by intro _;rfl):PG X (.Subscript o i pos) (PB l p t):=by
 intro a s σ H v u Q I r h;rw[ha];refine Zk (waG (bS (C a s σ H _ I h) λg b ⟨x,c,d,e,f⟩=>?_));refine Zk (waG (bS (hi a b σ c _ d f) λj k ⟨y,m,n,q,w⟩=>?_));refine Zk (wct (Zk (waG (bS (hs a k σ m x y v g j u _ n e q r w) λ_ D ⟨z,A,B⟩=>?_))));exact wpAny_release ⟨σ,z,A,B⟩
def GY(te:TE)(g:TG):TS:=λD σ H=>te σ H λx H1=>g x σ H1 D.nx
theorem p8{j e:Expr}{l:TE}{g:TG}(o:PE X e l)(p:PG X j g)(hs:swapsWithSole [j] e pos.line X.env=pure false:=by rfl)(hw:swappedStores [j] e X.env=pure none:=by rfl)
 (r:(wdk [j] X.env).map (·.2)=[assign j X.env]:=by rfl):PS X (.Assign [j] e pos) (GY l g):=by
 intro a s σ H D I h;refine wpAny_Assign_stores (bS (o a s σ H _ I h) λv b ⟨x,c,d,f,i⟩=>?_) hs hw;rw[r];exact bS (p a b σ c x v _ d f i) λ_ k q=>q
theorem Ed{i:Nat}{x:Str}{e:Expr}{j:TE}{g:Pos}(l:X.N.Nodup)(hi:X.N[i]?=some x)(o:Loc X.env.scope x)(p:PE X e j)(hs:wbd e (some (.Name x g)) pos.line X.env=pure false:=by rfl)(r:X.fn x=true\/X.env.scope.names.lookup x=some .local:=by first |exact .inl rfl |exact .inr rfl |assumption) :
 PS X (.Assign [.Name x g] e pos) (GY j (eK i)):=by
 intro a s σ H D I h;refine wcU (bS (p a s σ H _ I h) λv m ⟨y,b,c,d,f⟩=>?_) hs;exact iI c l hi o d (λn k=>⟨_,b,k,f⟩) r
inductive PD(i:Nat)(te:TE)(ti:Mi)(D:Ends)(σ:St)(H:Hp):Prop
 |mk (x) (_:σ[i]?=some (some x)) (_:te σ H λy H1=>ti x y H1 λz H2=>D.nx (σ.set i (some z)) H2)
theorem rW{i:Nat}{x:Str}{e:Expr}{p:TE}{op:Operator}{C:Mi}{g:Pos}(J:X.N.Nodup)(hi:X.N[i]?=some x)(o:Loc X.env.scope x)(T:PE X e p)(U:Ot X op C)(hf:X.fn x=true\/X.env.scope.names.lookup x=some .local:=by first |exact .inl rfl |exact .inr rfl |assumption) :
 PS X (.AugAssign (.Name x g) op e pos) (PD i p C):=by
 intro a s σ H D I h;obtain⟨v,q,h⟩:=h;obtain⟨m,hn,hl⟩:=I.loc;have n:Ma X.env.scope x:=by rcases o with k |k;exact .inl k;exact .inr (.inl k)
 obtain⟨u,r,l⟩:=hl i x v hi q n;refine wpAny_AugAssign_Name ?_
 have go:wpAny (model X.prog X.w) X.A (eval e X.env) (λw f=>wpAny (model X.prog X.w) X.A (inplaceOp op u w) (λr j=>wpAny (model X.prog X.w) X.A (storeName X.env x r) (λ_=>SP X a D .next) X.xe j) X.xe f) X.xe s:=by
  refine bS (T a s σ H _ I h) λw t ⟨y,B,E,F,G⟩=>?_;refine bS (U a t σ B v y u w _ E r F G) λz R ⟨S,K,L,M,O⟩=>?_;exact iI L J hi o M (λV P=>⟨_,K,P,O⟩) hf
 rcases l with⟨b,Q⟩ |⟨b,c,hc,d⟩
 ·exact wfe I.ok.kind b hn Q go
 ·rcases b with b |b
  ·exact wfu I.ok.kind b hc d go
  ·rcases o with k |k
   ·have:X.env.scope.names.lookup x=some .free:=b;rw[k]at this;cases this
   ·have:X.env.scope.names.lookup x=some .free:=b;rw[k]at this;cases this
noncomputable def UU(f:Int->Int->Int):Mi:=λx y H Q=>∃i j,x=.int i/\y=.int j/\Q (.int (f i j)) H
theorem Ee:Ot X .Add (UU λi j=>i + j):=by
 intro a s σ H x y v u Q I b c h;obtain⟨i,j,d,e,q⟩:=h;subst d;subst e;obtain⟨t,rfl⟩:=b;obtain⟨f,rfl⟩:=c;exact iadd_int ⟨.int _,H,I.tok _,⟨_,rfl⟩,q⟩
end
section
variable{X:Cx}{pos:Pos}
def K3(c:TT)(tb:TS):TS:=λD σ H=>∃W:Nat->St->Hp->Prop,(∃m,W m σ H)/\∀m σ H,W m σ H ->
 c σ H λb H1=>if b=true then ∃N:St->Hp->Prop,(∀σ' H',N σ' H'->∃m',m' < m/\W m' σ' H')/\tb {D with nx:=N,ct:=N,bk:=D.nx} σ H1 else D.nx σ H1
theorem iJ{c:Expr}{body:List Stmt}{C:TT}{J:TS}(T:PassesOwn (model X.prog X.w) X.A X.env X.xe)(hc:PT X c C)(U:uw X body J):PS X (.While c body [] pos) (K3 C J):=by
 intro a s σ H D I h;obtain⟨W,⟨B,E⟩,g⟩:=h;refine wpAny_While (codeAny_whileLoop (λn F=>∃i t,Inv X a i t F/\W n i t) ?_ B ⟨σ,H,I,E⟩);rintro n G ⟨e,u,K,L⟩;refine wbD T (bS (hc a G e u _ K (g n e u L)) λb M ⟨x,y,k⟩=>?_)
 cases b with
 |true=>
  obtain⟨N,z,k⟩:=k;rw[if_pos rfl];refine wbD T (bS (U a M e x _ y k) λf O l=>?_)
  cases f with
  |next=>
   obtain⟨d,j,m,o⟩:=l;obtain⟨p,q,r⟩:=z d j o;exact⟨p,q,d,j,m,r⟩
  |cont=>
   obtain⟨d,j,m,o⟩:=l;obtain⟨p,q,r⟩:=z d j o;exact⟨p,q,d,j,m,r⟩
  |brk=>exact l
  |ret v=>exact l
 |false=>
  rw[if_neg ZF];exact wbm ⟨e,x,y,k⟩
end
structure It where
 go:Nat->Hp->Prop
 ur:Nat->Hp->V->Hp->Prop
 stop:Nat->Hp->Prop
def ux(X:Cx)(pins:List (Addr×Obj))(H:Hp)(b:Addr):Prop:=
 H b=none/\b≠X.env.locals/\b∉X.fs/\(b∈X.ex\/X.s₀.heap.objs.size<=b)/\(∀x c,X.env.cells.lookup x=some c->c≠b)/\∀p∈X.pn++pins,p.1≠b
theorem Inv.Cu{X:Cx}(I:Inv X g σ H s)(j:s.heap.objs.size<=b)(hn:l b=none):ux X g l b:=by
 refine⟨hn,wby (ZI I.lt j),I.Pt j,.inr (ZE I.sz j),λx c e z=>?_,λp a z=>?_⟩
 ·obtain⟨v,q⟩:=I.cell x c e;exact absurd (ZI q.lt (by rw[z];exact j)) (wax _)
 ·exact absurd (ZI (Zz (I.pin p a).1) (by rw[z];exact j)) (wax _)
structure Turn(P:ZH)(w:World)(K:Zh)(tg:Expr)(J:It)(fp:List Addr)(it:Addr)(tn:Nat->Heap->Prop):Prop where
 mem:it∈fp
 obj:∀i h,tn i h->∀b∈fp,∃o,h.get? b=some o/\∀v,o.data≠.cell v
 keep:∀i h h',tn i h->(∀b∈fp,∀o,h.get? b=some o->h'.get? b=some o)->tn i h'
 item:∀(X:Cx),X.prog=P->X.w=w->X.K=K->X.calm=true->∀(i:Nat) (pins:List (Addr×Obj)) (s:Shared) (σ:St) (H:Hp) (E:Value->Shared->Prop),Inv X pins σ H s->(∀b∈fp,ux X pins H b)->tn i s.heap->J.go i H ->
  wpAny (model P w) X.A (pyNext (.ref it)) (λr s1=>∃u,r=some u /\
   wpAny (model P w) X.A (wdl tg (.ref it) u) (λ_ s2=>∃x H',Inv X pins σ H' s2/\RelV x u/\J.ur i H x H'/\tn (i + 1) s2.heap/\∀b∈fp,H' b=none) E s1) E s
 done:∀(X:Cx),X.prog=P->X.w=w->X.K=K->X.calm=true->∀(i:Nat) (pins:List (Addr×Obj)) (s:Shared) (σ:St) (H:Hp) (E:Value->Shared->Prop),Inv X pins σ H s->(∀b∈fp,ux X pins H b)->tn i s.heap->J.stop i H ->
   wpAny (model P w) X.A (pyNext (.ref it)) (λr s1=>r=none/\Inv X pins σ H s1) E s
 self:∀(A:Around) (i:Nat) (s:Shared) (Q:Value->Shared->Prop) (E:Value->Shared->Prop),tn i s.heap->Q (.ref it) s->wpAny (model P w) A (pyIter (.ref it)) Q E s
noncomputable abbrev TI:=St->Hp->(It->Hp->Prop)->Prop
def Ou(X:Cx)(pins:List (Addr×Obj))(σ:St)(tg:Expr)(R:It->Hp->Prop)(Sr:Value)(s2:Shared):Prop:=
 ∃(it:Addr) (fp:List Addr) (tn:Nat->Heap->Prop) (J:It) (H':Hp),Sr=.ref it/\Inv X pins σ H' s2/\Turn X.prog X.w X.K tg J fp it tn/\tn 0 s2.heap/\(∀b∈fp,ux X pins H' b)/\R J H'
def PI(X:Cx)(tg iter:Expr)(wi:TI):Prop:=
 ∀(pins:List (Addr×Obj)) (s:Shared) (σ:St) (H:Hp) (R:It->Hp->Prop),Inv X pins σ H s->wi σ H R ->
  wpAny (model X.prog X.w) X.A (eval iter X.env) (λv s1=>wpAny (model X.prog X.w) X.A (pyIter v) (Ou X pins σ tg R) X.xe s1) X.xe s
theorem Bz{E:Value->Shared->Prop}{Q:Unit->Shared->Prop}(j:s.heap.get? it=some o)(hc:o.cls=.type n)(hd:o.data=.fields vs)
 (hn:["enumerate","zip","dict_itemiterator","dict_reverseitemiterator","odict_iterator","itertools.zip_longest","itertools.pairwise"].contains n=false) (g:Q () s):wpAny M A (wdl l (.ref it) u) Q E s:=by
 unfold wdl
 cases l <;> first
  |exact ZN g
  |(cases u <;> first
     |exact ZN g
     |(refine Zk (wpAny_load j ?_)
       rw[hc,hd];show wpAny M A (if (["enumerate","zip","dict_itemiterator","dict_reverseitemiterator","odict_iterator","itertools.zip_longest","itertools.pairwise"].contains n && vs[0]? == some (rawInt _))=true then _ else _) Q E s;rw[if_neg (by grind)]
       exact ZN g))
noncomputable def LC(K:Zh)(a:Addr):It:=
 ⟨λi H=>∃xs x,aI K H a xs/\xs[i]?=some x,λi H x H'=>H'=H/\∀xs,aI K H a xs->xs[i]?=some x,λi H=>∃xs,aI K H a xs/\xs.length<=i⟩
noncomputable def Jb(lo:Int)(n:Nat):It:=⟨λi _=>i < n,λi H x H'=>H'=H/\x=.int (lo + i),λi _=>n<=i⟩
theorem Cv{P:ZH}{w:World}{K:Zh}{J:Expr}(a it:Addr):Turn P w K J (LC K a) [it] it (λi h=>h.IsListIter it a i) where
 mem:=by simp
 obj:=λi h st b g=>by
  have e:b=it:=by simpa using g
  subst e;obtain⟨o,e,c,d⟩:=st;exact⟨o,e,λv z=>by rw[d]at z;cases z⟩
 keep:=λi h l st k=>st.at λo e=>k it (by simp) o e
 item:=by
  intro X q hw r hc i f s σ H E I m st t;subst q hw r;obtain⟨L,x,n,y⟩:=t;obtain⟨A,B,p,M⟩:=I.list n;obtain⟨u,N,O⟩:=B.get y;obtain⟨C,f1,f2,D,F,G⟩:=m it (by simp);refine wpAny_pyNext_list_item st p.isList (x:=u) (by simpa using N) λl j sb=>?_;have Q:Inv X f σ H {s with heap:=l}:=I.turned (t':=s.toks) (λb o g e=>(sb.2 b g).trans e) C f1 D F G;obtain⟨o,e,c,d⟩:=id j;exact⟨u,rfl,Bz (s:={s with heap:=l}) e c d (by decide) ⟨x,H,Q,O,⟨rfl,λT R=>by rw[I.rV R n];exact y⟩,j,λb g=>(m b g).1⟩⟩
 done:=by
   intro X q hw r hc i f s σ H E I m st t;subst q hw r;obtain⟨L,n,y⟩:=t;obtain⟨A,B,p,M⟩:=I.list n;obtain⟨C,f1,f2,D,F,G⟩:=m it (by simp);have hl:=B.length;exact wpAny_pyNext_list_end (I.ok.hd hc) st p.isList (by simp;omega) λl S=>⟨rfl,I.turned (t':=s.toks) (λb o g e=>S b o g e) C f1 D F G⟩
 self:=λ_ _ _ _ _ st h=>wpAny_pyIter_listiter st h
theorem zO{P:ZH}{w:World}{K:Zh}{C:Expr}(it:Addr)(lo:Int)(n:Nat):Turn P w K C (Jb lo n) [it] it (λi h=>IsRangeIter h it (lo + (i:Nat) * 1) ((n:Int) - (i:Nat)) 1) where
 mem:=by simp
 obj:=λi h st b c=>by
  have e:b=it:=by simpa using c
  subst e
  exact⟨_,st,λv z=>by
   have y:wg1 _=wgw v:=z
   cases y⟩
 keep:=λi h f st k=>k it (by simp) _ st
 item:=by
  intro X j hw l hc i a s σ H E I g st m;subst j hw l;obtain⟨p,f1,f2,q,r,u⟩:=g it (by simp);have W:=Walks.range (prog:=X.prog) (w:=X.w) (I.ok.hd hc) it lo 1 n;refine W.item i s _ _ m st λv f x A d B=>?_;obtain⟨t,rfl⟩:=A;have D:Inv X a σ H {s with heap:=f,toks:=x}:=I.turned (λb o c e=>B b o (by simpa using c) e) p f1 q r u;refine⟨_,rfl,Bz (s:={s with heap:=f,toks:=x}) (n:="range_iterator") d rfl rfl (by decide) ⟨.int (lo + i),H,D,⟨t,?_⟩,⟨rfl,rfl⟩,d,λb c=>(g b c).1⟩⟩;rw[Int.mul_one]
 done:=by
   intro X j hw l hc i a s σ H E I g st m;subst j hw l;obtain⟨p,f1,f2,q,r,u⟩:=g it (by simp);exact wpAny_pyNext_range_end (I.ok.hd hc) st (by have:n<=i:=m;omega) λf F=>⟨rfl,I.turned (t':=s.toks) (λb o c e=>F b o c e) p f1 q r u⟩
 self:=λ_ _ _ _ _ st h=>wpAny_pyIter_rangeiter st h
section
variable{X:Cx}{tg:Expr}
def Mj(K:Zh)(tl:TE):TI:=λσ H R=>tl σ H λx H1=>∃a,x=.ref a/\(∃xs,aI K H1 a xs)/\R (LC K a) H1
theorem aJ{l:Expr}{g:TE}(hl:PE X l g):PI X tg l (Mj X.K g):=by
 intro c s σ H R I h;refine bS (hl c s σ H _ I h) λv d ⟨x,i,f,j,k⟩=>?_;obtain⟨a,e,⟨t,m⟩,q⟩:=k;subst e;cases j;obtain⟨n,u,p,w⟩:=f.list m;refine wbJ p.isList ?_;refine⟨d.heap.objs.size,[d.heap.objs.size],_,_,i,rfl,f.kept (t':=d.toks) λb o e=>Zo _ e,Cv a _,⟨_,ZP _ rfl,rfl,rfl⟩,λb r=>?_,q⟩;have e:b=d.heap.objs.size:=by simpa using r
 subst e;exact f.Cu (Zr _) (f.aZ.fresh (Zr _))
theorem y7{g:List (Addr×Obj)}{σ:St}{H:Hp}{s:Shared}{R:It->Hp->Prop}{E:Value->Shared->Prop}{lo hi:Int}{t u v:Tok}{tk:Nat}(I:Inv X g σ H s)(j:-(2 ^ 62)<=lo)(l:lo < 2 ^ 62)(p:-(2 ^ 62)<=hi)(r:hi < 2 ^ 62)
 (q:R (Jb lo (hi - lo).toNat) H):wpAny (model X.prog X.w) X.A (pyIter (.ref s.heap.objs.size)) (Ou X g σ tg R) E {s with heap:=s.heap.push {cls:=.type "range",data:=.fields #[.int lo t,.int hi u,.int 1 v]},toks:=tk}:=by
 refine wpAny_pyIter_range (IsRange.new ..) (small_one j l p r) ?_;have a:Inv X g σ H {s with heap:=s.heap.push {cls:=.type "range",data:=.fields #[.int lo t,.int hi u,.int 1 v]},toks:=tk}:=I.kept λb o e=>Zo _ e
 refine⟨(s.heap.push {cls:=.type "range",data:=.fields #[.int lo t,.int hi u,.int 1 v]}).objs.size,[(s.heap.push {cls:=.type "range",data:=.fields #[.int lo t,.int hi u,.int 1 v]}).objs.size],_,_,H,rfl,
  a.kept (t':=tk) λb o e=>Zo _ e,zO _ lo (hi - lo).toNat,?_,λb c=>?_,q⟩
 ·have d:lo + ((0:Nat):Int) * 1=lo:=by simp
  have f:(((hi - lo).toNat:Nat):Int) - ((0:Nat):Int)=Builtin.Range.rangeSize lo hi 1:=by rw[rangeSize_one];split <;> omega
  show IsRangeIter _ _ (lo + ((0:Nat):Int) * 1) ((((hi - lo).toNat:Nat):Int) - ((0:Nat):Int)) 1;rw[d,f];exact ZP _ rfl
 ·have e:b=(s.heap.push {cls:=.type "range",data:=.fields #[.int lo t,.int hi u,.int 1 v]}).objs.size:=by simpa using c
  subst e;exact a.Cu (Zr _) (a.aZ.fresh (Zr _))
def Ml(ta:TA):TI:=λσ H R=>ta σ H λvs H1=>∃j:Int,vs=[.int j]/\-(2 ^ 62)<=j/\j < 2 ^ 62/\R (Jb 0 j.toNat) H1
def Mm(ta:TA):TI:=λσ H R=>ta σ H λvs H1=>∃i j:Int,vs=[.int i,.int j]/\(-(2 ^ 62)<=i/\i < 2 ^ 62/\-(2 ^ 62)<=j/\j < 2 ^ 62)/\R (Jb i (j - i).toNat) H1
theorem du(g:Gl X "range")(l:X.mg "range"=none)(ha:PA X [a] o)(hs:starEach [a] X.env=[(false,eval a X.env)]:=by rfl):PI X tg (.Call (.Name "range" p) [a] [] pos) (Ml o):=by
 intro b s σ H R I h;refine Call_ (iB I g l boot_range (wbz (bS (ha pos b s σ H _ I h) λm n ⟨u,v,d,f,c⟩=>?_) hs rfl));obtain⟨j,e,c,i,q⟩:=c;subst e
 cases f with
 |cons r k=>
  cases k;obtain⟨t,rfl⟩:=r;exact call_range_1 (y7 d (by omega) (by omega) c i (by simpa using q))
theorem p9(l:Gl X "range")(o:X.mg "range"=none)(ha:PA X [a,b] C)(hs:starEach [a,b] X.env=[(false,eval a X.env),(false,eval b X.env)]:=by rfl)(g:starEach [b] X.env=[(false,eval b X.env)]:=by rfl) :
 PI X tg (.Call (.Name "range" p) [a,b] [] pos) (Mm C):=by
 intro c s σ H R I h;refine Call_ (iB I l o boot_range (wbz (bS (ha pos c s σ H _ I h) λx y ⟨z,A,k,m,d⟩=>?_) (by rw[hs,g]) (by rw[g];rfl)));obtain⟨i,j,e,⟨d,n,u,v⟩,q⟩:=d;subst e
 cases m with
 |cons r f=>
  cases f with
  |cons w f=>
   cases f;obtain⟨t,rfl⟩:=r;obtain⟨B,rfl⟩:=w;exact call_range_2 (y7 k d n u v q)
def PF(wi:TI)(g:TG)(tb:TS):TS:=λD σ H=>wi σ H λJ H1=>∃W:Nat->Nat->St->Hp->Prop,(∃m,W 0 m σ H1)/\∀i m σ H,W i m σ H ->
 (J.stop i H/\D.nx σ H)\/(J.go i H/\∃N:St->Hp->Prop,(∀σ' H',N σ' H'->∃m',m' < m/\W (i + 1) m' σ' H')/\∀x H',J.ur i H x H'->g x σ H' λσ2 H2=>tb {D with nx:=N,ct:=N,bk:=D.nx} σ2 H2)
noncomputable def rX(fp:List Addr)(h:Heap):List (Addr×Obj):=fp.filterMap λb=>(h.get? b).map λo=>(b,o)
theorem j7(g:b∈j)(e:h.get? b=some o):(b,o)∈rX j h:=wcF.mpr ⟨b,g,by rw[e];rfl⟩
theorem Cw(g:p∈rX j h):p.1∈j/\h.get? p.1=some p.2:=by
 obtain⟨b,a,e⟩:=wcF.mp g
 cases q:h.get? b with
 |none=>grind
 |some o=>
  grind
theorem Inv.pinned(I:Inv X g σ H s)(l:∀b∈j,ux X g H b)(r:∀b∈j,∃o,s.heap.get? b=some o/\∀v,o.data≠.cell v):Inv X (g++rX j s.heap) σ H s:=
 I.By λp f=>(ZL.mp f).elim (λz=>I.pin p (wa5 _ z)) λz=>by
  obtain⟨a,e⟩:=Cw z;obtain⟨h,f1,f2,_⟩:=l p.1 a;obtain⟨o,c,d⟩:=r p.1 a;rw[e]at c;cases c;exact⟨e,h,f1,f2,d⟩
theorem Inv.nG(I:Inv X (g++pl) σ H s):Inv X g σ H s:=I.By λp a=>I.pin p (wa5 _ (wan _ a))
theorem bf(C:PassesOwn (model X.prog X.w) X.A X.env X.xe)(hc:X.calm=true)(hi:PI X tg iter wi)(hg:PG X tg g)(j:uw X body tb)
 (hs:∀x,wbc iter X.env x=pure x:=by intro _;rfl):PS X (.For tg iter body [] pos) (PF wi g tb):=by
 intro a s σ H D I h;refine wpAny_For (bS (hi a s σ H _ I h) λv s1 h1=>bS h1 λSr s2 h2=>?_) hs;obtain⟨it,E,V,J,H2,e,I2,T,O,f2,W,⟨m0,w0⟩,F⟩:=h2;subst e;have k:∀{y:Hp},(∀b∈E,y b=none)->∀b∈E,ux X a y b:=λhn b j=>⟨hn b j,(f2 b j).2⟩;refine codeAny_forLoop_any (λn Y=>∃i l y,Inv X a l y Y/\V i Y.heap/\(∀b∈E,y b=none)/\W i n l y) ?_ m0 ⟨0,σ,H2,I2,O,λb j=>(f2 b j).1,w0⟩;rintro n Z ⟨i,p,M,I3,G,K,w3⟩;rcases F i n p M w3 with⟨stop,qn⟩ |⟨go,N,hN,step⟩
 ·refine wbD C (bS (T.done X rfl rfl rfl hc i a Z p M X.xe I3 (k K) G stop) λr s4 ⟨P,I4⟩=>?_);subst P;exact wbm ⟨p,M,I4,qn⟩
 ·refine wbD C (bS (T.item X rfl rfl rfl hc i a Z p M X.xe I3 (k K) G go) λr s4 ⟨u,P,h4⟩=>?_);subst P;refine wbD C (bS h4 λ_ s5 ⟨x,H5,I5,r5,y5,B,Q⟩=>?_);have R:=I5.pinned (k Q) (T.obj _ _ B);refine wbD C (bS (hg _ s5 p H5 x u _ R r5 (step x H5 y5)) λ_ s6 ⟨S,H6,I6,q6⟩=>?_);refine wbD C (bS (j _ s6 S H6 _ I6 q6) λf U z=>?_)
  have again:∀{c:St} {q:Hp},Inv X (a++rX E s5.heap) c q U->N c q->∃m,m < n/\∃i l y,Inv X a l y U/\V i U.heap/\(∀b∈E,y b=none)/\W i m l y:=λ{c q} t L=>by
   obtain⟨m',hm,w7⟩:=hN c q L;refine⟨m',hm,i + 1,c,q,t.nG,T.keep _ _ _ B λb j o e=>(t.pin (b,o) (wa5 _ (wa5 _ (j7 j e)))).1,λb j=>?_,w7⟩;obtain⟨o,e,d⟩:=T.obj _ _ B b j;exact(t.pin (b,o) (wa5 _ (wa5 _ (j7 j e)))).2.1
  cases f with
  |next=>obtain⟨c,q,t,L⟩:=z;exact again t L
  |cont=>obtain⟨c,q,t,L⟩:=z;exact again t L
  |brk=>obtain⟨c,q,t,z⟩:=z;exact⟨c,q,t.nG,z⟩
  |ret v=>obtain⟨x7,c,q,t,r7,z⟩:=z;exact⟨x7,c,q,t.nG,r7,z⟩
end
theorem dh{K:Zh}{a:Addr}{xs:List V}{g:TG}{C:TS}{D:Ends}{σ:St}{H:Hp}(Pv:Nat->St->Hp->Prop)(J:Pv 0 σ H)(hl:∀i σ H,i<=xs.length->Pv i σ H->aI K H a xs)
 (hs:∀i x σ H,xs[i]?=some x->Pv i σ H->g x σ H λj r=>C {D with nx:=Pv (i + 1),ct:=Pv (i + 1),bk:=D.nx} j r) (hd:∀σ H,Pv xs.length σ H->D.nx σ H) :
 ∃W:Nat->Nat->St->Hp->Prop,(∃m,W 0 m σ H)/\∀i m σ H,W i m σ H ->
  ((LC K a).stop i H/\D.nx σ H)\/((LC K a).go i H/\∃N:St->Hp->Prop,(∀l o,N l o->∃I,I < m/\W (i + 1) I l o)/\∀x o,(LC K a).ur i H x o->g x σ o λj r=>C {D with nx:=N,ct:=N,bk:=D.nx} j r):=by
 refine⟨λi m σ H=>m=xs.length - i/\i<=xs.length/\Pv i σ H,⟨xs.length,by simp,wa0 _,J⟩,?_⟩;rintro i m σ H ⟨rfl,hi,p⟩;have q:=hl i σ H hi p
 by_cases b:i < xs.length
 ·refine .inr ⟨⟨xs,xs[i],q,by simp[b]⟩,Pv (i + 1),λl o c=>⟨xs.length - (i + 1),by omega,rfl,b,c⟩,λx o y=>?_⟩;obtain⟨e,y⟩:=y;subst e;exact hs i x σ _ (y xs q) p
 ·have e:i=xs.length:=by omega
  subst e;exact .inl ⟨⟨xs,q,Zr _⟩,hd σ H p⟩
theorem dA{lo:Int}{n:Nat}{g:TG}{C:TS}{D:Ends}{σ:St}{H:Hp}(Pv:Nat->St->Hp->Prop)(J:Pv 0 σ H)
 (hs:∀i σ H,i < n->Pv i σ H->g (.int (lo + i)) σ H λj r=>C {D with nx:=Pv (i + 1),ct:=Pv (i + 1),bk:=D.nx} j r) (hd:∀σ H,Pv n σ H->D.nx σ H) :
 ∃W:Nat->Nat->St->Hp->Prop,(∃m,W 0 m σ H)/\∀i m σ H,W i m σ H ->
  ((Jb lo n).stop i H/\D.nx σ H)\/((Jb lo n).go i H/\∃N:St->Hp->Prop,(∀l o,N l o->∃I,I < m/\W (i + 1) I l o)/\∀x o,(Jb lo n).ur i H x o->g x σ o λj r=>C {D with nx:=N,ct:=N,bk:=D.nx} j r):=by
 refine⟨λi m σ H=>m=n - i/\i<=n/\Pv i σ H,⟨n,by simp,wa0 _,J⟩,?_⟩;rintro i m σ H ⟨rfl,hi,p⟩
 by_cases a:i < n
 ·refine .inr ⟨a,Pv (i + 1),λl o b=>⟨n - (i + 1),by omega,rfl,a,b⟩,λx o y=>?_⟩;obtain⟨e,y⟩:=y;subst e y;exact hs i σ _ a p
 ·have e:i=n:=by omega
  subst e;exact .inl ⟨Zr _,hd σ H p⟩
noncomputable abbrev R2:=V->V->Hp->VK->Prop
def m7(X:Cx)(f:Value->Value->Sem Value)(r:R2):Prop:=
 ∀(pins:List (Addr×Obj)) (s:Shared) (σ:St) (H:Hp) (x y:V) (v u:Value) (Q:VK),Inv X pins σ H s->RelV x v->RelV y u->r x y H Q ->
  wpAny (model X.prog X.w) X.A (f v u) (EP X pins σ Q) X.xe s
def PH(X:Cx)(f:Value->Sem Value)(r:V->Hp->VK->Prop):Prop:=
 ∀(pins:List (Addr×Obj)) (s:Shared) (σ:St) (H:Hp) (x:V) (v:Value) (Q:VK),Inv X pins σ H s->RelV x v->r x H Q ->
  wpAny (model X.prog X.w) X.A (f v) (EP X pins σ Q) X.xe s
def di(X:Cx)(f:Value)(r:List V->Hp->VK->Prop):Prop:=
 ∀(pins:List (Addr×Obj)) (s:Shared) (σ:St) (H:Hp) (xs:List V) (us:List Value) (Q:VK),Inv X pins σ H s->Vals xs us->r xs H Q ->
  wpAny (model X.prog X.w) X.A (call f us) (EP X pins σ Q) X.xe s
def Ov(r:R2)(ta tb:TE):TE:=λσ H Q=>ta σ H λx H1=>tb σ H1 λy H2=>r x y H2 Q
def UW(r:V->Hp->VK->Prop)(ta:TE):TE:=λσ H Q=>ta σ H λx H1=>r x H1 Q
inductive rI(C:Int->Int->Prop)(g:Int->Int->V)(x y:V)(H:Hp)(Q:VK):Prop
 |mk (i j) (_:x=.int i) (_:y=.int j) (_:C i j) (_:Q (g i j) H)
inductive Jc(g:Int->Int->V)(x y:V)(H:Hp)(Q:VK):Prop
 |mk (i j) (_:x=.int i) (_:y=.int j) (_:Q (g i j) H)
inductive rU(g:Int->V)(x:V)(H:Hp)(Q:VK):Prop
 |mk (i) (_:x=.int i) (_:Q (g i) H)
section
variable{X:Cx}{a b c:Expr}{ta tb tc:TE}{pos:Pos}
theorem K4(ha:PE X a ta)(C:PE X b tb){R:V->V->Hp->Prop}(I:Inv X g σ H s)
 (h:ta σ H λx r=>tb σ r λy j=>R x y j) {Q:Value->Shared->Prop} {f:Value->Value->Sem Value}
 (J:∀v u p x y j,Inv X g σ j p->RelV x v->RelV y u->R x y j->wpAny (model X.prog X.w) X.A (f v u) Q X.xe p) :
 wpAny (model X.prog X.w) X.A (eval a X.env) (λv l=>wpAny (model X.prog X.w) X.A (eval b X.env) (λu o=>wpAny (model X.prog X.w) X.A (f v u) Q X.xe o) X.xe l) X.xe s:=by
 refine bS (ha g s σ H _ I h) λv c ⟨x,r,d,e,i⟩=>?_;refine bS (C g c σ r _ d i) λu p ⟨y,j,k,m,n⟩=>?_;exact J v u p x y j k e m n
theorem aL(g:m7 X (binaryOp op) r)(ha:PE X a ta)(j:PE X b tb):PE X (.BinOp a op b pos) (Ov r ta tb):=by
 intro c s σ H Q I h;exact wpAny_BinOp (K4 ha j I h λv u d x y e f i k q=>g c d σ e x y v u Q f i k q)
theorem Mo{r:V->Hp->VK->Prop}(g:PH X (unaryOp op) r)(ha:PE X a ta):PE X (.UnaryOp op a pos) (UW r ta):=by
 intro b s σ H Q I h;exact UnaryOp_ (bS (ha b s σ H _ I h) λv c ⟨x,d,e,f,i⟩=>g b c σ d x v Q e f i)
theorem Ow{f:Value->Value->Sem Value}{C:Int->Int->Prop}{g:Int->Int->Int}
 (rule:∀(i j:Int) (t u:Tok) (s:Shared) (Q:Value->Shared->Prop) (E:Value->Shared->Prop),C i j->Q (.int (g i j) s.toks) {s with toks:=s.toks + 1}->wpAny (model X.prog X.w) X.A (f (.int i t) (.int j u)) Q E s) :
 m7 X f (rI C λi j=>.int (g i j)):=by
 intro a s σ H x y v u Q I b c h;obtain⟨i,j,rfl,rfl,hc,q⟩:=h;obtain⟨t,rfl⟩:=b;obtain⟨d,rfl⟩:=c;exact rule i j t d s _ _ hc ⟨.int (g i j),H,I.tok _,⟨_,rfl⟩,q⟩
theorem Mp{f:Value->Value->Sem Value}{g:Int->Int->Int}
 (rule:∀(i j:Int) (t u:Tok) (s:Shared) (Q:Value->Shared->Prop) (E:Value->Shared->Prop),Q (.int (g i j) s.toks) {s with toks:=s.toks + 1}->wpAny (model X.prog X.w) X.A (f (.int i t) (.int j u)) Q E s) :
 m7 X f (Jc λi j=>.int (g i j)):=by
 intro a s σ H x y v u Q I b c h;obtain⟨i,j,rfl,rfl,q⟩:=h;obtain⟨t,rfl⟩:=b;obtain⟨d,rfl⟩:=c;exact rule i j t d s _ _ ⟨.int (g i j),H,I.tok _,⟨_,rfl⟩,q⟩
theorem GZ{f:Value->Value->Sem Value}{g:Int->Int->Bool}
 (rule:∀(i j:Int) (t u:Tok) (s:Shared) (Q:Value->Shared->Prop) (E:Value->Shared->Prop),Q (.bool (g i j)) s->wpAny (model X.prog X.w) X.A (f (.int i t) (.int j u)) Q E s) :
 m7 X f (Jc λi j=>.bl (g i j)):=by
 intro a s σ H x y v u Q I b c h;obtain⟨i,j,rfl,rfl,q⟩:=h;obtain⟨t,rfl⟩:=b;obtain⟨d,rfl⟩:=c;exact rule i j t d s _ _ ⟨.bl (g i j),H,I,rfl,q⟩
def PK(i j:Int):Prop:=0 < j/\j < 1073741824
def Hc(i j:Int):Prop:=(-(2 ^ 64) < i/\i < 2 ^ 64)\/(-(2 ^ 64) < j/\j < 2 ^ 64)
theorem Hc.ok{i j:Int}(h:Hc i j):IntMulOk i j:=by
 rcases h with⟨a,b⟩ |⟨a,b⟩
 ·exact .of_left (intBits_le_64 a b)
 ·exact .of_right (intBits_le_64 a b)
theorem gf:m7 X (binaryOp .Add) (Jc λi j=>.int (i + j)):=Mp λ_ _ _ _ _ _ _ q=>add_int q
theorem pd:m7 X (binaryOp .Sub) (Jc λi j=>.int (i - j)):=Mp λ_ _ _ _ _ _ _ q=>sub_int q
theorem j8:m7 X (binaryOp .Mult) (rI Hc λi j=>.int (i * j)):=Ow λ_ _ _ _ _ _ _ hc q=>mul_int q hc.ok
theorem nH:m7 X (binaryOp .FloorDiv) (rI PK λi j=>.int (i / j)):=Ow λi j _ _ _ _ _ hc q=>by
 have a:(0:Int) < j:=hc.1;have b:j < 1073741824:=hc.2;exact floordiv_int (by omega) (by rw[Int.fdiv_eq_ediv_of_nonneg i (by omega)];exact q) (.inl (PyProof.noPylong_small (by omega)))
theorem d2:m7 X (binaryOp .Mod) (rI (λ_ j=>0 < j) λi j=>.int (i % j)):=Ow λi j _ _ _ _ _ hc q=>by
 have a:(0:Int) < j:=hc;exact mod_int' (by omega) (by rw[Int.fmod_eq_emod_of_nonneg i (by omega)];exact q)
theorem UX{f:Value->Sem Value}{g:Int->Int}
 (rule:∀(i:Int) (t:Tok) (s:Shared) (Q:Value->Shared->Prop) (E:Value->Shared->Prop),Q (.int (g i) s.toks) {s with toks:=s.toks + 1}->wpAny (model X.prog X.w) X.A (f (.int i t)) Q E s) :
 PH X f (rU λi=>.int (g i)):=by
 intro a s σ H x v Q I b h;obtain⟨i,rfl,q⟩:=h;obtain⟨t,rfl⟩:=b;exact rule i t s _ _ ⟨.int (g i),H,I.tok _,⟨_,rfl⟩,q⟩
theorem K5:PH X (unaryOp .USub) (rU λi=>.int (-i)):=UX λ_ _ _ _ _ q=>neg_int q
end
noncomputable def Mq:V->V->Bool
 |.non,.non=>true |.non,.int _=>true |.int _,.non=>true |.non,.bl _=>true |.bl _,.non=>true |.non,.str _=>true |.str _,.non=>true
 |.int _,.int _=>true |.bl _,.bl _=>true |.str _,.str _=>true |.byt _,.byt _=>true
 |.int _,.str _=>true |.str _,.int _=>true |.bl _,.str _=>true |.str _,.bl _=>true
 |_,_=>false
inductive UY(x y:V)(H:Hp)(Q:VK):Prop
 |mk (_:Mq x y=true) (_:Q (.bl (decide (x=y))) H)
inductive UZ(x y:V)(H:Hp)(Q:VK):Prop
 |mk (_:Mq x y=true) (_:Q (.bl (!decide (x=y))) H)
theorem BA:decide (V.int i=V.int j)=(i == j):=by
 rw[wdm];simp
theorem Ef:decide (V.bl i=V.bl j)=(i == j):=by
 rw[wdm];simp
theorem BC:decide (V.str i=V.str j)=(i == j):=by
 rw[wdm];simp
theorem BD:decide (V.byt i=V.byt j)=(i.toList == j.toList):=by
 rw[wdm];cases i;cases j;simp
section
variable{X:Cx}{a b c:Expr}{ta tb tc:TE}{pos:Pos}
theorem b9(I:Inv X g σ H s)(q:Q (.bl k) H)(e:k=j):EP X g σ Q (.bool j) s:=by
 subst e;exact⟨.bl k,H,I,rfl,q⟩
theorem vg:m7 X (waI .Eq) UY:=by
 intro e s σ H x y v u Q I d a h;obtain⟨c,q⟩:=h
 cases x with
 |non=>
  cases d
  cases y with
  |non=>cases a;exact PySem.EqNone.eq_none_none (b9 I q (by simp))
  |bl j=>cases a;exact PySem.EqNone.eq_none_bool (b9 I q (by simp))
  |int j=>obtain⟨b,rfl⟩:=a;exact PySem.EqNone.eq_none_int (b9 I q (by simp))
  |str j=>obtain⟨b,rfl⟩:=a;exact PySem.EqNone.eq_none_str (b9 I q (by simp))
  |_=>exact absurd (show false=true from c) ZF
 |bl i=>
  cases d
  cases y with
  |non=>cases a;exact PySem.EqNone.eq_bool_none (b9 I q (by simp))
  |bl j=>cases a;exact eq_bool (b9 I q Ef)
  |str j=>obtain⟨b,rfl⟩:=a;exact PySem.EqMixed.eq_bool_str (b9 I q (by simp))
  |_=>exact absurd (show false=true from c) ZF
 |int i=>
  obtain⟨t,rfl⟩:=d
  cases y with
  |non=>cases a;exact PySem.EqNone.eq_int_none (b9 I q (by simp))
  |int j=>obtain⟨b,rfl⟩:=a;exact eq_int (b9 I q BA)
  |str j=>obtain⟨b,rfl⟩:=a;exact PySem.EqMixed.eq_int_str (b9 I q (by simp))
  |_=>exact absurd (show false=true from c) ZF
 |str i=>
  obtain⟨t,rfl⟩:=d
  cases y with
  |non=>cases a;exact PySem.EqNone.eq_str_none (b9 I q (by simp))
  |bl j=>cases a;exact PySem.EqMixed.eq_str_bool (b9 I q (by simp))
  |int j=>obtain⟨b,rfl⟩:=a;exact PySem.EqMixed.eq_str_int (b9 I q (by simp))
  |str j=>obtain⟨b,rfl⟩:=a;exact eq_str (b9 I q BC)
  |_=>exact absurd (show false=true from c) ZF
 |byt i=>
  obtain⟨t,rfl⟩:=d
  cases y with
  |byt j=>obtain⟨b,rfl⟩:=a;exact PySem.W.eq_bytes (b9 I q BD)
  |_=>exact absurd (show false=true from c) ZF
 |_=>cases y <;> exact absurd (show false=true from c) ZF
theorem Eg:m7 X (waI .NotEq) UZ:=by
 intro e s σ H x y v u Q I d a h;obtain⟨c,q⟩:=h
 cases x with
 |non=>
  cases d
  cases y with
  |non=>cases a;exact PySem.EqNone.ne_none_none (b9 I q (by simp))
  |bl j=>cases a;exact PySem.EqNone.ne_none_bool (b9 I q (by simp))
  |int j=>obtain⟨b,rfl⟩:=a;exact PySem.EqNone.ne_none_int (b9 I q (by simp))
  |str j=>obtain⟨b,rfl⟩:=a;exact PySem.EqNone.ne_none_str (b9 I q (by simp))
  |_=>exact absurd (show false=true from c) ZF
 |bl i=>
  cases d
  cases y with
  |non=>cases a;exact PySem.EqNone.ne_bool_none (b9 I q (by simp))
  |bl j=>cases a;exact ne_bool (b9 I q (congrArg not Ef))
  |str j=>obtain⟨b,rfl⟩:=a;exact PySem.EqMixed.ne_bool_str (b9 I q (by simp))
  |_=>exact absurd (show false=true from c) ZF
 |int i=>
  obtain⟨t,rfl⟩:=d
  cases y with
  |non=>cases a;exact PySem.EqNone.ne_int_none (b9 I q (by simp))
  |int j=>obtain⟨b,rfl⟩:=a;exact ne_int (b9 I q (congrArg not BA))
  |str j=>obtain⟨b,rfl⟩:=a;exact PySem.EqMixed.ne_int_str (b9 I q (by simp))
  |_=>exact absurd (show false=true from c) ZF
 |str i=>
  obtain⟨t,rfl⟩:=d
  cases y with
  |non=>cases a;exact PySem.EqNone.ne_str_none (b9 I q (by simp))
  |bl j=>cases a;exact PySem.EqMixed.ne_str_bool (b9 I q (by simp))
  |int j=>obtain⟨b,rfl⟩:=a;exact PySem.EqMixed.ne_str_int (b9 I q (by simp))
  |str j=>obtain⟨b,rfl⟩:=a;exact ne_str (b9 I q (congrArg not BC))
  |_=>exact absurd (show false=true from c) ZF
 |byt i=>
  obtain⟨t,rfl⟩:=d
  cases y with
  |byt j=>obtain⟨b,rfl⟩:=a;exact PySem.W.ne_bytes (b9 I q (congrArg not BD))
  |_=>exact absurd (show false=true from c) ZF
 |_=>cases y <;> exact absurd (show false=true from c) ZF
theorem md:m7 X (waI .Lt) (Jc λi j=>.bl (decide (i < j))):=GZ λ_ _ _ _ _ _ _ q=>lt_int q
theorem Mr:m7 X (waI .LtE) (Jc λi j=>.bl (decide (i<=j))):=GZ λ_ _ _ _ _ _ _ q=>le_int q
theorem me:m7 X (waI .Gt) (Jc λi j=>.bl (decide (j < i))):=GZ λ_ _ _ _ _ _ _ q=>gt_int q
theorem Eh:m7 X (waI .GtE) (Jc λi j=>.bl (decide (j<=i))):=GZ λ_ _ _ _ _ _ _ q=>ge_int q
theorem pe:m7 X (waI .In) (λx y H Q=>∃i j,x=.str i/\y=.str j/\Q (.bl (!(wes j i 0 j.length 1).isEmpty)) H):=by
 intro a s σ H x y v u Q I b c h;obtain⟨i,j,rfl,rfl,q⟩:=h;obtain⟨t,rfl⟩:=b;obtain⟨d,rfl⟩:=c;exact in_str (b9 I q rfl)
theorem K6:m7 X (waI .Is) (λx y H Q=>y=.non/\Q (.bl (decide (x=.non))) H):=by
 intro a s σ H x y v u Q I b c h;obtain⟨rfl,q⟩:=h;cases c;refine is_none_gen (b9 I q ?_)
 cases x <;> first
  |(cases b;rfl)
  |(obtain⟨t,rfl⟩:=b;rfl)
theorem wA:m7 X (waI .IsNot) (λx y H Q=>y=.non/\Q (.bl (!decide (x=.non))) H):=by
 intro a s σ H x y v u Q I b c h;obtain⟨rfl,q⟩:=h;cases c;refine isnot_none_gen (b9 I q ?_)
 cases x <;> first
  |(cases b;rfl)
  |(obtain⟨t,rfl⟩:=b;rfl)
theorem aU(b:Expr)(h:op≠.In:=by decide)(g:op≠.NotIn:=by decide):wbX op b=false:=by
 have a:(op == CmpOp.In)=false:=by grind
 have c:(op == CmpOp.NotIn)=false:=by grind
 cases b <;> simp[wbX,a,c]
theorem ie(g:m7 X (waI op) r)(ha:PE X a ta)(j:PE X b tb)(l:wbX op b=false):PE X (.Compare a [op] [b] pos) (Ov r ta tb):=by
 intro c s σ H Q I h;exact wpAny_Compare1 (K4 ha j I h λv u d x y e f i k q=>g c d σ e x y v u Q f i k q) l
def Ms(t:TE):TT:=λσ H Q=>t σ H λx H'=>Sq x H' Q
theorem aG(g:m7 X (waI op) r)(ha:PE X a ta)(j:PE X b tb)(l:wbX op b=false):PT X (.Compare a [op] [b] pos) (Ms (Ov r ta tb)):=by
 intro d s σ H Q I h
 refine wf0 (bS (ha d s σ H _ I h) λv f ⟨x,i,m,n,o⟩=>bS (j d f σ i _ m o) λu p ⟨y,q,t,w,A⟩=>
  bS (g d p σ q x y v u _ t n w A) λc F ⟨z,B,C,D,k,e,E⟩=>?_) l
 subst e;cases D;exact wb1 ⟨B,C,E⟩
theorem mQ:(sizeLine:Nat) < 2 ^ 63:=by rw[wbe];decide
theorem j9:m7 X (binaryOp .Add) (λx y H Q=>∃i j,x=.str i/\y=.str j/\i.length + j.length<=sizeLine/\Q (.str (i++j)) H):=by
 intro a s σ H x y v u Q I b c h;obtain⟨i,j,rfl,rfl,d,q⟩:=h;obtain⟨t,rfl⟩:=b;obtain⟨e,rfl⟩:=c;exact add_str (λe f=>⟨.str (i++j),H,I.tok _,⟨_,rfl⟩,q⟩) d
theorem y8:m7 X (inplaceOp .Add) (λx y H Q=>∃i j,x=.str i/\y=.str j/\i.length + j.length<=sizeLine/\Q (.str (i++j)) H):=by
 intro a s σ H x y v u Q I b c h;obtain⟨i,j,rfl,rfl,d,q⟩:=h;obtain⟨t,rfl⟩:=b;obtain⟨e,rfl⟩:=c;exact iadd_str (λe f=>⟨.str (i++j),H,I.tok _,⟨_,rfl⟩,q⟩) d
theorem vals1(r:Vals [x] us):∃u,us=[u]/\RelV x u:=by
 cases r with
 |cons a b=>cases b;exact⟨_,rfl,a⟩
theorem vals2(r:Vals [x,y] us):∃u g,us=[u,g]/\RelV x u/\RelV y g:=by
 cases r with
 |cons a b=>
  cases b with
  |cons c d=>cases d;exact⟨_,_,rfl,a,c⟩
theorem Cy(hc:X.calm=true):di X (.builtin "max") (λxs H Q=>∃i j,xs=[.int i,.int j]/\Q (.int (if j > i then j else i)) H):=by
 intro b s σ H xs c Q I r h;obtain⟨i,j,rfl,q⟩:=h;obtain⟨u,d,rfl,⟨t,rfl⟩,⟨e,rfl⟩⟩:=vals2 r;refine max_two_ints (I.ok.hd hc) λf g k=>⟨_,H,I.kept k,?_,q⟩
 by_cases a:j > i
 ·rw[if_pos a,if_pos a];exact⟨_,rfl⟩
 ·rw[if_neg a,if_neg a];exact⟨_,rfl⟩
theorem vh(hc:X.calm=true):di X (.builtin "min") (λxs H Q=>∃i j,xs=[.int i,.int j]/\Q (.int (if j < i then j else i)) H):=by
 intro b s σ H xs c Q I r h;obtain⟨i,j,rfl,q⟩:=h;obtain⟨u,d,rfl,⟨t,rfl⟩,⟨e,rfl⟩⟩:=vals2 r;refine min_two_ints (I.ok.hd hc) λf g k=>⟨_,H,I.kept k,?_,q⟩
 by_cases a:j < i
 ·rw[if_pos a,if_pos a];exact⟨_,rfl⟩
 ·rw[if_neg a,if_neg a];exact⟨_,rfl⟩
end
structure zP(h:Heap)(x dx C:Addr)(mA:Str->Option Value):Prop where
 obj:h.get? x=some (wbl C dx)
 ns:h.Ns1 dx mA
 ne:dx≠x
theorem Cz{h:Heap}{g:Addr}{j:Str->Option Value}(n:h.Ns1 g j):∃l,h.get? g=some l/\∀name,wdK name l=some (j name):=by
 obtain⟨o,c,p,d,hd,f,_,i⟩:=n;refine⟨o,d,λname=>?_⟩;have e:=i name;unfold nsFind findBy at e;rw[<-Array.find?_toList]at e;unfold wdK;rw[hd];dsimp only;split
 ·rename_i y q;rw[q]at e;exact congrArg some e
 ·rename_i q;rw[q]at e
  have a:c.toList.any (·.refKey)=false:=by
   rw[wfO];intro y k;obtain⟨z,t,b⟩:=f y (Array.mem_toList_iff.mp k);simp[DictEntry.refKey,b]
  have m:¬c.toList.any (·.refKey)=true:=by rw[a];exact ZF
  rw[if_neg m];exact congrArg some e
theorem zP.look{h:Heap}{x j C:Addr}{l:Str->Option Value}(I:zP h x j C l):∃g,PySem.W.InstAt h x (wbl C j) C (some g)/\∀name,wdK name g=some (l name):=
 let ⟨g,a,hl⟩:=Cz I.ns
 ⟨g,⟨I.obj,rfl,rfl,a⟩,hl⟩
section
variable{prog:ZH}{w:World}{A:Around}{E:Value->Shared->Prop}{s:Shared}{K:Zh}{x dx C f:Addr}{mA:Str->Option Value}{name:Str}{v:Value}
theorem get_map{Q:Value->Shared->Prop}(X:K.In s.heap)(I:zP s.heap x dx C mA)(j:wd7 K C name=true)(l:wdn K C=true)
 (ha:waq K (.ref C) name=some none) (o:mA name=some v) (g:wg8 v=true) (h:Q v {s with toks:=s.toks + 1}) :
 wpAny (model prog w) A (getAttr (.ref x) name expr) Q E s:=by
 obtain⟨a,J,hl⟩:=I.look;exact PySem.W.get_value X J (wdD j).1 (PySem.W.findObj_own l ha rfl (by rw[hl,o])) g h
theorem Ei{Q:Value×List Value->Shared->Prop}(X:K.In s.heap)(I:zP s.heap x dx C mA)(g:wd7 K C name=true)
 (j:waq K (.ref C) name=some (some (.ref f))) (l:wef K (.ref f)=true) (o:mA name=none) (h:Q (.ref f,[.ref x]) s) :
 wpAny (model prog w) A (weB (.ref x) name pl) Q E s:=by
 obtain⟨a,J,hl⟩:=I.look;exact PySem.W.method_fn X J (wdD g).1 (wdD g).2 j (beq_iff_eq.mp l) (by show (wdK name a).map (·.isSome)=some false;rw[hl,o];rfl) h
theorem Hd{Q:Unit->Shared->Prop}(X:K.In s.heap)(I:zP s.heap x dx C mA)
 (hs:waq K (.ref C) "__setattr__"=some (some (.builtin "object.__setattr__"))) (g:weY K C=true) (j:weC K C name=some none) (l:wdn K C=true)
 (hw:wcE mA ns) (hsz:ns.length<=sizeLine)
 (h:∀h',zP h' x dx C (λy=>if y=name then some v else mA y)->wee dx s.heap h'->Q () {s with heap:=h',toks:=s.toks + 2}) :
 wpAny (model prog w) A (setAttr (.ref x) name v) Q E s:=by
 obtain⟨p,J,hl⟩:=I.look;refine wdZ X J hs (PySem.W.osa_open (s:={s with toks:=s.toks + 1}) (r:=none) X J g j λb=>?_);obtain⟨q,hc,e⟩:=PySem.W.any_some l;have i:s.heap.get? x=some ⟨.ref C,some dx,.plain,#[]⟩:=I.obj;refine Zk (ZN (Zk (Zk (wf1 i (Zk (wdN (s:={s with toks:=s.toks + 1}) (wcV X hc) ?_))))));rw[e];refine ZN (a:=some dx) (Zk (ZN (Zk ?_)));refine wfD (s:={s with toks:=s.toks + 1}) I.ns λh' c d=>?_;obtain⟨t,k,m,f,n,o⟩:=c.count (weD name v hw);refine Zk (weg f (by grind [weh,ZE]) ?_);exact ZN (h _ ⟨(d.2 _ (waB I.ne)).trans I.obj,c,I.ne⟩ d)
theorem y9{R:wc4->Shared->Prop}(X:K.In s.heap)(l:wgl K C=true)
 (hi:waq K (.ref C) "__init__"=some (some (.ref f))) (o:PySem.W.typeIn K (.ref f)=some (.type "function"))
 (h:codeAny (model prog w) (A.under (.builtin "type.__call__" ⟨.ref C :: vs,j⟩)) (.call (.ref f) ⟨.ref (s.heap.objs.size + 1) :: vs,j⟩) (PySem.W.InitBack (s.heap.objs.size + 1) R)
   {s with heap:=(s.heap.push wb2).push (wbl C s.heap.objs.size)}) :
 codeAny (model prog w) A (.call (.ref C) ⟨vs,j⟩) R s:=by
 obtain⟨a,g,d,t,os⟩:=s;exact PySem.W.make_core (PySem.W.makes_of X l) (wdL X hi) (λself=>PySem.W.bind_fn X self o) (.inl rfl) h
end
noncomputable def cq(f:Str)(v:V):List (Str×V)->List (Str×V)
 |[]=>[(f,v)]
 |(g,x) :: r=>if g=f then(g,v) :: r else(g,x) :: cq f v r
theorem aC(f g:Str)(v:V):∀fs:List (Str×V),(cq f v fs).lookup g=if g=f then some v else fs.lookup g
 |[]=>by
  show weL g [(f,v)]=_
  by_cases h:g=f
  ·grind
  ·grind
 |(k,x) :: r=>by
  have a:=aC f g v r;rw[show cq f v ((k,x) :: r)=(if k=f then(k,v) :: r else(k,x) :: cq f v r) from rfl]
  by_cases b:k=f
  ·grind
  ·grind
theorem pf(f:Str)(v:V):∀fs:List (Str×V),f∈(cq f v fs).map (·.1)/\∀g,g∈fs.map (·.1)->g∈(cq f v fs).map (·.1)
 |[]=>⟨by simp[cq],λg h=>by simp at h⟩
 |(k,x) :: r=>by
  obtain⟨a,b⟩:=pf f v r;rw[show cq f v ((k,x) :: r)=(if k=f then(k,v) :: r else(k,x) :: cq f v r) from rfl]
  by_cases c:k=f
  ·grind
  ·grind
theorem q9(f:Str)(v:V):∀fs:List (Str×V),(cq f v fs).length<=fs.length + 1
 |[]=>by simp[cq]
 |(k,x) :: r=>by
  have a:=q9 f v r;rw[show cq f v ((k,x) :: r)=(if k=f then(k,v) :: r else(k,x) :: cq f v r) from rfl]
  by_cases b:k=f
  ·grind
  ·grind
theorem iz.wB(r:iz (some v) o):∃u,o=some u/\RelV v u:=by
 cases o with
 |none=>exact(show False from r).elim
 |some u=>exact⟨u,rfl,r⟩
theorem iz.none_of(r:iz none o):o=none:=by grind [iz,cases False]
theorem CA(r:RelV v u):wg8 u=true:=by
 cases v with
 |non=>cases(show u=waO from r);rfl
 |bl b=>cases(show u=wfd b from r);rfl
 |int i=>obtain⟨t,e⟩:=(show ∃t,u=wey i t from r);cases e;rfl
 |str x=>obtain⟨t,e⟩:=(show ∃t,u=wez x t from r);cases e;rfl
 |byt b=>obtain⟨t,e⟩:=(show ∃t,u=Value.bytes b t from r);cases e;rfl
 |flt b=>obtain⟨t,e⟩:=(show ∃t,u=wg0 b t from r);cases e;rfl
 |ref a=>cases(show u=ZD a from r);rfl
 |ty n=>cases(show u=wdj n from r);rfl
section
variable{P:ZH}{w:World}{H H':Hp}{h h':Heap}{a C dx:Addr}{fs Pn:List (Str×V)}
theorem rG(aZ:j4 P w H h)(e:H a=some (.ins C dx fs)):∃g,zP h a dx C g/\(∀f,iz (fs.lookup f) (g f))/\wcE g (fs.map (·.1))/\fs.length<=1000/\H dx=some (.own a):=by
 obtain⟨d,z,ne,ob,g,n,r,q⟩:=(show bO P w H h a (.ins C dx fs) from aZ a _ e);exact⟨g,⟨ob,n,ne⟩,r,q,z,d⟩
end
structure zQ(K:Zh)(C:Addr):Prop where
 pg:wd7 K C wgx=true
 hd:wdn K C=true
 po:weY K C=true
 sa:waq K (.ref C) "__setattr__"=some (some (.builtin "object.__setattr__"))
theorem zQ.get{K:Zh}{C:Addr}(c:zQ K C)(f:Str):wd7 K C f=true:=c.pg
def bQ(K:Zh)(C:Addr)(f:Str):Prop:=waq K (.ref C) f=some none
theorem bQ.Mt{K:Zh}{C:Addr}{f:Str}(n:bQ K C f):weC K C f=some none:=by
 unfold weC;rw[show waq K (.ref C) f=some none from n];rfl
structure He(K:Zh)(C:Addr)(m:Str)(f:Addr):Prop where
 at_:waq K (.ref C) m=some (some (.ref f))
 fn:wef K (.ref f)=true
 kp:wbP K (.ref f)=true
section
variable{X:Cx}{pins:List (Addr×Obj)}{σ:St}{H:Hp}{s:Shared}{a C dx:Addr}{fs:List (Str×V)}{f:Str}{v:V}{A:Around}{E:Value->Shared->Prop}
theorem zR{Q:Value->Shared->Prop}(I:Inv X pins σ H s)(e:H a=some (.ins C dx fs))(c:zQ X.K C)(n:bQ X.K C f)(l:fs.lookup f=some v)
 (h:∀u s',Inv X pins σ H s'->RelV v u->Q u s'):wpAny (model X.prog X.w) A (getAttr (.ref a) f b) Q E s:=by
 obtain⟨g,O,r,_,_,_⟩:=rG I.aZ e;obtain⟨u,i,d⟩:=iz.wB (v:=v) (o:=g f) (by grind);exact get_map I.gy O (c.get f) c.hd n i (CA d) (h u _ (I.tok _) d)
theorem rY{Q:Value×List Value->Shared->Prop}(I:Inv X pins σ H s)(e:H a=some (.ins C dx fs))(c:zQ X.K C)(k:He X.K C m g)(l:fs.lookup m=none)
 (h:Q (.ref g,[.ref a]) s):wpAny (model X.prog X.w) A (weB (.ref a) m pl) Q E s:=by
 obtain⟨b,O,r,_,_,_⟩:=rG I.aZ e;have hn:b m=none:=iz.none_of (by grind);exact Ei I.gy O (c.get m) k.at_ k.fn hn h
theorem zS{Q:Unit->Shared->Prop}(I:Inv X pins σ H s)(e:H a=some (.ins C dx fs))(c:zQ X.K C)(n:bQ X.K C f)(hl:fs.length < 1000)(l:RelV y u)
 (h:∀s',Inv X pins σ (upd H a (.ins C dx (cq f y fs))) s'->Q () s'):wpAny (model X.prog X.w) A (setAttr (.ref a) f u) Q E s:=by
 obtain⟨i,O,r,j,_,k⟩:=rG I.aZ e;have m:(fs.map (·.1)).length<=sizeLine:=by rw[Zf,wbe];omega
 refine Hd I.gy O c.sa c.po n.Mt c.hd j m λp d sb=>h _ ?_;have hd:∃o,p.get? dx=some o:=let ⟨o,_,_,t,_⟩:=d.ns;⟨o,t⟩
 refine I.write (x:=a) (e:=dx) (by rw[e];exact waP) (.inr k) (λb q v z=>(sb.2 b v).trans z) hd ?_;refine⟨by rw[ae O.ne];exact k,?_,O.ne,d.obj,_,d.ns,λg=>?_,λg B=>?_⟩
 ·have:=q9 f y fs;omega
 ·show iz ((cq f y fs).lookup g) (if g=f then some u else i g);rw[aC]
  by_cases q:g=f
  ·rw[if_pos q,if_pos q];exact l
  ·rw[if_neg q,if_neg q];exact r g
 ·by_cases q:g=f
  ·rw[q];exact(pf f y fs).1
  ·refine(pf f y fs).2 g (j g λz=>B ?_);show (if g=f then some u else i g)=none;rw[if_neg q];exact z
theorem Inv.made(I:Inv X pins σ H s):Inv X pins σ (upd (upd H s.heap.objs.size (.own (s.heap.objs.size + 1))) (s.heap.objs.size + 1) (.ins C s.heap.objs.size []))
 {s with heap:=(s.heap.push wb2).push (wbl C s.heap.objs.size)}:=by
 have c:(s.heap.push wb2).get? s.heap.objs.size=some wb2:=ZP s.heap rfl
 have d:((s.heap.push wb2).push (wbl C s.heap.objs.size)).get? (s.heap.objs.size + 1)=some (wbl C s.heap.objs.size):=by
  have:=ZP (s.heap.push wb2) (o:=wbl C s.heap.objs.size) rfl;rwa[waY]at this
 have f:(s.heap.push wb2).Ns s.heap.objs.size (λ_=>none):=⟨wb2,#[],_,c,rfl,(λe g=>absurd g (by simp)),λ_=>rfl⟩;have h:=I.laid (a:=s.heap.objs.size) (o:=.own (s.heap.objs.size + 1)) (h':=s.heap.push wb2) (t':=s.toks) (λb u q=>Zo _ q) (Zr _) ⟨_,c⟩;refine h.laid (a:=s.heap.objs.size + 1) (o:=.ins C s.heap.objs.size []) (t':=s.toks) (λb u q=>Zo _ q) (wdo (waY _ _)) ?_;have ne:s.heap.objs.size≠s.heap.objs.size + 1:=ZJ (wb6 _);refine⟨by rw[ae ne,a6],wa0 _,ne,d,λ_=>none,(wfP f).at λo q=>Zo _ q,λ_=>waP,λy i=>absurd rfl i⟩
theorem Hf{Q:Value->Shared->Prop}(j:wbH e f env (eval e env)=eval e env)
 (h:wpAny (model prog w) A (eval e env) (λo g=>wpAny (model prog w) A (getAttr o f true) Q E g) E s):wpAny (model prog w) A (eval (.Attribute e f pos) env) Q E s:=
 Attribute_any_ h (by rw[arm_eval_Attribute,j])
end
inductive V0(K:Zh)(f:Str)(x:V)(H:Hp)(Q:VK):Prop
 |mk (a C dx fs v) (_:x=.ref a) (_:H a=some (.ins C dx fs)) (_:zQ K C) (_:bQ K C f) (_:fs.lookup f=some v) (_:Q v H)
def Mu(K:Zh)(ta:TE)(f:Str):TE:=λσ H Q=>ta σ H λx H1=>V0 K f x H1 Q
def PL(K:Zh)(ta tv:TE)(f:Str):TS:=λD σ H=>tv σ H λy H1=>ta σ H1 λx H2=>∃a C dx fs,x=.ref a/\H2 a=some (.ins C dx fs)/\zQ K C/\bQ K C f/\fs.length < 1000 /\
 D.nx σ (upd H2 a (.ins C dx (cq f y fs)))
section
variable{X:Cx}{o e value:Expr}{f:Str}{pos pos' PN:Pos}{ta tv:TE}
theorem aO(g:PE X e ta)(j:wbH e f X.env (eval e X.env)=eval e X.env):PE X (.Attribute e f pos) (Mu X.K ta f):=by
 intro b s σ H Q I h;refine Hf j (bS (g b s σ H _ I h) λu r ⟨x,d,i,k,a,C,t,fs,v,ex,m,c,n,l,q⟩=>?_);subst ex;obtain rfl:u=ZD a:=k;exact zR i m c n l λw y o p=>⟨v,d,o,p,q⟩
theorem cO(ha:PE X o ta)(g:PE X value tv)(hs:wbd value (some (.Attribute o f pos')) pos.line X.env=pure false):PS X (.Assign [.Attribute o f pos'] value pos) (PL X.K ta tv f):=by
 intro b s σ H D I h;refine wbU (bS (g b s σ H _ I h) λu d ⟨y,e,i,j,q⟩=>bS (ha b d σ e _ i q) λk z m=>?_) hs;obtain⟨x,A,p,r,a,C,B,fs,ex,t,c,n,l,v⟩:=m;subst ex;obtain rfl:k=ZD a:=r;exact zS p t c n l j λE w=>⟨σ,_,w,v⟩
end
section
variable{X:Cx}{pins:List (Addr×Obj)}{σ:St}{H:Hp}{s:Shared}{A:Around}{E:Value->Shared->Prop}{Q:Value->Shared->Prop}{c:Value}{b:Bool}
set_option genInjectivity true in
inductive gQ(K:Zh)(H:Hp):V->Value->Prop where
 |non:gQ K H .non (.type "NoneType")
 |bl (x:Bool):gQ K H (.bl x) (.type "bool")
 |int (i:Int):gQ K H (.int i) (.type "int")
 |str (x:Str):gQ K H (.str x) (.type "str")
 |flt (x:UInt64):gQ K H (.flt x) (.type "float")
 |lst {a:Addr} {xs:List V} (e:H a=some (.lst xs)):gQ K H (.ref a) (.type "list")
 |frz {a:Addr} {o:Obj} {xs:List V} (e:H a=some (.frz o (.lst xs))):gQ K H (.ref a) (.type "list")
 |tup {a:Addr} {xs:List V} (e:H a=some (.tup xs)):gQ K H (.ref a) (.type "tuple")
 |dK {a:Addr} {kvs:List (Key×V)} (e:H a=some (.dK kvs)):gQ K H (.ref a) (.type "dict")
 |dT {a:Addr} {kvs:List (List Key×V)} (e:H a=some (.dT kvs)):gQ K H (.ref a) (.type "dict")
 |ins {a C dx:Addr} {fs:List (Str×V)} (e:H a=some (.ins C dx fs)) (cl:zQ K C) (ha:waq K (.ref C) "__class__"=some (some (.builtin "object.__class__")))
   (hn:wdR K (.builtin "object.__class__") "__get__"=some (some (.builtin "getset_descriptor.__get__"))) (mR:PySem.W.takesIn K (.builtin "object.__class__")=some true)
   (hm:PySem.W.mroIn K C (.type "object")=some true):gQ K H (.ref a) (.ref C)
theorem CC(I:Inv X pins σ H s)(g:RelV x u)(ty:gQ X.K H x t)(e:wgu X.K t c=some b)(h:∀tk,Q (.bool b) {s with toks:=tk}) :
 wpAny (model X.prog X.w) A (call (.builtin "isinstance") [u,c]) Q E s:=by
 cases ty with
 |non=>cases(show u=waO from g);exact waS PySem.W.kitx_none I.gy waP e (λz=>nomatch z) h
 |bl y=>cases(show u=wfd y from g);exact waS PySem.W.kitx_bool I.gy waP e (λz=>nomatch z) h
 |int i=>obtain⟨t,q⟩:=(show ∃t,u=wey i t from g);cases q;exact waS PySem.W.kitx_int I.gy waP e (λz=>nomatch z) h
 |str y=>obtain⟨t,q⟩:=(show ∃t,u=wez y t from g);cases q;exact waS PySem.W.kitx_str I.gy waP e (λz=>nomatch z) h
 |flt y=>obtain⟨t,q⟩:=(show ∃t,u=wg0 y t from g);cases q;exact waS PySem.W.kitx_float I.gy waP e (λz=>nomatch z) h
 |@lst a k d=>
  cases(show u=ZD a from g);obtain⟨_,_,n,_,f⟩:=(show bO X.prog X.w H s.heap a (.lst k) from I.aZ a _ d);exact waS wfQ I.gy ⟨_,f,rfl⟩ e (λz=>nomatch z) h
 |@frz a ob k d=>
  cases(show u=ZD a from g);obtain⟨_,_,_,n,_,f⟩:=(show bO X.prog X.w H s.heap a (.frz ob (.lst k)) from I.aZ a _ d);exact waS wfQ I.gy ⟨_,f,rfl⟩ e (λz=>nomatch z) h
 |@tup a k d=>
  cases(show u=ZD a from g);obtain⟨_,_,_,p⟩:=(show bO X.prog X.w H s.heap a (.tup k) from I.aZ a _ d);obtain⟨o,f,l,_⟩:=p;exact waS PySem.W.kitx_tuple I.gy ⟨o,f,l⟩ e (λz=>nomatch z) h
 |@dK a j d=>
  cases(show u=ZD a from g);obtain⟨_,_,B,_,p⟩:=(show bO X.prog X.w H s.heap a (.dK j) from I.aZ a _ d);obtain⟨o,m,r,f,l,_⟩:=p;exact waS wfR I.gy ⟨o,f,l.1⟩ e (λz=>nomatch z) h
 |@dT a j d=>
  cases(show u=ZD a from g);obtain⟨_,_,k,_,o,m,r,f,l,_⟩:=(show bO X.prog X.w H s.heap a (.dT j) from I.aZ a _ d);exact waS wfR I.gy ⟨o,f,l.1⟩ e (λz=>nomatch z) h
 |@ins a C D fs d cl ha hn mR v=>
  cases(show u=ZD a from g);obtain⟨F,O,_⟩:=rG I.aZ d;obtain⟨G,J,_⟩:=O.look;exact waS (PySem.W.kitx_own (cl.get _) cl.hd ha hn mR v) I.gy J e (λz=>nomatch z) h
end
structure d4(k:Nat)(A:Around):Prop where
 hd:A.handled=none
 dp:A.depth + 3 * k + 5 < recursionLimit
 un:A.units + 16 * k + 200 < wbT
theorem d4.mono(r:d4 k A)(h:j<=k):d4 j A:=⟨r.hd,by have:=r.dp;omega,by have:=r.un;omega⟩
theorem d4.deeper(r:d4 (k + 1) A)(env:Env):d4 k (A.deeper env):=
 ⟨r.hd,by have:=r.dp;show A.depth + 1 + 3 * k + 5 < _;omega,by have:=r.un;show A.units + 3 + 16 * k + 200 < _;omega⟩
theorem d4.in1(r:d4 (k + 1) A):d4 k A.in1:=
 ⟨r.hd,by have:=r.dp;show A.depth + 3 * k + 5 < _;omega,by have:=r.un;show A.units + 1 + 16 * k + 200 < _;omega⟩
theorem zT{A:Around}{C:Addr}{us:List Value}{g:List (Str×Value)}:(A.under (.builtin "type.__call__" ⟨.ref C :: us,g⟩)).depth=A.depth + 1:=by
 first |rfl |simp[wfE,Code.weight,Code.isCreation,Code.isGuard,Code.isCaller,Code.frames,wfF,guardIds]
theorem zU{A:Around}{C:Addr}{us:List Value}{g:List (Str×Value)}:(A.under (.builtin "type.__call__" ⟨.ref C :: us,g⟩)).units=A.units + 1:=by
 first |rfl |simp[wfE,Code.cUnits,Code.frames,wfF]
theorem d4.make(r:d4 (k + 1) A)(C:Addr)(us:List Value)(g:List (Str×Value)):d4 k (A.under (.builtin "type.__call__" ⟨.ref C :: us,g⟩)):=
 ⟨r.hd,by have:=r.dp;rw[zT];omega,by have:=r.un;rw[zU];omega⟩
theorem d4.depth(r:d4 k A):A.depth < recursionLimit:=by have:=r.dp;omega
theorem d4.units(r:d4 k A):A.units + 64 < wbT:=by have:=r.un;omega
theorem d4.wC(r:d4 k A):A.units < wbT:=by have:=r.un;omega
def Ej:TA:=λ_ H Q=>Q [] H
def ya(ta:TE)(tr:TA):TA:=λσ H Q=>ta σ H λx H1=>tr σ H1 λxs H2=>Q (x :: xs) H2
section
variable{X:Cx}{e:Expr}{es:List Expr}{te:TE}{t:TA}{pos:Pos}
theorem a9:PA X [] Ej:=λ_ _ _ _ H Q I h=>Calls.spliced_nil ⟨[],H,I,.nil,h⟩
theorem a5(ha:PE X e te)(g:PA X es t)(hs:starEach (e :: es) X.env=(false,eval e X.env) :: starEach es X.env:=by rfl):PA X (e :: es) (ya te t):=by
 intro pos a s σ H Q I h;rw[hs];show wpAny _ _ (spliced ((false,eval e X.env) :: backTo pos (starEach es X.env))) _ _ s;refine Calls.spliced_cons (bS (ha a s σ H _ I h) λu b ⟨x,c,d,f,i⟩=>?_);exact bS (g pos a b σ c _ d i) λo p ⟨j,k,l,m,n⟩=>⟨x :: j,k,l,.cons f m,n⟩
inductive V1(xs:List V)(H:Hp)(Q:VK):Prop
 |mk (_:xs.length<=sizeLine) (_:∀p,H p=none->Q (.ref p) (upd H p (.tup xs)))
def Mv(t:TA):TE:=λσ H Q=>t σ H λxs H1=>V1 xs H1 Q
inductive V2(xs:List V)(H:Hp)(Q:VK):Prop
 |mk (_:xs.length<=sizeLine) (_:∀p,H p=none->Q (.ref p) (upd H p (.lst xs)))
def Mw(t:TA):TE:=λσ H Q=>t σ H λxs H1=>V2 xs H1 Q
theorem dj{g}(h:PA X es t):PE X (.Tuple es g pos) (Mv t):=by
 intro a s σ H Q I i;refine wpAny_Tuple_spliced (bS (h pos a s σ H _ I i) λj c ⟨k,d,f,r,z,q⟩=>⟨by rw[<-r.length];exact z,?_⟩);have l:d c.heap.objs.size=none:=f.aZ.fresh (Zr _);refine⟨.ref c.heap.objs.size,upd d c.heap.objs.size (.tup k),f.laid (t':=c.toks) (λb u e=>Zo _ e) (Zr _) ?_,rfl,q _ l⟩;exact⟨z,j,r,⟨_,ZP _ rfl,rfl,_,rfl⟩⟩
theorem cj(h:PA X es t):PE X (.List es pos) (Mw t):=by
 intro a s σ H Q I g;refine wpAny_List_spliced (bS (h pos a s σ H _ I g) λi c ⟨j,d,f,r,z,q⟩=>⟨by rw[<-r.length];exact z,?_⟩);have k:d c.heap.objs.size=none:=f.aZ.fresh (Zr _);refine⟨.ref c.heap.objs.size,upd d c.heap.objs.size (.lst j),f.laid (t':=c.toks) (λb u e=>Zo _ e) (Zr _) ?_,rfl,q _ k⟩;exact⟨z,i,0,r,ZP _ rfl⟩
end
noncomputable abbrev Sp:=List V->Hp->VK->XK->Prop
noncomputable abbrev BE:=List Env->Hp->Shared->XK->Value->Shared->Prop
structure uz(P:ZH)(w:World)(K:Zh)(mg:Str->Option Value)(base:Heap)(A:Around)(outer:List Env)(s:Shared)(H:Hp):Prop where
 frames:A.frames=some outer
 mod:Mod K mg base
 bs:∀b o,base.get? b=some o->s.heap.get? b=some o/\H b=none
 DY:base.objs.size<=s.heap.objs.size
 mP:s.heap.FunFrames base outer
 GI:∀b∈q8 outer,H b=none
 aZ:j4 P w H s.heap
 bare:AllBare s.gens
def CE(outer:List Env)(P:ZH)(w:World)(H:Hp)(s:Shared)(Q:VK)(u:Value)(s':Shared):Prop:=
 ∃v H',s'.os=s.os/\AllBare s'.gens/\Un (q8 outer) [] H H' s.heap s'.heap/\j4 P w H' s'.heap/\RelV v u/\Q v H'
def CR(CX:BE)(outer:List Env)(P:ZH)(w:World)(H:Hp)(s:Shared)(Q:VK)(E:XK)(r:wc4)(s':Shared):Prop:=
 match r with
 |.ok (.ret u)=>CE outer P w H s Q u s'
 |.ok _=>False
 |.error e=>CX outer H s E e s'
structure aM(P:ZH)(w:World)(K:Zh)(mg:Str->Option Value)(base:Heap)(CX:BE)(k:Nat)(f:Addr)(fd:Zv)(ps:List Str)(sp:Sp):Prop where
 len:∀vs H Q E,sp vs H Q E->vs.length=ps.length
 run:∀(A:Around) (outer:List Env) (s:Shared) (H:Hp) (args:Args) (us:List Value) (vs:List V) (Q:VK) (E:XK),d4 k A->uz P w K mg base A outer s H->BindsTo s fd args (ps.zip us)->Vals vs us->sp vs H Q E ->
  codeAny (model P w) A (.call (.ref f) args) (CR CX outer P w H s Q E) s
theorem aM.mono{P:ZH}{w:World}{K:Zh}{mg:Str->Option Value}{base:Heap}{CX:BE}{j k:Nat}{f:Addr}{fd:Zv}{ps:List Str}{sp:Sp}(F:aM P w K mg base CX j f fd ps sp)(h:j<=k) :
 aM P w K mg base CX k f fd ps sp:=⟨F.len,λA outer s H args a b Q E c=>F.run A outer s H args a b Q E (c.mono h)⟩
theorem aM.imp{P:ZH}{w:World}{K:Zh}{mg:Str->Option Value}{base:Heap}{CX:BE}{k:Nat}{f:Addr}{fd:Zv}{ps:List Str}{sp g:Sp}(F:aM P w K mg base CX k f fd ps sp)
 (h:∀vs H Q E,g vs H Q E->sp vs H Q E):aM P w K mg base CX k f fd ps g:=
 ⟨λvs H Q E q=>F.len vs H Q E (h _ _ _ _ q),λA outer s H args a vs Q E b c d e i=>F.run A outer s H args a vs Q E b c d e (h _ _ _ _ i)⟩
theorem uz.make{P:ZH}{w:World}{K:Zh}{mg:Str->Option Value}{base:Heap}{A:Around}{outer:List Env}{s:Shared}{H:Hp}(e:uz P w K mg base A outer s H)(C:Addr)(us:List Value)(g:List (Str×Value)) :
 uz P w K mg base (A.under (.builtin "type.__call__" ⟨.ref C :: us,g⟩)) outer s H:=⟨by first |exact e.frames |(simpa [wfE,Code.envs,wfF,pushEnvs] using e.frames),e.mod,e.bs,e.DY,e.mP,e.GI,e.aZ,e.bare⟩
theorem uz.in1{P:ZH}{w:World}{K:Zh}{mg:Str->Option Value}{base:Heap}{A:Around}{outer:List Env}{s:Shared}{H:Hp}(e:uz P w K mg base A outer s H) :
 uz P w K mg base A.in1 outer s H:=⟨e.frames,e.mod,e.bs,e.DY,e.mP,e.GI,e.aZ,e.bare⟩
section
variable{X:Cx}{pins:List (Addr×Obj)}{σ:St}{H:Hp}{s s':Shared}
theorem Inv.Hg(I:Inv X pins σ H s):uz X.prog X.w X.K X.mg X.base X.A X.stack s H:=
 ⟨I.ok.frames,I.ok.mod,I.bs,ZE I.ok.DY I.sz,I.stack,I.rE,I.aZ,I.bare⟩
theorem Inv.after(I:Inv X pins σ H s)(h:CE X.stack X.prog X.w H s Q u s'):EP X pins σ Q u s':=by
 obtain⟨v,c,os,bare,un,aZ,r,q⟩:=h;obtain⟨e,g,d,t,a⟩:=s';obtain rfl:a=s.os:=os;exact⟨v,c,I.call (h':=e) (g':=g) (d':=d) (t':=t) (ch:=[]) un aZ bare (λb z=>absurd z (by simp)),r,q⟩
end
def Jd(sp:Sp)(uA:List V)(E:XK)(t:TA):TE:=λσ H Q=>t σ H λvs H1=>sp (vs++uA) H1 Q E
inductive V3(C:Addr)(m:Str)(x:V)(H:Hp)(k:Prop):Prop
 |mk (a dx fs) (_:x=.ref a) (_:H a=some (.ins C dx fs)) (_:fs.lookup m=none) (_:k)
def Je(C:Addr)(m:Str)(sp:Sp)(uA:List V)(E:XK)(ta:TE)(t:TA):TE:=λσ H Q=>ta σ H λx H1=>V3 C m x H1 (t σ H1 λvs H2=>sp (x :: (vs++uA)) H2 Q E)
def Mx(C:Addr)(sp:Sp)(uA:List V)(E:XK)(t:TA):TE:=λσ H Q=>t σ H λvs H1=>∀x dx,H1 x=none->H1 dx=none->dx≠x ->
 sp (.ref x :: (vs++uA)) (upd (upd H1 dx (.own x)) x (.ins C dx [])) (λv H2=>v=.non/\Q (.ref x) H2) E
def Binds(K:Zh)(fd:Zv)(ps:List Str)(ds:List Value):Prop:=
 ∀(s:Shared) (us:List Value),K.In s.heap->(us++ds).length=ps.length->BindsTo s fd ⟨us,[]⟩ (ps.zip (us++ds))
theorem Binds.all{K:Zh}{fd:Zv}{ps:List Str}(h:∀us:List Value,us.length=ps.length->bindArgs fd ⟨us,[]⟩=pure (ps.zip us)):Binds K fd ps []:=λs us _ hl=>by
 rw[waf]at hl ⊢;exact .of_eq (h us hl)
def Passes(CX:BE)(X:Cx)(E:XK):Prop:=∀(pins:List (Addr×Obj)) (σ:St) (H:Hp) (s:Shared) (e:Value) (s':Shared),Inv X pins σ H s->CX X.stack H s E e s'->X.xe e s'
section
variable{X:Cx}{CX:BE}{k:Nat}{f C:Addr}{fd:Zv}{ps:List Str}{sp:Sp}{uA:List V}{ds:List Value}{E:XK}{x m:Str}{p pos apos:Pos}{e o:Expr}{es:List Expr}{ta:TE}{t:TA}
theorem zV(F:aM X.prog X.w X.K X.mg X.base CX k f fd ps sp)(j:d4 k X.A)(l:Binds X.K fd ps ds)(hd:Vals uA ds)(J:Passes CX X E)
 (I:Inv X g σ H s) (r:Vals vs us) (h:sp (vs++uA) H Q E):wpAny (model X.prog X.w) X.A (call (.ref f) us) (EP X g σ Q) X.xe s:=by
 have b:Vals (vs++uA) (us++ds):=r.append hd;have hl:(us++ds).length=ps.length:=by rw[<-b.length];exact F.len _ _ _ _ h
 refine wc5 (wbf (F.run X.A X.stack s H ⟨us,[]⟩ (us++ds) (vs++uA) Q E j I.Hg (l s us I.gy hl) b h) λr c a=>?_)
 cases r with
 |error e=>exact J g σ H s e c I a
 |ok fl=>
  cases fl with
  |ret u=>exact I.after a
  |next=>exact waa a
  |brk=>exact waa a
  |cont=>exact waa a
theorem ja(F:aM X.prog X.w X.K X.mg X.base CX k f fd ps sp)(l:d4 k X.A)(J:Gl X x)(T:X.mg x=some (.ref f))(U:wbP X.K (.ref f)=true)(hb:Binds X.K fd ps ds)(hd:Vals uA ds)(hx:Passes CX X E)
 (ha:PA X (e :: es) t) (g:(x == ("__debug__":Str))=false:=by decide) (he:starEach (e :: es) X.env=(false,eval e X.env) :: starEach es X.env:=by rfl) (j:(backTo pos (starEach es X.env)).any (·.1)=false:=by rfl) :
 PE X (.Call (.Name x p) (e :: es) [] pos) (Jd sp uA E t):=by
 intro a s σ H Q I h;refine waL (fM I J T ?_ g);refine wbA (h₀:=X.base) I.ok.mod.Ja U (bS (ha pos a s σ H _ I h) λc d ⟨i,m,b,r,q⟩=>⟨b.gy,?_⟩) he j;exact zV F l hb hd hx b r q
theorem gz(U:PE X o ta)(c:zQ X.K C)(J:He X.K C m f)(F:aM X.prog X.w X.K X.mg X.base CX k f fd ps sp)(hr:d4 k X.A)(hb:Binds X.K fd ps ds)(hd:Vals uA ds)(hx:Passes CX X E)(ha:PA X (e :: es) t)
 (g:starEach (e :: es) X.env=(false,eval e X.env) :: starEach es X.env:=by rfl) (j:(backTo pos (starEach es X.env)).any (·.1)=false:=by rfl)
 (ht:eval (.Call (.Attribute o m apos) (e :: es) [] pos) X.env=(do
   let T <-eval o X.env
   standAt apos.atName
   let (f,first) <-holding [T] (weB T m pl)
   callWith pos f first (backTo pos (starEach (e :: es) X.env)) (backToKw pos (wd1 [] X.env))):=by rfl) :
 PE X (.Call (.Attribute o m apos) (e :: es) [] pos) (Je C m sp uA E ta t):=by
 intro b s σ H Q I h;refine wde (pl:=pl) (bS (U b s σ H _ I h) λu n ⟨x,p,d,v,a,B,fs,ex,y,l,q⟩=>?_) ht;subst ex;obtain rfl:u=ZD a:=v;refine rY d y c J l ?_;refine wbA (first:=[.ref a]) (h₀:=X.base) I.ok.mod.Ja J.kp (bS (ha pos b n σ p _ d q) λus D ⟨vs,G,i,r,z⟩=>⟨i.gy,?_⟩) g j;exact zV (us:=.ref a :: us) (vs:=.ref a :: vs) F hr hb hd hx i (.cons rfl r) z
theorem dk(r:PE X o ta)(c:zQ X.K C)(g:He X.K C m f)(F:aM X.prog X.w X.K X.mg X.base CX k f fd ps sp)(J:d4 k X.A)(T:Binds X.K fd ps ds)(hd:Vals uA ds)(U:Passes CX X E)
 (ht:eval (.Call (.Attribute o m apos) [] [] pos) X.env=(do
   let j <-eval o X.env
   standAt apos.atName
   let (f,first) <-holding [j] (weB j m pl)
   callWith pos f first (backTo pos (starEach [] X.env)) (backToKw pos (wd1 [] X.env))):=by rfl) :
 PE X (.Call (.Attribute o m apos) [] [] pos) (Je C m sp uA E ta Ej):=by
 intro b s σ H Q I h;refine wde (pl:=pl) (bS (r b s σ H _ I h) λu n ⟨x,p,d,e,a,t,fs,ex,i,l,q⟩=>?_) ht;subst ex;obtain rfl:u=ZD a:=e;refine rY d i c g l ?_;exact PySem.W.callWith_K0 (first:=[.ref a]) d.gy g.kp (zV (us:=[.ref a]) (vs:=[.ref a]) F J T hd U d (.cons rfl .nil) q)
structure Mk(K:Zh)(C f:Addr):Prop where
 makes:wgl K C=true
 init:waq K (.ref C) "__init__"=some (some (.ref f))
 fn:wef K (.ref f)=true
 kp:wbP K (.ref C)=true
theorem Ek(M:Mk X.K C f)(F:aM X.prog X.w X.K X.mg X.base CX k f fd ps sp)(l:d4 (k + 1) X.A)(J:Binds X.K fd ps ds)(hd:Vals uA ds)
 (T:Passes CX X E) (I:Inv X g σ H s) (r:Vals vs us)
 (h:∀x j,H x=none->H j=none->j≠x->sp (.ref x :: (vs++uA)) (upd (upd H j (.own x)) x (.ins C j [])) (λv U=>v=.non/\Q (.ref x) U) E) :
 wpAny (model X.prog X.w) X.A (call (.ref C) us) (EP X g σ Q) X.xe s:=by
 have c:=h (s.heap.objs.size + 1) s.heap.objs.size (I.aZ.fresh (wbx _)) (I.aZ.fresh (Zr _)) (ZJ (wb6 _));have b:=Inv.made (C:=C) I;have d:Vals (V.ref (s.heap.objs.size + 1) :: (vs++uA)) (ZD (s.heap.objs.size + 1) :: (us++ds)):=.cons rfl (r.append hd)
 have hl:(ZD (s.heap.objs.size + 1) :: us++ds).length=ps.length:=by
  have e:=d.length;rw[F.len _ _ _ _ c]at e;exact e.symm
 refine wc5 (y9 (f:=f) I.gy M.makes M.init (beq_iff_eq.mp M.fn) (wbf (F.run _ X.stack _ _ ⟨ZD (s.heap.objs.size + 1) :: us,[]⟩ (ZD (s.heap.objs.size + 1) :: (us++ds)) _ _ E (l.make C us [])
  (b.Hg.make C us []) (J _ (ZD (s.heap.objs.size + 1) :: us) b.gy hl) d c) λr i a=>?_))
 cases r with
 |error e=>exact T g σ _ _ e i b a
 |ok fl=>
  cases fl with
  |ret u=>
   obtain⟨v,m,n,o,p,q⟩:=b.after a;subst p;exact⟨o,⟨V.ref (s.heap.objs.size + 1),m,n,rfl,q⟩⟩
  |next=>exact waa a
  |brk=>exact waa a
  |cont=>exact waa a
theorem jb(M:Mk X.K C f)(F:aM X.prog X.w X.K X.mg X.base CX k f fd ps sp)(l:d4 (k + 1) X.A)(J:Gl X x)(T:X.mg x=some (.ref C))(U:Binds X.K fd ps ds)(hd:Vals uA ds)(hx:Passes CX X E)
 (ha:PA X (e :: es) t) (g:(x == ("__debug__":Str))=false:=by decide) (he:starEach (e :: es) X.env=(false,eval e X.env) :: starEach es X.env:=by rfl) (j:(backTo pos (starEach es X.env)).any (·.1)=false:=by rfl) :
 PE X (.Call (.Name x p) (e :: es) [] pos) (Mx C sp uA E t):=by
 intro a s σ H Q I h;refine waL (fM I J T ?_ g);refine wbA (h₀:=X.base) I.ok.mod.Ja M.kp (bS (ha pos a s σ H _ I h) λc d ⟨i,m,b,r,q⟩=>⟨b.gy,?_⟩) he j;exact Ek M F l U hd hx b r q
end
section
variable{X:Cx}{CX:BE}{k:Nat}{f C:Addr}{fd:Zv}{ps ks:List Str}{sp:Sp}{E:XK}{x m:Str}{p pos apos V4:Pos}{e o:Expr}{es:List Expr}{Y1:List wec}{te ta:TE}{t tk:TA}{nm:Option Str}
variable{g:List Value->List Value->List Value}{gV:List V->List V->List V}
end
structure rH(N P:List Str)(sc:wc3):Prop where
 kind:sc.kind=.function
 co:sc.isCoroutine=false
 gen:sc.isGenerator=false
 nd:N.Nodup
 pre:N.take P.length=P
 par:∀x∈P,sc.names.lookup x=some .local\/sc.names.lookup x=some .cell
 K7:∀y∈sc.names,y.2≠.free
theorem vi{kindOf:Str->Option wd8}:∀{binds:List (Str×Value)} {m:Str->Option Value},(∀v,(x,v)∉binds)->bindL kindOf binds m x=m x
 |[],_,_=>rfl
 |(n,v) :: r,m,h=>by
  unfold bindL;rw[vi λw hw=>h w (Zt _ hw)];split
  ·grind
  ·rfl
theorem vj{kindOf:Str->Option wd8}:∀{binds:List (Str×Value)} {m:Str->Option Value},(∀v,(x,v)∉binds)->bindC kindOf binds m x=m x
 |[],_,_=>rfl
 |(n,v) :: r,m,h=>by
  unfold bindC;rw[vj λw hw=>h w (Zt _ hw)];split
  ·rfl
  ·grind
theorem vk{kindOf:Str->Option wd8}:∀{P:List Str} {vs:List Value} {i:Nat} {m:Str->Option Value},P.Nodup->P[i]?=some x->vs[i]?=some v->kindOf x=some .local ->
 bindL kindOf (P.zip vs) m x=some v
 |[],_,_,_,_,h,_,_=>by simp at h
 |_ :: _,[],_,_,_,_,h,_=>by simp at h
 |p :: P,w :: vs,0,m,nd,a,b,c=>by
  simp at a b;subst a;subst b;show bindL kindOf ((p,w) :: P.zip vs) m p=_;unfold bindL;rw[vi λv d=>(wa9.mp nd).1 (weE d).1,if_pos c];simp
 |p :: P,w :: vs,i + 1,m,nd,a,b,c=>by
  show bindL kindOf ((p,w) :: P.zip vs) m x=_;unfold bindL;exact vk (i:=i) (wa9.mp nd).2 (by simpa using a) (by simpa using b) c
theorem vm{kindOf:Str->Option wd8}:∀{P:List Str} {vs:List Value} {i:Nat} {m:Str->Option Value},P.Nodup->P[i]?=some x->vs[i]?=some v->kindOf x≠some .local ->
 bindC kindOf (P.zip vs) m x=some v
 |[],_,_,_,_,h,_,_=>by simp at h
 |_ :: _,[],_,_,_,_,h,_=>by simp at h
 |p :: P,w :: vs,0,m,nd,a,b,c=>by
  simp at a b;subst a;subst b;show bindC kindOf ((p,w) :: P.zip vs) m p=_;unfold bindC;rw[vj λv d=>(wa9.mp nd).1 (weE d).1,if_neg c];simp
 |p :: P,w :: vs,i + 1,m,nd,a,b,c=>by
  show bindC kindOf ((p,w) :: P.zip vs) m x=_;unfold bindC;exact vm (i:=i) (wa9.mp nd).2 (by grind) (by grind) c
noncomputable def start(N:List Str)(vs:List V):St:=vs.map some++Zu (N.length - vs.length) none
noncomputable def uB(CX:BE)(P:ZH)(w:World)(K:Zh)(mg:Str->Option Value)(base:Heap)(N:List Str)(qual:Str)(scope:wc3)(f:Addr)(cd:Value)(A:Around)(outer:List Env)(s:Shared)(H:Hp)(E:XK):Cx where
 prog:=P
 w:=w
 K:=K
 mg:=mg
 base:=base
 A:=A.deeper (envOfC qual scope s.heap.objs.size f cd)
 N:=N
 s₀:=s
 H₀:=H
 env:=envOfC qual scope s.heap.objs.size f cd
 outer:=outer
 stack:=envOfC qual scope s.heap.objs.size f cd :: outer
 ex:=[]
 calm:=true
 fn:=λ_=>true
 pn:=[]
 xe:=λe s'=>wpAny (model P w) (A.deeper (envOfC qual scope s.heap.objs.size f cd)) («leaving» (envOfC qual scope s.heap.objs.size f cd) e) (λ_ PQ=>CX outer H s E e PQ) (λe' PQ=>CX outer H s E e' PQ) s'
theorem yc{g:wc3}{n:Nat}{x:Str}(h:g.names.lookup x=some .cell):∃c,(cellsFrom n g.names []).lookup x=some c:=by
 have q:=weM g.names n [] (.inl h);exact wei.mp q
theorem CD{CX:BE}{P:ZH}{w:World}{K:Zh}{mg:Str->Option Value}{base:Heap}{N ps:List Str}{g:Str}{scope:wc3}{f:Addr}{cd:Value}{A:Around}{outer:List Env}{s s1:Shared}{H:Hp}{E:XK}{us:List Value}{vs:List V}
 (S:rH N ps scope) (hd:A.handled=none) (j:uz P w K mg base A outer s H) (hl:vs.length=ps.length) (r:Vals vs us)
 (x:InCallC s s.heap.objs.size (bindL (envOfC g scope s.heap.objs.size f cd).kindOf (ps.zip us) λ_=>none) (cellsFrom (s.heap.objs.size + 1) scope.names []) (bindC (envOfC g scope s.heap.objs.size f cd).kindOf (ps.zip us) λ_=>none) s1) :
 Inv (uB CX P w K mg base N g scope f cd A outer s H E) [] (start N vs) H s1:=by
 have F:ps.length<=N.length:=by have:=congrArg wcu S.pre;rw[ZG]at this;omega
 obtain⟨B,I,rfl,C⟩:=x.done;have l:∀b:Addr,b∉(uB CX P w K mg base N g scope f cd A outer s H E).ex:=λb z=>absurd (show b∈([]:List Addr) from z) (by simp)
 refine⟨⟨j.mod,S.kind,rfl,rfl,Zr _,λy z c B d=>?_,λy m=>?_,λy c _ h=>?_,λ_=>hd,Around.frames_deeper j.frames,.inr ⟨rfl,rfl⟩,λb z=>absurd z (l b),j.bs,j.DY,λb _ _=>l b,λb z=>absurd z (l b),j.mP,j.GI⟩,
  rfl,j.bare,Un.kept C,⟨_,x.toInCall.ns,λi y v B d J=>?_⟩,λy c h=>⟨_,x.cell y c h⟩,j.aZ.fresh (Zr _),λy c h=>?_,λp o=>absurd (show p∈([]:List (Addr×Obj)) from o) (by simp),j.aZ.kept C,?_⟩
 ·exact name_of_addr x.apart (wbu B) (wbu d)
 ·have m:scope.names.lookup y=some .cell\/scope.names.lookup y=some .free:=m;rcases m with m |m
  ·exact yc m
  ·exact absurd rfl (S.K7 _ (wbu m))
 ·exact wed (x.above y c (wbu h))
 ·have hi:i < vs.length:=by
   unfold start at d
   by_cases hi:i < vs.length
   ·exact hi
   ·rw[ZW (by simpa using hi)]at d;rw[List.getElem?_replicate]at d;split at d <;> cases d
  have ha:vs[i]?=some v:=by
   unfold start at d;rw[ZX (by simpa using hi),Zi]at d
   cases e:vs[i]? with
   |none=>rw[e]at d;cases d
   |some a=>rw[e]at d;cases d;rfl
  obtain⟨u,D,G⟩:=r.get ha
  have o:ps[i]?=some y:=by
   rw[<-S.pre,wcG (by omega)];exact B
  have t:ps.Nodup:=by rw[<-S.pre];exact S.nd.sublist (waz _ _)
  refine⟨u,G,?_⟩;rcases S.par y (ZA o) with k |k
  ·exact .inl ⟨k,vk t o D k⟩
  ·obtain⟨c,e⟩:=yc (n:=s.heap.objs.size + 1) k;refine .inr ⟨.inl k,c,e,?_⟩;have q:=x.cell y c e;rw[vm t o D (by show scope.names.lookup y≠_;rw[k];decide)]at q;exact q
 ·exact j.aZ.fresh (wed (x.above y c (wbu h)))
 ·unfold start;show _=N.length;rw[Zm,Zf,war];omega
theorem Jf{CX:BE}{P:ZH}{w:World}{K:Zh}{mg:Str->Option Value}{base:Heap}{k:Nat}{f:Addr}{name g:Str}{l:Arguments}{body:List Stmt}{scope:wc3}{dV kV T pm j ct oc:Value}{an od:Option Addr}
 {U:Array (Option Value)} {N ps:List Str} {sp:Sp} (lk:K.lookup f=some ⟨oc,od,.func (wbn name g l body scope dV kV T pm an j ct),U⟩) (PR:wcS K j g=true) (S:rH N ps scope)
 (len:∀vs H Q E,sp vs H Q E->vs.length=ps.length)
 (C:∀(A:Around) (outer:List Env) (s:Shared) (H:Hp) (vs:List V) (Q:VK) (E:XK),d4 k (A.deeper (envOfC g scope s.heap.objs.size f j))->sp vs H Q E ->
   ∃t,uw (uB CX P w K mg base N g scope f j A outer s H E) body t/\t {nx:=λ_ p=>Q .non p,rt:=Q} (start N vs) H) :
 aM P w K mg base CX (k + 1) f (wbn name g l body scope dV kV T pm an j ct) ps sp:=by
 refine⟨len,λA outer s H args L vs Q E m h M r i=>?_⟩;have hl:=len _ _ _ _ i;have F:K.In s.heap:=h.mod.Ja.keeps λb o e=>(h.bs b o e).1;have z:s.heap.NoLimit:=h.mod.nolimit.keeps λb o e=>(h.bs b o e).1
 have c:∀y∈ps.zip L,scope.names.lookup y.1=some .local\/(scope.names.lookup y.1=some .cell/\((cellsFrom (s.heap.objs.size + 1) scope.names []).lookup y.1).isSome=true):=λ⟨n,v⟩ O=>by
  rcases S.par n (weE O).1 with q |q
  ·exact .inl q
  ·exact .inr ⟨q,weM _ _ _ (.inl q)⟩
 refine codeAny_call_function m.depth (F _ _ lk) rfl S.co S.gen rfl (PySem.W.codeRec_of F PR) (M _ _ _ _ ?_);refine wpAny_newFunctionEnv_cells S.kind c λenv R G x=>?_;subst R;refine⟨z.keeps x.toInCall.keep,codeAny_func ?_⟩;obtain⟨t,X,Y⟩:=C A outer s H vs Q E (m.deeper _) i;have I:Inv (uB CX P w K mg base N g scope f j A outer s H E) [] (start N vs) H G:=CD S m.hd h hl r x;refine wad (X [] G (start N vs) H _ I Y) (λfl B d=>?_) λe B d=>d
 have fin:∀{a:St} {p:Hp} {v:V} {u:Value},Inv (uB CX P w K mg base N g scope f j A outer s H E) [] a p B->RelV v u->Q v p->CE outer P w H s Q u B:=
  λ{a p v u} J D q=>⟨v,p,J.os,J.bare,J.base,J.aZ,D,q⟩
 cases fl with
 |ret u=>
  obtain⟨v,a,p,J,D,q⟩:=d;exact fin J D q
 |next=>
  obtain⟨a,p,J,q⟩:=d;exact fin (v:=V.non) (u:=waO) J rfl q
 |brk=>
  obtain⟨_,_,_,q⟩:=d;exact waa q
 |cont=>
  obtain⟨_,_,_,q⟩:=d;exact waa q
section
variable{X:Cx}{x:Str}{p pos:Pos}{e:Expr}{es:List Expr}{t:TA}{id T:String}{r:List V->Hp->VK->Prop}
def Ss(r:List V->Hp->VK->Prop)(t:TA):TE:=λσ H Q=>t σ H λvs H1=>r vs H1 Q
theorem aB(hc:di X (.builtin id) r)(l:Gl X x)(o:X.mg x=none)(C:wa8 x=some (.builtin id))(ha:PA X (e :: es) t)(hn:x≠"__name__":=by decide)(g:(x == ("__debug__":Str))=false:=by decide)
 (J:starEach (e :: es) X.env=(false,eval e X.env) :: starEach es X.env:=by rfl) (j:(backTo pos (starEach es X.env)).any (·.1)=false:=by rfl):PE X (.Call (.Name x p) (e :: es) [] pos) (Ss r t):=by
 intro a s σ H Q I h;refine waL (iB I l o C ?_ hn g);exact wdp (bS (ha pos a s σ H _ I h) λb c ⟨d,f,i,k,m⟩=>hc a c σ f d b Q i k m) J j
theorem bT(hc:di X (.type T) r)(l:Gl X x)(o:X.mg x=none)(C:wa8 x=some (.type T))(ha:PA X (e :: es) t)(hn:x≠"__name__":=by decide)(g:(x == ("__debug__":Str))=false:=by decide)
 (J:starEach (e :: es) X.env=(false,eval e X.env) :: starEach es X.env:=by rfl) (j:(backTo pos (starEach es X.env)).any (·.1)=false:=by rfl):PE X (.Call (.Name x p) (e :: es) [] pos) (Ss r t):=by
 intro a s σ H Q I h;refine waL (iB I l o C ?_ hn g);exact wbz (bS (ha pos a s σ H _ I h) λb c ⟨d,f,i,k,m⟩=>hc a c σ f d b Q i k m) J j
end
end L2
namespace HT
open PySem PyProof.Rows
section
open PySem.SeqAt
open PySem.AutoSeq1 (wpAny_loadPart')
open PySem.MeetsSeq PySem.MeetsSeq2 PySem.MeetsSeq3
end
section
variable{prog:ZH}{w:World}{A:Around}{E:Value->Shared->Prop}{s:Shared}
noncomputable def xY(n d:Nat):Option Int->Nat
 |none=>d
 |some v=>if v < 0 then(v + (n:Int)).toNat else min v.toNat n
theorem Hh(n d k:Nat):xY n d (some (k:Int))=min k n:=by
 show (if (k:Int) < 0 then((k:Int) + (n:Int)).toNat else min (k:Int).toNat n)=min k n;rw[if_neg (by omega),ZS]
end
end HT
namespace L2
open PySem PySem.Spec PyProof.Rows
noncomputable abbrev TO:=St->Hp->(Option Int->Hp->Prop)->Prop
def PO(X:Cx)(e:Option Expr)(t:TO):Prop:=
 ∀(pins:List (Addr×Obj)) (s:Shared) (σ:St) (H:Hp) (Q:Option Int->Hp->Prop),Inv X pins σ H s->t σ H Q ->
  wpAny (model X.prog X.w) X.A (evalPart e X.env) (λu s'=>∃o H',Inv X pins σ H' s'/\IsPart u o/\Q o H') X.xe s
noncomputable def Hi:TO:=λ_ H Q=>Q none H
inductive V5(x:V)(H:Hp)(Q:Option Int->Hp->Prop):Prop
 |mk (i) (_:x=.int i) (_:Q (some i) H)
noncomputable def My(t:TE):TO:=λσ H Q=>t σ H λx H1=>V5 x H1 Q
section
variable{X:Cx}{e:Expr}{te:TE}{lo hi:Option Expr}{tl th:TO}{pos p2:Pos}
theorem fN:PO X none Hi:=by
 intro a s σ H Q I h;rw[evalPart_none];exact ZN ⟨none,H,I,.none,h⟩
theorem cn(h:PE X e te):PO X (some e) (My te):=by
 intro a s σ H Q I hw;rw[evalPart_some];refine bS (h a s σ H _ I hw) λu g ⟨x,b,c,d,f⟩=>?_;obtain⟨i,rfl,q⟩:=f;obtain⟨t,rfl⟩:=d;exact⟨some i,b,c,.int i t,q⟩
def PU(X:Cx)(r:V->Option Int->Option Int->Hp->VK->Prop):Prop:=
 ∀(pins:List (Addr×Obj)) (s:Shared) (σ:St) (H:Hp) (x:V) (v vl vu:Value) (lo hi:Option Int) (sl:Addr) (Q:VK),Inv X pins σ H s->RelV x v->s.heap.IsSliceOf sl vl vu .none->IsPart vl lo->IsPart vu hi->r x lo hi H Q ->
  ∃T id,we7 (.type T) "__getitem__"=pure (some (.builtin id))/\s.TypeIs v T/\wpAny (model X.prog X.w) X.A (getItem v (.ref sl)) (EP X pins σ Q) X.xe s
def V6(r:V->Option Int->Option Int->Hp->VK->Prop)(te:TE)(tl th:TO):TE:=λσ H Q=>te σ H λx H1=>tl σ H1 λl H2=>th σ H2 λu H3=>r x l u H3 Q
theorem cu{r:V->Option Int->Option Int->Hp->VK->Prop}(j:PU X r)(o:PE X e te)(hl:PO X lo tl)(p:PO X hi th):PE X (.Subscript e (.Slice lo hi none p2) pos) (V6 r te tl th):=by
 intro a s σ H Q I h;refine Subscript_ (bS (o a s σ H _ I h) λv i ⟨x,k,m,n,t⟩=>?_);refine wpAny_Slice (bS (hl a i σ k _ m t) λd y ⟨l,z,B,pl,C⟩=>bS (p a y σ z _ B C) λf c ⟨u,g,D,E,F⟩=>?_);rw[evalPart_none];refine ZN ?_;have G:Inv X a σ g {c with heap:=c.heap.push {cls:=.type "slice",data:=.fields #[d,f,.none]}}:=D.kept (t':=c.toks) λb ob q=>Zo _ q;obtain⟨T,id,J,K,L⟩:=j a {c with heap:=c.heap.push {cls:=.type "slice",data:=.fields #[d,f,.none]}} σ g x v d f l u c.heap.objs.size Q G n (Heap.IsSliceOf.new ..) pl E F;show wpAny (model X.prog X.w) X.A (wfq e (.Slice lo hi none p2) v (.ref c.heap.objs.size)) (EP X a σ Q) X.xe {c with heap:=c.heap.push {cls:=.type "slice",data:=.fields #[d,f,.none]}};exact tail_any (ops:=[.ref c.heap.objs.size,v]) K J L (by with_unfolding_all rfl)
noncomputable def iK(xs:List V)(lo hi:Option Int):List V:=(xs.drop (HT.xY xs.length 0 lo)).take (HT.xY xs.length xs.length hi - HT.xY xs.length 0 lo)
theorem yd(xs:List V)(lo hi:Option Int):(iK xs lo hi).length<=xs.length:=by
 unfold iK;rw[ZG,waV];omega
end
noncomputable def CF(n:Nat)(i:Int):Option Nat:=if 0<=i then(if i < n then some i.toNat else none) else if -(n:Int)<=i then some (i + n).toNat else none
noncomputable def wD{α:Type}(xs:List α)(i:Int):Option α:=(CF xs.length i).bind λj=>xs[j]?
theorem BF(h:CF n i=some j):seqIndex? i n=some j/\j < n/\-(n:Int)<=i/\i < n:=by
 unfold CF at h
 by_cases b:0<=i
 ·rw[if_pos b]at h
  by_cases a:i < n
  ·rw[if_pos a]at h;have e:i.toNat=j:=Zx h;exact⟨by rw[wg2 b a,e],by omega,by omega,a⟩
  ·rw[if_neg a]at h;cases h
 ·rw[if_neg b]at h
  by_cases a:-(n:Int)<=i
  ·rw[if_pos a]at h;have e:(i + n).toNat=j:=Zx h;exact⟨by rw[seqIndex_neg (by omega) a,e],by omega,a,by omega⟩
  ·rw[if_neg a]at h;cases h
theorem wF{α:Type}{xs:List α}{i:Int}{v:α}(h:wD xs i=some v):∃j,seqIndex? i xs.length=some j/\xs[j]?=some v/\j < xs.length/\-(xs.length:Int)<=i/\i < xs.length:=by
 unfold wD at h
 cases e:CF xs.length i with
 |none=>rw[e]at h;cases h
 |some j=>
  rw[e]at h;obtain⟨a,b,c,d⟩:=BF e;exact⟨j,a,h,b,c,d⟩
theorem bx{α:Type}{xs:List α}{j:Nat}{v:α}(h:xs[j]?=some v):wD xs (j:Int)=some v:=by
 have a:j < xs.length:=(Zn.mp h).1
 have e:CF xs.length (j:Int)=some j:=by
  unfold CF;rw[if_pos (by omega),if_pos (by omega)];simp
 unfold wD;rw[e];exact h
theorem El{α:Type}(xs:List α)(v:α):wD (xs++[v]) (-1)=some v:=by
 have hl:(xs++[v]).length=xs.length + 1:=by simp
 have e:CF (xs++[v]).length (-1)=some xs.length:=by
  unfold CF;rw[hl,if_neg (by decide),if_pos (by omega)];congr 1;omega
 unfold wD;rw[e];show (xs++[v])[xs.length]?=some v;simp
def Hj(b:Expr):Prop:=∀o i,weN b false o i=operate [o,i] (getItem o i)
def LD(X:Cx)(r:R2):Prop:=
 ∀(value slice:Expr) (pins:List (Addr×Obj)) (s:Shared) (σ:St) (H:Hp) (x y:V) (v u:Value) (Q:VK),Inv X pins σ H s->RelV x v->RelV y u->r x y H Q ->
  weN slice false v u=operate [v,u] (getItem v u)->wpAny (model X.prog X.w) X.A (wfq value slice v u) (EP X pins σ Q) X.xe s
def Jg(X:Cx)(id:String)(r:V->List V->Hp->VK->Prop):Prop:=
 ∀(pins:List (Addr×Obj)) (s:Shared) (σ:St) (H:Hp) (x:V) (xs:List V) (v:Value) (us:List Value) (Q:VK),Inv X pins σ H s->RelV x v->Vals xs us->r x xs H Q ->
  wpAny (model X.prog X.w) X.A (call (.builtin id) (v :: us)) (EP X pins σ Q) X.xe s
section
variable{X:Cx}{a b:Expr}{ta tb:TE}{pos:Pos}
theorem b8(g:LD X r)(ha:PE X a ta)(j:PE X b tb)(hs:Hj b):PE X (.Subscript a b pos) (Ov r ta tb):=by
 intro c s σ H Q I h;exact Subscript_ (K4 ha j I h λv u d x y e f i k q=>g a b c d σ e x y v u Q f i k q (hs _ _))
inductive Mz(K:Zh)(x y:V)(H:Hp)(Q:VK):Prop
 |mk (p xs i v) (_:x=.ref p) (_:y=.int i) (_:aI K H p xs) (_:wD xs i=some v) (_:Q v H)
inductive MA(K:Zh)(x y:V)(H:Hp)(Q:VK):Prop
 |mk (p xs i v) (_:x=.ref p) (_:y=.int i) (_:ia K H p xs) (_:wD xs i=some v) (_:Q v H)
inductive PV(x y:V)(H:Hp)(Q:VK):Prop
 |mk (z i c) (_:x=.str z) (_:y=.int i) (_:z.length<=sizeLine) (_:wD z.cps.toList i=some c) (_:Q (.str ⟨#[c]⟩) H)
theorem bq:LD X (Mz X.K):=by
 intro value slice a s σ H x y v u Q I l m h f;obtain⟨p,E,i,z,rfl,rfl,n,o,q⟩:=h;cases l;obtain⟨t,rfl⟩:=m;obtain⟨c,r,pl,F⟩:=I.list n;obtain⟨j,b,A,G,B,C⟩:=wF o;obtain⟨w,g,d⟩:=r.get A;have hl:=r.length;have hn:=mQ;have fin:EP X a σ Q w s:=⟨z,H,I,d,q⟩
 by_cases k:0<=i
 ·have e:i.toNat=j:=by
   rw[wg2 k C]at b;exact Zx b
  exact item_listR pl.isList k (by omega) (by rw[e];simpa using g) fin f
 ·have e:(i + (c.toArray.size:Int)).toNat=j:=by
   rw[seqIndex_neg (by omega) B]at b;rw[ZR,<-hl];exact Zx b
  exact weO (x:=w) pl.isList.typeIs slot_list_getitem.lookup
   (wpAny_getItem_list_neg (Q:=λr D=>r=w/\EP X a σ Q r D) pl.isList (by omega) (by rw[ZR] <;> omega) (by omega) (by rw[e];simpa using g) ⟨rfl,fin⟩) f
theorem gg:LD X (MA X.K):=by
 intro value slice a s σ H x y v u Q I c d h e;obtain⟨p,A,i,z,rfl,rfl,f,g,q⟩:=h;cases c;obtain⟨t,rfl⟩:=d;obtain⟨k,r,pl,B⟩:=I.tuple f;obtain⟨j,l,m,C,D,E⟩:=wF g;obtain⟨w,n,b⟩:=r.get m;have hl:=r.length;have hn:=mQ;have fin:EP X a σ Q w s:=⟨z,H,I,b,q⟩
 exact weO (x:=w) pl.typeIs slot_tuple_getitem.lookup
  (getItem_tuple (j:=j) (Q:=λr o=>r=w/\EP X a σ Q r o) pl (by omega) (by omega) (by rw[ZR,<-hl];exact l) (by simpa using n) ⟨rfl,fin⟩) e
theorem Em:LD X PV:=by
 intro value slice a s σ H x y v u Q I b d h e;obtain⟨z,i,c,rfl,rfl,m,f,q⟩:=h;obtain⟨t,rfl⟩:=b;obtain⟨n,rfl⟩:=d;obtain⟨j,g,o,p,k,l⟩:=wF f;have hl:z.cps.toList.length=z.length:=by simp[wcm]
 rw[hl]at g k l;have hn:=mQ
 exact tail_any (typeIs_str s z t) slot_str_getitem.lookup (getItem_str (c:=c) (by
  grind) (by grind) ⟨.str ⟨#[c]⟩,H,I.tok _,⟨_,rfl⟩,q⟩) e
theorem zW(g:List Value)(n j:Nat)(u:Value):wbM (·.setIfInBounds j u) {cls:=.type "list",data:=.seq g.toArray n}={cls:=.type "list",data:=.seq (g.set j u).toArray n}:=by
 simp[wbM]
theorem Inv.lst(I:Inv X j σ H s)(h:H p=some (.lst xs)) :
 ∃(g:List Value) (n:Nat),Vals xs g/\s.heap.get? p=some {cls:=.type "list",data:=.seq g.toArray n}/\xs.length<=sizeLine:=by
 obtain⟨z,g,n,r,e⟩:=I.aZ p _ h;exact⟨g,n,r,e,z⟩
theorem Inv.K8{g:List (Addr×Obj)}{σ:St}{H:Hp}{s:Shared}{p:Addr}{xs ys:List V}{j its':List Value}{n l:Nat}{f:Obj->Obj}(I:Inv X g σ H s)(h:H p=some (.lst xs))
 (C:s.heap.get? p=some {cls:=.type "list",data:=.seq j.toArray n}) (o:f {cls:=.type "list",data:=.seq j.toArray n}={cls:=.type "list",data:=.seq its'.toArray l}) (r:Vals ys its') (J:ys.length<=sizeLine) (t:Nat) :
 Inv X g σ (upd H p (.lst ys)) {s with heap:=s.heap.update p f,toks:=t}:=by
 have e:(s.heap.update p f).get? p=some {cls:=.type "list",data:=.seq its'.toArray l}:=by
  rw[waQ f C (by rw[o] <;> rfl),o]
 refine I.write (x:=p) (e:=p) (by rw[h];trivial) (.inl rfl) (λb u a q=>(wa3 _ _ (waB a)).trans q) ⟨_,e⟩ ?_;exact⟨J,its',l,r,e⟩
inductive MB(o i v:V)(H:Hp)(Q:Hp->Prop):Prop
 |mk (p xs k j) (_:o=.ref p) (_:i=.int k) (_:H p=some (.lst xs)) (_:CF xs.length k=some j) (_:Q (upd H p (.lst (xs.set j v))))
theorem set_list:Mh X MB:=by
 intro a s σ H o i v D E u Q I x y z h;obtain⟨p,A,k,j,rfl,rfl,f,B,q⟩:=h;cases x;obtain⟨t,rfl⟩:=y;obtain⟨b,n,r,d,C⟩:=I.lst f;obtain⟨c,F,g,l⟩:=BF B;have hl:=r.length;have hn:=mQ
 have m:Inv X a σ (upd H p (.lst (A.set j v))) {s with heap:=s.heap.update p (wbM (·.setIfInBounds j u))}:=
  I.K8 f d (zW b n j u) (r.set z j) (by rw[wbE];exact C) s.toks
 by_cases w:0<=k
 ·have e:k.toNat=j:=by
   rw[wg2 w l]at c;exact Zx c
  exact PySem.W.ki_setAt d w (by omega) (by rw[ZR,<-hl];exact l) (by rw[e];exact⟨_,m,q⟩)
 ·have e:(k + (b.toArray.size:Int)).toNat=j:=by
   rw[seqIndex_neg (by omega) g]at c;rw[ZR,<-hl];exact Zx c
  exact PySem.W.ki_setBack d (by omega) (by rw[ZR,<-hl];exact g) (by omega) (by rw[e];exact⟨_,m,q⟩)
theorem wG(lo hi:Option Int)(n:Nat):(wg3 lo hi none n).1=((HT.xY n 0 lo:Nat):Int)/\(wg3 lo hi none n).2.1=((HT.xY n n hi:Nat):Int)/\(wg3 lo hi none n).2.2=1:=by
 have key:∀(i:Int) (d:Nat),max 0 (min (if i < 0 then i + (n:Int) else i) (n:Int))=((HT.xY n d (some i):Nat):Int):=by
  intro i d
  by_cases h:i < 0 <;> simp only[HT.xY,h,if_true,if_false] <;> omega
 exact⟨by cases lo with |none=>rfl |some i=>exact key i 0,by cases hi with |none=>rfl |some i=>exact key i n,rfl⟩
theorem uC(g:List Value)(lo hi:Option Int):slicePick g.toArray lo hi none=((g.drop (HT.xY g.length 0 lo)).take (HT.xY g.length g.length hi - HT.xY g.length 0 lo)).toArray:=by
 obtain⟨a,b,c⟩:=wG lo hi g.toArray.size;unfold slicePick;rw[a,b,c];simp only[sliceRange_one,pick_run,ZR] <;> rfl
inductive PX(K:Zh)(x:V)(lo hi:Option Int)(H:Hp)(Q:VK):Prop
 |mk (a xs) (_:x=.ref a) (_:aI K H a xs) (_:∀p,H p=none->Q (.ref p) (upd H p (.lst (iK xs lo hi))))
theorem eM:PU X (PX X.K):=by
 intro e s σ H x v n p lo hi sl Q I g i pl j h;obtain⟨a,c,rfl,k,q⟩:=h;cases g;obtain⟨l,r,f,m⟩:=I.list k;have d:=r.length;refine⟨"list",_,slot_list_getitem.lookup,f.isList.typeIs,?_⟩;refine wpAny_getItem_list_slice f.isList i pl j .none (by simp) ?_ (by grind);rw[uC,<-d];refine⟨.ref s.heap.objs.size,_,I.laid (t':=s.toks) (o:=.lst (iK c lo hi)) (λb ob q=>Zo _ q) (Zr _) ?_,rfl,q _ (I.aZ.fresh (Zr _))⟩;exact⟨ZE (yd c lo hi) m,_,0,(r.drop (HT.xY c.length 0 lo)).take (HT.xY c.length c.length hi - HT.xY c.length 0 lo),ZP _ rfl⟩
noncomputable def cK:V->Bool
 |.non=>true
 |.bl _=>true
 |.int _=>true
 |.str _=>true
 |_=>false
noncomputable def ph:V->V->Bool
 |.non,.non=>true
 |.bl a,.bl b=>a == b
 |.bl a,.int b=>(if a then 1 else 0) == b
 |.int a,.bl b=>a == (if b then 1 else 0)
 |.int a,.int b=>a == b
 |.str a,.str b=>a == b
 |_,_=>false
theorem wH(j:RelV y u)(g:RelV x v)(o:cK y=true)(l:cK x=true):SeqAt.EqAt A s u v (ph y x):=by
 cases y with
 |non=>
  cases j
  cases x with
  |non=>cases g;exact SeqAt.EqAt.same _
  |bl b=>cases g;exact SeqAt.EqAt.none_bool b
  |int b=>obtain⟨t,rfl⟩:=g;exact SeqAt.EqAt.none_int b t
  |str b=>obtain⟨t,rfl⟩:=g;exact SeqAt.EqAt.none_str b t
  |_=>exact absurd (show false=true from l) ZF
 |bl a=>
  cases j
  cases x with
  |non=>cases g;exact SeqAt.EqAt.bool_none a
  |bl b=>cases g;exact SeqAt.EqAt.bool_bool a b
  |int b=>obtain⟨t,rfl⟩:=g;exact SeqAt.EqAt.bool_int a b t
  |str b=>obtain⟨t,rfl⟩:=g;exact SeqAt.EqAt.bool_str a b t
  |_=>exact absurd (show false=true from l) ZF
 |int a=>
  obtain⟨c,rfl⟩:=j
  cases x with
  |non=>cases g;exact SeqAt.EqAt.int_none a c
  |bl b=>cases g;exact SeqAt.EqAt.int_bool a c b
  |int b=>obtain⟨t,rfl⟩:=g;exact wf2 a c b t
  |str b=>obtain⟨t,rfl⟩:=g;exact wfA a c b t
  |_=>exact absurd (show false=true from l) ZF
 |str a=>
  obtain⟨c,rfl⟩:=j
  cases x with
  |non=>cases g;exact SeqAt.EqAt.str_none a c
  |bl b=>cases g;exact SeqAt.EqAt.str_bool a c b
  |int b=>obtain⟨t,rfl⟩:=g;exact wfB a c b t
  |str b=>obtain⟨t,rfl⟩:=g;exact wf3 a c b t
  |_=>exact absurd (show false=true from l) ZF
 |_=>exact absurd (show false=true from o) ZF
noncomputable def zX(x:V)(u:Value):Bool:=match u with
 |.none=>ph .non x
 |.bool b=>ph (.bl b) x
 |.int i _=>ph (.int i) x
 |.str z _=>ph (.str z) x
 |_=>false
theorem En(r:RelV y u)(f:cK y=true):zX x u=ph y x:=by
 cases y with
 |non=>cases r;rfl
 |bl b=>cases r;rfl
 |int i=>obtain⟨t,rfl⟩:=r;rfl
 |str z=>obtain⟨t,rfl⟩:=r;rfl
 |_=>exact absurd (show false=true from f) ZF
theorem nJ:∀{xs:List V} {us:List Value},Vals xs us->xs.all cK=true->us.any (zX x)=xs.any λy=>ph y x
 |_,_,.nil,_=>rfl
 |y :: xs,u :: us,.cons r t,f=>by
  rw[wdT,wb7]at f;rw[wbY,wbY,En r f.1,nJ t f.2]
theorem kd(g:RelV x v)(j:cK x=true):∀{xs:List V} {us:List Value},Vals xs us->xs.all cK=true->∀u∈us,SeqAt.EqAt A s u v (zX x u)
 |_,_,.nil,_=>λu a=>by cases a
 |y :: xs,u :: us,.cons r t,f=>λb a=>by
  rw[wdT,wb7]at f;rcases ZT.mp a with rfl |a
  ·rw[En r f.1];exact wH r g f.1 j
  ·exact kd g j t f.2 b a
noncomputable def nK(x:V)(xs:List V):Bool:=xs.any λy=>ph y x
inductive Ox(K:Zh)(neg:Bool)(x y:V)(H:Hp)(Q:VK):Prop
 |mk (p xs) (_:y=.ref p) (_:(aI K H p xs\/ia K H p xs)) (_:cK x=true) (_:xs.all cK=true) (_:Q (.bl (if neg then !nK x xs else nK x xs)) H)
theorem vn:m7 X (waI .In) (Ox X.K false):=by
 intro c s σ H x y v u Q I d f h;obtain⟨p,i,rfl,b,e,fs,q⟩:=h;cases f;rcases b with b |b
 ·obtain⟨a,r,pl,g⟩:=I.list b;refine SeqAt.in_listAt (zX x) pl.isList (λw hw=>kd d e r fs w (by grind)) ⟨.bl _,H,I,rfl,?_⟩;rw[show a.toArray.any (zX x)=a.any (zX x) by simp,nJ r fs];exact q
 ·obtain⟨a,r,pl,g⟩:=I.tuple b;refine SeqAt.in_tupleAt (zX x) pl (λw hw=>kd d e r fs w (by grind)) ⟨.bl _,H,I,rfl,?_⟩;rw[show a.toArray.any (zX x)=a.any (zX x) by simp,nJ r fs];exact q
theorem jc:m7 X (waI .NotIn) (Ox X.K true):=by
 intro c s σ H x y v u Q I d f h;obtain⟨p,i,rfl,b,e,fs,q⟩:=h;cases f;rcases b with b |b
 ·obtain⟨a,r,pl,g⟩:=I.list b;refine SeqAt.notIn_listAt (zX x) pl.isList (λw hw=>kd d e r fs w (by grind)) ⟨.bl _,H,I,rfl,?_⟩;rw[show a.toArray.any (zX x)=a.any (zX x) by simp,nJ r fs];exact q
 ·obtain⟨a,r,pl,g⟩:=I.tuple b;refine SeqAt.notIn_tupleAt (zX x) pl (λw hw=>kd d e r fs w (by grind)) ⟨.bl _,H,I,rfl,?_⟩;rw[show a.toArray.any (zX x)=a.any (zX x) by simp,nJ r fs];exact q
theorem b7:di X (.builtin "len") (λxs H Q=>∃p ys,xs=[.ref p]/\(aI X.K H p ys\/ia X.K H p ys)/\Q (.int ys.length) H):=by
 intro e s σ H xs i Q I r h;obtain⟨p,ys,rfl,a,q⟩:=h;obtain⟨u,rfl,f⟩:=vals1 r;cases f;have hn:=mQ;rcases a with a |a
 ·obtain⟨c,d,pl,g⟩:=I.list a;have b:=d.length;exact wdE pl.isList (by grind) ⟨.int ys.length,H,I.tok _,⟨s.toks + 1,by grind⟩,q⟩
 ·obtain⟨c,d,pl,g⟩:=I.tuple a;have b:=d.length;exact len_tuple pl (by grind) ⟨.int ys.length,H,I.tok _,⟨s.toks + 1,by grind⟩,q⟩
theorem bX:di X (.builtin "len") (λxs H Q=>∃z,xs=[.str z]/\z.length<=sizeLine/\Q (.int z.length) H):=by
 intro a s σ H xs b Q I r h;obtain⟨z,rfl,c,q⟩:=h;obtain⟨u,rfl,t,rfl⟩:=vals1 r;have hn:=mQ;exact len_str (by omega) ⟨.int z.length,H,I.tok _,⟨_,rfl⟩,q⟩
theorem dC:di X (.type "list") (λxs H Q=>∃p ys,xs=[.ref p]/\(aI X.K H p ys\/ia X.K H p ys)/\∀l,H l=none->Q (.ref l) (upd H l (.lst ys))):=by
 intro g s σ H xs x Q I r h;obtain⟨p,ys,rfl,i,q⟩:=h;obtain⟨u,rfl,v⟩:=vals1 r;cases v
 have fin:∀(a:List Value),Vals ys a->ys.length<=sizeLine->∀(c:Heap) (d:Nat),(∀b t,s.heap.get? b=some t->c.get? b=some t) ->
  c.get? s.heap.objs.size=some {cls:=.type "list",dict:=none,data:=.seq a.toArray d,slots:=#[]}->EP X g σ Q (.ref s.heap.objs.size) {s with heap:=c}:=λa f j c d kp e=>
  ⟨.ref s.heap.objs.size,_,I.laid (t':=s.toks) kp (Zr _) (show bO X.prog X.w _ c _ (.lst ys) from ⟨j,a,d,f,e⟩),rfl,q _ (I.aZ.fresh (Zr _))⟩
 rcases i with i |i
 ·obtain⟨a,f,pl,j⟩:=I.list i;have k:=f.length;obtain⟨o,m,hc,n,hd⟩:=pl.isList;exact call_list_seq p (.inl rfl) m hc hd (λc d kp e=>fin a f j c d kp e) (by grind)
 ·obtain⟨a,f,pl,j⟩:=I.tuple i;have k:=f.length;obtain⟨o,m,hc,n,hd⟩:=pl;exact call_list_seq p (.inr rfl) m hc hd (λc d kp e=>fin a f j c d kp e) (by grind)
def PY(K:Zh)(T:String)(x:V)(H:Hp):Prop:=match x with
 |.str _=>T="str"
 |.int _=>T="int"
 |.ref p=>(T="list"/\∃xs,aI K H p xs)\/(T="tuple"/\∃o,K.lookup p=some o/\o.cls=.type "tuple"/\o.dict=none) \/
   (T="dict"/\((∃kvs,H p=some (.dK kvs))\/∃kvs,H p=some (.dT kvs)))\/(T="set"/\∃S n,H p=some (.set S n))
 |_=>False
theorem Eo(I:Inv X g σ H s)(r:RelV x v)(ty:PY X.K T x H) :
 s.TypeIs v T/\∀a,v=.ref a->∃ob,s.heap.get? a=some ob/\ob.dict=none:=by
 cases x with
 |str z=>
  obtain⟨t,rfl⟩:=r;cases(show T="str" from ty);exact⟨typeIs_str s z t,λ_ e=>nomatch e⟩
 |int i=>
  obtain⟨t,rfl⟩:=r;cases(show T="int" from ty);exact⟨typeIs_int s i t,λ_ e=>nomatch e⟩
 |ref p=>
  cases r;rcases ty with⟨rfl,k,h⟩ |⟨rfl,o,b,hc,hd⟩ |⟨rfl,b⟩ |⟨rfl,S,n,b⟩
  ·obtain⟨j,_,pl,_⟩:=I.list h;refine⟨pl.isList.typeIs,λa e=>?_⟩;cases e;obtain⟨o,n,e,c,hd,_⟩:=pl;exact⟨o,e,hd⟩
  ·refine⟨⟨o,I.gy p o b,hc⟩,λa e=>?_⟩;cases e;exact⟨o,I.gy _ o b,hd⟩
  ·have z:∃o,s.heap.get? p=some o/\o.ExactDict:=by
    rcases b with⟨d,b⟩ |⟨d,b⟩
    ·obtain⟨_,_,_,_,o,_,_,e,ex,_⟩:=I.aZ p _ b;exact⟨o,e,ex⟩
    ·obtain⟨_,_,_,_,o,_,_,e,ex,_⟩:=I.aZ p _ b;exact⟨o,e,ex⟩
   obtain⟨o,e,ex⟩:=z;refine⟨⟨o,e,ex.1⟩,λa f=>?_⟩;cases f;exact⟨o,e,ex.2.1⟩
  ·obtain⟨o,_,_,_,e,ex,_⟩:=I.aZ p _ b;refine⟨⟨o,e,ex.1⟩,λa f=>?_⟩;cases f;exact⟨o,e,ex.2.1⟩
 |_=>exact waa ty
def MC(K:Zh)(T:String)(r:V->List V->Hp->VK->Prop)(to:TE):TE:=λσ H Q=>to σ H λx H1=>PY K T x H1/\r x [] H1 Q
def Su(K:Zh)(T:String)(r:V->List V->Hp->VK->Prop)(to:TE)(t:TA):TE:=λσ H Q=>to σ H λx H1=>PY K T x H1/\t σ H1 λxs H2=>r x xs H2 Q
variable{o e:Expr}{es:List Expr}{to:TE}{t:TA}{name:Str}{apos gR:Pos}{T id:String}{r:V->List V->Hp->VK->Prop}
theorem Ep(p:wff T)(slot:Slot T name id)(l:typeOf (.builtin id)=pure (.type "method_descriptor"))(C:Jg X id r)(J:PE X o to)
 (g:wbH o name X.env (eval o X.env)=eval o X.env:=by rfl) (j:(apos.endLine == gR.line)=true:=by rfl):PE X (.Call (.Attribute o name apos) [] [] gR) (MC X.K T r to):=by
 intro a s σ H Q I h;refine wpAny_Call_method0_late g j (bS (J a s σ H _ I h) λv d ⟨x,e,b,c,ty,f⟩=>?_);obtain⟨i,k⟩:=Eo b c ty;exact⟨T,id,p,slot,l,i,k,weP rfl (PySem.evalArgs_none (C a d σ e x [] v [] Q b c .nil f))⟩
theorem iL(J:wff T)(slot:Slot T name id)(C:typeOf (.builtin id)=pure (.type "method_descriptor"))(U:Jg X id r)(ho:PE X o to)(ha:PA X (e :: es) t)
 (j:wbH o name X.env (eval o X.env)=eval o X.env:=by rfl)
 (p:((backTo gR (starEach (e :: es) X.env)).all (λx=>!x.1) && (backToKw gR (wd1 [] X.env)).all (λx=>x.1.isSome)
   && decide ((e :: es).length + ([]:List wec).length + (if ([]:List wec).isEmpty then 0 else 1) < 30))=true:=by rfl)
 (l:(apos.endLine == gR.line)=true:=by rfl) (hs:starEach (e :: es) X.env=(false,eval e X.env) :: starEach es X.env:=by rfl) (g:(backTo gR (starEach es X.env)).any (·.1)=false:=by rfl) :
 PE X (.Call (.Attribute o name apos) (e :: es) [] gR) (Su X.K T r to t):=by
 intro a s σ H Q I h;refine wpAny_Call_method_late j p l rfl (bS (ho a s σ H _ I h) λv f ⟨x,i,b,c,ty,k⟩=>?_);obtain⟨m,n⟩:=Eo b c ty;refine⟨T,id,J,slot,C,m,n,?_⟩;have d:=ha gR a f σ i _ b k;rw[hs]at d ⊢;refine weP (by show (false ||(backTo gR (starEach es X.env)).any (·.1))=false;rw[g] <;> rfl) (Calls.evalArgs_plain ?_);exact bS d λq u ⟨w,y,z,A,B⟩=>U a u σ y x w v q Q z c A B
end
def Sv(X:Cx)(id:String)(r:V->List V->Hp->VK->Prop):Prop:=
 ∀(pins:List (Addr×Obj)) (s:Shared) (σ:St) (H:Hp) (x:V) (xs:List V) (v:Value) (us:List Value) (Q:VK),Inv X pins σ H s->RelV x v->Vals xs us->r x xs H Q ->
  wpAny (model X.prog X.w) X.A (call (.builtin id) (v :: us)) (EP X pins σ Q) X.xe s
theorem Vals.one:∀{x:V} {us:List Value},Vals [x] us->∃u,us=[u]/\RelV x u
 |_,_,.cons r .nil=>⟨_,rfl,r⟩
theorem Vals.zero:∀{us:List Value},Vals [] us->us=[]
 |_,.nil=>rfl
theorem Vals.dropLast(h:Vals xs us):Vals xs.dropLast us.dropLast:=by
 induction h with
 |nil=>exact .nil
 |cons r t a=>
  cases t with
  |nil=>exact .nil
  |cons q b=>exact .cons r a
theorem Vals.reverse(h:Vals xs us):Vals xs.reverse us.reverse:=by
 induction h with
 |nil=>exact .nil
 |cons r t a=>rw[we0,we0];exact Vals.append a (.cons r .nil)
theorem Vals.rep(h:Vals xs us):∀k:Nat,Vals (Zu k xs).flatten (Zu k us).flatten
 |0=>.nil
 |k + 1=>by
  rw[wbv,wbv,wbq,wbq];exact Vals.append h (Vals.rep h k)
theorem foldl_rep(g:List Value):∀(k:Nat) (j:List Value),
 wgm (λl o=>l++o) j.toArray (Zu k g.toArray)=(j++(Zu k g).flatten).toArray
 |0,j=>by simp
 |k + 1,j=>by
  have e:j.toArray++g.toArray=(j++g).toArray:=by simp
  have a:(j++g)++(Zu k g).flatten=j++(Zu (k + 1) g).flatten:=by
   grind
  rw[<-a,<-foldl_rep g k (j++g),<-e,wbv,wdq]
section
variable{X:Cx}{pins:List (Addr×Obj)}{σ:St}{H:Hp}{s:Shared}{l b:Addr}{xs ys zs:List V}
theorem Inv.MD{g its':List Value}{n:Nat}{f:Array Value->Array Value}{t':Nat}(I:Inv X pins σ H s)(j:H l=some (.lst xs))
 (e:s.heap.get? l=some {cls:=.type "list",data:=.seq g.toArray n}) (o:f g.toArray=its'.toArray) (p:Vals ys its') (r:ys.length<=sizeLine) :
 Inv X pins σ (upd H l (.lst ys)) {s with heap:=s.heap.update l (wbM f),toks:=t'}:=by
 have q:=PySem.IsL.update e f;rw[o]at q;refine I.write (x:=l) (e:=l) (by rw[j];exact trivial) (.inl rfl) (λc u a b=>(wa3 s.heap (wbM f) (waB a)).trans b) ⟨_,q⟩ ?_;exact⟨r,its',_,p,q⟩
theorem Inv.K9(I:Inv X pins σ H s)(j:Vals ys g)(o:ys.length<=sizeLine) :
 Inv X pins σ (upd H s.heap.objs.size (.lst ys)) {s with heap:=s.heap.push {cls:=.type "list",data:=.seq g.toArray},toks:=t'}:=
 I.laid (λ_ _ q=>Zo _ q) (Zr _) ⟨o,g,0,j,ZP _ rfl⟩
theorem Inv.fresh(I:Inv X pins σ H s):H s.heap.objs.size=none:=I.aZ.fresh (Zr _)
theorem Inv.Er(I:Inv X pins σ H s)(j:H l=some (.lst xs)):xs.length<=sizeLine/\∃(g:List Value) (n:Nat),Vals xs g/\xs.length=g.length/\s.heap.get? l=some {cls:=.type "list",data:=.seq g.toArray n}:=by
 obtain⟨z,g,n,r,e⟩:=I.aZ l _ j;exact⟨z,g,n,r,r.length,e⟩
theorem Es(h:n<=sizeLine):wcH n=false:=by grind [wcH,decide_eq_false]
end
section
variable{X:Cx}
inductive Hk(x:V)(vs:List V)(H:Hp)(Q:VK):Prop
 |mk (l xs y) (_:x=.ref l) (_:vs=[y]) (_:H l=some (.lst xs)) (_:xs.length < sizeLine) (_:Q .non (upd H l (.lst (xs++[y]))))
theorem cE:Sv X "list.append" Hk:=by
 intro b s σ H x i v j Q I d f h;obtain⟨l,k,y,rfl,rfl,c,m,q⟩:=h;cases d;obtain⟨u,rfl,g⟩:=f.one;obtain⟨z,a,n,r,hl,e⟩:=I.Er c;refine wdr wae ⟨_,e,rfl⟩ F.entry_list_append (F.args_list_append_2 _ _) (PySem.list_append l a.toArray n u (by grind)) ⟨e,?_⟩;refine⟨.non,_,I.MD (its':=a++[u]) c e (by simp) (r.append (.cons g .nil)) ?_,rfl,q⟩;rw[Zm,wbF];omega
inductive PZ(x:V)(vs:List V)(H:Hp)(Q:VK):Prop
 |mk (l xs y) (_:x=.ref l) (_:vs=[]) (_:H l=some (.lst xs)) (_:xs[xs.length - 1]?=some y) (_:Q y (upd H l (.lst xs.dropLast)))
theorem Ka:Sv X "list.pop" PZ:=by
 intro d s σ H x m v o Q I g i h;obtain⟨l,p,y,rfl,rfl,f,j,q⟩:=h;cases g;have b:=i.zero;subst b;obtain⟨z,a,n,r,hl,e⟩:=I.Er f;obtain⟨u,t,k⟩:=r.get j
 have c:a.toArray[a.toArray.size - 1]?=some u:=by
  grind
 refine wdr wfG ⟨_,e,rfl⟩ F.entry_list_pop (F.args_list_pop_1 _) (MeetsSeq.list_pop_last l a.toArray n u c (by grind)) ⟨e,?_⟩;refine⟨y,_,I.MD (its':=a.dropLast) f e ?_ r.dropLast ?_,k,q⟩
 ·grind
 ·grind
inductive Q0(x y:V)(H:Hp)(Q:VK):Prop
 |mk (l b xs zs) (_:x=.ref l) (_:y=.ref b) (_:H l=some (.lst xs)) (_:H b=some (.lst zs)) (_:xs.length + zs.length<=sizeLine) (_:∀p,H p=none->Q (.ref p) (upd H p (.lst (xs++zs))))
theorem zY:m7 X (binaryOp .Add) Q0:=by
 intro d s σ H x y v u Q I f g h;obtain⟨l,b,t,w,rfl,rfl,i,j,A,q⟩:=h;cases f;cases g;obtain⟨z,c,n,r,hl,e⟩:=I.Er i;obtain⟨B,a,C,k,m,o⟩:=I.Er j;refine wg9 e o ?_ (by rw[ZR,ZR];omega);have p:c.toArray++a.toArray=(c++a).toArray:=by simp
 rw[p];exact⟨.ref _,_,I.K9 (t':=s.toks) (r.append k) (by rw[Zm];omega),rfl,q _ I.fresh⟩
inductive Q1(x y:V)(H:Hp)(Q:VK):Prop
 |mk (l k xs) (_:x=.ref l) (_:y=.int k) (_:H l=some (.lst xs)) (_:-(2 ^ 63)<=k) (_:k < 2 ^ 63) (_:xs.length * k.toNat<=sizeLine) (_:∀p,H p=none->Q (.ref p) (upd H p (.lst (Zu k.toNat xs).flatten)))
theorem Hl{α:Type}(xs:List α)(k:Nat):(Zu k xs).flatten.length=k * xs.length:=by simp_all [wbv,wbq,Zm,Nat.succ_mul,Nat.add_comm]
theorem zZ:m7 X (binaryOp .Mult) Q1:=by
 intro p s σ H x y v u Q I A B h;obtain⟨l,k,K,rfl,rfl,C,D,E,w,q⟩:=h;cases A;obtain⟨t,rfl⟩:=B;obtain⟨z,b,n,r,hl,e⟩:=I.Er C;have d:b.toArray.size * k.toNat<=sizeLine:=by rw[ZR,<-hl];exact w
 have f:¬b.toArray.size * k.toNat > (2 ^ 63 - 1) / 8:=by
  have:(sizeLine:Nat)<=(2 ^ 63 - 1) / 8:=by decide
  omega
 have g:¬(!Builtin.List.listFitsIndex k)=true:=by
  rw[fitsIndex_both D E];exact ZF
 have c:¬wcH (b.toArray.size * k.toNat)=true:=by
  rw[Es d];exact ZF
 have i:wgm (λj o=>j++o) #[] (Zu (if b.toArray.isEmpty=true then 0 else k.toNat) b.toArray)=(Zu k.toNat b).flatten.toArray:=by
  have G:∀m:Nat,wgm (λj o=>j++o) #[] (Zu m b.toArray)=(Zu m b).flatten.toArray:=λm=>by
   grind [foldl_rep]
  rw[G]
  cases b with
  |nil=>simp
  |cons a L=>grind
 refine wpAny_binaryOp_repeat_ref (T:="list") (U:="int") (by decide) ⟨_,e,rfl⟩ (λJ=>typeIs_int J k t) noFill_list_mul F.fills_int_mul F.slot_int_rmul repeat_list F.slot_int_index.lookup
  (wdr F.slot_int_rmul (typeIs_int s k t) F.entry_int_rmul (F.args_int_rmul_2 _ _) (int___rmul___int_list k t l b.toArray n)
    ⟨e,rfl,⟨_,e,rfl⟩,wdr F.slot_list_mul ⟨_,e,rfl⟩ F.entry_list_mul (F.args_list_mul_2 _ _) (AutoListH.list___mul___list_int_3 l b.toArray n k t g f c) ⟨e,?_⟩⟩)
 rw[i];exact⟨.ref _,_,I.K9 (t':=s.toks) (r.rep k.toNat) (by rw[Hl,Nat.mul_comm];exact w),rfl,q _ I.fresh⟩
end
section
variable{prog:ZH}{w:World}{A:Around}{E:Value->Shared->Prop}{s:Shared}
set_option maxRecDepth 100000 in
end
section
variable{X:Cx}
end
section
variable{κ:Type}[DecidableEq κ]
noncomputable def bu(kvs:List (κ×V))(k:κ):Option V:=(kvs.find? λkv=>decide (kv.1=k)).map (·.2)
noncomputable def putK(kvs:List (κ×V))(k:κ)(v:V):List (κ×V):=
 if (kvs.any λkv=>decide (kv.1=k))=true then kvs.map (λkv=>if kv.1=k then(kv.1,v) else kv) else kvs++[(k,v)]
noncomputable def Jh(kvs:List (κ×V))(k:κ):List (κ×V):=kvs.filter λkv=>decide (kv.1≠k)
theorem Et:bu ([]:List (κ×V)) k=none:=rfl
theorem bF{p:κ×V}{r:List (κ×V)}{k:κ}(e:p.1=k):bu (p :: r) k=some p.2:=by simp[bu,wc6,e]
theorem bG{p:κ×V}{r:List (κ×V)}{k:κ}(e:¬p.1=k):bu (p :: r) k=bu r k:=by simp[bu,wc6,e]
theorem fX(k:κ):∀kvs:List (κ×V),(kvs.any λg=>decide (g.1=k))=(bu kvs k).isSome
 |[]=>rfl
 |p :: r=>by
  rw[wbY]
  by_cases e:p.1=k
  ·simp only[bF e,decide_eq_true e,Bool.true_or,Option.isSome_some]
  ·rw[bG e,decide_eq_false e,Bool.false_or];exact fX k r
theorem ye(k j:κ)(y:V):∀kvs:List (κ×V),bu (kvs.map λg=>if g.1=k then(g.1,y) else g) j=(bu kvs j).map λx=>if j=k then y else x
 |[]=>rfl
 |p :: r=>by
  have a:=ye k j y r;rw[ZK]
  by_cases h:p.1=k
  ·rw[if_pos h]
   by_cases e:p.1=j
   ·rw[bF (p:=(p.1,y)) e,bF e,wds,if_pos (e.symm.trans h)]
   ·rw[bG (p:=(p.1,y)) e,bG e,a]
  ·rw[if_neg h]
   by_cases e:p.1=j
   ·rw[bF (p:=p) e,bF e,wds,if_neg (λz=>h (e.trans z))]
   ·rw[bG (p:=p) e,bG e,a]
theorem vo(k j:κ)(y:V):∀kvs:List (κ×V),bu kvs k=none->bu (kvs++[(k,y)]) j=if j=k then some y else bu kvs j
 |[],_=>by
  by_cases e:k=j
  ·rw[if_pos e.symm];exact bF (p:=(k,y)) e
  ·rw[if_neg (λz=>e z.symm)];exact bG (p:=(k,y)) e
 |p :: r,hn=>by
  rw[List.cons_append];have a:¬p.1=k:=λz=>by rw[bF z]at hn;cases hn
  rw[bG a]at hn;have b:=vo k j y r hn
  by_cases e:p.1=j
  ·rw[bF e,bF e,if_neg (λz=>a (e.trans z))]
  ·rw[bG e,bG e,b]
theorem rZ(kvs:List (κ×V))(k j:κ)(y:V):bu (putK kvs k y) j=if j=k then some y else bu kvs j:=by
 unfold putK
 by_cases a:(kvs.any λb=>decide (b.1=k))=true
 ·rw[if_pos a,ye];rw[fX]at a
  by_cases e:j=k
  ·obtain⟨x,c⟩:=wei.mp a;rw[if_pos e,e,c,wds,if_pos rfl]
  ·rw[if_neg e]
   cases bu kvs j with
   |none=>rfl
   |some x=>rw[wds,if_neg e]
 ·rw[if_neg a];refine vo k j y kvs ?_;rw[fX]at a
  cases q:bu kvs k with
  |none=>rfl
  |some x=>rw[q]at a;exact(a rfl).elim
theorem ke(kvs:List (κ×V))(k:κ)(v:V):(putK kvs k v).length<=kvs.length + 1:=by
 unfold putK;split
 ·rw[Zf];omega
 ·rw[Zm,ZZ,weF];omega
theorem cF{kvs:List (κ×V)}{k:κ}(v:V)(h:bu kvs k=none):putK kvs k v=kvs++[(k,v)]:=by simp_all [putK,fX,if_neg]
theorem iz.iM(r:iz o u):o.isSome=u.isSome:=by
 cases o with
 |none=>cases u with
  |none=>rfl
  |some _=>exact(show False from r).elim
 |some _=>cases u with
  |none=>exact(show False from r).elim
  |some _=>rfl
theorem iz.getD(r:iz o u)(rd:RelV d d'):RelV (o.getD d) (u.getD d'):=by
 cases o with
 |none=>cases u with
  |none=>exact rd
  |some _=>exact(show False from r).elim
 |some _=>cases u with
  |none=>exact(show False from r).elim
  |some _=>exact r
theorem KV.val{kvs:List (κ×V)}{vs:List (κ×Value)}(r:KV kvs vs)(k:κ):iz (bu kvs k) (valueAt vs k):=by
 unfold KV at r
 induction r with
 |nil=>exact waP
 |@cons p q ps a h t f=>
  obtain⟨d,g⟩:=h
  by_cases e:p.1=k
  ·have c:q.1=k:=d.symm.trans e;have b:valueAt (q :: a) k=some q.2:=by simp[valueAt,wc6,c]
   rw[bF e,b];exact g
  ·have c:¬q.1=k:=λz=>e (d.trans z);have b:valueAt (q :: a) k=valueAt a k:=by simp[valueAt,wc6,c]
   rw[bG e,b];exact f
theorem KV.any{kvs:List (κ×V)}{vs:List (κ×Value)}(r:KV kvs vs)(k:κ):(kvs.any λg=>decide (g.1=k))=vs.any λg=>decide (g.1=k):=by
 unfold KV at r
 induction r with
 |nil=>rfl
 |cons h t a=>rw[wbY,wbY,a,h.1]
theorem KV.repl(r:KV kvs vs)(k:κ)(j:RelV y u) :
 KV (kvs.map λg=>if g.1=k then(g.1,y) else g) (vs.map λg=>if g.1=k then(g.1,u) else g):=by
 unfold KV at r ⊢
 induction r with
 |nil=>exact .nil
 |@cons p q ps d h t b=>
  rw[ZK,ZK];refine .cons ?_ b;obtain⟨a,c⟩:=h
  by_cases e:p.1=k
  ·rw[if_pos e,if_pos (a.symm.trans e)];exact⟨a,j⟩
  ·rw[if_neg e,if_neg (λz=>e (a.trans z))];exact⟨a,c⟩
theorem KV.put{kvs:List (κ×V)}{vs:List (κ×Value)}(r:KV kvs vs)(k:κ){y:V}{u:Value}(g:RelV y u):KV (putK kvs k y) (stored vs k u):=by
 unfold putK stored;rw[r.any k]
 by_cases e:(vs.any λa=>decide (a.1=k))=true
 ·rw[if_pos e,if_pos e];exact r.repl k g
 ·rw[if_neg e,if_neg e];exact Paired.snoc r ⟨rfl,g⟩
theorem KV.drop{kvs:List (κ×V)}{vs:List (κ×Value)}(r:KV kvs vs)(k:κ):KV (Jh kvs k) (without vs k):=by
 unfold KV at r ⊢;unfold Jh without
 induction r with
 |nil=>exact .nil
 |@cons p q ps i h t d=>
  obtain⟨c,f⟩:=h;rw[wd9,wd9]
  by_cases e:p.1=k
  ·have a:¬decide (p.1≠k)=true:=by simp[e]
   have b:¬decide (q.1≠k)=true:=by simp[c.symm.trans e]
   rw[if_neg a,if_neg b];exact d
  ·have g:¬q.1=k:=λz=>e (c.trans z);have a:decide (p.1≠k)=true:=by simp[e]
   have b:decide (q.1≠k)=true:=by simp[g]
   rw[if_pos a,if_pos b];exact .cons ⟨c,f⟩ d
theorem KV.keys{kvs:List (κ×V)}{vs:List (κ×Value)}(r:KV kvs vs):kvs.map (·.1)=vs.map (·.1):=by
 unfold KV at r
 induction r with
 |nil=>rfl
 |cons h t a=>grind
theorem KV.length{kvs:List (κ×V)}{vs:List (κ×Value)}(r:KV kvs vs):kvs.length=vs.length:=wfp r
end
theorem vp(r:RelV (kV k) u):(bg P w).is k u=true:=by grind [RelV,kV,bg,y2,y3]
theorem vq:∀{g:List Key} {us:List Value},Vals (g.map kV) us->ItemsAre (bg P w) g us
 |[],_,r=>by rw[wdt]at r;cases r;exact .nil
 |k :: g,_,r=>by
  rw[ZK]at r
  cases r with
  |cons h t=>exact .cons (vp h) (vq t)
abbrev KT(H:Hp):List (List Key×V)->List (List Key×Addr×Value)->Prop:=Paired λp q=>p.1=q.1/\H q.2.1=some (.tup (p.1.map kV))/\RelV p.2 q.2.2
theorem KT.val{H:Hp}{kvs:List (List Key×V)}{xs:List (List Key×Addr×Value)}(r:KT H kvs xs)(k:List Key):iz (bu kvs k) ((atKey xs k).map (·.2)):=by
 induction r with
 |nil=>exact waP
 |@cons p q ps a h t f=>
  obtain⟨d,_,g⟩:=h
  by_cases e:p.1=k
  ·have c:q.1=k:=d.symm.trans e;have b:atKey (q :: a) k=some q.2:=by simp[atKey,wc6,c]
   rw[bF e,b];exact g
  ·have c:¬q.1=k:=λz=>e (d.trans z);have b:atKey (q :: a) k=atKey a k:=by simp[atKey,wc6,c]
   rw[bG e,b];exact f
theorem KT.repl(r:KT H kvs xs)(k:List Key)(j:RelV y u) :
 KT H (kvs.map λg=>if g.1=k then(g.1,y) else g) (xs.map (putAt k u)):=by
 induction r with
 |nil=>exact .nil
 |@cons p q ps f h t c=>
  rw[ZK,ZK];refine .cons ?_ c;obtain⟨a,b,d⟩:=h;unfold putAt
  by_cases e:p.1=k
  ·rw[if_pos e,if_pos (a.symm.trans e)];exact⟨a,b,j⟩
  ·rw[if_neg e,if_neg (λz=>e (a.trans z))];exact⟨a,b,d⟩
theorem KT.put{H:Hp}{kvs:List (List Key×V)}{xs:List (List Key×Addr×Value)}(r:KT H kvs xs)(k:List Key){b:Addr}{y:V}{u:Value}(j:H b=some (.tup (k.map kV)))(g:RelV y u) :
 KT H (putK kvs k y) (storedH xs k b u):=by
 have e:(kvs.any λa=>decide (a.1=k))=(atKey xs k).isSome:=by
  rw[fX,(r.val k).iM,we1]
 unfold putK storedH;rw[e]
 by_cases q:(atKey xs k).isSome=true
 ·rw[if_pos q,if_pos q];exact r.repl k g
 ·rw[if_neg q,if_neg q];exact Paired.snoc r ⟨rfl,j,g⟩
theorem KT.keeps(r:KT H kvs xs)(g:∀b ys,H b=some (.tup ys)->j b=some (.tup ys)):KT j kvs xs:=
 Paired.JV r λ_ _ z=>⟨z.1,g _ _ z.2.1,z.2.2⟩
section
variable{P:ZH}{w:World}{H:Hp}{h:Heap}{a:Addr}
theorem Ji(ok:j4 P w H h)(e:Rd H a u):bO P w H h a u:=e.ok ok
theorem mh(ok:j4 P w H h)(e:Rd H a (.dK kvs)):kvs.length<=sizeLine/\(a == wc2)=false/\∃vs,KV kvs vs/\h.DictOf (bg P w) a vs:=
 show bO P w H h a (.dK kvs) from Ji ok e
theorem se(ok:j4 P w H h)(e:H a=some (.dK kvs)):kvs.length<=sizeLine/\(a == wc2)=false/\∃vs,KV kvs vs/\h.DictOf (bg P w) a vs:=mh ok (.inl e)
theorem sf(ok:j4 P w H h)(e:H a=some (.tup (g.map kV))):(weA (bg P w)).is h g a:=by
 obtain⟨_,b,r,o,c,d,n,f⟩:=(show bO P w H h a (.tup (g.map kV)) from ok a _ e);exact⟨o,b.toArray,n,c,d,f,by simpa using vq r⟩
theorem yf(ok:j4 P w H h)(e:Rd H a (.dT kvs)):kvs.length<=sizeLine/\(a == wc2)=false /\
 ∃xs,KT H kvs xs/\h.DictOfH (weA (bg P w)) a xs:=by
 obtain⟨z,y,xs,r,o,b,c,d,f,g,i,j⟩:=(show bO P w H h a (.dT kvs) from Ji ok e);refine⟨z,y,xs,r,o,b,c,d,f,g,i,λx k=>?_,j⟩
 have all:∀{l:List (List Key×V)} {m:List (List Key×Addr×Value)},KT H l m->∀x∈m,(weA (bg P w)).is h x.1 x.2.1:=by
  intro l m q
  induction q with
  |nil=>grind
  |@cons p q ps n s t u=>
   grind [sf]
 exact all r x k
theorem ME(ok:j4 P w H h)(e:H a=some (.dT kvs)):kvs.length<=sizeLine/\(a == wc2)=false /\
 ∃xs,KT H kvs xs/\h.DictOfH (weA (bg P w)) a xs:=yf ok (.inl e)
end
def dQ(H:Hp)(a:Addr)(y:V)(r:Option V):Prop:=
 (∃kvs k,Rd H a (.dK kvs)/\y=kV k/\r=bu kvs k)\/∃kvs k b,Rd H a (.dT kvs)/\y=.ref b/\H b=some (.tup (k.map kV))/\r=bu kvs k
def jd(H:Hp)(a:Addr)(y v:V)(H':Hp):Prop:=
 (∃kvs k,H a=some (.dK kvs)/\y=kV k/\kvs.length < sizeLine/\H'=upd H a (.dK (putK kvs k v))) \/
 ∃kvs k b,H a=some (.dT kvs)/\y=.ref b/\H b=some (.tup (k.map kV))/\kvs.length < sizeLine/\H'=upd H a (.dT (putK kvs k v))
theorem dQ.k{H:Hp}{a:Addr}{kvs:List (Key×V)}{k:Key}(e:H a=some (.dK kvs)):dQ H a (kV k) (bu kvs k):=.inl ⟨kvs,k,.inl e,rfl,rfl⟩
theorem dQ.t{H:Hp}{a b:Addr}{kvs:List (List Key×V)}{k:List Key}(e:H a=some (.dT kvs))(g:H b=some (.tup (k.map kV))):dQ H a (.ref b) (bu kvs k):=.inr ⟨kvs,k,b,.inl e,rfl,g,rfl⟩
theorem jd.k{H:Hp}{a:Addr}{kvs:List (Key×V)}{k:Key}{v:V}(e:H a=some (.dK kvs))(hl:kvs.length < sizeLine):jd H a (kV k) v (upd H a (.dK (putK kvs k v))):=.inl ⟨kvs,k,e,rfl,hl,rfl⟩
theorem jd.t{H:Hp}{a b:Addr}{kvs:List (List Key×V)}{k:List Key}{v:V}(e:H a=some (.dT kvs))(g:H b=some (.tup (k.map kV)))(hl:kvs.length < sizeLine) :
 jd H a (.ref b) v (upd H a (.dT (putK kvs k v))):=.inr ⟨kvs,k,b,e,rfl,g,hl,rfl⟩
section
variable{X:Cx}{pins:List (Addr×Obj)}{σ:St}{H:Hp}{s:Shared}{a:Addr}{y v:V}{u r:Value}{o:Option V}{A:Around}{E:Value->Shared->Prop}
theorem Inv.big(I:Inv X pins σ H s):wc2 < s.heap.objs.size:=by
 have h:wa2 < s.heap.objs.size:=(I.mod.glob.keeps I.bk).lt;exact Nat.lt_trans (by decide) h
theorem CG{Q:Value->Shared->Prop}(J:A.units + 1 < wbT)(I:Inv X pins σ H s)(g:dQ H a y (some v))(C:RelV y u)(h:∀j s',Inv X pins σ H s'->RelV v j->Q j s') :
 wpAny (model X.prog X.w) A (getItem (.ref a) u) Q E s:=by
 rcases g with⟨d,k,e,f,l⟩ |⟨d,k,b,e,f,n,l⟩
 ·subst f;obtain⟨z,hd,q,rel,i⟩:=mh I.aZ e;obtain⟨j,hw,c⟩:=iz.wB (v:=v) (o:=valueAt q k) (by rw[l];exact rel.val k);exact wpAny_getItem_of (vp C) i.mapOf hw (h j _ (I.tok _) c)
 ·subst f;cases(show u=ZD b from C);obtain⟨z,hd,r,rel,i⟩:=yf I.aZ e;obtain⟨j,hw,c⟩:=iz.wB (v:=v) (o:=(atKey r k).map (·.2)) (by rw[l];exact rel.val k);obtain⟨p,t,m⟩:=weK.mp hw;refine wpAny_getItem_heap (wcI J) (sf I.aZ n) i t ?_;rw[m];exact h j _ (I.tok _) c
theorem Q2{Q:Value->Shared->Prop}(p:A.units + 1 < wbT)(I:Inv X pins σ H s)(g:dQ H a y o)(j:RelV y u)(h:∀s',Inv X pins σ H s'->Q (.bool o.isSome) s') :
 wpAny (model X.prog X.w) A (waI .In u (.ref a)) Q E s:=by
 rcases g with⟨c,k,e,d,l⟩ |⟨c,k,b,e,d,i,l⟩
 ·subst d;obtain⟨z,hd,m,rel,f⟩:=mh I.aZ e;refine wpAny_in_of (vp j) hd f.mapOf ?_;rw[<-(rel.val k).iM,<-l];exact h _ (I.tok _)
 ·subst d;cases(show u=ZD b from j);obtain⟨z,hd,n,rel,f⟩:=yf I.aZ e;refine wpAny_in_heap (wcI p) (sf I.aZ i) hd f ?_;have q:=(rel.val k).iM;rw[we1]at q;rw[<-q,<-l];exact h _ (I.tok _)
theorem Hm{Q:Value->Shared->Prop}(p:A.units + 1 < wbT)(I:Inv X pins σ H s)(g:dQ H a y o)(j:RelV y u)(h:∀s',Inv X pins σ H s'->Q (.bool (!o.isSome)) s') :
 wpAny (model X.prog X.w) A (waI .NotIn u (.ref a)) Q E s:=by
 rcases g with⟨c,k,e,d,l⟩ |⟨c,k,b,e,d,i,l⟩
 ·subst d;obtain⟨z,hd,m,rel,f⟩:=mh I.aZ e;refine wpAny_notIn_of (vp j) hd f.mapOf ?_;rw[<-(rel.val k).iM,<-l];exact h _ (I.tok _)
 ·subst d;cases(show u=ZD b from j);obtain⟨z,hd,n,rel,f⟩:=yf I.aZ e;refine wpAny_notIn_heap (wcI p) (sf I.aZ i) hd f ?_;have q:=(rel.val k).iM;rw[we1]at q;rw[<-q,<-l];exact h _ (I.tok _)
theorem wI(I:Inv X pins σ H s)(g:M9 (H a))(hs:wee a s.heap h')(j:∃q,h'.get? a=some q)(new:bO X.prog X.w (upd H a ob) h' a ob) :
 Inv X pins σ (upd H a ob) {s with heap:=h',toks:=t'}:=
 I.write (x:=a) (e:=a) g (.inl rfl) (λb q c z=>(hs.2 b c).trans z) j new
theorem Eu(z:kvs.length<=sizeLine)(hd:(a == wc2)=false)(rel:KV kvs vs)(dd:h'.DictOf (bg P w) a vs) :
 bO P w g h' a (.dK kvs):=⟨z,hd,vs,rel,dd⟩
theorem CH{Q:Unit->Shared->Prop}(T:A.units + 1 < wbT)(I:Inv X pins σ H s)(g:jd H a y v U)(C:RelV y u)(J:RelV v r)(h:∀s',Inv X pins σ U s'->Q () s') :
 wpAny (model X.prog X.w) A (setItem (.ref a) u r) Q E s:=by
 rcases g with⟨d,k,e,j,l,m⟩ |⟨d,k,b,e,j,t,l,m⟩
 ·subst j m;obtain⟨z,hd,D,rel,n⟩:=se I.aZ e;have o:D.length<=sizeLine:=by rw[<-rel.length];exact z
  have hl:(putK d k v).length<=sizeLine:=by have:=ke d k v;omega
  refine wpAny_setItem_pairs (hsz:=o) (vp C) n λx f p=>h _ ?_;have F:∃q,x.get? a=some q:=let ⟨q,_,_,i,_⟩:=f;⟨q,i⟩
  exact wI I (by rw[e];exact waP) p F (Eu hl hd (rel.put k J) f)
 ·subst j m;cases(show u=ZD b from C);obtain⟨z,hd,G,rel,n⟩:=ME I.aZ e;have o:G.length<=sizeLine:=by rw[<-wfp rel];exact z
  have hl:(putK d k v).length<=sizeLine:=by have:=ke d k v;omega
  refine wpAny_setItem_heap (hsz:=o) (wcI T) (sf I.aZ t) n λx f p=>h _ ?_;obtain⟨q,K,L,i,M,N,O,_,P⟩:=f;refine wI I (by rw[e];exact waP) p ⟨q,i⟩ ⟨hl,hd,_,(rel.put k t J).keeps λc R B=>?_,q,K,L,i,M,N,O,P⟩;rw[ae (M8 B e (λz=>nomatch z))];exact B
end
section
variable{X:Cx}{pins:List (Addr×Obj)}{σ:St}{H:Hp}{s:Shared}{a:Addr}{kvs:List (Key×V)}{k:Key}{u:Value}{A:Around}{E:Value->Shared->Prop}
end
def MF(i:Expr):Prop:=∀ov iv,weN i false ov iv=operate [ov,iv] (getItem ov iv)
theorem Hn{prog:ZH}{w:World}{A:Around}{E:Value->Shared->Prop}{s:Shared}{env:Env}{value slice:Expr}{pos:Pos}{T id:String}{Q:Value->Shared->Prop}
 (hl:we7 (.type T) "__getitem__"=pure (some (.builtin id))) (hs:MF slice)
 (h:wpAny (model prog w) A (eval value env) (λo j=>wpAny (model prog w) A (eval slice env) (λi g=>g.TypeIs o T/\wpAny (model prog w) A (getItem o i) Q E g) E j) E s) :
 wpAny (model prog w) A (eval (.Subscript value slice pos) env) Q E s:=by
 refine Subscript_ (wad h (λo j c=>wad c (λi g a=>?_) λ_ _ x=>x) λ_ _ x=>x);obtain⟨e,a⟩:=a;unfold wfq;refine Zk ?_;rw[getitemInPython_of_ne e.not_modules];refine Zk (wpAny_specialOf e hl ?_)
 have fin:wpAny (model prog w) A (weN slice false o i) (λr b=>wpAny (model prog w) A (letTemporaryGo value o r >>= λ_=>pure r) Q E b) E g:=by
  rw[hs o i];exact wpAny_operating (wad a (λr b d=>Zk (wpAny_letTemporaryGo (ZN d))) λ_ _ x=>x)
 first
  |exact ZN (Zk fin)
  |exact Zk (ZN (Zk fin))
  |exact Zk fin
theorem yg{X:Cx}(I:Inv X j σ H s)(g:dQ H a y o):s.TypeIs (.ref a) "dict":=by
 rcases g with⟨c,k,e,_,_⟩ |⟨c,k,b,e,_,_,_⟩
 ·obtain⟨_,_,f,_,d⟩:=mh I.aZ e;exact d.typeIs
 ·obtain⟨_,_,h,_,d⟩:=yf I.aZ e;exact d.typeIs
def MG(td ty:TE):TE:=λσ H Q=>td σ H λx H1=>ty σ H1 λy H2=>∃a v,x=.ref a/\dQ H2 a y (some v)/\Q v H2
def Q3(ty td:TE):TE:=λσ H Q=>ty σ H λy H1=>td σ H1 λx H2=>∃a o,x=.ref a/\dQ H2 a y o/\Q (.bl o.isSome) H2
def Ho(ty td:TE):TE:=λσ H Q=>ty σ H λy H1=>td σ H1 λx H2=>∃a o,x=.ref a/\dQ H2 a y o/\Q (.bl (!o.isSome)) H2
def Jj(td ty tv:TE):TS:=λD σ H=>tv σ H λv H1=>td σ H1 λx H2=>ty σ H2 λy H3=>∃a H4,x=.ref a/\jd H3 a y v H4/\D.nx σ H4
section
variable{X:Cx}{o i e value:Expr}{pos pos' PN:Pos}{td ty tv:TE}
theorem d7(j:X.A.units + 1 < wbT)(l:PE X o td)(hi:PE X i ty)(hs:MF i):PE X (.Subscript o i pos) (MG td ty):=by
 intro b s σ H Q I h;refine Hn PySem.F.slot_dict_getitem.lookup hs (bS (l b s σ H _ I h) λu e ⟨x,f,k,m,n⟩=>bS (hi b e σ f _ k n) λw z ⟨y,p,d,q,a,v,ex,g,r⟩=>?_);subst ex;obtain rfl:u=ZD a:=m;exact⟨yg d g,CG j d g q λB C t c=>⟨v,p,t,c,r⟩⟩
theorem Kb(j:X.A.units + 1 < wbT)(hi:PE X i ty)(l:PE X o td):PC X .In i o (Q3 ty td):=by
 intro b s σ H Q I h;refine bS (hi b s σ H _ I h) λv c ⟨y,d,e,f,k⟩=>bS (l b c σ d _ e k) λu w ⟨x,m,n,p,a,q,ex,g,r⟩=>?_;subst ex;obtain rfl:u=ZD a:=p;exact Q2 j n g f λz t=>⟨.bl q.isSome,m,t,rfl,r⟩
theorem vr(j:X.A.units + 1 < wbT)(hi:PE X i ty)(l:PE X o td):PC X .NotIn i o (Ho ty td):=by
 intro b s σ H Q I h;refine bS (hi b s σ H _ I h) λv c ⟨y,d,e,f,k⟩=>bS (l b c σ d _ e k) λu w ⟨x,m,n,p,a,q,ex,g,r⟩=>?_;subst ex;obtain rfl:u=ZD a:=p;exact Hm j n g f λz t=>⟨.bl (!q.isSome),m,t,rfl,r⟩
theorem dW(j:X.A.units + 1 < wbT)(l:PE X o td)(hi:PE X i ty)(p:PE X value tv)(hs:wbd value (some (.Subscript o i pos')) pos.line X.env=pure false) :
 PS X (.Assign [.Subscript o i pos'] value pos) (Jj td ty tv):=by
 intro b s σ H D I h;refine wpAny_Assign_Subscript (bS (p b s σ H _ I h) λr c ⟨v,d,e,f,k⟩=>bS (l b c σ d _ e k) λu m ⟨x,n,q,t,w⟩=>bS (hi b m σ n _ q w) λG J ⟨y,K,z,B,a,C,ex,g,E⟩=>?_) hs;subst ex;obtain rfl:u=ZD a:=t;exact CH j z g B f λL F=>⟨σ,C,F,E⟩
end
theorem si(h:Heap)(g:wc2 < h.objs.size):bO P w H (h.push {cls:=.type "dict",data:=.dict #[]}) h.objs.size (.dK []):=
 ⟨wa0 _,beq_eq_false_iff_ne.mpr (waB (ZJ g)),[],.nil,Heap.DictOf.new h⟩
def Kc:TE:=λ_ H Q=>∀p,H p=none->Q (.ref p) (upd H p (.dK []))
section
variable{X:Cx}{pos:Pos}
theorem dS:PE X (.Dict [] [] pos) Kc:=λb s σ H Q I h=>
 wpAny_Dict_empty ⟨.ref s.heap.objs.size,_,I.laid (a:=s.heap.objs.size) (o:=.dK []) (t':=s.toks) (λ_ _ q=>Zo _ q) (Zr _) (si s.heap I.big),rfl,h _ (I.aZ.fresh (Zr _))⟩
end
def A0:List (TE×TE)->St->Hp->(List (V×V)->Hp->Prop)->Prop
 |[],_,H,Q=>Q [] H
 |(tk,tv) :: r,σ,H,Q=>tk σ H λx H1=>tv σ H1 λy H2=>A0 r σ H2 λps H3=>Q ((x,y) :: ps) H3
abbrev VV:List (V×V)->List (Value×Value)->Prop:=Paired λp q=>RelV p.1 q.1/\RelV p.2 q.2
def Oy(X:Cx)(pos:Pos)(keys:List (Option Expr))(values:List Expr)(Q4:List (TE×TE)):Prop:=
 ∀(pins:List (Addr×Obj)) (s:Shared) (σ:St) (H:Hp) (Q:List (V×V)->Hp->Prop),Inv X pins σ H s->A0 Q4 σ H Q ->
  wpAny (model X.prog X.w) X.A (evalPairs (pairTrees keys values X.env pos)) (λvs s'=>∃ps H',Inv X pins σ H' s'/\VV ps vs/\Q ps H') X.xe s
theorem BG{X:Cx}:Oy X pos [] [] []:=λa s σ H Q I h=>pairTrees_nil_walk ⟨[],H,I,.nil,h⟩
theorem yh{X:Cx}(j:PE X k tk)(l:PE X v o)(p:Oy X pos r vs g) :
 Oy X pos (some k :: r) (v :: vs) ((tk,o) :: g):=λa s σ H Q I h=>
 pairTrees_cons_walk (bS (j a s σ H _ I h) λu b ⟨x,c,d,e,f⟩=>bS (l a b σ c _ d f) λB i ⟨y,m,n,q,t⟩=>
  bS (p a i σ m _ n t) λC D ⟨ps,w,z,rel,A⟩=>⟨(x,y) :: ps,w,z,.cons ⟨e,q⟩ rel,A⟩)
noncomputable def je(kvs more:List (Key×V)):List (Key×V):=more.foldl (λacc kv=>putK acc kv.1 kv.2) kvs
theorem KV.merge:∀{more:List (Key×V)} {g:List (Key×Value)} {kvs:List (Key×V)} {vs:List (Key×Value)},KV more g->KV kvs vs->KV (je kvs more) (merged vs g):=by
 intro more g kvs vs r;unfold KV at r
 induction r generalizing kvs vs with
 |nil=>intro q;exact q
 |@cons p q ps c h t a=>
  intro b
  have e:KV (putK kvs p.1 p.2) (stored vs q.1 q.2):=by
   have:=b.put p.1 h.2;rw[<-h.1];exact this
  exact a e
theorem uD:∀(more kvs:List (Key×V)),(je kvs more).length<=kvs.length + more.length:=by intro more;induction more <;> grind [putK,ke,je,ZZ]
theorem sj:∀{kvs:List (Key×V)} {ws:List (Value×Value)},VV (kvs.map λj=>(kV j.1,j.2)) ws->∃g,Carries (bg P w) ws g/\KV kvs g
 |[],_,r=>by rw[wdt]at r;cases r;exact⟨[],waP,.nil⟩
 |p :: kvs,_,r=>by
  rw[ZK]at r
  cases r with
  |@cons a b as bs h t=>
   obtain⟨g,c,q⟩:=sj (P:=P) (w:=w) t;obtain⟨e,d⟩:=b;exact⟨(p.1,d) :: g,⟨vp h.1,rfl,c⟩,.cons ⟨rfl,h.2⟩ q⟩
def MH(Q4:List (TE×TE)):TE:=λσ H Q=>∀p,H p=none->A0 Q4 σ (upd H p (.dK [])) λps H2=>H2 p=some (.dK [])/\∃kvs:List (Key×V),ps=kvs.map (λkv=>(kV kv.1,kv.2))/\kvs.length<=15/\Q (.ref p) (upd H2 p (.dK (je [] kvs)))
theorem BH{X:Cx}(h:Oy X pos keys values j)(g:keys.all (·.isSome)=true)(hl:keys.length=values.length)(p:keys≠[])
 (l:keys.length<=15):PE X (.Dict keys values pos) (MH j):=by
 intro b s σ H Q I q;have hn:=I.aZ.fresh (Zr s.heap.objs.size);have k:=I.laid (a:=s.heap.objs.size) (o:=.dK []) (h':=s.heap.push {cls:=.type "dict",data:=.dict #[]}) (t':=s.toks) (λ_ _ q=>Zo _ q) (Zr _) (si s.heap I.big);refine wpAny_Dict_walk (knd:=bg X.prog X.w) g hl p l (bS (h b _ σ _ _ k (q _ hn)) λE F ⟨ps,G,i,rel,e,d,m,lk,n⟩=>?_);subst m;obtain⟨r,c,t⟩:=sj (P:=X.prog) (w:=X.w) rel;obtain⟨z,hd,u,v,x⟩:=se i.aZ e;cases v;refine⟨r,c,x,λh' f y=>⟨.ref s.heap.objs.size,_,?_,rfl,n⟩⟩
 have A:(je [] d).length<=sizeLine:=by
  have B:=uD d [];rw[weF]at B;rw[wbe];omega
 have C:∃q,h'.get? s.heap.objs.size=some q:=let ⟨q,_,_,D,_⟩:=f;⟨q,D⟩
 exact wI i (by rw[e];exact waP) y C (Eu A hd (t.merge .nil) f)
structure M2(X:Cx)(o:Expr)(m:Str)(apos:Pos)(e f:Expr)(gR:Pos):Prop where
 base:wbH o m X.env (eval o X.env)=eval o X.env
 few:((backTo gR (starEach [e,f] X.env)).all (λx=>!x.1) && (backToKw gR (wd1 [] X.env)).all (λx=>x.1.isSome)
  && decide (([e,f]:List Expr).length + ([]:List wec).length + (if ([]:List wec).isEmpty then 0 else 1) < 30))=true
 line:(apos.endLine == gR.line)=true
 trees:backTo gR (starEach [e,f] X.env)=[(false,eval e X.env),(false,eval f X.env)]
section
variable{X:Cx}{pins:List (Addr×Obj)}{σ:St}{H:Hp}{s:Shared}{a:Addr}{y d:V}{u r:Value}{o:Option V}{A:Around}{E:Value->Shared->Prop}
end
section
variable{X:Cx}{o e f:Expr}{apos gR:Pos}{td ty tx:TE}
end
section
variable{X:Cx}{pins:List (Addr×Obj)}{σ:St}{H:Hp}{s:Shared}{a:Addr}{kvs:List (Key×V)}{A:Around}{E:Value->Shared->Prop}
end
section
variable{X:Cx}{pins:List (Addr×Obj)}{σ:St}{H:Hp}{s:Shared}{a:Addr}{y:V}{u:Value}{A:Around}{E:Value->Shared->Prop}
end
end L2
namespace Sw
open PySem PySem.W PySem.Calls PyProof.Rows
theorem ri:∀(ns:List Int) (vs:List Value),WellAll P h vs (ns.map WData.int)->IntsAre vs ns:=by
 intro ns
 induction ns with
 |nil=>
  intro vs w;rw[wdt]at w;cases w;exact .nil
 |cons n ns c=>
  intro vs w;rw[ZK]at w
  cases w with
  |cons a b=>
   cases a;exact .cons _ _ (c _ b)
theorem CI{l:wdC}{n:Nat}(hn:l.most=some n){P:Params}{h:Heap}{args:List WData}{g:List Value}
 (j:l.row.toRowW.claim.pre args=true) (o:WellAll P h g args) :
 ∃a vs ns,g=[ZD a]/\args=[WData.list (ns.map WData.int)]/\h.get? a=some {cls:=.type "list",data:=.seq vs.toArray}/\IntsAre vs ns/\ns.length<=n:=by
 have i:WShape.hasAll [] args [.list .int]=true:=(pre_splitW j).1;have hc:l.pre.holds [] {args:=args}=true:=(pre_splitW j).2;obtain⟨d,r,rfl,k,m⟩:=hasAllW_cons i;obtain rfl:=hasAllW_nil m;obtain⟨w,rfl,p⟩:=hasW_list k;obtain⟨ns,rfl⟩:=items_int p
 have b:ns.length<=n:=by
  unfold OpenLaw.pre at hc
  have e:(WTm.not (.lt (.lit (.int (n:Int))) (.len (.arg 0)))).holds [] {args:=[.list (ns.map .int)]}=true:=by
   have e:=(holds_andW hc).1;rw[hn]at e;exact e
  have f:=condW_of e (w_not (w_lt w_lit (w_len_list (w_arg rfl))));rw[Zf]at f;refine wga λq=>?_;have s:(n:Int) < ((ns.length:Nat):Int):=by omega
  first
   |(rw[decide_eq_true s]at f;exact absurd f (by decide))
   |(simp at f;omega)
 cases o with
 |cons t u=>
  cases u
  cases t with
  |list v c=>exact⟨_,_,ns,rfl,rfl,v,ri ns _ c,b⟩
theorem CJ(l:wdC)(args:List WData):l.row.toRowW.claim.post args (.bool true) args=true:=
 postW_of (r:=l.row.toRowW) (X:=(true == true))
  (show WShape.has [] (.bool true) .bool=true by first |rfl |decide |simp[WShape.has,WShape.arms,WShape.armsAll])
  (show (WTm.eq .res (.lit (.bool true))).value [] {args:=args,res:=some (.bool true),after:=args}=some (.bool (true == true)) from w_eq_bool (w_res rfl) w_lit) rfl
theorem yi{l:wdC}{n:Nat}{q:ZH}{loose:List Str}{XP:(Str->Option Value)->Heap->Prop}{YP:World->Heap->Prop}{d:DefRec}
 (hn:l.most=some n) (C:d.params.defaults=[])
 (call:∀(w:World) (s₀ g:Shared) (mg I:Str->Option Value) (p:Addr) (o:Obj) (pm cd j:Value) (a:Addr) (vs:List Value) (ns:List Int),
   Ground q loose [] XP w s₀ mg I g.heap->YP w g.heap ->
   g.heap.get? p=some o->o.data=.func (docDef d.name d.params d.body d.scope pm cd j)->g.heap.CodeRec cd d.name->mg d.name=some (.ref p) ->
   g.heap.get? a=some {cls:=.type "list",data:=.seq vs.toArray}->IntsAre vs ns->ns.length<=n->g.gens=#[] ->
   codeAny (model l.prog w) callerA (.call (.ref p) ⟨[.ref a],[]⟩) (λr s'=>r=.ok (.ret (.bool true))/\OldK g.heap s'.heap/\s'.os=g.os/\AllBare s'.gens) g) :
 wgk q loose XP YP l.row.toRowW d [] (λf vs=>wgn f vs):=by
 intro w s₀ g mg I G Y p o pm cd j v kV x hd i s k y args t as c u z m A;obtain rfl:v=.none:=Dflts.none s C;obtain rfl:kV=.none:=Dflts.noKw s;obtain⟨a,vs,ns,rfl,rfl,e,b,h⟩:=CI hn c m;refine enter_call (wbf (call w s₀ g mg I p o pm cd j a vs ns G Y x (fd_plain hd) i k e b h y) λr s' B=>?_);obtain⟨rfl,D,E,F⟩:=B;exact⟨.inl ⟨.bool true,.bool true,[],rfl,λ_=>rfl,.bool true,CJ l _,λ_=>⟨List.Pairwise.nil,λ_ H=>(nomatch H)⟩⟩,D,E,F⟩
section
variable{prog:ZH}{w:World}{A:Around}{E:Value->Shared->Prop}{s:Shared}{K:Frag}
end
end Sw
namespace L2
open PySem PySem.Spec PyProof.Rows
theorem vt:∀{vs:List Value} {ns:List Int},IntsAre vs ns->Vals (ns.map V.int) vs
 |_,_,.nil=>.nil
 |_,_,.cons n t h=>.cons ⟨t,rfl⟩ (vt h)
def Only(H:Hp):Prop:=∀b,H b=none\/∃o xs,H b=some (.frz o (.lst xs))
theorem Ew{P:ZH}{w:World}{K:Zh}{mg I:Str->Option Value}{CX:BE}{k:Nat}{J a:Addr}{fd:Zv}{x:Str}{sp:Sp}{g:Shared}{vs:List Value}{ns:List Int}
 (KX:K.In g.heap) (p:g.heap.Ns wa2 mg) (j:g.heap.Ns builtinsNs I) (T:∀x:Str,x≠"__name__"->I x=wa8 x) (C:g.heap.NoLimit) (hg:g.gens=#[])
 (ha:g.heap.get? a=some {cls:=.type "list",data:=.seq vs.toArray}) (hi:IntsAre vs ns) (hl:ns.length<=sizeLine) (hr:d4 k callerA)
 (F:∀base:Heap,K.In base->base.Ns wa2 mg->aM P w K mg base CX k J fd [x] sp) (l:∀(s:Shared) (u:Value),BindsTo s fd ⟨[u],[]⟩ [(x,u)])
 (U:∀H:Hp,Only H->aI K H a (ns.map V.int)->sp [.ref a] H (λv _=>v=.bl true) λ_ _ _=>False)
 (V7:∀H e s',CX [] H g (λ_ _ _=>False) e s'->False) :
 codeAny (model P w) callerA (.call (.ref J) ⟨[.ref a],[]⟩) (λr s'=>r=.ok (.ret (.bool true))/\OldK g.heap s'.heap/\s'.os=g.os/\AllBare s'.gens) g:=by
 have L:=vt hi;have f:=hi.length
 have core:∀H:Hp,Only H->aI K H a (ns.map V.int)->j4 P w H g.heap->(∀b,H b≠none->b=a)->(H a≠none->K.lookup a=none) ->
  codeAny (model P w) callerA (.call (.ref J) ⟨[.ref a],[]⟩) (λr s'=>r=.ok (.ret (.bool true))/\OldK g.heap s'.heap/\s'.os=g.os/\AllBare s'.gens) g:=by
  intro H M Q aZ N R;have BI:∀{b:Addr} {o:Obj},g.heap.get? b=some o->H b=none->(wy g.heap H).get? b=some o:=λe n=>E7 e n
  have D:∀{b:Addr} {o:Obj} {i:Array DictEntry} {t:Nat},g.heap.get? b=some o->o.data=.dict i t->H b=none:=λ{b o i t} e d=>by
   cases q:H b with
   |none=>rfl
   |some u=>
    have E:b=a:=N b (by rw[q];simp);subst E;rw[ha]at e;cases e;have S:Data.seq vs.toArray _=Data.dict i t:=d;cases S
  have c:∀{b:Addr} {m:Str->Option Value},g.heap.Ns b m->(wy g.heap H).Ns b m:=λ{b m} ⟨o,i,t,e,d,r⟩=>⟨o,i,t,BI e (D e d),d,r⟩
  have y:K.In (wy g.heap H):=λb o e=>BI (KX b o e) (by
   cases q:H b with
   |none=>rfl
   |some u=>
    have E:b=a:=N b (by rw[q];simp);subst E
    rw[R (by rw[q];simp)]at e;cases e)
  have X:Mod K mg (wy g.heap H):=⟨y,c p,⟨I,c j,T⟩,let ⟨Y,Z,h2⟩:=C;⟨Y,c Z,h2⟩⟩;have e0:uz P w K mg (wy g.heap H) callerA [] g H:=⟨rfl,X,λb o e=>GU e,wdo (Cr _ _),trivial,λb j=>absurd (show b∈([]:List Addr) from j) (by simp),aZ,.of_eq hg⟩;refine wbf ((F _ y (c p)).run callerA [] g H ⟨[.ref a],[]⟩ [.ref a] [.ref a] _ _ hr e0 (l g (.ref a)) (.cons rfl .nil) (U H M Q)) λr s' h=>?_
  cases r with
  |error e=>exact(V7 H e s' h).elim
  |ok fl=>
   cases fl with
   |next=>exact waa h
   |brk=>exact waa h
   |cont=>exact waa h
   |ret u=>
    obtain⟨v,H',os,bare,un,A,r',q⟩:=h;have q':v=.bl true:=q;subst q';obtain rfl:u=wfd true:=r';refine⟨rfl,OldK.of_keep λb o e=>?_,os,bare⟩
    cases q:H b with
    |none=>exact un.keep b o e q (by intro z;exact absurd (show b∈([]:List Addr) from z) (by simp)) (by simp)
    |some u=>
     rcases M b with z |⟨ob,xs,z⟩
     ·rw[q]at z;cases z
     ·have z2:=un.k9 b ob _ z;obtain⟨O,_⟩:=aZ b _ z;obtain⟨e2,_⟩:=A b _ z2;rw[e]at O;cases O;exact e2
 cases G:K.lookup a with
 |some o=>
  have e:=KX a o G;rw[ha]at e;cases e;refine core (λ_=>none) (λ_=>.inl rfl) (.inr ⟨_,vs.toArray,_,G,rfl,rfl,rfl,by rw[ZR,f];exact hl,by simpa using L⟩) (λb u z=>by have B:(none:Option HO)=some u:=z;cases B) (λb z=>absurd rfl z) λz=>absurd rfl z
 |none=>
  refine core (λb=>if b=a then some (.frz {cls:=.type "list",data:=.seq vs.toArray} (.lst (ns.map V.int))) else none) (λb=>?_) (.inl (.inr ⟨{cls:=.type "list",data:=.seq vs.toArray},if_pos rfl⟩)) (λb u z=>?_) (λb z=>?_) λ_=>G
  ·by_cases j:b=a
   ·exact .inr ⟨_,_,if_pos j⟩
   ·exact .inl (if_neg j)
  ·by_cases j:b=a
   ·have B:=(if_pos j).symm.trans z;cases B;subst j;exact⟨ha,by rw[Zf];exact hl,vs,_,L,ha⟩
   ·have B:=(if_neg j).symm.trans z;cases B
  ·by_cases j:b=a
   ·exact j
   ·exact absurd (if_neg j) z
noncomputable abbrev Y2{K:Zh}{h:Heap}(_:K.In h):Zh:=K
theorem Hq{l:wdC}{n k:Nat}{q:ZH}{loose:List Str}{XP:(Str->Option Value)->Heap->Prop}{YP:World->Heap->Prop}{d:DefRec}{K:Params->Zh}{CX:World->BE}{sp:World->Sp}{x:Str}
 (hn:l.most=some n) (r:n<=sizeLine) (C:d.params.defaults=[]) (U:d4 k callerA)
 (hY:∀(w:World) (h:Heap),YP w h->(K w.params).In h)
 (F:∀(w:World) (mg:Str->Option Value) (p:Addr) (h:Heap),(K w.params).In h->h.Ns wa2 mg->mg d.name=some (.ref p) ->
   ∃fd:Zv,(∀(s:Shared) (u:Value),BindsTo s fd ⟨[u],[]⟩ [(x,u)]) /\
    ∀base:Heap,(K w.params).In base->base.Ns wa2 mg->aM l.prog w (K w.params) mg base (CX w) k p fd [x] (sp w))
 (I:∀(w:World) (H:Hp) (a:Addr) (ns:List Int),ns.length<=n->Only H->aI (K w.params) H a (ns.map V.int)->sp w [.ref a] H (λv _=>v=.bl true) λ_ _ _=>False)
 (J:∀(w:World) (H:Hp) (s:Shared) (e:Value) (s':Shared),CX w [] H s (λ_ _ _=>False) e s'->False) :
 wgk q loose XP YP l.row.toRowW d [] (λf vs=>wgn f vs):=by
 refine Sw.yi hn C λw y j mg O p o pm P A a vs ns G Y Q hd B t m i c D=>?_;have z:=hY w _ Y;obtain⟨fd,E,L⟩:=F w mg p _ z G.T.g t;exact Ew z G.T.g G.T.b G.T.builtins G.T.nolimit D m i (ZE c r) U L E (λH M N=>I w H a ns c M N) λH e s'=>J w H j e s'
noncomputable def inClass(s:Stmt)(j:Nat):Stmt:=match s with
 |.ClassDef _ _ _ body _ _ _ _ _ _ _=>body.getD j (.Pass ⟨0,0,0,0⟩)
 |_=>.Pass ⟨0,0,0,0⟩
noncomputable def cP(s:Stmt):Arguments:=match s with
 |.FunctionDef _ a _ _ _ _ _ _ _ _=>a
 |_=>{posonlyargs:=[],args:=[],vararg:=none,kwonlyargs:=[],kw_defaults:=[],kwarg:=none,defaults:=[]}
noncomputable def bL(s:Stmt):List Stmt:=match s with
 |.FunctionDef _ _ b _ _ _ _ _ _ _=>b
 |_=>[]
noncomputable def aD(s:Stmt):wc3:=match s with
 |.FunctionDef _ _ _ _ _ _ sc _ _ _=>sc
 |_=>{kind:=.function,names:=[],isGenerator:=false,isCoroutine:=false}
noncomputable abbrev cW:BE:=λ_ _ _ _ _ _=>False
abbrev E0:XK:=λ_ _ _=>False
theorem cG{X:Cx}:Passes cW X E0:=λ_ _ _ _ _ _ _ h=>h.elim
structure yj(K:Zh)(x qual:Str)(st:Stmt)(f:Addr)(fd:Zv):Prop where
 ex:∃(oc:Value) (od:Option Addr) (kV doc pm:Value) (an:Option Addr) (gA ct:Value) (Ex:Array (Option Value)),
  fd=wbn x qual (cP st) (bL st) (aD st) .none kV doc pm an gA ct/\K.lookup f=some ⟨oc,od,.func fd,Ex⟩/\wcS K gA qual=true
 kp:wbP K (.ref f)=true
section
variable{P:ZH}{w:World}{K:Zh}{mg:Str->Option Value}{base:Heap}
theorem yj.ok{x g:Str}{st:Stmt}{f:Addr}{fd:Zv}{N ps:List Str}{k:Nat}{sp:Sp}(F:yj K x g st f fd)(S:rH N ps (aD st))(len:∀vs H Q E,sp vs H Q E->vs.length=ps.length)
 (l:∀(j:Value) (A:Around) (outer:List Env) (s:Shared) (H:Hp) (vs:List V) (Q:VK) (E:XK),d4 k (A.deeper (envOfC g (aD st) s.heap.objs.size f j))->sp vs H Q E ->
   ∃t,uw (uB cW P w K mg base N g (aD st) f j A outer s H E).DZ (bL st) t/\t {nx:=λ_ o=>Q .non o,rt:=Q} (start N vs) H):aM P w K mg base cW (k + 1) f fd ps sp:=by
 obtain⟨i,m,kV,c,pm,n,j,ct,d,rfl,lk,a⟩:=F.ex;refine Jf lk a S len λA outer s H vs Q E e b=>?_;obtain⟨t,h,q⟩:=l j A outer s H vs Q E e b;exact⟨t,h.DZ,q⟩
theorem yj.binds{x g:Str}{st:Stmt}{f:Addr}{fd:Zv}{ps:List Str}(F:yj K x g st f fd)
 (h:∀(kV j pm:Value) (o:Option Addr) (l ct:Value) (us:List Value),us.length=ps.length->bindArgs (wbn x g (cP st) (bL st) (aD st) .none kV j pm o l ct) ⟨us,[]⟩=pure (ps.zip us)):Binds K fd ps []:=by
 obtain⟨c,d,kV,j,pm,o,l,ct,a,rfl,lk,b⟩:=F.ex;exact .all (h kV j pm o l ct)
theorem Ey{x g:Str}{st:Stmt}{f:Addr}{C:Value}{I r:Option Addr}{p:Array (Option Value)}{kV o pm j ct:Value}(l:K.lookup f=some ⟨C,I,.func (wbn x g (cP st) (bL st) (aD st) .none kV o pm r j ct),p⟩)
 (c:wcS K j g=true) (k:wbP K (.ref f)=true):yj K x g st f (wbn x g (cP st) (bL st) (aD st) .none kV o pm r j ct):=⟨⟨C,I,kV,o,pm,r,j,ct,p,rfl,l,c⟩,k⟩
end
theorem fo(g:d4 k A):A.units + 1 < wbT:=wap (Nat.add_le_add_left (by decide:1<=64) _) g.units
theorem bB(h:n<=1000):n < sizeLine:=wap h (by decide)
section
variable{X:Cx}
theorem pv(i:Nat)(j:X.N[i]?=some x:=by rfl)(l:Ma X.env.scope x:=by first |exact wcJ rfl |exact Or.inr (wcJ rfl) |exact Or.inr (Or.inr rfl))(hd:(x == ("__debug__":Str))=false:=by decide)
 (g:(x == ("__classdict__":Str))=false:=by decide):PE X (.Name x pos) (GW i):=JY j l hd g
end
theorem cg{A B:Prop}(h:B):if false=true then A else B:=by
 grind
theorem fu{A B:Prop}(h:A):if true=true then A else B:=by
 grind
theorem Ez{c A B:Prop}[Decidable c](g:c->A)(j:¬c->B):if c then A else B:=by
 by_cases h:c
 ·rw[if_pos h];exact g h
 ·rw[if_neg h];exact j h
def a8(H H':Hp):Prop:=∀b o,H b=some o->H' b=some o
theorem a8.refl(H:Hp):a8 H H:=λ_ _ h=>h
theorem a8.trans(a:a8 H g)(b:a8 g j):a8 H j:=λc o h=>b c o (a c o h)
theorem a8.free(e:a8 H g)(h:g l=Option.none):H l=Option.none:=by
 cases q:H l with
 |none=>rfl
 |some o=>
  rw[e l o q]at h;cases h
theorem a8.seq{K:Zh}{H g:Hp}{a:Addr}{xs:List V}(e:a8 H g)(h:aI K H a xs):aI K g a xs:=by
 rcases h with(h |⟨o,h⟩) |h
 ·exact .inl (.inl (e _ _ h))
 ·exact .inl (.inr ⟨o,e _ _ h⟩)
 ·exact .inr h
section
variable{κ:Type}[DecidableEq κ]
theorem yk{kvs:List (κ×V)}{k:κ}(h:bu kvs k=none):¬k∈kvs.map (·.1):=by
 intro m;obtain⟨p,a,e⟩:=Zq.mp m;have q:(kvs.any λb=>decide (b.1=k))=true:=wbw.mpr ⟨p,a,decide_eq_true e⟩;rw[fX,h]at q;exact absurd q (by simp)
theorem rJ{kvs:List (κ×V)}{k:κ}{v:V}(h:bu kvs k=some v):k∈kvs.map (·.1):=by
 have q:(kvs.any λa=>decide (a.1=k))=true:=by
  rw[fX,h]
  all_goals rfl
 obtain⟨p,b,e⟩:=wbw.mp q;exact Zq.mpr ⟨p,b,of_decide_eq_true e⟩
theorem Hr:∀{l:List κ} {k:κ},l.Nodup->¬k∈l->(l++[k]).Nodup:=by intro l;induction l <;> grind
theorem BJ{kvs:List (κ×V)}{k:κ}(v:V)(hn:(kvs.map (·.1)).Nodup)(h:bu kvs k=none):((putK kvs k v).map (·.1)).Nodup:=by
 rw[cF v h,ZB];exact Hr hn (yk h)
end
theorem a8.upd(h:H a=none):a8 H (upd H a o):=λb u e=>by rw[ae (af e h)];exact e
structure m9(J:It)(Ok:Hp->Prop)(xs:List V):Prop where
 go:∀i H,Ok H->i < xs.length->J.go i H
 ur:∀i H x H',Ok H->i < xs.length->J.ur i H x H'->H'=H/\xs[i]?=some x
 stop:∀H,Ok H->J.stop xs.length H
theorem aH(K:Zh)(a:Addr)(xs:List V):m9 (LC K a) (λH=>aI K H a xs) xs:=
 ⟨λi H q hi=>⟨xs,xs[i],q,by simp[hi]⟩,λi H x b q _ y=>⟨y.1,y.2 xs q⟩,λH q=>⟨xs,q,Zr _⟩⟩
noncomputable def Oz(n:Nat)(val:Nat->V):It:=⟨λi _=>i < n,λi H x H'=>H'=H/\x=val i,λi _=>n<=i⟩
theorem Kd{val:Nat->V}(hn:xs.length=n)(g:∀i x,xs[i]?=some x->val i=x):m9 (Oz n val) (λ_=>True) xs:=by
 subst hn;refine⟨λi H _ hi=>hi,λi H x a _ hi y=>⟨y.1,?_⟩,λH _=>Zr _⟩;have e:xs[i]?=some xs[i]:=by simp[hi]
 rw[e,y.2,g i _ e]
theorem mS(lo:Int)(n:Nat):m9 (Jb lo n) (λ_=>True) ((ZY n).map λi=>V.int (lo + (i:Nat))):=by
 refine⟨λi H _ hi=>(show i < n by simpa using hi),λi H x b _ hi y=>⟨y.1,?_⟩,λH _=>?_⟩
 ·have a:i < n:=by simpa using hi
  rw[y.2];simp[a]
 ·show n<=_;simp
theorem mU{J:It}{Ok:Hp->Prop}{xs:List V}{g:TG}{I:TS}{D:Ends}{σ:St}{H:Hp}(r:m9 J Ok xs)(Pv:Nat->St->Hp->Prop)(U:Pv 0 σ H)(hS:∀i σ H,i<=xs.length->Pv i σ H->Ok H)
 (hs:∀i x σ H,xs[i]?=some x->Pv i σ H->g x σ H λl C=>I {D with nx:=Pv (i + 1),ct:=Pv (i + 1),bk:=D.nx} l C) (hd:∀σ H,Pv xs.length σ H->D.nx σ H) :
 ∃W:Nat->Nat->St->Hp->Prop,(∃m,W 0 m σ H)/\∀i m σ H,W i m σ H ->
  (J.stop i H/\D.nx σ H)\/(J.go i H/\∃N:St->Hp->Prop,(∀o j,N o j->∃T,T < m/\W (i + 1) T o j)/\∀x j,J.ur i H x j->g x σ j λl C=>I {D with nx:=N,ct:=N,bk:=D.nx} l C):=by
 refine⟨λi m σ H=>m=xs.length - i/\i<=xs.length/\Pv i σ H,⟨xs.length,by simp,wa0 _,U⟩,?_⟩;rintro i m σ H ⟨rfl,hi,p⟩;have q:=hS i σ H hi p
 by_cases a:i < xs.length
 ·refine .inr ⟨r.go i H q a,Pv (i + 1),λo j b=>⟨xs.length - (i + 1),by omega,rfl,a,b⟩,λx j y=>?_⟩;obtain⟨e,c⟩:=r.ur i H x j q a y;subst e;exact hs i x σ _ c p
 ·have e:i=xs.length:=by omega
  subst e;exact .inl ⟨r.stop H q,hd σ H p⟩
abbrev Jk(nm:String):Prop:=["enumerate","zip","dict_itemiterator","dict_reverseitemiterator","odict_iterator","itertools.zip_longest","itertools.pairwise"].contains nm=false
theorem A1{P:ZH}{w:World}{K:Zh}{T:Expr}{it:Addr}{n:Nat}{Pv:Nat->Value->Prop}{St:Nat->Heap->Prop}{val:Nat->V}
 (J:∀A:Around,A.handled=none->Walks P w A it [it] [it] n Pv St)
 (g:∀i h,St i h->∃(o:Obj) (nm:String) (vs:Array Value),h.get? it=some o/\o.cls=.type nm/\o.data=.fields vs/\Jk nm)
 (j:∀i h h',St i h->(∀o,h.get? it=some o->h'.get? it=some o)->St i h')
 (l:∀(A:Around) (i:Nat) (s:Shared) (Q:Value->Shared->Prop) (E:Value->Shared->Prop),St i s.heap->Q (.ref it) s->wpAny (model P w) A (pyIter (.ref it)) Q E s)
 (p:∀i u,Pv i u->RelV (val i) u):Turn P w K T (Oz n val) [it] it (λi h=>St i h/\i<=n) where
 mem:=by simp
 obj:=λi h st b f=>by
  have e:b=it:=by simpa using f
  subst e;obtain⟨o,nm,vs,e,c,d,_⟩:=g i h st.1;exact⟨o,e,λv z=>by rw[d]at z;cases z⟩
 keep:=λi h h' st k=>⟨j i h h' st.1 λo e=>k it (by simp) o e,st.2⟩
 item:=by
  intro X t hw x hc i a s σ H E I q st r;subst t hw x;obtain⟨y,f1,f2,B,C,D⟩:=q it (by simp);refine(J X.A (I.ok.hd hc)).item i s _ _ r st.1 λv h' F L m G=>?_;have M:Inv X a σ H {s with heap:=h',toks:=F}:=I.turned (λb o f e=>G b o (by simpa using f) e) y f1 B C D;obtain⟨o,nm,vs,e,c,d,hn⟩:=g _ _ m;exact⟨_,rfl,Bz (s:={s with heap:=h',toks:=F}) e c d hn ⟨val i,H,M,p i v L,⟨rfl,rfl⟩,⟨m,r⟩,λb f=>(q b f).1⟩⟩
 done:=by
   intro X t hw x hc i a s σ H E I q st r;subst t hw x;obtain⟨y,f1,f2,B,C,D⟩:=q it (by simp)
   have e:i=n:=by
    have N:=st.2;have O:n<=i:=r;omega
   subst e;exact(J X.A (I.ok.hd hc)).done s _ _ st.1 λh' F G=>⟨rfl,I.turned (λb o f e=>G b o (by simpa using f) e) y f1 B C D⟩
 self:=λA i s Q E st h=>l A i s Q E st.1 h
noncomputable def BK(z:Str)(i:Nat):V:=.str ⟨#[z.cps.getD i 0]⟩
noncomputable def dO(z:Str):List V:=z.cps.toList.map λc=>V.str ⟨#[c]⟩
theorem nL(z:Str):m9 (Oz z.cps.size (BK z)) (λ_=>True) (dO z):=by simp_all [Kd,dO,Zi,Zx,wbG,BK,wci]
def Q6(tl:TE):TI:=λσ H R=>tl σ H λx H1=>∃z,x=.str z/\R (Oz z.cps.size (BK z)) H1
section
variable{X:Cx}{tg:Expr}
theorem wJ{l:Expr}{C:TE}(hl:PE X l C):PI X tg l (Q6 C):=by
 intro f s σ H R I h;refine bS (hl f s σ H _ I h) λv a ⟨x,B,n,D,F⟩=>?_;obtain⟨z,e,q⟩:=F;subst e;obtain⟨t,rfl⟩:=D
 have fin:∀(j:String) (o:Obj),(∀m:Around,m.handled=none->Walks X.prog X.w m a.heap.objs.size [a.heap.objs.size] [a.heap.objs.size] z.cps.size (SignAt z) (λi h=>h.IsStrIter a.heap.objs.size j z t i)) ->
  (∀(A:Around) (i:Nat) (s:Shared) (Q:Value->Shared->Prop) (E:Value->Shared->Prop),s.heap.IsStrIter a.heap.objs.size j z t i->Q (.ref a.heap.objs.size) s->wpAny (model X.prog X.w) A (pyIter (.ref a.heap.objs.size)) Q E s) ->
  Jk j->(a.heap.push o).IsStrIter a.heap.objs.size j z t 0->Ou X f σ tg R (.ref a.heap.objs.size) {a with heap:=a.heap.push o}:=by
  intro j o G g p r
  refine⟨a.heap.objs.size,[a.heap.objs.size],_,_,B,rfl,n.kept (t':=a.toks) λb o e=>Zo _ e,
   A1 (val:=BK z) G (λi h st=>?_) (λi h M st k=>?_) g (λi u J=>?_),⟨r,wa0 _⟩,λb K=>?_,q⟩
  ·obtain⟨o,e,c,d⟩:=st;exact⟨o,j,_,e,c,d,p⟩
  ·obtain⟨o,e,c,d⟩:=st;exact⟨o,k o e,c,d⟩
  ·obtain⟨c,L,hc,e⟩:=J;refine⟨L,?_⟩;rw[e,wci,hc];rfl
  ·have e:b=a.heap.objs.size:=by simpa using K
   subst e;exact n.Cu (Zr _) (n.aZ.fresh (Zr _))
 cases ha:z.cps.all (· < 128)
 ·exact wpAny_pyIter_wide ha (fin "str_iterator" _ (λm y=>Walks.strWide y _ z t) (λA i s Q E st h=>wpAny_pyIter_striter_wide st h) (by decide) ⟨_,ZP _ rfl,rfl,rfl⟩)
 ·exact wpAny_pyIter_ascii ha (fin "str_ascii_iterator" _ (λm y=>Walks.strAscii y _ z t) (λA i s Q E st h=>wpAny_pyIter_striter_ascii st h) (by decide) ⟨_,ZP _ rfl,rfl,rfl⟩)
end
theorem Un.sameBut(u:Un fs ex H l h g)(hs:∀b,b≠L->j.get? b=g.get? b)(p:h.objs.size<=L):Un fs ex H l h j:=
 have ne:∀{b:Addr} {o:Obj},h.get? b=some o->b≠L:=λe=>ZJ (ZI (Zz e) p)
 ⟨λb o e n g j=>(hs b (ne e)).trans (u.keep b o e n g j),λb o e n g j=>let ⟨sl,q⟩:=u.slot b o e n g j;⟨sl,(hs b (ne e)).trans q⟩,u.free,
   λb o e a=>let ⟨c,q⟩:=u.there b o e a;⟨c,(hs b (ne e)).trans q⟩,u.m3,u.k9,u.m4⟩
def Ke(scope:wc3)(env:Env):Prop:=∀y∈scope.names,y.2=.free->env.kindOf y.1=some .cell\/env.kindOf y.1=some .free
theorem mV:∀{names:List (Str×wd8)} (g:List (Str×Addr)),(∀y∈names,y.2=.free->∃c,env.cells.lookup y.1=some c)->(∀y c,g.lookup y=some c->env.cells.lookup y=some c) ->
 ∃cl:List (Str×Addr),(forIn names g (λ(x:Str×wd8) cs=>(match x with |(name,kind)=>if kind == .free then do let c <-cellOf env name;pure (wc7 ((name,c) :: cs)) else pure (wc7 cs):Sem (ForInStep (List (Str×Addr))))))=pure cl /\
  (∀y c,cl.lookup y=some c->env.cells.lookup y=some c)/\(∀y c,g.lookup y=some c->∃j,cl.lookup y=some j)/\∀y∈names,y.2=.free->∃c,cl.lookup y.1=some c
 |[],g,_,ha=>⟨g,rfl,ha,λy c e=>⟨c,e⟩,λ_ h=>nomatch h⟩
 |(n,k) :: r,g,i,ha=>by
  rw[List.forIn_cons]
  by_cases f:k=.free
  ·obtain⟨c,hc⟩:=i (n,k) Zy f;have l:(k == wbI)=true:=by rw[f];rfl
   obtain⟨cl,m,o,d,p⟩:=mV (env:=env) (names:=r) ((n,c) :: g) (λy a=>i y (Zt _ a)) (λy j e=>by
    rw[wcn]at e
    cases q:y == n with
    |true=>
     rw[q]at e;have:c=j:=Zx e;subst this;have:y=n:=eq_of_beq q;subst this;exact hc
    |false=>
     rw[q]at e
     exact ha y j e)
   refine⟨cl,?_,o,λy j e=>?_,λy a b=>?_⟩
   ·rw[<-m];simp only[l,if_true];have s:cellOf env n=pure c:=by unfold cellOf;rw[hc]
    rw[s];rfl
   ·by_cases q:y=n
    ·subst q;exact d y c (by simp[wcn])
    ·refine d y j ?_;have:(y == n)=false:=beq_eq_false_iff_ne.mpr q;rw[wcn,this];exact e
   ·rcases ZT.mp a with rfl |a
    ·exact d n c (by simp[wcn])
    ·exact p y a b
  ·have l:(k == wbI)=false:=by simpa using f
   obtain⟨cl,m,o,d,p⟩:=mV (env:=env) (names:=r) g (λy a=>i y (Zt _ a)) ha;refine⟨cl,?_,o,d,λy a b=>?_⟩
   ·rw[<-m];simp only[l,wb8,if_false];rfl
   ·rcases ZT.mp a with rfl |a
    ·exact absurd b f
    ·exact p y a b
theorem mj(g:∀y∈scope.names,y.2=.free->∃c,env.cells.lookup y.1=some c) :
 ∃cl,closureFor scope env=pure cl/\(∀y c,cl.lookup y=some c->env.cells.lookup y=some c)/\∀y∈scope.names,y.2=.free->∃c,cl.lookup y.1=some c:=by
 obtain⟨cl,b,d,_,f⟩:=mV (env:=env) (names:=scope.names) [] g (λy c e=>by simp at e);refine⟨cl,?_,d,f⟩;simp only[closureFor]
 first
  |(rw[b];rfl)
  |(have a:=b;simp only at a ⊢;rw[a];rfl)
  |(refine wck (congrArg (λm=>m >>= λh=>pure h) ?_) ?_;exact pure cl;exact b;rfl)
theorem wK(g:∀y∈scope.names,y.2≠.cell)(h:(relabel scope env).names.lookup x=some .cell\/(relabel scope env).names.lookup x=some .free):∃k,(x,k)∈scope.names/\k=wbI:=by
 unfold relabel at h;dsimp only at h
 have key:∀(names:List (Str×wd8)),(∀y∈names,y.2≠.cell) ->
  ((names.map λ(n,k)=>if (k == wbI && env.scope.kind == .function && env.kindOf n == some .cell) then(n,wdU) else(n,k)).lookup x=some .cell \/
   (names.map λ(n,k)=>if (k == wbI && env.scope.kind == .function && env.kindOf n == some .cell) then(n,wdU) else(n,k)).lookup x=some .free)->∃k,(x,k)∈names/\k=wbI:=by
  intro names
  induction names with
  |nil=>grind
  |cons y r a=>
   grind
 exact key scope.names g h
noncomputable def bb(X:Cx)(scope:wc3)(N:List Str)(cl:List (Str×Addr))(L:Addr)(s:Shared)(H:Hp)(ex:List Addr)(pn:List (Addr×Obj)):Cx where
 prog:=X.prog
 w:=X.w
 K:=X.K
 mg:=X.mg
 base:=X.base
 A:=X.A
 N:=N
 s₀:=s
 H₀:=H
 env:=compEnvC scope cl L X.env
 outer:=X.stack
 stack:=X.stack
 ex:=ex
 fn:=λ_=>false
 calm:=X.calm
 pn:=pn
 xe:=λ_ _=>False
def GJ(X:Cx)(ifs:List Expr)(t:TT):Prop:=
 ∀(pins:List (Addr×Obj)) (s:Shared) (σ:St) (H:Hp) (Q:Bool->Hp->Prop),Inv X pins σ H s->t σ H Q ->
  wpAny (model X.prog X.w) X.A (forIn ifs true λc r=>if r=true then do let ok <-isTrue c X.env (eval c X.env);pure (wc7 ok) else pure (wc7 r)) (TP X pins σ Q) X.xe s
def uE:TT:=λ_ H Q=>Q true H
theorem b5{X:Cx}:GJ X [] uE:=λ_ _ _ H _ I h=>wpAny_tests_nil ⟨H,I,h⟩
theorem fO{X:Cx}(h:PT X c t):GJ X [c] t:=λa s σ H Q I hw=>wpAny_tests_one (h a s σ H Q I hw)
section
variable{prog:ZH}{w:World}{A:Around}{E:Value->Shared->Prop}{R:wc4->Shared->Prop}{s:Shared}
theorem CK(I:Nat->Shared->Prop)
 (J:∀n s,I n s->wpAny (model prog w) A (pyNext it) (λr g=>match r with
   |none=>R (.ok .next) g
   |some v=>wpAny (model prog w) A (wdl target it v) (λ_ j=>wpAny (model prog w) A (assign target env v) (λ_ o=>
     wpAny (model prog w) A (forIn T true λc r=>if r=true then do let ok <-isTrue c env (eval c env);pure (wc7 ok) else pure (wc7 r)) (λok l=>
      if ok=true then wpAny (model prog w) A (eval U env) (λx p=>
       wpAny (model prog w) A (call (.builtin "list.append") [acc,x]) (λ_ C=>∃m,m < n/\I m C) (notedBy (model prog w) A env λe s'=>R (.error e) s') p) (notedBy (model prog w) A env λe s'=>R (.error e) s') l
      else ∃m,m < n/\I m l) (notedBy (model prog w) A env λe s'=>R (.error e) s') o) (notedBy (model prog w) A env λe s'=>R (.error e) s') j) (notedBy (model prog w) A env λe s'=>R (.error e) s') g) (notedBy (model prog w) A env λe s'=>R (.error e) s') s)
 (n:Nat) (h:I n s) :
 codeAny (model prog w) A (.compLoop (.ListComp U [⟨target,iter,T,0⟩] scope pos) 0 it acc env) R s:=by
 refine codeAny_loop rfl I (λn s t=>?_) n h;show wpAny _ A ((compTurn (.ListComp U [⟨target,iter,T,0⟩] scope pos) 0 it acc env).onRaise (λx=>do noteFrame x env;theTreesLotGoes x)) _ _ s;refine wpAny_noted ?_;rw[compTurn_list];refine Zk (wct (Zk (wad (J n s t) (λr g b=>?_) λ_ _ a=>a)))
 cases r with
 |none=>exact ZN b
 |some v=>
  refine Zk (wad b (λ_ j f=>?_) λ_ _ a=>a);refine Zk (wad f (λ_ o i=>Zk (wad i (λok l d=>?_) λ_ _ a=>a)) λ_ _ a=>a)
  cases ok with
  |false=>exact ZN ⟨rfl,d⟩
  |true=>
   exact Zk (Zk (wad d (λx p k=>Zk (wad k (λ_ C q=>ZN (ZN ⟨rfl,q⟩)) λ_ _ a=>a)) λ_ _ a=>a))
end
def ml(J:It)(l:Addr)(σf:St)(tt:TT)(te:TE)(H:Hp)(Q:Hp->Prop):Prop:=
 ∃W:Nat->Nat->List V->Hp->Prop,(∃m,W 0 m [] (upd H l (.lst [])))/\∀i m ys H2,W i m ys H2->H2 l=some (.lst ys) /\
  ((J.stop i H2/\Q H2)\/(J.go i H2/\ys.length < sizeLine/\∀x H3,J.ur i H2 x H3->tt (some x :: σf) H3 λb H4=>
    if b=true then te (some x :: σf) H4 λy H5=>H5 l=some (.lst ys)/\∃m',m' < m/\W (i + 1) m' (ys++[y]) (upd H5 l (.lst (ys++[y])))
    else ∃m',m' < m/\W (i + 1) m' ys H4))
def vv(g:TG)(n:Nat)(J:It)(l:Addr)(σf:St)(tt:TT)(te:TE)(H:Hp)(Q:Hp->Prop):Prop:=
 ∃W:Nat->Nat->List V->Hp->Prop,(∃m,W 0 m [] (upd H l (.lst [])))/\∀i m ys H2,W i m ys H2->H2 l=some (.lst ys) /\
  ((J.stop i H2/\Q H2)\/(J.go i H2/\ys.length < sizeLine/\∀x H3 vs,vs.length=n->J.ur i H2 x H3->g x (vs++σf) H3 λσ' H'=>(∃MI,MI.length=n/\σ'=MI++σf)/\tt σ' H' λb H4=>
    if b=true then te σ' H4 λy H5=>H5 l=some (.lst ys)/\∃m',m' < m/\W (i + 1) m' (ys++[y]) (upd H5 l (.lst (ys++[y])))
    else ∃m',m' < m/\W (i + 1) m' ys H4))
def MJ{α:Type}:Nat->(List α->Prop)->Prop
 |0,P=>P []
 |n + 1,P=>∀a,MJ n λus=>P (a :: us)
theorem ib{α:Type}:∀n P,MJ n P->∀us:List α,us.length=n->P us
 |0,_,h,[],_=>h
 |n + 1,_,h,a :: us,e=>ib n _ (h a) us (Nat.succ.inj e)
theorem BL(h:ml J l g j o H Q):vv (eK 0) 1 J l g j o H Q:=
 let ⟨W,a,t⟩:=h
 ⟨W,a,λi m d e w=>let ⟨p,q⟩:=t i m d e w;⟨p,q.imp id λ⟨a,b,c⟩=>⟨a,b,λx f k n y=>by revert k;refine ib 1 _ ?_;exact λ_=>⟨⟨[some x],rfl,rfl⟩,c x f y⟩⟩⟩⟩
noncomputable def pick(σ:St)(ix:List Nat):St:=ix.map λi=>(σ[i]?).join
def MK(wi:TI)(ix:List Nat)(tt:TT)(te:TE):TE:=λσ H Q=>wi σ H λJ H1=>∀l,H1 l=none->ml J l (pick σ ix) tt te H1 (λH2=>Q (.ref l) H2)
def Kf(wi:TI)(ix:List Nat)(tt:TT)(te:TE)(i:Nat):TS:=λD σ H=>wi σ H λJ H1=>∀l,H1 l=none->ml J l (pick σ ix) tt te H1 (λH2=>D.nx (σ.set i (some (.ref l))) H2)
structure bE(X:Cx)(scope:wc3)(x:Str)(ys:List Str)(ix:List Nat):Prop where
 kind:scope.kind=.function
 EA:∀y∈scope.names,y.2≠.cell
 names:∀y∈scope.names,y.2=.local->scope.names.lookup y.1=some .local
 var:scope.names.lookup x=some .local
 free:Ke scope X.env
 nd:(x :: ys).Nodup
 len:ix.length=ys.length
 slots:∀(j:Nat) (y:Str),ys[j]?=some y->∃i:Nat,ix[j]?=some i/\X.N[i]?=some y/\(X.env.scope.names.lookup y=some .cell\/X.env.scope.names.lookup y=some .free)/\scope.names.lookup y=some .free
theorem sq(h:scope.names.lookup x=some .free):(relabel scope env).names.lookup x=some .cell\/(relabel scope env).names.lookup x=some .free:=by
 unfold relabel;dsimp only
 have key:∀(names:List (Str×wd8)),names.lookup x=some .free ->
  ((names.map λ(n,k)=>if (k == wbI && env.scope.kind == .function && env.kindOf n == some .cell) then(n,wdU) else(n,k)).lookup x=some .cell \/
   (names.map λ(n,k)=>if (k == wbI && env.scope.kind == .function && env.kindOf n == some .cell) then(n,wdU) else(n,k)).lookup x=some .free):=by
  intro names
  induction names with
  |nil=>grind
  |cons y r a=>
   grind
 exact key scope.names h
section
variable{X:Cx}{pins:List (Addr×Obj)}{σ:St}{H:Hp}{s₂:Shared}{scope:wc3}{x:Str}{xs ys:List Str}{ix:List Nat}{cl:List (Str×Addr)}{fp:List Addr}{L:Addr}
theorem Hs(B:bE X scope x ys ix)(I:Inv X pins σ H s₂)(j:∀b∈fp,ux X pins H b)(l:∀b∈fp,b < s₂.heap.objs.size)(r:s₂.heap.objs.size<=L)
 (g:∀y c,cl.lookup y=some c->X.env.cells.lookup y=some c) (p:∀y∈scope.names,y.2=.free->∃c,cl.lookup y.1=some c):(bb X scope N cl L s₂ H fp (X.pn++pins)).Ok where
 mod:=I.ok.mod
 kind:=B.kind
 glob:=I.ok.glob
 blt:=I.ok.blt
 above:=r
 inj:=λa b c i m=>I.ok.inj a b c (g a c i) (g b c m)
 has:=λa ha=>by
  obtain⟨k,f,n⟩:=wK (env:=X.env) B.EA (x:=a) ha;exact p (a,k) f n
 JW:=λ_ _ h=>nomatch h
 hd:=I.ok.hd
 frames:=I.ok.frames
 LA:=.inl rfl
 Ol:=λb d=>⟨ZJ (ZI (l b d) r),λy c h=>(j b d).2.2.2.2.1 y c (g y c h)⟩
 bs:=I.bs
 DY:=ZE I.ok.DY I.sz
 zK:=λb o e d=>by
  rcases(j b d).2.2.2.1 with z |z
  ·exact I.ok.zK b o e z
  ·exact absurd (ZI (ZI (Zz e) I.ok.DY) z) (wax _)
 Ct:=λb d f=>by
  rcases ZT.mp (I.rT b f) with z |z
  ·exact(j b d).2.1 z
  ·exact(j b d).2.2.1 z
 mP:=I.stack
 GI:=I.rE
theorem EB{m₁:Str->Option Value}(B:bE X scope x ys ix)(I:Inv X pins σ H s₂)(hf:∀b∈fp,ux X pins H b)(T:∀b∈fp,b < s₂.heap.objs.size)(U:s₂.heap.objs.size<=L)
 (g:∀y c,cl.lookup y=some c->X.env.cells.lookup y=some c) (J:∀y∈scope.names,y.2=.free->∃c,cl.lookup y.1=some c)
 (kp:∀b o,s₂.heap.get? b=some o->C.get? b=some o) (V8:C.Ns L m₁) (hl:l=s₂.heap.objs.size) (Q7:l≠L) (ho:C.get? l=some {cls:=.type "list",data:=.seq ([]:List Value).toArray n₀}) :
 Inv (bb X scope (xs++ys) cl L s₂ H fp (X.pn++pins)) [] (Zu xs.length none++pick σ ix) (upd H l (.lst [])) {s₂ with heap:=C,toks:=tk}:=by
 subst hl;have N:=I.aZ.fresh (Zr s₂.heap.objs.size);refine⟨Hs B I hf T U g J,rfl,I.bare,Un.laid kp (Zr _) N,⟨m₁,V8,λi y v A D S=>?_⟩,λy c e=>?_,?_,λy c e=>?_,λp K=>?_,I.aZ.laid kp (Zr _) ⟨wa0 _,[],n₀,.nil,ho⟩,?_⟩
 ·obtain⟨j,rfl⟩:∃j,i=xs.length + j:=by
   by_cases z:i < xs.length
   ·rw[ZX (by simpa using z)]at D;simp[z]at D
   ·exact⟨i - xs.length,by omega⟩
  have E:ys[j]?=some y:=by
   have A:(xs++ys)[xs.length + j]?=some y:=A;rwa[ZW (Nat.le_add_right _ _),wbs]at A
  obtain⟨i,hi,O,M,a⟩:=B.slots j y E
  have f:(σ[i]?).join=some v:=by
   have:(pick σ ix)[j]?=some (some v):=by rwa[ZW (by simp),war,wbs]at D
   unfold pick at this;rw[Zi,hi]at this;exact Zx this
  have s:σ[i]?=some (some v):=by
   cases q:σ[i]? with
   |none=>rw[q]at f;cases f
   |some z=>rw[q]at f;rw[show z=some v from f]
  obtain⟨m,hn,F⟩:=I.loc;have G:Ma X.env.scope y:=.inr (M.imp id id);obtain⟨u,r,l⟩:=F i y v O s G;refine⟨u,r,.inr ⟨sq a,?_⟩⟩;rcases l with⟨k,_⟩ |⟨_,c,hc,h⟩
  ·have w:X.env.scope.names.lookup y=some .local:=k;rcases M with z |z
   ·rw[z]at w;cases w
   ·rw[z]at w;cases w
  ·obtain⟨P,t⟩:=J (y,.free) (wbu a) rfl;have:=g y P t;rw[hc]at this;cases this;obtain⟨o,q,d⟩:=h;exact⟨c,t,o,kp c o q,d⟩
 ·obtain⟨v,o,q,d⟩:=I.cell y c (g y c e);exact⟨v,o,kp c o q,d⟩
 ·show upd H s₂.heap.objs.size (.lst []) L=none;rw[ae (waB Q7)];exact I.aZ.fresh U
 ·obtain⟨v,o,q,d⟩:=I.cell y c (g y c e);rw[ae (ZJ (Zz q))];exact I.iH y c (g y c e)
 ·rw[waf]at K;obtain⟨q,n,ne,Q,d⟩:=I.pin p K;have lt:=Zz q;refine⟨kp _ _ q,by rw[ae (ZJ lt)];exact n,ZJ (ZI lt U),λR=>?_,d⟩;rcases ZT.mp (I.rT p.1 R) with z |z
  ·exact ne z
  ·exact Q z
 ·simp[pick,B.len,bb]
theorem vx{tn:Nat->Heap->Prop}{Qd:Addr->Hp->Prop}{RR:Value->Addr->wc4->Shared->Prop}{E:Value->Shared->Prop}
 (hc:X.calm=true) (B:bE X scope x ys ix) (I:Inv X pins σ H s₂) (T:Turn X.prog X.w X.K tg J fp it tn) (Sy:tn 0 s₂.heap) (U:∀b∈fp,ux X pins H b)
 (zH:∀y c,cl.lookup y=some c->X.env.cells.lookup y=some c) (V9:∀y∈scope.names,y.2=.free->∃c,cl.lookup y.1=some c)
 (ht:∀L s H ex pn,GJ (bb X scope (xs++ys) cl L s H ex pn) ifs tt) (he:∀L s H ex pn,PE (bb X scope (xs++ys) cl L s H ex pn) elt te)
 (hg:∀L s H ex pn,PG (bb X scope (xs++ys) cl L s H ex pn) tg g) (hw:∀l,H l=none->vv g xs.length J l (pick σ ix) tt te H (Qd l))
 (Va:∀D L H' s' m,Inv X pins σ H' s'->s'.heap.Ns L m->H' L=none->L≠X.env.locals->X.s₀.heap.objs.size<=L->(∀y c,X.env.cells.lookup y=some c->c≠L)->(∀p∈X.pn++pins,p.1≠L)->Qd D H'->RR (.ref D) L (.ok .next) s') :
 wpAny (model X.prog X.w) X.A (newList []) (λacc C=>wpAny (model X.prog X.w) X.A (newFunctionEnv scope X.env.globals cl [] X.env.qual none .none (some X.env)) (λML s₄=>
  codeAny (model X.prog X.w) X.A (.compStart (.ListComp elt [⟨tg,iter,ifs,0⟩] scope pos) 0 (.ref it) acc {ML with scope:=relabel scope X.env}) (RR acc ML.locals) s₄) E C) E s₂:=by
 refine we2 (wpAny_newFunctionEnv B.EA (by intro y hy;simp at hy) (λk j a=>?_) B.kind);dsimp only at j a ⊢;generalize N:s₂.heap.push {cls:=.type "list",dict:=none,data:=.seq ([]:List Value).toArray}=t at j a ⊢;have hC:t.objs.size=s₂.heap.objs.size + 1:=by rw[<-N,waY]
 have Y:s₂.heap.objs.size≠t.objs.size:=by rw[hC];exact ZJ (wb6 _)
 have f:s₂.heap.objs.size<=t.objs.size:=by rw[hC];exact wbx _
 have old:∀b o,s₂.heap.get? b=some o->k.get? b=some o:=λb o e=>a.extBut b o (ZJ (ZI (Zz e) f)) (Zo _ (N ▸ Zo _ e));have Z:k.get? s₂.heap.objs.size=some {cls:=.type "list",data:=.seq ([]:List Value).toArray}:=a.extBut _ _ Y (Zo _ (N ▸ ZP _ rfl));have O:∀b∈fp,b < s₂.heap.objs.size:=λb h=>let ⟨o,e,_⟩:=T.obj 0 _ Sy b h;Zz e
 have Vb:∀b∈fp,∀o,s₂.heap.get? b=some o->k.get? b=some o:=λb _ o e=>old b o e;have Sz:tn 0 k:=T.keep 0 _ _ Sy Vb;obtain⟨W,⟨m0,w0⟩,turn⟩:=hw s₂.heap.objs.size (I.aZ.fresh (Zr _))
 have M:∀C:Shared,C={s₂ with heap:=k,toks:=s₂.toks + ([]:List (Str×Value)).length} ->
  codeAny (model X.prog X.w) X.A (.compLoop (.ListComp elt [⟨tg,iter,ifs,0⟩] scope pos) 0 (.ref it) (.ref s₂.heap.objs.size) (compEnvC scope cl t.objs.size X.env))
   (RR (.ref s₂.heap.objs.size) t.objs.size) C:=by
  rintro C rfl;have I0:=EB (xs:=xs) (tk:=s₂.toks + ([]:List (Str×Value)).length) (n₀:=0) (m₁:=_) (L:=t.objs.size) B I U O f zH V9 old j rfl Y Z
  refine CK (env:=compEnvC scope cl t.objs.size X.env)
   (λn s'=>∃i F vs H',vs.length=xs.length/\Inv (bb X scope (xs++ys) cl t.objs.size s₂ H fp (X.pn++pins)) [] (vs++pick σ ix) H' s'/\tn i s'.heap/\(∀b∈fp,H' b=none)/\W i n F H') ?_ m0
   ⟨0,[],_,_,war,I0,Sz,λb h=>by rw[ae (ZJ (O b h))];exact(U b h).1,w0⟩
  rintro n s3 ⟨i,F,vs,H3,hv,I3,SA,SD,w3⟩;obtain⟨Ht,alt⟩:=turn i n F H3 w3
  have G:∀{H':Hp},(∀b∈fp,H' b=none)->∀b∈fp,ux (bb X scope (xs++ys) cl t.objs.size s₂ H fp (X.pn++pins)) [] H' b:=λhn b h=>
   ⟨hn b h,ZJ (ZI (O b h) f),λhm=>by
     rcases ZT.mp (I.rT b hm) with z |z
     ·exact(U b h).2.1 z
     ·exact(U b h).2.2.1 z,.inl h,λy c e=>(U b h).2.2.2.2.1 y c (zH y c e),λp hp=>(U b h).2.2.2.2.2 p (by simpa [bb] using hp)⟩
  rcases alt with⟨stop,qd⟩ |⟨go,hsz,step⟩
  ·refine bS (T.done (bb X scope (xs++ys) cl t.objs.size s₂ H fp (X.pn++pins)) rfl rfl rfl hc i [] s3 _ H3 _ I3 (G SD) SA stop) λr s4 ⟨hr,S⟩=>?_;subst hr;obtain⟨m,hn,_⟩:=S.loc;refine Va s₂.heap.objs.size t.objs.size H3 s4 m ?_ hn S.free (wby (ZI I.lt f)) (ZE I.sz f) (λy c e=>?_) (λp hp=>?_) qd
   ·exact I.vf S.os S.base S.aZ S.bare λb h=>⟨(U b h).2.2.2.1,(U b h).2.1,(U b h).2.2.2.2.1,(U b h).2.2.2.2.2⟩
   ·obtain⟨v,o,q,d⟩:=I.cell y c e;exact ZJ (ZI (Zz q) f)
   ·exact ZJ (ZI (Zz (I.pin p hp).1) f)
  ·refine bS (T.item (bb X scope (xs++ys) cl t.objs.size s₂ H fp (X.pn++pins)) rfl rfl rfl hc i [] s3 _ H3 _ I3 (G SD) SA go) λr s4 ⟨u,hr,h4⟩=>?_;subst hr;refine bS h4 λ_ s5 ⟨xv,H5,I5,r5,y5,P,Vc⟩=>?_;have Vd:=I5.pinned (G Vc) (T.obj _ _ P);refine wad (hg _ _ _ _ _ _ s5 _ H5 xv u _ Vd r5 (step xv _ vs hv y5)) (λ_ s6 ⟨σ6,H6,I6,⟨MI,SE,e6⟩,q6⟩=>?_) λ_ _ z=>waa z;subst e6;refine wad (ht _ _ _ _ _ _ s6 _ _ _ I6 q6) (λb s7 ⟨H7,I7,q7⟩=>?_) λ_ _ z=>waa z
   have again:∀{Q:St} {R:Hp} {V:Shared},Inv (bb X scope (xs++ys) cl t.objs.size s₂ H fp (X.pn++pins)) ([]++rX fp s5.heap) Q R V ->
    Inv (bb X scope (xs++ys) cl t.objs.size s₂ H fp (X.pn++pins)) [] Q R V/\tn (i + 1) V.heap/\∀b∈fp,R b=none:=λ{Q R V} I8=>by
    refine⟨I8.nG,T.keep _ _ _ P λb h o e=>(I8.pin (b,o) (wa5 _ (wa5 _ (j7 h e)))).1,λb h=>?_⟩;obtain⟨o,e,d⟩:=T.obj _ _ P b h;exact(I8.pin (b,o) (wa5 _ (wa5 _ (j7 h e)))).2.1
   cases b with
   |false=>
    rw[if_neg ZF]at q7 ⊢;obtain⟨m',hm,w7⟩:=q7;obtain⟨a1,a2,a3⟩:=again I7;exact⟨m',hm,i + 1,F,MI,H7,SE,a1,a2,a3,w7⟩
   |true=>
    rw[if_pos rfl]at q7 ⊢;refine wad (he _ _ _ _ _ _ s7 _ _ _ I7 q7) (λuy V ⟨y,R,I8,r8,OA,m',hm,w8⟩=>?_) λ_ _ z=>waa z
    refine wad (cE (X:=bb X scope (xs++ys) cl t.objs.size s₂ H fp (X.pn++pins)) _ V _ R (.ref s₂.heap.objs.size) [y] (.ref s₂.heap.objs.size) [uy] (λ_ H9=>H9=upd R s₂.heap.objs.size (.lst (F++[y]))) I8 rfl (.cons r8 .nil) ⟨_,F,y,rfl,rfl,OA,hsz,rfl⟩)
     (λ_ s9 ⟨v9,H9,I9,_,e9⟩=>?_) λ_ _ z=>waa z
    subst e9;obtain⟨a1,a2,a3⟩:=again I9;exact⟨m',hm,i + 1,F++[y],MI,_,SE,a1,a2,a3,w8⟩
 exact codeAny_compStart_list (M _ rfl) (T.self X.A 0 _ _ _ Sz (M _ rfl))
theorem sr{C:It->Addr->St->Hp->(Hp->Prop)->Prop}(hc:X.calm=true)(B:bE X scope x ys ix)(hg:∀cl L s H ex pn,PG (bb X scope (xs++ys) cl L s H ex pn) U g)(hC:∀J l j H Q,C J l j H Q->vv g xs.length J l j tt te H Q)(hi:PI X U iter wi)
 (ht:∀cl L s H ex pn,GJ (bb X scope (xs++ys) cl L s H ex pn) p tt) (he:∀cl L s H ex pn,PE (bb X scope (xs++ys) cl L s H ex pn) r te)
 (hs:∀v,wbc iter X.env v=pure v:=by intro _;rfl):PE X (.ListComp r [⟨U,iter,p,0⟩] scope pos) (λσ H Q=>wi σ H λJ H1=>∀l,H1 l=none->C J l (pick σ ix) H1 (λH2=>Q (.ref l) H2)):=by
 intro pins s σ H Q I h;obtain⟨cl,a,d,f⟩:=mj (scope:=scope) (env:=X.env) (λy F i=>I.ok.has y.1 (B.free y F i));rw[eval_ListComp];refine wej (use:=none) rfl hs a B.kind B.names (bS (hi pins s σ H _ I h) λS V k=>bS k λG W n=>?_);obtain⟨it,fp,Y,J,H2,e,K,T,t,f2,hw⟩:=n;subst e;refine vx (RR:=λu C=>compPost (model X.prog X.w) X.A X.xe none (EP X pins σ Q) u C) (Qd:=λl z=>Q (.ref l) z) hc B K T t f2 d f (ht cl) (he cl) (hg cl) (λl h=>hC _ _ _ _ _ (hw l h)) ?_;intro D L z M m N hn c k n O P q;exact⟨m,hn,λZ E=>⟨.ref D,z,N.turned (it:=L) (t':=M.toks) (λb o R e=>(E.2 b R).trans e) c k (.inr n) O P,rfl,q⟩⟩
theorem BM(B:bE X scope x ys ix)(cl L s H ex pn):PG (bb X scope ([x]++ys) cl L s H ex pn) (.Name x g) (eK 0):=
 have a:(relabel scope X.env).names.lookup x=some .local:=wbo B.var
 j6 B.nd rfl (.inl a) (.inr a)
theorem bY(hc:X.calm=true)(B:bE X scope x ys ix)(hi:PI X (.Name x r) iter I)
 (T:∀cl L s H ex pn,GJ (bb X scope (x :: ys) cl L s H ex pn) g o) (U:∀cl L s H ex pn,PE (bb X scope (x :: ys) cl L s H ex pn) j p)
 (hs:∀v,wbc iter X.env v=pure v:=by intro _;rfl):PE X (.ListComp j [⟨.Name x r,iter,g,0⟩] scope pos) (MK I ix o p):=
 sr (C:=λJ l a H Q=>ml J l a o p H Q) (xs:=[x]) hc B (BM B) (λ_ _ _ _ _=>BL) hi T U hs
end
section
variable{X:Cx}{scope:wc3}{x:Str}{xs ys:List Str}{ix:List Nat}
theorem qa{C:It->Addr->St->Hp->(Hp->Prop)->Prop}(hc:X.calm=true)(B:bE X scope x ys ix)(hN:X.N.Nodup)(hy:X.N[i]?=some y)(r:X.env.scope.names.lookup y=some .local)(hg:∀cl L s H ex pn,PG (bb X scope (xs++ys) cl L s H ex pn) tg g)(hC:∀J l U H Q,C J l U H Q->vv g xs.length J l U tt te H Q)(hi:PI X tg iter wi)
 (ht:∀cl L s H ex pn,GJ (bb X scope (xs++ys) cl L s H ex pn) j tt) (he:∀cl L s H ex pn,PE (bb X scope (xs++ys) cl L s H ex pn) p te)
 (Q8:wbd (.ListComp p [⟨tg,iter,j,0⟩] scope pos) (some (.Name y py)) Q9.line X.env=pure true:=by rfl)
 (hs:∀v,wbc iter X.env v=pure v:=by intro _;rfl):PS X (.Assign [.Name y py] (.ListComp p [⟨tg,iter,j,0⟩] scope pos) Q9) (λD σ H=>wi σ H λJ H1=>∀l,H1 l=none->C J l (pick σ ix) H1 (λH2=>D.nx (σ.set i (some (.ref l))) H2)):=by
 intro c s σ H D I h;obtain⟨cl,d,t,u⟩:=mj (scope:=scope) (env:=X.env) (λy hy E=>I.ok.has y.1 (B.free y hy E));rw[exec_Assign_Name_used _ _ _ _ Q8];refine Zk (wct (Zk ?_));show wpAny _ X.A (do let _ <-comprehension (.ListComp p [⟨tg,iter,j,0⟩] scope pos) scope X.env _ (newList []) false (eval iter X.env) (some (assign (.Name y py) X.env))) _ _ s
 refine Zk (wad (wej (use:=some (assign (.Name y py) X.env)) (Q:=λ_ k=>SP X c D .next k) rfl hs d B.kind B.names
  (bS (hi c s σ H _ I h) λxv s1 n=>bS n λY s2 F=>?_)) (λ_ k Z=>ZN (ZN Z)) λ_ _ e=>e)
 obtain⟨it,fp,tn,J,H2,e,I2,T,G,f2,hw⟩:=F;subst e;refine vx (RR:=λK C=>compPost (model X.prog X.w) X.A X.xe (some (assign (.Name y py) X.env)) (λ_ k=>SP X c D .next k) K C) (Qd:=λl M=>D.nx (σ.set i (some (.ref l))) M) hc B I2 T G f2 t u (ht cl) (he cl) (hg cl) (λl h=>hC _ _ _ _ _ (hw l h)) ?_;intro V L M k m I' hn f n F W h4 q;show wpAny _ X.A (assign (.Name y py) X.env (.ref V)) _ _ _;refine wpAny_assign_Name (ve I' hN hy (.inl r) (v:=.ref V) rfl (λO P sb=>?_) (.inr r));obtain⟨a,R,ha⟩:=sb
 have hL:L≠a:=by
  rcases ha with z |z
  ·rw[z];exact n
  ·exact(W y a z).symm
 refine⟨m,hn.sameBut R hL,λh' S=>⟨_,M,P.turned (it:=L) (t':=O.toks) (λb o hb e=>(S.2 b hb).trans e) f n (.inr F) W h4,q⟩⟩
theorem eh(hc:X.calm=true)(B:bE X scope x ys ix)(hN:X.N.Nodup)(hy:X.N[i]?=some y)(p:X.env.scope.names.lookup y=some .local)(hi:PI X (.Name x I) iter wi)
 (ht:∀cl L s H ex pn,GJ (bb X scope (x :: ys) cl L s H ex pn) g T) (he:∀cl L s H ex pn,PE (bb X scope (x :: ys) cl L s H ex pn) j U)
 (r:wbd (.ListComp j [⟨.Name x I,iter,g,0⟩] scope pos) (some (.Name y py)) o.line X.env=pure true:=by rfl)
 (hs:∀v,wbc iter X.env v=pure v:=by intro _;rfl):PS X (.Assign [.Name y py] (.ListComp j [⟨.Name x I,iter,g,0⟩] scope pos) o) (Kf wi ix T U i):=
 qa (C:=λJ l a H Q=>ml J l a T U H Q) (xs:=[x]) hc B hN hy p (BM B) (λ_ _ _ _ _=>BL) hi ht he r hs
end
theorem cY{Ok:Hp->Prop}{Q:Hp->Prop}(p:V->Bool)(g:V->V)(U:m9 J Ok xs)(hl:H l=none)(hz:xs.length<=sizeLine)(C:∀j,a8 H j->Ok j)
 (ht:∀x r I,x∈xs->a8 H r->(∀j,a8 r j->I (p x) j)->tt (some x :: T) r I)
 (he:∀x r I,x∈xs->p x=true->a8 H r->(∀j,a8 r j->I (g x) j)->te (some x :: T) r I)
 (hd:∀j,a8 H j->j l=some (.lst ((xs.filter p).map g))->Q j):ml J l T tt te H Q:=by
 refine⟨λi m n d=>m=xs.length - i/\i<=xs.length/\a8 H d/\d l=some (.lst n)/\n=((xs.take i).filter p).map g,⟨xs.length,by simp,wa0 _,a8.upd hl,a6,by simp⟩,?_⟩;rintro i m n d ⟨rfl,hi,c,h,k⟩;refine⟨h,?_⟩
 by_cases a:i < xs.length
 ·refine .inr ⟨U.go i d (C _ c) a,?_,λx r y=>?_⟩
  ·rw[k,Zf];refine wap (wat _ _) ?_;rw[ZG];omega
  ·obtain⟨e,s⟩:=U.ur i d x r (C _ c) a y;subst e;have mem:x∈xs:=ZA s;have t:xs.take (i + 1)=xs.take i++[x]:=by rw[wa7,s];rfl
   refine ht x _ _ mem c λv f=>?_
   cases q:p x with
   |false=>
    rw[if_neg ZF];refine⟨xs.length - (i + 1),by omega,rfl,a,c.trans f,f _ _ h,?_⟩;rw[t,waE,k];simp[q]
   |true=>
    rw[if_pos rfl];refine he x _ _ mem q (c.trans f) λw u=>?_;refine⟨u _ _ (f _ _ h),xs.length - (i + 1),by omega,rfl,a,?_,a6,?_⟩
    ·intro b o e;rw[ae (af e hl)];exact u _ _ (f _ _ (c _ _ e))
    ·rw[t,waE,k];simp[q]
 ·have e:i=xs.length:=by omega
  subst e;refine .inl ⟨U.stop d (C _ c),hd d c ?_⟩;rw[h,k,ZU]
theorem qb:∀{us:List Value},Vals (bs.map V.bl) us->LSm.BoolsAre us bs:=by
 induction bs with
 |nil=>intro us r;rw[wdt]at r;cases r;exact .nil
 |cons n ns a=>
  intro us r;rw[ZK]at r
  cases r with
  |cons b c=>
   cases b;exact .cons n (a c)
theorem A2:∀{us:List Value},Vals (ns.map V.str) us->StrsAre us ns:=by
 induction ns with
 |nil=>intro us r;rw[wdt]at r;cases r;exact .nil
 |cons n ns a=>
  intro us r;rw[ZK]at r
  cases r with
  |cons b c=>
   obtain⟨t,e⟩:=b;subst e;exact .cons n t (a c)
theorem vy:∀{vs:List Value} {ns:List Str},StrsAre vs ns->Vals (ns.map V.str) vs
 |_,_,.nil=>.nil
 |_,_,.cons n t h=>.cons ⟨t,rfl⟩ (vy h)
section
variable{X:Cx}
theorem su(hc:X.calm=true):di X (.builtin "any") (λxs H Q=>∃p bs,xs=[.ref p]/\aI X.K H p (wcd V.bl bs)/\Q (.bl (bs.any id)) H):=by
 intro d s σ H xs t Q I r h;obtain⟨p,bs,rfl,j,q⟩:=h;obtain⟨u,rfl,k⟩:=vals1 r;cases k;obtain⟨a,l,pl,w⟩:=I.list j;have f:=qb l;have hl:=pl.isList;have m:=I.ok.hd hc;have c:p < s.heap.objs.size:=by obtain⟨_,e,_⟩:=hl;exact Zz e
 refine call_any_walk (wbJ hl ?_)
 refine⟨s.heap.objs.size,[s.heap.objs.size,p],[s.heap.objs.size],a.toArray.size,_,_,λi=>(bs[i]?).getD false,rfl,we8 (A:=X.A.in1) m _ p (ZJ c) a.toArray,
  ⟨⟨_,ZP _ rfl,rfl,rfl⟩,hl.push _⟩,λi v x y z n g=>?_,λB C o=>?_⟩
 ·obtain⟨b,e,rfl⟩:=f.get i v (by simpa using n);simp only[e,wgb]at g;exact wb1 g
 ·have e:((ZY a.toArray.size).any λi=>(bs[i]?).getD false)=bs.any id:=by
   rw[ZR,f.length];exact LSm.range_any bs
  rw[e];exact⟨.bl _,H,I.kept (LSm.kept_iter o),rfl,q⟩
theorem ym(hc:X.calm=true):di X (.builtin "all") (λxs H Q=>∃p bs,xs=[.ref p]/\aI X.K H p (wcd V.bl bs)/\Q (.bl (bs.all id)) H):=by
 intro d s σ H xs t Q I r h;obtain⟨p,bs,rfl,j,q⟩:=h;obtain⟨u,rfl,k⟩:=vals1 r;cases k;obtain⟨a,l,pl,w⟩:=I.list j;have f:=qb l;have hl:=pl.isList;have m:=I.ok.hd hc;have c:p < s.heap.objs.size:=by obtain⟨_,e,_⟩:=hl;exact Zz e
 refine call_all_walk (wbJ hl ?_)
 refine⟨s.heap.objs.size,[s.heap.objs.size,p],[s.heap.objs.size],a.toArray.size,_,_,λi=>(bs[i]?).getD true,rfl,we8 (A:=X.A.in1) m _ p (ZJ c) a.toArray,
  ⟨⟨_,ZP _ rfl,rfl,rfl⟩,hl.push _⟩,λi v x y z n g=>?_,λB C o=>?_⟩
 ·obtain⟨b,e,rfl⟩:=f.get i v (by simpa using n);simp only[e,wgb]at g;exact wb1 g
 ·have e:((ZY a.toArray.size).all λi=>(bs[i]?).getD true)=bs.all id:=by
   rw[ZR,f.length];exact LSm.range_all bs
  rw[e];exact⟨.bl _,H,I.kept (LSm.kept_iter o),rfl,q⟩
theorem EC(l:kvs.map (·.1)=g.map (ZQ:Str->Key))(rel:KV kvs vs)(hl:us.length=vs.length)
 (o:∀(j:Nat) (u:Value),us[j]?=some u->∃k x,vs[j]?=some (k,x)/\(bg P w).is k u=true):StrsAre us g:=by
 have e:vs.map (·.1)=g.map (ZQ:Str->Key):=rel.keys ▸ l;clear l rel
 induction g generalizing us vs with
 |nil=>
  have:vs=[]:=by cases vs with |nil=>rfl |cons a b=>simp at e
  subst this;have:us=[]:=wet.mp hl;subst this;exact .nil
 |cons k g i=>
  cases vs with
  |nil=>simp at e
  |cons v vs=>
   cases us with
   |nil=>simp at hl
   |cons u us=>
    rw[ZK,ZK]at e;injection e with m n
    obtain⟨f,x,p,q⟩:=o 0 u rfl;have c:v=(f,x):=by simpa using p
    subst c;have d:f=(ZQ k:Key):=m;subst d;obtain⟨t,rfl⟩:=wft (x:=k) (v:=u) q;exact .cons k t (i (by simpa using hl) (λj r h=>o (j + 1) r (by simpa using h)) n)
theorem wL(hc:X.calm=true):di X (.builtin "sorted") (λxs H Q=>∃d kvs g,xs=[.ref d]/\H d=some (.dK kvs)/\kvs.map (·.1)=wcd (ZQ:Str->Key) g/\g.length < 64 /\
 ∀l ss,H l=none->ss.Perm g->sortedS ss=true->Q (.ref l) (upd H l (.lst (ss.map V.str)))):=by
 intro k s σ H xs U Q I r h;obtain⟨d,kvs,g,rfl,hd,D,v,q⟩:=h;obtain⟨u,rfl,M⟩:=vals1 r;cases M;obtain⟨E,lo,x,rel,N⟩:=se I.aZ hd;obtain⟨ep,y⟩:=N.dictAt;have O:=I.ok.hd hc;have n:kvs.length=g.length:=by have:=congrArg wcu D;simpa using this
 have hn:x.length<=sizeLine:=by rw[<-rel.length];exact E
 refine Calls.call_function_entry kind_sorted plain_sorted entry_sorted (args_sorted1 _) ?_;unfold wdI.«sorted»;refine Zk (m:=checkCount "sorted" 1 1 _) (ZN ?_);refine Zk (PySem.W.kdu_collect (A:=X.A.in1) (wgc (knd:=bg X.prog X.w) (kvs:=x) (ep:=ep) lo) O y hn λi F a z c=>?_);have hl:a.toList.length=x.length:=by rw[wbt];exact c.1
 refine Zk (wpAny_newList ?_ (by rw[hl];exact hn));have B:StrsAre a.toList g:=EC (P:=X.prog) (w:=X.w) D rel hl λj u e=>c.2 j u (by rw[<-wbG];exact e);have f:(i.push (seqObj "list" a.toList.toArray 0)).get? i.objs.size=some (seqObj "list" a.toList.toArray 0):=ZP _ rfl;have p:a.toList.length < 64:=by rw[hl,<-rel.length,n];exact v
 refine Zk (waG (wpAny_call_entry slot_list_sort ⟨_,f,rfl⟩ entry_list_sort (list_sort_treeK strKind_oneLt f B.keysOf (λG J rest e=>keyKind_strs (by rw[<-e];exact B)) p λC a1 a2=>⟨_,rfl,?_⟩) (args_list_sort _)));obtain⟨t,R,K,S⟩:=sorted_out_str B a1 a2;have L:Inv X k σ H {s with heap:=i,toks:=F}:=I.kept z;obtain⟨e,T⟩:=sortedHeap_at (out:=(arrOf C).map (·.2)) f;refine ZN ⟨_,rfl,⟨.ref i.objs.size,upd H i.objs.size (.lst (t.map V.str)),L.laid (t':=F) (λb o q=>?_) (Zr _) ⟨?_,_,e,vy R,?_⟩,rfl,q _ t (L.aZ.fresh (Zr _)) K S⟩⟩
 ·have lt:b < i.objs.size:=Zz q;rw[sortedHeap_old (ZJ lt) (by rw[size_push'];exact wcW lt)];exact Zo _ q
 ·rw[Zf,K.length_eq,<-n];exact E
 ·rw[wco];exact T
theorem vz:∀{kvs:List (Key×V)} {vs:List (Key×Value)} {us:List Value},KV kvs vs->us.length=vs.length ->
 (∀(j:Nat) (u:Value),us[j]?=some u->∃k x,vs[j]?=some (k,x)/\(bg P w).is k u=true)->Vals (kvs.map λg=>kV g.1) us
 |_,_,us,.nil,hl,_=>by
  have:us=[]:=wet.mp hl;subst this;exact .nil
 |_,_,us,.cons (a:=p) (b:=q) r t,hl,d=>by
  cases us with
  |nil=>simp at hl
  |cons u us=>
   obtain⟨f,x,l,m⟩:=d 0 u rfl;have c:q=(f,x):=by simpa using l
   subst c;refine .cons ?_ (vz t (by simpa using hl) λj n h=>d (j + 1) n (by simpa using h));have e:p.1=f:=r.1;show RelV (kV p.1) u;rw[e];rcases bN m with⟨i,t,rfl,rfl⟩ |⟨y,t,rfl,rfl⟩
   ·exact⟨t,rfl⟩
   ·exact⟨t,rfl⟩
theorem mW(hc:X.calm=true):di X (.type "list") (λxs H Q=>∃d kvs,xs=[.ref d]/\H d=some (.dK kvs)/\∀l,H l=none->Q (.ref l) (upd H l (.lst (kvs.map λg=>kV g.1)))):=by
 intro k s σ H xs y Q I r h;obtain⟨d,kvs,rfl,hd,q⟩:=h;obtain⟨u,rfl,n⟩:=vals1 r;cases n;obtain⟨m,lo,f,rel,o⟩:=se I.aZ hd;obtain⟨ep,i⟩:=o.dictAt;have p:=I.ok.hd hc;have hn:f.length<=sizeLine:=by rw[<-rel.length];exact m
 refine wgd (wgc (knd:=bg X.prog X.w) (kvs:=f) (ep:=ep) lo) p i hn λt v b c kp x a=>?_;have hl:b.toList.length=f.length:=by rw[wbt];exact a.1
 refine⟨.ref s.heap.objs.size,_,I.laid (t':=v) kp (Zr _) (show bO X.prog X.w _ t _ (.lst (kvs.map λg=>kV g.1)) from ⟨?_,b.toList,c,vz (P:=X.prog) (w:=X.w) rel hl λj u e=>a.2 j u (by rw[<-wbG];exact e),?_⟩),rfl,q _ (I.aZ.fresh (Zr _))⟩
 ·rw[Zf];exact m
 ·rw[wco];exact x
noncomputable def kg(v d:Addr):HO:=.ext λh=>h.IsValuesView v d
theorem vA:Jg X "dict.values" (λx xs H Q=>∃d kvs,x=.ref d/\xs=[]/\H d=some (.dK kvs)/\∀v,H v=none->Q (.ref v) (upd H v (kg v d))):=by
 intro a s σ H x xs v j Q I f g h;obtain⟨d,kvs,rfl,rfl,hd,q⟩:=h;cases f;have:=g.zero;subst this;obtain⟨l,lo,i,rel,c⟩:=se I.aZ hd;refine call_meetsIn wcK c.typeIs PySem.F.entry_dict_values (PySem.F.args_dict_values_1 _) (meets_dict_values (bg X.prog X.w) d lo) ⟨⟨i,c⟩,?_⟩;refine⟨.ref s.heap.objs.size,_,I.laid (t':=s.toks) (o:=kg s.heap.objs.size d) (λb o e=>Zo _ e) (Zr _) ⟨⟨_,ZP _ rfl,rfl,rfl⟩,⟨_,ZP _ rfl⟩,λm n ⟨o,e,r⟩ k=>⟨o,k o e,r⟩⟩,rfl,q _ (I.aZ.fresh (Zr _))⟩
theorem A3(hc:X.calm=true):di X (.type "list") (λxs H Q=>∃v d kvs,xs=[.ref v]/\H v=some (kg v d)/\H d=some (.dK kvs)/\∀l,H l=none->Q (.ref l) (upd H l (.lst (kvs.map (·.2))))):=by
 intro k s σ H xs D Q I r h;obtain⟨v,d,kvs,rfl,n,hd,q⟩:=h;obtain⟨u,rfl,o⟩:=vals1 r;cases o;obtain⟨m,lo,b,rel,p⟩:=se I.aZ hd;obtain⟨ep,i⟩:=p.dictAt;obtain⟨g,_⟩:=(show bO X.prog X.w H s.heap v (kg v d) from I.aZ v _ n);have x:=I.ok.hd hc;have hn:b.length<=sizeLine:=by rw[<-rel.length];exact m
 refine wgd (wfH (knd:=bg X.prog X.w) (kvs:=b) (ep:=ep)) x ⟨g,i⟩ hn λy z a c kp A f=>?_;have hl:a.toList.length=b.length:=by rw[wbt];exact f.1
 have e:a.toList=b.map (·.2):=PySem.W.kdl_vals_eq a.toList hl λj u e=>f.2 j u (by rw[<-wbG];exact e)
 have B:∀{kvs:List (Key×V)} {b:List (Key×Value)},KV kvs b->Vals (kvs.map (·.2)) (b.map (·.2)):=λ{kvs b} r=>by
  induction r with
  |nil=>exact .nil
  |cons r t C=>exact .cons r.2 C
 refine⟨.ref s.heap.objs.size,_,I.laid (t':=z) kp (Zr _) (show bO X.prog X.w _ y _ (.lst (kvs.map (·.2))) from ⟨?_,a.toList,c,by rw[e];exact B rel,?_⟩),rfl,q _ (I.aZ.fresh (Zr _))⟩
 ·rw[Zf];exact m
 ·rw[wco];exact A
noncomputable def rj:List V->List V->Bool
 |[],[]=>true
 |x :: xs,y :: ys=>ph x y && rj xs ys
 |_,_=>false
theorem yn(h:xs.length≠ys.length):rj xs ys=false:=by
 induction xs generalizing ys with
 |nil=>cases ys with
  |nil=>exact absurd rfl h
  |cons _ _=>rfl
 |cons x xs a=>cases ys with
  |nil=>rfl
  |cons y ys=>
   show (ph x y && rj xs ys)=false;rw[a (by simpa using h),wcT]
theorem mX:∀{xs ys:List V},xs.length=ys.length->rj xs ys=(ZY xs.length).all λj=>ph (xs.getD j .non) (ys.getD j .non)
 |[],[],_=>rfl
 |[],_ :: _,h=>by simp at h
 |_ :: _,[],h=>by simp at h
 |x :: xs,y :: ys,h=>by
  show (ph x y && rj xs ys)=_;rw[ZZ,List.range_succ_eq_map,wdT,wek,mX (by simpa using h)];rfl
inductive Qa(K:Zh)(x y:V)(H:Hp)(Q:VK):Prop
 |mk (a b xs ys) (_:x=.ref a) (_:y=.ref b) (_:aI K H a xs) (_:aI K H b ys) (_:xs.all cK=true) (_:ys.all cK=true) (_:Q (.bl (rj xs ys)) H)
theorem ED(l:X.A.units < wbT):m7 X (waI .Eq) (Qa X.K):=by
 intro m s σ H x y v u Q I C D h;obtain⟨a,b,f,g,rfl,rfl,ha,E,F,G,q⟩:=h;cases C;cases D;obtain⟨d,n,o,_⟩:=I.list ha;obtain⟨c,p,r,_⟩:=I.list E;have J:=n.length;have S:=p.length
 by_cases hl:f.length=g.length
 ·refine SeqAt.eq_listAt (e:=λj=>ph (f.getD j .non) (g.getD j .non)) o.isList r.isList (by simp only[ZR];omega) l (λj L M=>?_) ?_
  ·have i:j < d.length:=by simpa using L
   have k:j < c.length:=by simpa using M
   have t:f[j]?=some (f.getD j .non):=by rw[Zj];simp[show j < f.length by omega]
   have w:g[j]?=some (g.getD j .non):=by rw[Zj];simp[show j < g.length by omega]
   obtain⟨N,z,O⟩:=n.get t;obtain⟨P,B,R⟩:=p.get w
   have g1:d.toArray[j]=N:=by
    have:d[j]?=some d[j]:=by simp[i]
    rw[this]at z;simpa using Zx z
   have g2:c.toArray[j]=P:=by
    have:c[j]?=some c[j]:=by simp[k]
    rw[this]at B;simpa using Zx B
   rw[g1,g2];exact wH O R (wa4.mp F _ (ZA t)) (wa4.mp G _ (ZA w))
  ·rw[mX hl]at q;refine⟨.bl _,H,I,rfl,?_⟩;rw[ZR,<-J];exact q
 ·refine SeqAt.eq_list_lengthsAt o.isList r.isList (by simp only[ZR,bne_iff_ne];omega) l ⟨.bl false,H,I,rfl,?_⟩;rw[yn hl]at q;exact q
theorem cL:di X (.builtin "isinstance") (λxs H Q=>∃x T t b,xs=[x,.ty T]/\gQ X.K H x t/\wgu X.K t (.type T)=some b/\Q (.bl b) H):=by
 intro a s σ H xs g Q I r h;obtain⟨x,T,t,b,rfl,ty,e,q⟩:=h;obtain⟨u,i,rfl,c,d⟩:=vals2 r;cases d;exact CC I c ty e λf=>⟨.bl b,H,I.tok f,rfl,q⟩
theorem A4:PU X (λx lo hi H Q=>∃z,x=.str z/\z.length<=sizeLine/\Q (.str (wb9 z lo hi)) H):=by
 intro a s σ H x v p r lo hi sl Q I m n pl f h;obtain⟨z,rfl,b,q⟩:=h;obtain⟨t,rfl⟩:=m;refine⟨"str",_,slot_str_getitem.lookup,typeIs_str s z t,?_⟩;have fin:∀d k,EP X a σ Q (.str (wb9 z lo hi) d) {s with toks:=k}:=λd k=>⟨.str _,H,I.tok k,⟨d,rfl⟩,q⟩;obtain⟨o,c,hc,hd⟩:=n
 cases pl with
 |none=>cases f with
  |none=>exact wbV (l:=none) (u:=none) (st:=none) ⟨o,c,hc,hd⟩ rfl (wdu ⟨ZE (wdv z _ _) b,fin⟩)
  |int j e=>exact wbV (l:=none) (u:=some (j,e)) (st:=none) ⟨o,c,hc,hd⟩ rfl (wdu ⟨ZE (wdv z _ _) b,fin⟩)
 |int i g=>cases f with
  |none=>exact wbV (l:=some (i,g)) (u:=none) (st:=none) ⟨o,c,hc,hd⟩ rfl (wdu ⟨ZE (wdv z _ _) b,fin⟩)
  |int j e=>exact wbV (l:=some (i,g)) (u:=some (j,e)) (st:=none) ⟨o,c,hc,hd⟩ rfl (wdu ⟨ZE (wdv z _ _) b,fin⟩)
theorem BO:Jg X "str.join" (λx xs H Q=>∃z p ts,x=.str z/\xs=[.ref p]/\aI X.K H p (wcd V.str ts)/\(ts.map (·.length)).sum + ts.length * z.length<=16777216/\Q (.str (wcp z ts)) H):=by
 intro a s σ H x xs v l Q I b c h;obtain⟨z,p,ts,rfl,rfl,d,e,q⟩:=h;obtain⟨t,rfl⟩:=b;obtain⟨u,rfl,f⟩:=c.one;cases f;obtain⟨g,i,pl,_⟩:=I.list d;exact join_list pl.isList (by simpa using A2 i) e λj k=>⟨.str _,H,I.tok k,⟨j,rfl⟩,q⟩
end
noncomputable def LI(K:Zh)(a:Addr):It:=
 ⟨λi H=>∃xs x,aI K H a xs/\xs[i]?=some x,λi H x H'=>∃T xv,H T=none/\x=.ref T/\H'=upd H T (.tup [.int (i:Nat),xv])/\∀xs,aI K H a xs->xs[i]?=some xv,λi H=>∃xs,aI K H a xs/\xs.length<=i⟩
theorem CL{P:ZH}{w:World}{K:Zh}{C:List Expr}{k:Nat}{pos:Pos}(a e it:Addr)(J:e≠it):Turn P w K (.Tuple C k pos) (LI K a) [e,it] e (λi h=>(∃old,IsEnum h e it (i:Nat) old)/\h.IsListIter it a i) where
 mem:=by simp
 obj:=λi h st b d=>by
  obtain⟨⟨old,f⟩,o,M,hc,hd⟩:=st;rcases ZT.mp d with rfl |d
  ·exact⟨_,f,λv z=>by
    have z':wg1 _=wgw v:=z
    cases z'⟩
  ·have A:b=it:=by simpa using d
   subst A;exact⟨o,M,λv z=>by rw[hd]at z;cases z⟩
 keep:=λi h h' st k=>⟨st.1.imp λold f=>k e (by simp) _ f,st.2.at λo q=>k it (by simp) o q⟩
 item:=by
  intro X N hw O hc i l s σ H E I B st Q;subst N hw O;obtain⟨xs,x,L,R⟩:=Q;obtain⟨S,T,p,hz⟩:=I.list L;obtain⟨u,hu,ru⟩:=T.get R;obtain⟨⟨old,f⟩,hit⟩:=st;obtain⟨f0,f1,f2,f3,f4,f5⟩:=B e (by simp);obtain⟨U,g1,g2,g3,V,Y⟩:=B it (by simp);refine wpAny_pyNext_enum_item f hit p.isList (x:=u) (by simpa using hu) J λh' M D hT hsz hk=>?_;refine⟨_,rfl,wdV M λg Z t=>?_⟩;have kp:∀b o,b≠e->b≠it->s.heap.get? b=some o->g.get? b=some o:=λb o h1 h2 q=>(t.2 b h1).trans (hk b o h1 h2 q);have F:e < s.heap.objs.size:=Zz f;have Kg:s.heap.objs.size≠e:=wby F;have Qb:g.get? s.heap.objs.size=some {cls:=.type "tuple",data:=.seq #[.int i s.toks,u]}:=(t.2 _ Kg).trans hT;have y:=I.aZ.fresh (Zr s.heap.objs.size);have j:∀b o,H b=some o->b≠e/\b≠it:=λb o q=>⟨(λz=>by rw[z,f0]at q;cases q),(λz=>by rw[z,U]at q;cases q)⟩
  have G:j4 X.prog X.w (upd H s.heap.objs.size (.tup [.int (i:Nat),x])) g:=by
   intro b o q
   by_cases d:b=s.heap.objs.size
   ·subst d;rw[a6]at q;cases q;exact⟨by show 2<=sizeLine;decide,[.int i s.toks,u],.cons ⟨_,rfl⟩ (.cons ru .nil),⟨_,Qb,rfl,_,rfl⟩⟩
   ·rw[ae d]at q;refine(I.aZ b o q).rS (λc v hc r=>?_) (λc r=>by rw[ae (af r y)];exact r) λc ys r=>by rw[ae (af r y)];exact r
    rcases hc with z |z
    ·rw[z]at r ⊢;exact kp b v (j b o q).1 (j b o q).2 r
    ·exact kp c v (j c _ z).1 (j c _ z).2 r
  have I1:Inv X l σ (upd H s.heap.objs.size (.tup [.int (i:Nat),x])) {s with heap:=g,gens:=s.gens,drawn:=s.drawn,toks:=s.toks + 1}:=by
   refine I.step (ch:=[e,it]) (λb d=>?_) (λb o _ _ hc q _=>kp b o (λz=>hc (by simp[z])) (λz=>hc (by simp[z])) q) (λb o _ _ hc q _=>⟨o.slots,kp b o (λz=>hc (by simp[z])) (λz=>hc (by simp[z])) q⟩)
    (λb o _ q n=>by rw[ae (ZJ (Zz q))];exact n) (λb o hc q=>⟨o,kp b o (λz=>hc (by simp[z])) (λz=>hc (by simp[z])) q⟩)
    (λb ys r=>by rw[ae (af r y)];exact r) (λb o u r=>by rw[ae (af r y)];exact r) (λb ps r=>⟨#[],by rw[ae (af r y),r];simp⟩)
    (λm ⟨o,es,ep,Qc,r⟩=>⟨o,es,ep,kp _ o (waB f1) (waB g1) Qc,r⟩) G I.bare
   rcases ZT.mp d with rfl |d
   ·exact⟨f3,f1,f4,f5⟩
   ·have A:b=it:=by simpa using d
    subst A;exact⟨g3,g1,V,Y⟩
  refine⟨.ref s.heap.objs.size,_,I1,rfl,⟨s.heap.objs.size,x,y,rfl,rfl,λys hy=>by rw[I.rV hy L];exact R⟩,⟨⟨u,by simpa using Z⟩,?_⟩,λb d=>?_⟩
  ·exact D.at λo q=>(t.2 it (waB J)).trans q
  ·have:b < s.heap.objs.size:=by
    rcases ZT.mp d with rfl |d
    ·exact F
    ·have A:b=it:=by simpa using d
     subst A;obtain⟨o,q,_⟩:=hit;exact Zz q
   rw[ae (ZJ this)];exact(B b d).1
 done:=by
   intro X N hw O hc i l s σ H E I B st Q;subst N hw O;obtain⟨xs,L,R⟩:=Q;obtain⟨S,T,p,hz⟩:=I.list L;have hl:=T.length;obtain⟨⟨old,f⟩,hit⟩:=st;obtain⟨U,g1,g2,g3,V,Y⟩:=B it (by simp);exact wpAny_pyNext_enum_end (I.ok.hd hc) f hit p.isList (weQ (by simp;omega)) λh' eb=>⟨rfl,I.turned (t':=s.toks) (λb o d e=>eb b o d e) U g1 g3 V Y⟩
 self:=λ_ _ _ _ _ st h=>let ⟨⟨_,f⟩,_⟩:=st;wcX f h
theorem jG:wa8 "enumerate"=some (.type "enumerate"):=by decide+kernel
section
variable{X:Cx}
def MM(K:Zh)(ta:TA):TI:=λσ H R=>ta σ H λvs H1=>∃a xs,vs=[.ref a]/\aI K H1 a xs/\R (LI K a) H1
theorem lP{g:List Expr}{k:Nat}{j:Pos}{l:Expr}{o:TA}{p pos:Pos}(r:Gl X "enumerate")(C:X.mg "enumerate"=none)(ha:PA X [l] o)(hs:starEach [l] X.env=[(false,eval l X.env)]:=by rfl) :
 PI X (.Tuple g k j) (.Call (.Name "enumerate" p) [l] [] pos) (MM X.K o):=by
 intro c s σ H R I h;refine Call_ (iB I r C jG (wbz (bS (ha pos c s σ H _ I h) λD d ⟨E,m,i,t,v⟩=>?_) hs rfl));obtain⟨a,F,e,w,q⟩:=v;subst e;obtain⟨u,rfl,x⟩:=vals1 t;cases x;obtain⟨y,G,pl,J⟩:=i.list w;refine call_enumerate_list pl.isList λz n hit A kp=>wcX n ?_;have B:Inv X c σ m {d with heap:=z}:=i.kept (t':=d.toks) kp;refine⟨d.heap.objs.size + 1,[d.heap.objs.size + 1,d.heap.objs.size],_,_,m,rfl,B,CL a _ _ (wby (wb6 _)),⟨⟨_,n⟩,hit⟩,λb L=>?_,q⟩
 have f:d.heap.objs.size<=b:=by
  grind
 exact i.Cu f (i.aZ.fresh f)
end
theorem nM{K:Zh}{a:Addr}{xs:List V}{g:TG}{C:TS}{D:Ends}{σ:St}{H:Hp}(Pv:Nat->St->Hp->Prop)(J:Pv 0 σ H)(hl:∀i σ H,i<=xs.length->Pv i σ H->aI K H a xs)
 (hs:∀i x σ H T,xs[i]?=some x->Pv i σ H->H T=none->g (.ref T) σ (upd H T (.tup [.int (i:Nat),x])) λj r=>C {D with nx:=Pv (i + 1),ct:=Pv (i + 1),bk:=D.nx} j r) (hd:∀σ H,Pv xs.length σ H->D.nx σ H) :
 ∃W:Nat->Nat->St->Hp->Prop,(∃m,W 0 m σ H)/\∀i m σ H,W i m σ H ->
  ((LI K a).stop i H/\D.nx σ H)\/((LI K a).go i H/\∃N:St->Hp->Prop,(∀l o,N l o->∃I,I < m/\W (i + 1) I l o)/\∀x o,(LI K a).ur i H x o->g x σ o λj r=>C {D with nx:=N,ct:=N,bk:=D.nx} j r):=by
 refine⟨λi m σ H=>m=xs.length - i/\i<=xs.length/\Pv i σ H,⟨xs.length,by simp,wa0 _,J⟩,?_⟩;rintro i m σ H ⟨rfl,hi,p⟩;have q:=hl i σ H hi p
 by_cases b:i < xs.length
 ·refine .inr ⟨⟨xs,xs[i],q,by simp[b]⟩,Pv (i + 1),λl o c=>⟨xs.length - (i + 1),by omega,rfl,b,c⟩,λx o y=>?_⟩;obtain⟨T,d,f,h,k,y⟩:=y;subst h k;exact hs i d σ _ T (y xs q) p f
 ·have e:i=xs.length:=by omega
  subst e;exact .inl ⟨⟨xs,q,Zr _⟩,hd σ H p⟩
noncomputable def qc(σ:List Str)(v:Str):List Str:=if σ.any (· == v)=true then σ else σ++[v]
noncomputable def cA(val:Nat->Str)(i:Nat):List Str:=((ZY i).map val).foldl qc []
theorem ig(val:Nat->Str)(i:Nat):cA val (i + 1)=qc (cA val i) (val i):=by
 unfold cA;rw[wcA,ZB,wcY];rfl
theorem vB(val:Nat->Str):∀i,(cA val i).length<=i
 |0=>Zr _
 |i + 1=>by
  rw[ig];unfold qc;have a:=vB val i;split
  ·omega
  ·grind
theorem CM(σ:List Str)(v k:Str):(qc σ v).any (· == k)=(σ.any (· == k) ||decide (k=v)):=by
 unfold qc
 by_cases h:σ.any (· == v)=true
 ·rw[if_pos h]
  by_cases e:k=v
  ·subst e;rw[h];simp
  ·simp[e]
 ·rw[if_neg h,List.any_append]
  by_cases e:k=v
  ·subst e;simp
  ·have a:(v == k)=false:=by simpa [beq_iff_eq] using(λb:v=k=>e b.symm)
   simp[a,e]
theorem wM(σ:List Str)(v:Str):(qc σ v).length=if σ.any (· == v) then σ.length else σ.length + 1:=by
 unfold qc;split <;> simp
theorem sub_str_set:isSubtype (.type "str") (.type "set")=pure false:=by rw[isSubtype_type];kernel_rfl
theorem sub_str_frozenset:isSubtype (.type "str") (.type "frozenset")=pure false:=by rw[isSubtype_type];kernel_rfl
theorem Jl(P:ZH)(w:World)(x:Str)(t:Tok):(waX P w).is x (.str x t)=true:=by simp[waX,wfo]
section
variable{prog:ZH}{w:World}{A:Around}{R:wc4->Shared->Prop}{I:Addr}{fp wr:List Addr}{G:Array wcj->Array wcj->Prop}{n:Nat}{P:Nat->Value->Prop}{St:Nat->Shared->Prop}
theorem yo(W:WalksS prog w A.in1 I fp wr G n P St)(S:Addr)(l:S∉fp)
 (val:Nat->Str) (p:∀i v,P i v->∃t,v=.str (val i) t) (j:n + 1 < wcL) :
 ∀(k i:Nat) (s:Shared),n - i=k->i<=n->St i s ->
  s.heap.SetOf (waX prog w) S (λg=>(cA val i).any (· == g)) (cA val i).length ->
  (∀s',Moved (S :: wr) G s s'->s'.heap.SetOf (waX prog w) S (λg=>(cA val n).any (· == g)) (cA val n).length->R (.ok (.ret .none)) s') ->
  codeAny (model prog w) A (.builtin "set.update.loop" ⟨[.ref S,.ref I],[]⟩) R s:=by
 have f:S∉wr:=λh=>l (W.sub _ h);have a:∀b∈wr,b∈S :: wr:=λb j=>Zt _ j;intro k
 induction k with
 |zero=>
  intro i s N hi c z B;have C:i=n:=by omega
  subst C;refine waT wcM ?_;rw[waM wbB _];show wpAny _ A.in1 (pyNext (.ref I) >>= _) _ _ s;refine Zk (W.done s _ _ c λs' m=>?_);show wpAny _ A.in1 (ret waO) _ _ s'
  exact ZN (B s' (m.mono a) (by
   obtain⟨o,D,E,t,H,rest⟩:=z
   exact⟨o,D,E,t,m.heap S _ f H,rest⟩))
 |succ k O=>
  intro i s N hi c z B;have q:i < n:=by omega
  refine waT wcM ?_;rw[waM wbB _];show wpAny _ A.in1 (pyNext (.ref I) >>= _) _ _ s;refine Zk (W.item i s _ _ q c λv s' Q r m=>?_);obtain⟨t,rfl⟩:=p i v Q
  have J:s'.heap.SetOf (waX prog w) S (λg=>(cA val i).any (· == g)) (cA val i).length:=by
   obtain⟨o,D,E,T,H,rest⟩:=z;exact⟨o,D,E,T,m.heap S _ f H,rest⟩
  show wpAny _ A.in1 (holding [wez (val i) t] (setAdd S (.str (val i) t)) >>= _) _ _ s';refine Zk (waG ?_);unfold setAdd;refine waG ?_;refine Zk ((waX prog w).pyHash (k:=val i) (Jl _ _ _ _) ?_);have d:(cA val i).length + 1 < wcL:=by have:=vB val i;omega
  refine wpAny_setAddHashed_of (knd:=waX prog w) (s:={s' with toks:=s'.toks + 1}) (Jl _ _ _ _) rfl J d λU u K=>?_
  have L:U.SetOf (waX prog w) S (λg=>(cA val (i + 1)).any (· == g)) (cA val (i + 1)).length:=
   SetOf_congr K (λg=>by rw[ig,CM]) (by rw[ig,wM])
  refine ZN ⟨wbi wbB _,O (i + 1) _ (by omega) q (W.frame _ s' _ _ r (wbx _) λb j o e=>?_) L λM x y=>?_⟩
  ·rw[u.2 b (λh:b=S=>l (by rw[<-h];exact j))];exact e
  ·refine B M (Moved.trans W.gtrans ((m.mono a).then_heap (wbx _) λb o j e=>?_) x) y;rw[u.2 b (λh:b=S=>j (by rw[h];exact Zy))];exact e
end
section
variable{prog:ZH}{w:World}{A:Around}{E:Value->Shared->Prop}{s:Shared}
noncomputable def dm(x:Str)(i:Nat):Str:=⟨#[x.cps.getD i 0]⟩
set_option maxRecDepth 100000 in
set_option maxHeartbeats 3200000 in
theorem wN{Q:Value->Shared->Prop}
 (hh:A.handled=none) (p:x.cps.size + 1 < wcL)
 (h:∀(h':Heap) (tk:Nat),h'.SetOf (waX prog w) s.heap.objs.size (λC=>(cA (dm x) x.cps.size).any (· == C)) (cA (dm x) x.cps.size).length ->
   (∀b o,b < s.heap.objs.size->s.heap.get? b=some o->h'.get? b=some o)->Q (.ref s.heap.objs.size) {s with heap:=h',toks:=tk}) :
 wpAny (model prog w) A (call (.type "set") [.str x I]) Q E s:=by
 obtain⟨c,tl,P⟩:=wba.mro;have y:=wba.made;have S:=wba.sub;refine wc5 (weG ?_);show wpAny _ _ (callAny (.type "set") _) _ _ _;refine ZN ⟨wcN _ (by decide+kernel),waT wfg ?_⟩;rw[wfI (wf4 "set" [.str x I] []) rfl];have h1:=wba.notType;have h2:=wba.canCreate;have W:=PySem.F.typeCall_set_1 (.str x I)
 repeat (any_goals (first |assumption |wp_step))
 refine wbf (code_set_new_1 (.str x I) (E:=E) (Q₁:=λobj f=>∃a:Bool,obj=.ref s.heap.objs.size/\f={s with heap:=s.heap.push {cls:=.type "set",dict:=none,data:=.set #[] 0 (.fresh 0 0 a)}}) λa=>⟨a,rfl,rfl⟩) λr f z=>?_
 cases r with
 |error e=>exact z
 |ok fl=>
  cases fl with
  |ret obj=>
   obtain⟨a,rfl,rfl⟩:=z;have T:(s.heap.push {cls:=.type "set",dict:=none,data:=.set #[] 0 (.fresh 0 0 a)}).get? s.heap.objs.size=some {cls:=.type "set",dict:=none,data:=.set #[] 0 (.fresh 0 0 a)}:=ZP _ rfl;have X:wgy {s with heap:=s.heap.push {cls:=.type "set",dict:=none,data:=.set #[] 0 (.fresh 0 0 a)}} (.ref s.heap.objs.size) "set":=⟨_,T,rfl⟩;have Y:=wba.init.lookup;have Z:=wba.init.bind (.ref s.heap.objs.size)
   repeat (any_goals (first |assumption |wp_step))
   refine wbf (wbN (R:=wants (λr g=>r=.none/\∃h' tk,g={s with heap:=h',toks:=tk} /\
    h'.SetOf (waX prog w) s.heap.objs.size (λC=>(cA (dm x) x.cps.size).any (· == C)) (cA (dm x) x.cps.size).length /\
    (∀b o,b < s.heap.objs.size->s.heap.get? b=some o->h'.get? b=some o)) E) wba.init.plain PySem.F.entry_set_init (check_set_init_1 X ?_)) λl g d=>?_
   ·have U:=sub_str_set;have V:=sub_str_frozenset;have yp:(wdj "str" == wdj "dict")=false:=by decide
    unfold wdI.«set.__init__» noKeywords wgv;generalize B:pyIter=PI
    wp_walk
    subst B;refine wpAny_pyIter_str λo St hW D=>?_;refine Zk (wpAny_runValue ?_);have G:A.in1.in1.in1.handled=none:=by simp[hh]
    have H:s.heap.objs.size∉[(s.heap.push {cls:=.type "set",dict:=none,data:=.set #[] 0 (.fresh 0 0 a)}).objs.size]:=by
     rw[waY];simp only[ZT,ZC,waW,or_false,not_or];exact ZJ (wb6 _)
    have m:∀(i:Nat) (v:Value),SignAt x i v->∃t,v=.str (dm x i) t:=λi v hv=>by
     obtain⟨c,u,hc,e⟩:=hv;refine⟨u,?_⟩;rw[e];unfold dm;rw[wci,hc];rfl
    refine yo ((hW _ G).toS) s.heap.objs.size H (dm x) m p (x.cps.size - 0) 0 _ (by omega) (wa0 _) D ?J ?hR
    case J=>
     have n:((s.heap.push {cls:=.type "set",dict:=none,data:=.set #[] 0 (.fresh 0 0 a)}).push o).get? s.heap.objs.size
      =some {cls:=.type "set",dict:=none,data:=.set #[] 0 (.fresh 0 0 a)}:=Zo _ T
     exact SetOf_congr ((setObjOf_fresh (knd:=waX prog w) a).setOf n (by unfold wcL;omega)) (λ_=>rfl) rfl
    case hR=>
     intro s' q j;obtain⟨h',g',d',K,L⟩:=s';have eg:g'=s.gens:=q.gens;have ed:d'=s.drawn:=q.drawn;have eo:L=s.os:=q.os;subst eg;subst ed;subst eo;show wpAny _ _ _ _ _ _;refine ZN ?_;show wpAny _ _ (ret waO) _ _ _;refine ZN ⟨rfl,h',K,rfl,j,λb o' p e=>?_⟩;have M:b≠s.heap.objs.size:=ZJ p
     have N:b≠(s.heap.push {cls:=.type "set",dict:=none,data:=.set #[] 0 (.fresh 0 0 a)}).objs.size:=by
      rw[waY];exact ZJ (wcW p)
     exact q.heap b o' (by simp only[ZT,ZC,waW,or_false,not_or];exact⟨M,N⟩) (Zo _ (Zo _ e))
   ·cases l with
    |error e=>exact d
    |ok k=>
     cases k with
     |ret r=>
      obtain⟨rfl,h',tk,rfl,j,O⟩:=d
      repeat (any_goals (first |assumption |wp_step))
      exact h _ _ j O
     |_=>exact d.elim
  |_=>exact z.elim
end
section
variable{X:Cx}
noncomputable def Hu(P:ZH)(w:World)(a:Addr)(n:Nat):HO:=.ext λh=>∃S,h.SetOf (waX P w) a S n
theorem yq(hc:X.calm=true):di X (.type "set") (λxs H Q=>∃z,xs=[.str z]/\z.cps.size + 1 < wcL/\∀p,H p=none->Q (.ref p) (upd H p (Hu X.prog X.w p (cA (dm z) z.cps.size).length))):=by
 intro c s σ H xs n Q I r h;obtain⟨z,rfl,f,q⟩:=h;obtain⟨u,rfl,t,rfl⟩:=vals1 r;refine wN (I.ok.hd hc) f λg i d kp=>?_;have a:∀b o,s.heap.get? b=some o->g.get? b=some o:=λb o e=>kp b o (Zz e) e;refine⟨.ref s.heap.objs.size,_,I.laid (t':=i) (o:=Hu X.prog X.w s.heap.objs.size (cA (dm z) z.cps.size).length) a (Zr _) ⟨⟨_,d⟩,?_,?_⟩,rfl,q _ (I.aZ.fresh (Zr _))⟩
 ·obtain⟨o,_,_,_,e,_⟩:=d;exact⟨o,e⟩
 ·rintro v x ⟨S,o,j,l,m,e,rest⟩ k;exact⟨S,o,j,l,m,k o e,rest⟩
theorem yr:di X (.builtin "len") (λxs H Q=>∃p n,xs=[.ref p]/\H p=some (Hu X.prog X.w p n)/\Q (.int n) H):=by
 intro b s σ H xs g Q I r h;obtain⟨p,n,rfl,c,q⟩:=h;obtain⟨u,rfl,d⟩:=vals1 r;cases d;obtain⟨⟨S,o,i,j,k,e,hex,hd,_,_,f,a,hn⟩,_⟩:=(show bO X.prog X.w H s.heap p (Hu X.prog X.w p n) from I.aZ p _ c);refine call_len_set e hex hd a (by grind [wcL]) ⟨.int n,H,I.tok _,⟨s.toks + 1,?_⟩,q⟩;rw[hn]
end
section
variable{X:Cx}{pins:List (Addr×Obj)}{σ:St}{H:Hp}{s:Shared}
end
section
variable{X:Cx}{st:Stmt}{rest:List Stmt}{t u:TS}{pos:Pos}
end
end L2
namespace Bs
open PySem PySem.Spec PyProof.Rows
noncomputable abbrev ch(x:Str):List Nat:=x.cps.toList
theorem aV(x:Str):(ch x).length=x.length:=by simp[ch,wcm]
theorem dn(h:ch x=ch y):x=y:=by
 obtain⟨a⟩:=x;obtain⟨b⟩:=y;have:a=b:=wel.mp h;rw[this]
theorem aN(a b:Str):ch (a++b)=ch a++ch b:=by grind [Str.cps_append,Array.toList_append]
theorem wO(c:Nat):ch ⟨#[c]⟩=[c]:=rfl
theorem jf(h:z.length=0):ch z=[]:=by grind [aV]
theorem nN(x:Str)(l u:Option Int):wb9 x l u=StrLaws.sliceText x l u:=rfl
theorem EE(x:Str)(j:Nat):ch (wb9 x none (some (j:Int)))=(ch x).take j:=by
 by_cases h:j<=x.length
 ·grind [nN,wfh,wcm]
 ·have hn:waU none (some (j:Int)) 1 x.length=waU none (some ((x.length:Nat):Int)) 1 x.length:=by
   grind [waU]
  have e:wb9 x none (some (j:Int))=wb9 x none (some ((x.length:Nat):Int)):=by
   grind [wb9]
  rw[e,nN,wfh ⟨by omega,by simp[wcm]⟩];have a:(ch x).length<=j:=by rw[aV];omega
  rw[waN a];have b:x.cps.toList.take x.cps.size=x.cps.toList:=waN (by simp);simp[wcm,b]
theorem sv(x:Str)(i:Nat):ch (wb9 x (some (i:Int)) none)=(ch x).drop i:=by
 by_cases h:i<=x.length
 ·rw[nN,weR ⟨by omega,by simp[wcm]at h ⊢;omega⟩];show ((x.cps.toList.drop (i:Int).toNat).take ((x.cps.toList.length:Int) - (i:Int)).toNat).toArray.toList=(ch x).drop i;rw[List.toList_toArray,ZS,waN];rw[waV];omega
 ·have hn:waU (some (i:Int)) none 1 x.length=waU (some ((x.length:Nat):Int)) none 1 x.length:=by
   have a:¬((i:Int) < 0):=by omega
   have b:¬(((x.length:Nat):Int) < 0):=by omega
   have c:max (0:Int) (min (i:Int) (x.length:Int))=max 0 (min ((x.length:Nat):Int) (x.length:Int)):=by omega
   simp[waU,a,b,c]
  have e:wb9 x (some (i:Int)) none=wb9 x (some ((x.length:Nat):Int)) none:=by
   unfold wb9;rw[hn]
  rw[e,nN,weR ⟨by omega,by simp[wcm]⟩];have d:(ch x).length<=i:=by rw[aV];omega
  rw[weS d];simp[wcm]
noncomputable def mm(c:Nat)(l:List Nat):List Nat:=l.filter λk=>decide (k≠c)
theorem mY(c:Nat)(l:List Nat)(h:c∉l):mm c l=l:=by
 unfold mm;refine wab.mpr λa ha=>decide_eq_true λe=>h (e ▸ ha)
theorem sx(c:Nat)(g:z.length=0):∀parts:List Str,(∀p∈parts,c∉ch p)->mm c (ch (wge ⟨#[c]⟩ parts))=ch (wge z parts)
 |[],_=>rfl
 |[p],h=>mY c _ (h p (ZC.mpr rfl))
 |p :: q :: r,h=>by
  have d:=sx c g (q :: r) λa ha=>h a (Zt _ ha);show mm c (ch (p++⟨#[c]⟩++wge ⟨#[c]⟩ (q :: r)))=ch (p++z++wge z (q :: r));rw[aN,aN,aN,aN,<-d,jf g,waf];unfold mm;rw[waE,waE];have b:=mY c _ (h p (Zy ..));unfold mm at b;rw[b];simp
theorem wQ(g:z.length=0)(x:Str)(c:Nat):ch (wg4 x ⟨#[c]⟩ z)=mm c (ch x):=by
 grind [StrLaws.replace_one,sx,StrLaws.split_free,StrLaws.join_split]
theorem pj(g:z.length=0):∀ts:List Str,ch (wcp z ts)=(ts.map ch).flatten:=by
 intro ts;unfold wcp Builtin.Str.glued
 have b:z.cps=#[]:=by
  have:=jf g;exact wel.mp this
 have key:∀(l:List Str) (a:Array Nat),(l.foldl (λa p=>a++z.cps++p.cps) a).toList=a.toList++(l.map ch).flatten:=by
  intro l
  induction l with
  |nil=>grind
  |cons p l c=>
   grind
 cases ts with
 |nil=>rfl
 |cons p l=>
  show ((List.drop 1 (p :: l)).foldl (λa q=>a++z.cps++q.cps) p.cps).toList=_;rw[List.drop_one,List.tail_cons,key];rfl
noncomputable def dJ:Str:="abcdefghijklmnopqrstuvwxyz0123456789"
structure vC(x:Str):Prop where
 lo:2<=x.length
 hi:x.length<=4
 nd:(ch x).Nodup
 sub:∀c∈ch x,c∈ch dJ
structure Drawn(i:Nat)(Hv found:Str):Prop where
 pl:Hv.length + i=36
 fl:found.length=i
 pn:(ch Hv).Nodup
 fn:(ch found).Nodup
 ps:∀c∈ch Hv,c∈ch dJ
 fs:∀c∈ch found,c∈ch dJ
 ap:∀c∈ch found,c∉ch Hv
theorem A5:(ch dJ).Nodup:=by decide+kernel
theorem sy:dJ.length=36:=by decide+kernel
theorem Drawn.zero(g:e.length=0):Drawn 0 dJ e:=
 ⟨sy,g,A5,(by rw[jf g];exact wau),(λ_ h=>h),(λc h=>by grind [jf]),(λc h=>by grind [jf])⟩
theorem pk:∀{l:List Nat},l.Nodup->c∈l->(mm c l).length + 1=l.length:=by
 intro l
 induction l with
 |nil=>intro _ h;cases h
 |cons a r b=>
  intro nd h;obtain⟨d,f⟩:=wa9.mp nd;unfold mm at b ⊢
  by_cases e:a=c
  ·subst e;have:r.filter (λk=>decide (k≠a))=r:=mY a r d;rw[wd9,if_neg (by simp),this];rfl
  ·have hc:c∈r:=(ZT.mp h).resolve_left (λz=>e z.symm);rw[wd9,if_pos (by simp[e]),ZZ,ZZ,b f hc]
theorem Drawn.step(d:Drawn i g found)(j:z.length=0)(hc:c∈ch g):Drawn (i + 1) (wg4 g ⟨#[c]⟩ z) (found++⟨#[c]⟩):=by
 have e:=wQ j g c;have p:=pk d.pn hc;have q:(wg4 g ⟨#[c]⟩ z).length=(mm c (ch g)).length:=by rw[<-aV,e]
 have r:=aV g;refine⟨by have:=d.pl;omega,?_,?_,?_,λk f=>?_,λk f=>?_,λk f=>?_⟩
 ·rw[<-aV,aN,Zm,aV,d.fl];rfl
 ·rw[e];exact d.pn.filter _
 ·rw[aN];refine wbr.mpr ⟨d.fn,by simp[ch],λa ha b l=>?_⟩;have:b=c:=by simpa [ch] using l
  subst this;rintro rfl;exact d.ap a ha hc
 ·rw[e]at f;exact d.ps k (ZO.mp f).1
 ·rw[aN]at f;rcases ZL.mp f with h |h
  ·exact d.fs k h
  ·have:k=c:=by simpa [ch] using h
   subst this;exact d.ps k hc
 ·rw[e];intro m;obtain⟨n,o⟩:=ZO.mp m;rw[aN]at f;rcases ZL.mp f with h |h
  ·exact d.ap k h n
  ·have:k=c:=by simpa [ch] using h
   subst this;simp at o
theorem Drawn.signs(d:Drawn i g found)(j:2<=i)(l:i<=4):vC found:=⟨by rw[d.fl];exact j,by rw[d.fl];exact l,d.fn,d.fs⟩
structure wR(sg w:Str):Prop where
 lo:1<=w.length
 hi:w.length<=5
 sub:∀c∈ch w,c∈ch sg
theorem CQ(j:z.length=0)(o:1<=ts.length)(p:ts.length<=5)(h:∀t∈ts,∃c,t=⟨#[c]⟩/\c∈ch g):wR g (wcp z ts):=by
 have e:=pj j ts
 have hl:∀(l:List Str),(∀t∈l,∃c,t=⟨#[c]⟩/\c∈ch g)->((l.map ch).flatten).length=l.length/\∀c∈(l.map ch).flatten,c∈ch g:=by
  intro l
  induction l with
  |nil=>intro _;exact⟨rfl,λc h=>by cases h⟩
  |cons t l d=>
   intro a;obtain⟨c,rfl,hc⟩:=a t (Zy ..);obtain⟨f,i⟩:=d λt h=>a t (Zt _ h);refine⟨by rw[ZK,wbq,Zm,f,ZZ];exact Nat.add_comm 1 _,λk b=>?_⟩;rw[ZK,wbq]at b;rcases ZL.mp b with h |h
   ·have:k=c:=by simpa [ch] using h
    subst this;exact hc
   ·exact i k h
 obtain⟨m,n⟩:=hl ts h;have q:(wcp z ts).length=ts.length:=by rw[<-aV,e,m]
 exact⟨by omega,by omega,λc hc=>n c (e ▸ hc)⟩
noncomputable def Kh(y x:Str):Bool:=!(wes x y 0 x.length 1).isEmpty
theorem Hw(x:Str)(c:Nat):Kh ⟨#[c]⟩ x=decide (c∈ch x):=StrLaws.found_one x c
noncomputable def bears(ws:List Str)(r:Str):Bool:=ws.any λw=>Kh w r
noncomputable def cC(w:Str)(n:Nat):Str:=wb9 w none (some (n:Int))
theorem CT(w:Str)(n:Nat):(cC w n).length<=w.length:=wdv _ _ _
noncomputable def wU(ks:List Str)(b:Str):List Str:=if b∈ks then ks else ks++[b]
noncomputable def pq(ws:List Str)(ks:List Str)(b:Str):List Str:=if bears ws b=true then ks else wU ks b
theorem EF(ws g:List Str)(b:Str):(pq ws g b).length<=g.length + 1:=by
 unfold pq wU;split
 ·omega
 ·split
  ·omega
  ·simp
noncomputable def upTo(ws:List Str)(w:Str)(ks:List Str)(n:Nat):List Str:=((ZY n).map λi=>cC w (1 + i)).foldl (pq ws) ks
theorem fv(ws:List Str)(w:Str)(g:List Str)(n:Nat):upTo ws w g (n + 1)=pq ws (upTo ws w g n) (cC w (1 + n)):=by
 unfold upTo;rw[wcA,ZB,wcY];rfl
theorem sA(ws:List Str)(w:Str)(g:List Str):∀n,(upTo ws w g n).length<=g.length + n
 |0=>Zr _
 |n + 1=>by
  rw[fv];have:=sA ws w g n;have:=EF ws (upTo ws w g n) (cC w (1 + n));omega
noncomputable def addW(ws:List Str)(ks:List Str)(w:Str):List Str:=upTo ws w ks (w.length - 1)
noncomputable def bU(ws:List Str)(e:Str)(us:List Str):List Str:=us.foldl (addW ws) [e]
theorem A6(ws:List Str)(e:Str)(us:List Str)(w:Str):bU ws e (us++[w])=addW ws (bU ws e us) w:=by
 unfold bU;rw[wcY];rfl
theorem lQ(h:∀w∈us,w.length<=5):(bU ws e us).length<=1 + 4 * us.length:=by
 have key:∀(us a:List Str),(∀w∈us,w.length<=5)->(us.foldl (addW ws) a).length<=a.length + 4 * us.length:=by
  intro us
  induction us with
  |nil=>grind
  |cons w us b=>
   grind [addW,Zt,sA]
 exact key us [e] h
theorem A7(h:g.Nodup):(wU g b).Nodup:=by
 unfold wU;split
 ·exact h
 ·rename_i d;refine wbr.mpr ⟨h,by simp,λa ha c hc=>?_⟩;have:c=b:=by simpa using hc
  subst this;rintro rfl;exact d ha
theorem A8(h:g.Nodup):(pq ws g b).Nodup:=by
 unfold pq;split
 ·exact h
 ·exact A7 h
theorem sC(h:g.Nodup):∀n,(upTo ws w g n).Nodup
 |0=>h
 |n + 1=>by rw[fv];exact A8 (sC h n)
theorem qe(us:List Str):(bU ws e us).Nodup:=by
 have key:∀(us a:List Str),a.Nodup->(us.foldl (addW ws) a).Nodup:=by
  intro us
  induction us with
  |nil=>intro a h;exact h
  |cons w us b=>intro a h;exact b _ (sC h _)
 exact key us [e] (by simp)
theorem EG(h:k∈g):k∈pq ws g b:=by grind [pq,wU,wan]
theorem mem_upTo(h:k∈g):∀n,k∈upTo ws w g n
 |0=>h
 |n + 1=>by rw[fv];exact EG (mem_upTo h n)
theorem cw(us:List Str):e∈bU ws e us:=by
 have key:∀(us a:List Str),e∈a->e∈us.foldl (addW ws) a:=by
  intro us
  induction us with
  |nil=>intro a h;exact h
  |cons w us b=>intro a h;exact b _ (mem_upTo h _)
 exact key us [e] (by simp)
def GK(a b:Str):Prop:=¬(b.cps.toList < a.cps.toList)
theorem CU(g:GK a b)(j:GK b c):GK a c:=by grind [GK,List.not_lt,List.le_trans]
theorem jH:∀{l:List Str} {p:Str},risingS p l=true->(p :: l).Pairwise GK
 |[],p,_=>List.pairwise_singleton _ _
 |x :: r,p,h=>by
  have h:(!ltCps x.cps.toList p.cps.toList && risingS x r)=true:=h;rw[wb7]at h
  have b:GK p x:=by
   have:=h.1;rw[ltCps_eq]at this;simpa [GK] using this
  have c:=jH h.2;refine wfJ.mpr ⟨λa ha=>?_,c⟩;rcases ZT.mp ha with rfl |ha
  ·exact b
  ·exact CU b ((wfJ.mp c).1 a ha)
theorem jI(h:sortedS l=true):l.Pairwise GK:=by
 cases l with
 |nil=>exact .nil
 |cons x r=>exact jH h
theorem A9(ha:sortedS a=true)(g:sortedS b=true)(j:a.Perm c)(l:b.Perm c):a=b:=by
 refine(j.trans l.symm).eq_of_pairwise (le:=GK) (λx y _ _ d e=>?_) (jI ha) (jI g);unfold GK at d e;rw[List.not_lt]at d e;exact dn (List.le_antisymm d e)
end Bs
namespace L2
open PySem PySem.Spec PyProof.Rows
noncomputable def mZ(sc scope:wc3)(N:List Str)(x:Str)(ys:List Str)(ix:List Nat):Bool:=
 (match scope.kind with |.function=>true |_=>false) &&
 (scope.names.all λy=>!decide (y.2=.cell)) && (scope.names.all λy=>!decide (y.2=.local) ||decide (scope.names.lookup y.1=some .local)) &&
 (scope.names.all λy=>!decide (y.2=.free) ||decide (sc.names.lookup y.1=some .cell) ||decide (sc.names.lookup y.1=some .free)) &&
 decide (scope.names.lookup x=some .local) && decide ((x :: ys).Nodup) && decide (ix.length=ys.length) &&
 ((ZY ys.length).all λj=>match ys[j]?,ix[j]? with
   |some y,some i=>decide (N[i]?=some y) && (decide (sc.names.lookup y=some .cell) ||decide (sc.names.lookup y=some .free)) && decide (scope.names.lookup y=some .free)
   |_,_=>false)
theorem Aa{X:Cx}(g:X.env.scope=l)(p:X.N=N)(h:mZ l scope N x ys o=true):bE X scope x ys o:=by
 unfold mZ at h;simp only[wb7]at h;obtain⟨⟨⟨⟨⟨⟨⟨b,d⟩,f⟩,k⟩,m⟩,n⟩,r⟩,s⟩:=h;refine⟨?_,λy a=>?_,λy a e=>?_,of_decide_eq_true m,λy a e=>?_,of_decide_eq_true n,of_decide_eq_true r,λj y c=>?_⟩
 ·cases e:scope.kind <;> rw[e]at b <;> first |rfl |cases b
 ·have:=wa4.mp d y a;simpa using this
 ·have:=wa4.mp f y a;simpa [e] using this
 ·have:=wa4.mp k y a;have q:l.names.lookup y.1=some .cell\/l.names.lookup y.1=some .free:=by simpa [e] using this
  show X.env.scope.names.lookup y.1=some .cell\/X.env.scope.names.lookup y.1=some .free;rw[g];exact q
 ·have hl:j < ys.length:=(Zn.mp c).1;have:=wa4.mp s j (wak.mpr hl);rw[c]at this
  cases e:o[j]? with
  |none=>rw[e]at this;cases this
  |some i=>
   rw[e]at this;simp only[wb7,Bool.or_eq_true,decide_eq_true_eq]at this;exact⟨i,rfl,by rw[p];exact this.1.1,by rw[g];exact this.1.2,this.2⟩
theorem comp_map{Ok:Hp->Prop}{Q:Hp->Prop}(g:V->V)(I:m9 J Ok xs)(hl:H l=none)(T:xs.length<=sizeLine)(r:∀j,a8 H j->Ok j)
 (U:∀x o p,x∈xs->a8 H o->(∀j,a8 o j->p (g x) j)->te (some x :: C) o p)
 (hd:∀j,a8 H j->j l=some (.lst (xs.map g))->Q j):ml J l C uE te H Q:=
 cY (λ_=>true) g I hl T r (λx o p _ _ q=>q o (a8.refl _)) (λx o p a _ s q=>U x o p a s q) (λj s h=>hd j s (by rw[h,wab.mpr (λ_ _=>rfl)]))
structure FnAt(K:Zh)(mg:Str->Option Value)(nm:Str)(st:Stmt)(ps:List Str)(f:Addr)(fd:Zv):Prop where
 F:yj K nm nm st f fd
 b:Binds K fd ps []
 g:mg nm=some (.ref f)
theorem gT{X:Cx}{K:Zh}(g:X.K=K):m7 X (waI .In) (Ox K false):=by
 subst g;exact vn
theorem uF{X:Cx}{K:Zh}(g:X.K=K):m7 X (waI .NotIn) (Ox K true):=by
 subst g;exact jc
theorem fY{X:Cx}{K:Zh}(g:X.K=K):LD X (Mz K):=by
 subst g;exact bq
theorem uG{X:Cx}{K:Zh}(g:X.K=K):di X (.builtin "len") (λxs H Q=>∃p ys,xs=[.ref p]/\(aI K H p ys\/ia K H p ys)/\Q (.int ys.length) H):=by
 subst g;exact b7
theorem BP{X:Cx}{K:Zh}{o:Expr}{C:TE}{name:Str}{apos g:Pos}{T id:String}{r:V->List V->Hp->VK->Prop}(I:X.K=K)(J:wff T)(slot:Slot T name id)(p:typeOf (.builtin id)=pure (.type "method_descriptor"))(U:Jg X id r)(ho:PE X o C)
 (j:wbH o name X.env (eval o X.env)=eval o X.env:=by rfl) (l:(apos.endLine == g.line)=true:=by rfl):PE X (.Call (.Attribute o name apos) [] [] g) (MC K T r C):=by
 subst I;exact Ep J slot p U ho j l
theorem lR{X:Cx}{K:Zh}{e:Expr}{f:Str}{pos:Pos}{g:TE}(j:X.K=K)(l:PE X e g)(o:wbH e f X.env (eval e X.env)=eval e X.env):PE X (.Attribute e f pos) (Mu K g f):=by
 subst j;exact aO l o
theorem EH{c A B:Prop}[Decidable c](h:¬c)(b:B):if c then A else B:=by
 grind
theorem Qe{c A B:Prop}[Decidable c](h:c)(a:A):if c then A else B:=by
 grind
theorem ax(h:n<=1000000):n<=sizeLine:=ZE h (by rw[wbe];decide)
theorem iN(y:Str)(ps:List Str):nK (.str y) (ps.map V.str)=decide (y∈ps):=by
 unfold nK;rw[wdw]
 induction ps with
 |nil=>rfl
 |cons p ps a=>
  rw[wbY,a];show ((p == y) ||decide (y∈ps))=decide (y∈p :: ps)
  by_cases e:p=y
  ·subst e;simp
  ·grind
theorem ez(ps:List Str):(ps.map V.str).all cK=true:=by
 rw[wek];exact wa4.mpr λ_ _=>rfl
noncomputable def MN(r:Str):V->V:=λv=>match v with
 |.str y=>.bl (Bs.Kh y r)
 |_=>.non
theorem yt(r:Str)(ws:List Str):(ws.map V.str).map (MN r)=(ws.map λw=>Bs.Kh w r).map V.bl:=by
 rw[Zw,Zw];rfl
theorem CV(a b:Str):(dO a).map (MN b)=((Bs.ch a).map λc=>decide (c∈Bs.ch b)).map V.bl:=by
 unfold dO;rw[Zw,Zw];refine wac λc _=>?_;show V.bl (Bs.Kh ⟨#[c]⟩ b)=V.bl (decide (c∈Bs.ch b));rw[Bs.Hw]
noncomputable def jJ(ks:List Str):List (Key×V):=ks.map λk=>((ZQ k:Key),V.bl true)
theorem Ab(g:List Str):(jJ g).map (·.1)=g.map (ZQ:Str->Key):=by
 unfold jJ;rw[Zw];rfl
theorem CW(g:List Str)(b:Str):putK (jJ g) (ZQ b:Key) (.bl true)=jJ (Bs.wU g b):=by
 unfold putK Bs.wU
 by_cases h:b∈g
 ·have a:((jJ g).any λc=>decide (c.1=(ZQ b:Key)))=true:=by
   refine wbw.mpr ⟨(ZQ b,.bl true),?_,decide_eq_true rfl⟩;exact Zq.mpr ⟨b,h,rfl⟩
  rw[if_pos a,if_pos h];unfold jJ;rw[Zw];refine wac λk _=>?_;show (if (ZQ k:Key)=ZQ b then((ZQ k:Key),V.bl true) else((ZQ k:Key),V.bl true))=_;split <;> rfl
 ·have a:¬((jJ g).any λc=>decide (c.1=(ZQ b:Key)))=true:=by
   intro z;obtain⟨p,d,e⟩:=wbw.mp z;obtain⟨k,f,rfl⟩:=Zq.mp d;have:(ZQ k:Key)=ZQ b:=of_decide_eq_true e;have:k=b:=wcb this;subst this;exact h f
  rw[if_neg a,if_neg h];unfold jJ;rw[ZB];rfl
theorem CY(g:List Str):(jJ g).length=g.length:=by unfold jJ;rw[Zf]
theorem nO(h:(Bs.ch x).Nodup):∀i,i<=x.cps.size->cA (dm x) i=(ZY i).map (dm x)
 |0,_=>rfl
 |i + 1,hi=>by
  have d:=nO h i (by omega);rw[ig,d,wcA,ZB];unfold qc;rw[if_neg]
  ·rfl
  ·intro z;obtain⟨y,f,e⟩:=wbw.mp z;obtain⟨j,l,rfl⟩:=Zq.mp f;have m:j < i:=wak.mp l;have b:dm x j=dm x i:=eq_of_beq e;unfold dm at b
   have c:x.cps.getD j 0=x.cps.getD i 0:=by
    injection b with n
    have:=congrArg Array.toList n;simpa using this
   have g:∀k,(a:k < x.cps.size)->x.cps.getD k 0=(Bs.ch x)[k]'(by simpa using a):=λk a=>by
    simp[Array.getD,a]
   rw[g j (by omega),g i (by omega)]at c;have:=(wcl h).mp c;omega
theorem yu(h:(Bs.ch x).Nodup):(cA (dm x) x.cps.size).length=x.length:=by
 rw[nO h _ (Zr _),Zf,wag];rfl
section
variable{X:Cx}
end
theorem EI{κ:Type}(f:κ->V)(g:κ->Str)(j:∀a b,g a=g b->f a=f b):∀{l:List κ} {c:κ},c∈l->bu (l.map λc=>((ZQ (g c):Key),f c)) (ZQ (g c):Key)=some (f c):=by intro a;induction a <;> grind [bF,bG,wcb]
end L2
namespace L2
open PySem
structure eN(K:Zh)(C:Addr)(nm qual:Str)(st:Stmt)(ps:List Str)(f:Addr)(fd:Zv):Prop where
 F:yj K nm qual st f fd
 b:Binds K fd ps []
 m:He K C nm f
end L2
namespace Sx
open PySem L2 Bs
theorem MO:wa8 "all"=some (.builtin "all"):=by decide+kernel
theorem Ki:wa8 "any"=some (.builtin "any"):=by decide+kernel
theorem Hx:wa8 "sorted"=some (.builtin "sorted"):=by decide+kernel
theorem yv:wa8 "isinstance"=some (.builtin "isinstance"):=by decide+kernel
theorem EJ:wa8 "str"=some (.type "str"):=by decide+kernel
theorem jK:wa8 "list"=some (.type "list"):=by decide+kernel
theorem Qf:wa8 "set"=some (.type "set"):=by decide+kernel
section
variable{P:ZH}{w:World}{K:Zh}{mg:Str->Option Value}{base:Heap}{f:Addr}{fd:Zv}
inductive Hy(vs:List V)(H:Hp)(Q:VK)(eA:XK):Prop
 |mk (a b) (_:vs=[.str a,.str b]) (_:a.length<=1000) (_:∀H',a8 H H'->Q (.bl ((ch a).all λc=>decide (c∈ch b))) H')
inductive HA(K:Zh)(vs:List V)(H:Hp)(Q:VK)(eA:XK):Prop
 |mk (r a ws) (_:vs=[.str r,.ref a]) (_:aI K H a (ws.map V.str)) (_:ws.length<=1000) (_:∀H',a8 H H'->Q (.bl (bears ws r)) H')
end
section
variable{P:ZH}{w:World}{K:Zh}{mg:Str->Option Value}{base:Heap}{f:Addr}{fd:Zv}
inductive MP(vs:List V)(H:Hp)(Q:VK)(eA:XK):Prop
 |mk (x) (_:vs=[.str x]) (_:vC x) (_:∀H',a8 H H'->Q (.bl true) H')
inductive MQ(vs:List V)(H:Hp)(Q:VK)(eA:XK):Prop
 |mk (t g) (_:vs=[.str t,.str g]) (_:wR g t) (_:∀H',a8 H H'->Q (.bl true) H')
inductive HB(K:Zh)(vs:List V)(H:Hp)(Q:VK)(eA:XK):Prop
 |mk (a:Addr) (g:Str) (ws:List Str) (_:vs=[.ref a,.str g]) (_:aI K H a (ws.map V.str)) (_:ws.length<=6) (_:(∀w∈ws,wR g w)) (_:∀H',a8 H H'->Q .non H')
end
end Sx
namespace Bs
open PySem
noncomputable def fZ(r:Str)(n:Nat):Str:=wb9 r (some (n:Int)) none
theorem pw(r:Str):fZ r r.length="":=by
 refine dn ?_;show ch (wb9 r (some (r.length:Int)) none)=[];rw[sv];exact weS (wdo (aV r))
noncomputable def EK(ps:List Str)(r:Str):Nat:=((ZY (r.length + 1)).find? λn=>decide (fZ r n∈ps)).getD 0
noncomputable def lend(ps:List Str)(r:Str):Str:=fZ r (EK ps r)
theorem yw(g:fZ r n∈ps)(j:∀m,m < n->fZ r m∉ps)(l:n<=r.length):EK ps r=n:=by
 unfold EK
 have e:(ZY (r.length + 1)).find? (λn=>decide (fZ r n∈ps))=some n:=by
  grind [List.find?_range_eq_some]
 rw[e];rfl
end Bs
namespace L2
open PySem Bs
noncomputable def uv(ws ps:List Str)(p:Str)(c:Nat):V:=if bears ws (p++⟨#[c]⟩)=true then .non else .str (lend ps (p++⟨#[c]⟩))
noncomputable def rowOf(g:Str)(ws ps:List Str)(p:Str):List (Key×V):=(ch g).map λc=>((ZQ (⟨#[c]⟩:Str):Key),uv ws ps p c)
theorem CZ(g:Str)(ws ps:List Str)(p:Str):(rowOf g ws ps p).length=g.length:=by unfold rowOf;rw[Zf,aV]
theorem Ac(g:Str)(ws ps:List Str)(p:Str):((rowOf g ws ps p).map (·.2)).all cK=true:=by
 unfold rowOf;rw[Zw];refine wa4.mpr λv a=>?_;obtain⟨c,_,rfl⟩:=Zq.mp a;show cK (uv ws ps p c)=true;unfold uv;split <;> rfl
end L2
namespace Sx
open PySem L2 Bs
section
variable{P:ZH}{w:World}{K:Zh}{mg:Str->Option Value}{base:Heap}{f:Addr}{fd:Zv}
inductive EL(K:Zh)(vs:List V)(H:Hp)(Q:VK)(eA:XK):Prop
 |mk (a ws) (_:vs=[.ref a]) (_:aI K H a (ws.map V.str)) (_:ws.length<=6) (_:(∀w∈ws,w.length<=5)) (_:∀(l:Addr) (ss:List Str) (H':Hp),a8 H H'->H l=none->H' l=some (.lst (ss.map V.str))->ss.Perm (bU ws "" ws)->wfi ss=true->Q (.ref l) H')
inductive Kj(K:Zh)(vs:List V)(H:Hp)(Q:VK)(eA:XK):Prop
 |mk (r a ps) (_:vs=[.str r,.ref a]) (_:aI K H a (ps.map V.str)) (_:("":Str)∈ps) (_:r.length<=1000) (_:∀H',a8 H H'->Q (.str (lend ps r)) H')
inductive HC(K:Zh)(vs:List V)(H:Hp)(Q:VK)(eA:XK):Prop
 |mk (p g a b ws ps) (_:vs=[.str p,.str g,.ref a,.ref b]) (_:aI K H a (ws.map V.str)) (_:aI K H b (ps.map V.str)) (_:("":Str)∈ps) (_:p.length<=100) (_:g.length<=10) (_:(ch g).Nodup) (_:ws.length<=1000) (_:∀(d:Addr) (H':Hp),a8 H H'->H d=none->H' d=some (.dK (rowOf g ws ps p))->Q (.ref d) H')
end
end Sx
namespace L2
open PySem Bs
noncomputable def kh(es:List (Key×V))(Kk:List Str):Bool:=(es.map (·.2)).any λe=>nK e (Kk.map V.str)
theorem ER{e:V}{a b:List Str}(h:∀k∈a,k∈b)(q:nK e (a.map V.str)=true):nK e (b.map V.str)=true:=by grind [nK]
theorem Ad{g:List (Key×V)}{a b:List Str}(h:∀k∈a,k∈b)(q:kh g a=true):kh g b=true:=by
 unfold kh at q ⊢;obtain⟨y,c,d⟩:=wbw.mp q;exact wbw.mpr ⟨y,c,ER h d⟩
structure D0(ks:List Str)(es:Str->List (Key×V))(ls:List Str):Prop where
 sub:ls.Sublist ks
 D1:∀k∈ls,kh (es k) ls=true
 most:∀Kk:List Str,(∀k∈Kk,k∈ks/\kh (es k) Kk=true)->∀k∈Kk,k∈ls
theorem vD:∀(a b:List Str),rj (a.map V.str) (b.map V.str)=decide (a=b)
 |[],[]=>rfl
 |[],_ :: _=>rfl
 |_ :: _,[]=>rfl
 |x :: c,y :: d=>by
  show ((x == y) && rj (c.map V.str) (d.map V.str))=_;rw[vD c d]
  by_cases e:x=y
  ·grind
  ·grind
noncomputable def bC(mv:List (Str×Addr)):List (Key×V):=mv.map λm=>((ZQ m.1:Key),V.ref m.2)
theorem gU(mv:List (Str×Addr)):((bC mv).map λg=>kV g.1)=(mv.map (·.1)).map V.str:=by
 unfold bC;rw[Zw,Zw];rfl
theorem iO(h:k∈mv.map (·.1)):∃a,(k,a)∈mv/\bu (bC mv) (ZQ k:Key)=some (.ref a):=by
 induction mv with
 |nil=>simp at h
 |cons m mv b=>
  grind [bF,bC,bG]
theorem jg(h:k∉mv.map (·.1)):bu (bC mv) (ZQ k:Key)=none:=by
 cases q:bu (bC mv) (ZQ k:Key) with
 |none=>rfl
 |some v=>
  have:=rJ q;unfold bC at this;rw[Zw]at this;obtain⟨m,a,e⟩:=Zq.mp this;have b:m.1=k:=wcb e;exact absurd (Zq.mpr ⟨m,a,b⟩) h
end L2
namespace Sx
open PySem L2 Bs
section
variable{P:ZH}{w:World}{K:Zh}{mg:Str->Option Value}{base:Heap}{f:Addr}{fd:Zv}
noncomputable def MR(ls:List V):V->V:=λv=>.bl (nK v ls)
inductive HD(K:Zh)(vs:List V)(H:Hp)(Q:VK)(eA:XK):Prop
 |mk (a b es ls) (_:vs=[.ref a,.ref b]) (_:aI K H a es) (_:aI K H b ls) (_:es.all cK=true) (_:ls.all cK=true) (_:es.length<=1000) (_:∀H',a8 H H'->Q (.bl (es.any λe=>nK e ls)) H')
inductive Kl(K:Zh)(vs:List V)(H:Hp)(Q:VK)(eA:XK):Prop
 |mk (d mv es) (_:vs=[.ref d]) (_:H d=some (.dK (bC mv))) (_:mv.length<=1000) (_:(∀m∈mv,H m.2=some (.dK (es m.1)))) (_:(∀k,((es k).map (·.2)).all cK=true)) (_:(∀k,(es k).length<=1000)) (_:∀(l:Addr) (ls:List Str) (H':Hp),a8 H H'->H l=none->H' l=some (.lst (ls.map V.str))->D0 (mv.map (·.1)) es ls->Q (.ref l) H')
end
noncomputable def Ae(g:Str)(b d q:Addr):List (Str×V):=[("signs",.str g),("barred",.ref b),("moves",.ref d),("lasting",.ref q)]
noncomputable def OB(g:Str):List (Str×V):=[("signs",.str g)]
noncomputable def LJ(g:Str)(b:Addr):List (Str×V):=[("signs",.str g),("barred",.ref b)]
noncomputable def Km(g:Str)(b d:Addr):List (Str×V):=[("signs",.str g),("barred",.ref b),("moves",.ref d)]
theorem Kn(g:Str):cq "signs" (.str g) []=OB g:=rfl
theorem put2(g:Str)(b:Addr):cq "barred" (.ref b) (OB g)=LJ g b:=by
 show (if ("signs":Str)="barred" then(("signs":Str),V.ref b) :: [] else(("signs":Str),V.str g) :: cq "barred" (.ref b) [])=_;rw[if_neg (by decide+kernel)];rfl
theorem put3(g:Str)(b d:Addr):cq "moves" (.ref d) (LJ g b)=Km g b d:=by
 show (if ("signs":Str)="moves" then(("signs":Str),V.ref d) :: [(("barred":Str),V.ref b)] else(("signs":Str),V.str g) :: (if ("barred":Str)="moves" then(("barred":Str),V.ref d) :: [] else(("barred":Str),V.ref b) :: cq "moves" (.ref d) []))=_;rw[if_neg (by decide+kernel),if_neg (by decide+kernel)];rfl
theorem D2(g:Str)(b d q:Addr):cq "lasting" (.ref q) (Km g b d)=Ae g b d q:=by
 show (if ("signs":Str)="lasting" then(("signs":Str),V.ref q) :: [(("barred":Str),V.ref b),(("moves":Str),V.ref d)] else(("signs":Str),V.str g) :: (if ("barred":Str)="lasting" then(("barred":Str),V.ref q) :: [(("moves":Str),V.ref d)] else(("barred":Str),V.ref b) :: (if ("moves":Str)="lasting" then(("moves":Str),V.ref q) :: [] else(("moves":Str),V.ref d) :: cq "lasting" (.ref q) [])))=_;rw[if_neg (by decide+kernel),if_neg (by decide+kernel),if_neg (by decide+kernel)];rfl
theorem ki(g:Str)(b d:Addr):(Km g b d).lookup ("moves":Str)=some (.ref d):=by
 rw[<-put3,aC,if_pos rfl]
theorem n0(g:Str)(b d q:Addr):(Ae g b d q).lookup ("moves":Str)=some (.ref d):=by
 rw[<-D2,aC,if_neg (by decide+kernel)];exact ki g b d
structure aT(C:Addr)(H:Hp)(x:Addr)(g:Str)(ws ss ls:List Str):Prop where
 ex:∃(dx b d q:Addr) (mv:List (Str×Addr)),H x=some (.ins C dx (Ae g b d q))/\H b=some (.lst (ws.map V.str))/\H d=some (.dK (bC mv))/\mv.map (·.1)=ss/\(∀m∈mv,H m.2=some (.dK (rowOf g ws ss m.1)))/\H q=some (.lst (ls.map V.str))
 pm:ss.Perm (bU ws "" ws)
 so:wfi ss=true
 lv:D0 ss (rowOf g ws ss) ls
theorem aT.same(B:aT C H x g ws ss ls)(s:a8 H j):aT C j x g ws ss ls:=by
 obtain⟨⟨a,b,d,q,c,e,f,h,i,k,n⟩,p,o,l⟩:=B;exact⟨⟨a,b,d,q,c,s _ _ e,s _ _ f,s _ _ h,i,λm r=>s _ _ (k m r),s _ _ n⟩,p,o,l⟩
section
variable{P:ZH}{w:World}{K:Zh}{mg:Str->Option Value}{base:Heap}{f:Addr}{fd:Zv}
inductive Ko(K:Zh)(C:Addr)(vs:List V)(H:Hp)(Q:VK)(eA:XK):Prop
 |mk (x dx g a ws) (_:vs=[.ref x,.str g,.ref a]) (_:H x=some (.ins C dx [])) (_:aI K H a (ws.map V.str)) (_:vC g) (_:ws.length<=6) (_:(∀w∈ws,wR g w)) (_:∀(ss ls:List Str) (H':Hp),aT C H' x g ws ss ls->(∀b o,H b=some o->b≠x->H' b=some o)->Q .non H')
theorem D3(hw:∀w∈ws,w.length<=5):∀k∈bU ws "" ws,k.length<=5:=by
 have h1:∀(w:Str),w.length<=5->∀(n:Nat) (ks:List Str),(∀k∈ks,k.length<=5)->∀k∈upTo ws w ks n,k.length<=5:=by
  intro w Af n
  induction n with
  |zero=>intro ks h;exact h
  |succ n ih=>
   intro ks h k hk;rw[fv]at hk;unfold pq wU at hk;split at hk
   ·exact ih ks h k hk
   ·split at hk
    ·exact ih ks h k hk
    ·rcases ZL.mp hk with z |z
     ·exact ih ks h k z
     ·have:k=cC w (1 + n):=by simpa using z
      rw[this];exact ZE (CT _ _) Af
 have h2:∀(us ks:List Str),(∀w∈us,w.length<=5)->(∀k∈ks,k.length<=5)->∀k∈us.foldl (addW ws) ks,k.length<=5:=by
  intro us
  induction us with
  |nil=>intro ks _ h;exact h
  |cons w us ih=>intro ks hu h;exact ih _ (λv hv=>hu v (Zt _ hv)) (h1 w (hu w (Zy ..)) _ ks h)
 exact h2 ws [""] hw (λk hk=>by have:k="":=by simpa using hk
                                subst this
                                decide+kernel)
inductive EV(C:Addr)(vs:List V)(H:Hp)(Q:VK)(eA:XK):Prop
 |mk (x g ws ss ls) (_:vs=[.ref x]) (_:aT C H x g ws ss ls) (_:∀(l:Addr) (H':Hp),a8 H H'->H l=none->H' l=some (.lst (ss.map V.str))->Q (.ref l) H')
end
section
variable{P:ZH}{w:World}{K:Zh}{mg:Str->Option Value}{base:Heap}{f:Addr}{fd:Zv}
end
end Sx
namespace L2
open PySem PySem.Spec PyProof.Rows
theorem EW{Ok:Hp->Prop}{Q:Hp->Prop}(R:V->Prop)(r:m9 J Ok xs)(hl:H l=none)(I:xs.length<=sizeLine)(j:∀g,a8 H g->Ok g)
 (U:∀x p T,x∈xs->a8 H p->(∀y g,R y->a8 p g->T y g)->te (some x :: C) p T)
 (hd:∀ys g,a8 H g->ys.length=xs.length->(∀y∈ys,R y)->g l=some (.lst ys)->Q g):ml J l C uE te H Q:=by
 refine⟨λi m ys a=>m=xs.length - i/\i<=xs.length/\a8 H a/\a l=some (.lst ys)/\ys.length=i/\∀y∈ys,R y,⟨xs.length,by simp,wa0 _,a8.upd hl,a6,rfl,λy f=>(nomatch f)⟩,?_⟩;rintro i m ys a ⟨rfl,hi,d,h,k,n⟩;refine⟨h,?_⟩
 by_cases c:i < xs.length
 ·refine .inr ⟨r.go i a (j _ d) c,by omega,λx p y=>?_⟩;obtain⟨e,t⟩:=r.ur i a x p (j _ d) c y;subst e;unfold uE;dsimp only;rw[if_pos rfl];refine U x _ _ (ZA t) d λz u I s=>?_;refine⟨s _ _ h,xs.length - (i + 1),by omega,rfl,c,?_,a6,by simp[k],λy f=>?_⟩
  ·intro b o e;rw[ae (af e hl)];exact s _ _ (d _ _ e)
  ·rcases ZL.mp f with q |q
   ·exact n y q
   ·have:y=z:=by simpa using q
    subst this;exact I
 ·have e:i=xs.length:=by omega
  subst e;exact .inl ⟨r.stop a (j _ d),hd ys a d k n h⟩
theorem BQ{R:Str->Prop}:∀{ys:List V},(∀y∈ys,∃t,y=.str t/\R t)->∃ts:List Str,ys=ts.map V.str/\∀t∈ts,R t
 |[],_=>⟨[],rfl,λ_ h=>nomatch h⟩
 |y :: ys,h=>by
  obtain⟨t,rfl,c⟩:=h y (Zy ..);obtain⟨ts,rfl,a⟩:=BQ (R:=R) (ys:=ys) λy d=>h y (Zt _ d);refine⟨t :: ts,rfl,λu b=>?_⟩;rcases ZT.mp b with rfl |b
  ·exact c
  ·exact a u b
end L2
namespace Sx
open PySem L2 Bs
section
variable{P:ZH}{w:World}{K:Zh}{mg:Str->Option Value}{base:Heap}{f:Addr}{fd:Zv}
end
end Sx
namespace L2
open PySem Bs
noncomputable def roundF(ss:List Str)(es:Str->List (Key×V))(Kk:List Str):List Str:=ss.filter λp=>kh (es p) Kk
noncomputable def rounds(ss:List Str)(es:Str->List (Key×V)):Nat->List Str
 |0=>ss
 |n + 1=>roundF ss es (rounds ss es n)
theorem HE(h:c∈ch g):bu (rowOf g ws ps p) (ZQ (⟨#[c]⟩:Str):Key)=some (uv ws ps p c):=
 EI (uv ws ps p) (λc=>(⟨#[c]⟩:Str)) (λa b e=>by
  grind) h
end L2
namespace Sx
open PySem L2 Bs
theorem vE(g:Str)(b d q:Addr):(Ae g b d q).lookup ("lasting":Str)=some (.ref q):=by
 rw[<-D2,aC,if_pos rfl]
theorem GL(g:Str)(b d q:Addr){m:Str}(j:¬m="signs")(l:¬m="barred")(o:¬m="moves")(p:¬m="lasting"):(Ae g b d q).lookup m=none:=by
 rw[<-D2,aC,if_neg p,<-put3,aC,if_neg o,<-put2,aC,if_neg l,<-Kn,aC,if_neg j];rfl
theorem aT.nd(B:aT C H x g ws ss ls):ss.Nodup:=B.pm.nodup_iff.mpr (qe ws)
section
variable{P:ZH}{w:World}{K:Zh}{mg:Str->Option Value}{base:Heap}{f:Addr}{fd:Zv}
inductive HF(C:Addr)(vs:List V)(H:Hp)(Q:VK)(eA:XK):Prop
 |mk (x g ws ss ls) (_:vs=[.ref x]) (_:aT C H x g ws ss ls) (_:∀(l:Addr) (H':Hp),a8 H H'->H l=none->H' l=some (.lst (ls.map V.str))->Q (.ref l) H')
inductive Qg(C:Addr)(vs:List V)(H:Hp)(Q:VK)(eA:XK):Prop
 |mk (x p g ws ss ls) (_:vs=[.ref x,.str p]) (_:aT C H x g ws ss ls) (_:p∈ss) (_:Q .non H)
inductive MS(C:Addr)(vs:List V)(H:Hp)(Q:VK)(eA:XK):Prop
 |mk (x p c g ws ss ls) (_:vs=[.ref x,.str p,.str ⟨#[c]⟩]) (_:aT C H x g ws ss ls) (_:p∈ss) (_:c∈ch g) (_:Q (uv ws ss p c) H)
end
structure Raw(K:Zh)(nm qual:Str)(st:Stmt)(f:Addr):Prop where
 ex:∃(oc:Value) (od:Option Addr) (kV doc pm:Value) (an:Option Addr) (gA ct:Value) (Ex:Array (Option Value)),
  K.lookup f=some ⟨oc,od,.func (wbn nm qual (cP st) (bL st) (aD st) .none kV doc pm an gA ct),Ex⟩/\wcS K gA qual=true
 kp:wbP K (.ref f)=true
theorem Ag{K:Zh}{nm g:Str}{st:Stmt}{f:Addr}{r:Value}{C I:Option Addr}{o:Array (Option Value)}{kV p pm j ct:Value}(l:K.lookup f=some ⟨r,C,.func (wbn nm g (cP st) (bL st) (aD st) .none kV p pm I j ct),o⟩)
 (c:wcS K j g=true) (k:wbP K (.ref f)=true):Raw K nm g st f:=⟨⟨r,C,kV,p,pm,I,j,ct,o,l,c⟩,k⟩
theorem Raw.fn(R:Raw K nm g st f)
 (h:∀(kV j pm:Value) (p:Option Addr) (o ct:Value) (us:List Value),us.length=ps.length->bindArgs (wbn nm g (cP st) (bL st) (aD st) .none kV j pm p o ct) ⟨us,[]⟩=pure (ps.zip us)) :
 ∃fd,yj K nm g st f fd/\Binds K fd ps []:=by
 obtain⟨⟨b,d,kV,j,pm,p,o,ct,a,l,c⟩,k⟩:=R;have F:=Ey (st:=st) l c k;exact⟨_,F,F.binds h⟩
theorem Raw.at_{mg:Str->Option Value}(X:K.In l)(G:l.Ns wa2 mg)(a:PySem.W.nsIn K wa2 nm=some (some (.ref f)))(R:Raw K nm nm st f)
 (h:∀(kV g pm:Value) (o:Option Addr) (j ct:Value) (us:List Value),us.length=ps.length->bindArgs (wbn nm nm (cP st) (bL st) (aD st) .none kV g pm o j ct) ⟨us,[]⟩=pure (ps.zip us)) :
 ∃fd,FnAt K mg nm st ps f fd:=by
 obtain⟨fd,F,b⟩:=R.fn h;exact⟨fd,F,b,PySem.W.mg_of X G a⟩
theorem g7{ss:List Str}{i:Nat}{y:V}(h:(ss.map V.str)[i]?=some y):∃p,ss[i]?=some p/\y=.str p/\i < ss.length/\p∈ss/\ss.take (i + 1)=ss.take i++[p]:=by
 rw[Zi]at h
 cases e:ss[i]? with
 |none=>rw[e]at h;cases h
 |some z=>
  rw[e]at h;exact⟨z,rfl,(Zx h).symm,(Zn.mp e).1,ZA e,by rw[wa7,e];rfl⟩
theorem D4(h:(dO g)[i]?=some y):∃c,(ch g)[i]?=some c/\y=.str ⟨#[c]⟩/\i < (ch g).length/\c∈ch g/\(ch g).take (i + 1)=(ch g).take i++[c]:=by
 unfold dO at h;rw[Zi]at h
 cases e:(ch g)[i]? with
 |none=>rw[show g.cps.toList[i]?=none from e]at h;cases h
 |some z=>
  rw[show g.cps.toList[i]?=some z from e]at h;exact⟨z,rfl,(Zx h).symm,(Zn.mp e).1,ZA e,by rw[wa7,e];rfl⟩
theorem Ah(g:Str):(dO g).length=g.length:=by grind [dO,aV]
inductive BR(K:Zh)(vs:List V)(H:Hp)(Q:VK)(eA:XK):Prop
 |mk (a:Addr) (ns:List Int) (_:vs=[.ref a]) (_:aI K H a (ns.map V.int)) (_:ns.length<=63) (_:∀H',Q (.bl true) H')
end Sx
namespace L2
open PySem PySem.Spec PyProof.Rows
section
variable{X:Cx}{st:Stmt}{rest:List Stmt}{t u:TS}
inductive Qh(t u:TS)(D:Ends)(σ:St)(H:Hp):Prop
 |mk (Z) (_:t {D with nx:=Z} σ H) (_:∀σ' H',Z σ' H'->u D σ' H')
theorem HG(g:PS X st t)(j:uw X rest u):uw X (st :: rest) (Qh t u):=by
 intro a s σ H D I h;obtain⟨Z,d,e⟩:=h;refine wbS (bS (g a s σ H {D with nx:=Z} I d) λf i q=>?_)
 cases f with
 |next=>
  obtain⟨b,c,k,q⟩:=q;exact j a i b c D k (e b c q)
 |ret v=>exact q
 |brk=>exact q
 |cont=>exact q
end
theorem BU(xs:List V)(n:Nat):iK xs none (some (n:Int))=xs.take n:=by simp_all [iK,HT.xY,wf5,Nat.sub_zero,if_neg,weH,Nat.min_eq_right,ZU,waN]
end L2
namespace Sx
open PySem L2 Bs
noncomputable def one(c:Nat):Str:=⟨#[c]⟩
theorem cZ(nx:g x=none)(j:g l=none):a8 g (upd (upd g l p) x o2):=λb o e=>by rw[ae (af e nx),ae (af e j)];exact e
theorem aT.few(B:aT C H x g ws ss ls)(hl:ws.length<=6)(hw:∀w∈ws,wR g w):ss.length<=25:=by
 have:=lQ (ws:=ws) (e:="") (us:=ws) λw a=>(hw w a).hi;rw[B.pm.length_eq];omega
end Sx
namespace L2
open PySem PySem.Spec PyProof.Rows PySem.W
section
variable{prog:ZH}{w:World}{A:Around}{R:wc4->Shared->Prop}{h:Heap}{g:Array wcj}{d:Drawn}{t:Nat}{os:wb5}
variable{nm q:Str}{C N:Addr}{bs bm Y3:List Value}{hdct:Bool}{sn:List Str}{sub:List Value}{ab:Bool}{col:Option Bool}{dd:Option Addr}{k0 k1 k2 k3 k5:Option Value}{B newId Qi:String}
noncomputable abbrev et(C t:Addr):Obj:={cls:=.ref C,data:=.fields #[.ref t,.none,.none,.none,.bool false,.none]}
noncomputable abbrev pz(vs:List Value):Obj:={cls:=.type "tuple",data:=.seq vs.toArray}
end
end L2
namespace L2
open PySem PySem.Spec PyProof.Rows PySem.W
open Builtin Builtin.ObjectAttr
noncomputable abbrev OC:List Value:=[.type "ValueError",.type "Exception",.type "BaseException",.type "object"]
noncomputable abbrev n6(CB:Addr):List Value:=.ref CB :: OC
section
variable{prog:ZH}{w:World}{A:Around}{E:Value->Shared->Prop}{s:Shared}{K:Zh}{x dx C CB f:Addr}{mA:Str->Option Value}{name:Str}{v:Value}{R:wc4->Shared->Prop}
theorem vF(X:K.In s.heap)(I:InstAt s.heap x ox C od)(hc:clsIn K C=some cd)(hm:cd.mro=.ref C :: n6 CB)(ha:findIn K (.ref C) name=some none)
 (h:wpAny (model prog w) A.in1 (storeInOwnDict (.ref x) (.ref C) (.str name tk) name v false)
   (λfin s'=>match fin with |.done f=>R (.ok f) s' |.again c'=>c'.quiet=true/\codeAny (model prog w) A c' R s') (λe s'=>R (.error e) s') s) :
 codeAny (model prog w) A (.call (.builtin "object.__setattr__") ⟨[.ref x,.str name tk,v],[]⟩) R s:=by
 have SF:=PySem.F.store_object;have sub:Looks (model prog w) s.heap (isInstance (.ref x) (.type "object")) true:=I.type.andThen (looks_mroIn X (by unfold mroIn;rw[hc,Option.bind_some,hm];rfl));refine wbN SF.slot.plain SF.entry (@check_slot (model prog w) _ _ s "object.__setattr__" "object" "__setattr__" (.ref x) [.str name tk,v] [] _ SF.kind SF.split sub (SF.args (.ref x) (.str name tk) v) ?_);have Qj:Looks (model prog w) s.heap (mroOf (.ref C)) cd.mro:=(wcV X hc).andThen .now;have L3:Looks (model prog w) s.heap (storeTaker? none) none:=.now;rw[osa_eq,refuse_eq];refine Zk (Zk (I.type.here (Zk (Qj.here ?_))));rw[hm,refuseLoop_ref,refuseLoop_ref,PySem.F.store_ValueError.passes];refine ZN (Zk (I.type.here (Zk ((wdL X ha).here (Zk (L3.here ?_))))));exact h
theorem EX{Q:Unit->Shared->Prop}(X:K.In s.heap)(hx:s.heap.get? x=some (et C t))(hc:clsIn K C=some cd)(hm:cd.mro=.ref C :: n6 CB)(hh:cd.hasDict=true)(ha:findIn K (.ref C) name=some none)
 (hs:findIn K (.ref C) "__setattr__"=some (some (.builtin "object.__setattr__")))
 (h:∀h' d tk,s.heap.objs.size<=d->(∀b o,b≠x->s.heap.get? b=some o->h'.get? b=some o)->h'.get? x=some {cls:=.ref C,dict:=some d,data:=.fields #[.ref t,.none,.none,.none,.bool false,.none]}->h'.Ns1 d (λy=>if y=name then some v else none)->Q () {s with heap:=h',toks:=tk}) :
 wpAny (model prog w) A (setAttr (.ref x) name v) Q E s:=by
 have J:InstAt s.heap x (et C t) C none:=⟨hx,rfl,rfl,trivial⟩;refine wdZ X J hs (vF (s:={s with toks:=s.toks + 1}) X J hc hm ha ?_);unfold storeInOwnDict;refine Zk (ZN ?_);rw[if_neg (by simp)];unfold ownDictForStores instanceDict;refine Zk (Zk (wf1 hx ?_));dsimp only;refine Zk (wdN (s:={s with toks:=s.toks + 1}) (wcV X hc) ?_);rw[hh];have SG:(s.heap.push {cls:=.type "dict",data:=.dict #[]}).get? x=some (et C t):=Zo _ hx;have SH:x≠s.heap.objs.size:=ZJ (Zz hx);simp only[wfr,wb8,if_false,Bool.not_false,Bool.false_or];rw[if_neg (by simp[typeHasDict])];refine Zk (wpAny_alloc ?_);refine Zk (wpAny_update SG ?_);refine ZN ?_
 have OD:((s.heap.push {cls:=.type "dict",data:=.dict #[]}).update x λo=>{cls:=o.cls,dict:=some s.heap.objs.size,data:=o.data,slots:=o.slots}).get? s.heap.objs.size
  =some {cls:=.type "dict",data:=.dict #[]}:=(wfv _ _ _ _ SH.symm).trans (Heap.get?_push_at rfl rfl)
 have Qk:((s.heap.push {cls:=.type "dict",data:=.dict #[]}).update x λo=>{cls:=o.cls,dict:=some s.heap.objs.size,data:=o.data,slots:=o.slots}).Ns s.heap.objs.size (λ_=>none):=
  ⟨_,#[],_,OD,rfl,λe he=>absurd he (by simp),λ_=>rfl⟩
 show wpAny _ _ (storeInDict s.heap.objs.size (.str name s.toks) name v) _ _ _;unfold storeInDict newKeyGuard;refine Zk (ZN (Zk (wfD (wfP Qk) λh' zI Kp=>?_)));obtain⟨oD,Ve,Vf,Ql,SJ,SK⟩:=zI.count (weD name v Within.nil);refine Zk (weg Ql (by rw[SJ];exact weh (ZE SK (by grind))) ?_)
 wp_walk
 refine h h' s.heap.objs.size _ (Zr _) (λb ob Vg hb=>?_) ?_ zI
 ·exact(Kp.2 b (ZJ (Zz hb))).trans ((wfv _ _ _ _ Vg).trans (Zo _ hb))
 ·exact(Kp.2 x SH).trans (waQ _ SG rfl)
end
section
variable{prog:ZH}{w:World}{A:Around}{E:Value->Shared->Prop}{s:Shared}{K:Zh}{x dx C CB f:Addr}{mA:Str->Option Value}{name:Str}{v:Value}{R:wc4->Shared->Prop}
end
section
variable{prog:ZH}{w:World}{A:Around}{E:Value->Shared->Prop}{s:Shared}{K:Zh}{x dx C CB f:Addr}{mA:Str->Option Value}{name:Str}{v:Value}{R:wc4->Shared->Prop}{nm q:Str}{N:Addr}{bs:List Value}{sn:List Str}{sub:List Value}{ab:Bool}{col:Option Bool}{dd:Option Addr}{k0 k1 k2 k3 k5:Option Value}
theorem sD(X:K.In s.heap)(j:s.heap.get? x=some (et C t))(l:K.lookup C=some (waJ nm q C N bs (n6 CB) true sn sub ab col dd k0 k1 k2 k3 k5 "ValueError.__new__"))
 (h:∀h' t',(∀b o,b≠x->s.heap.get? b=some o->h'.get? b=some o)->h'.get? x=some (et C t')->R (.ok (.ret .none)) {s with heap:=h'}) :
 codeAny (model prog w) A (.call (.builtin "ValueError.__init__") ⟨[.ref x,u],[]⟩) R s:=by
 have F:=wbj;have f:=X _ _ l;have J:InstAt s.heap x (et C t) C none:=⟨j,rfl,rfl,trivial⟩;have sub:Looks (model prog w) s.heap (isInstance (.ref x) (.type "ValueError")) true:=J.type.andThen (looks_mroIn X (by unfold mroIn clsIn;rw[l];rfl));refine wbN F.init.plain F.initEntry ?_;simp only[wda,F.initKind,F.initSplit,F.initRow];refine Zk (sub.here ?_);simp only[wfr,wb8,if_false];have a:=F.noStar;obtain⟨c,g,d,m,os⟩:=s
 repeat (first |with_reducible refine wal f ?_ |wp_step)
 have i:x≠c.objs.size:=ZJ (Zz j);refine h _ c.objs.size (λb o k e=>?_) ?_
 ·rw[wa3 _ _ (waB k)];exact Zo _ e
 ·exact waQ _ (Zo _ j) rfl
theorem Ai{Q:Value->Shared->Prop}(X:K.In s.heap)(g:s.heap.get? x=some (et C t))(j:K.lookup C=some (waJ nm q C N bs (n6 CB) true sn sub ab col dd k0 k1 k2 k3 k5 "ValueError.__new__"))
 (h:∀h' t',(∀b o,b≠x->s.heap.get? b=some o->h'.get? b=some o)->h'.get? x=some (et C t')->Q .none {s with heap:=h'}) :
 wpAny (model prog w) A (call (.builtin "ValueError.__init__") [.ref x,u]) Q E s:=wc5 (sD X g j h)
end
end L2
namespace L2
open PySem PySem.Spec PyProof.Rows
structure GN(lo:Nat)(H:Hp)(h:Heap)(e C:Addr)(od:Option Addr):Prop where
 ge:lo<=e
 nt:H e=none
 ob:∃vs sl,h.get? e=some ⟨.ref C,od,.fields vs,sl⟩/\1 < vs.size /\
  (vs[1]?=some .none\/∃T oT ts,vs[1]?=some (.ref T)/\lo<=T/\H T=none/\T≠e/\h.get? T=some oT/\oT.data=.fields ts/\ts[3]?=some .none)
theorem GN.low{lo j:Nat}{H:Hp}{h:Heap}{e C:Addr}{l:Option Addr}(F:GN lo H h e C l)(hl:j<=lo):GN j H h e C l:=by
 obtain⟨g,n,i,sl,k,m,f⟩:=F;refine⟨ZE hl g,n,i,sl,k,m,?_⟩;rcases f with f |⟨T,o,p,a,b,c,d⟩
 ·exact .inl f
 ·exact .inr ⟨T,o,p,a,ZE hl b,c,d⟩
section
variable{M:Model}{A:Around}{E:Value->Shared->Prop}{s:Shared}{base:Heap}{env:Env}{outer:List Env}{L e C:Addr}{od:Option Addr}{lo:Nat}{H:Hp}
structure D5(lo:Nat)(H:Hp)(fs:List Addr)(h h':Heap):Prop where
 keep:∀b o,h.get? b=some o->(b < lo\/H b≠none)->b∉fs->h'.get? b=some o
 slot:∀b o,h.get? b=some o->b∈fs->∃sl,h'.get? b=some {o with slots:=sl}
theorem vG{Q:Unit->Shared->Prop}
 (MT:A.frames=some (env :: outer)) (hl:s.heap.FunFrames base (env :: outer)) (hf:env.frame=some L) (MU:lo<=s.heap.objs.size) (MV:∀b,s.heap.objs.size<=b->H b=none) (SM:lo<=e) (SN:H e=none)
 (he:s.heap.get? e=some oe) (zH:oe.cls=.ref C) (SQ:oe.dict=od) (hd:oe.data=.fields vs) (hsz:1 < vs.size)
 (h:∀h',GN lo H h' e C od->D5 lo H ((env :: outer).filterMap (·.frame)) s.heap h'->Q () {s with heap:=h'}) :
 wpAny M A (do let a <-frameOf env;let pl <-entryPlaceOf L OG;let b <-wfw head a .none (rawInt L) .none pl;setField (.ref e) 1 b) (λ_ s'=>wpAny M A (weI (.ref e) none) Q E s') E s:=by
 have MX:e∉(env :: outer).filterMap (·.frame):=λhm=>by
  obtain⟨_,o,ho,Qm⟩:=hl.mem hm;rw[he]at ho;injection ho with ho;subst ho;exact Qm vs hd
 refine Zk (wpAny_frameOf_fun MT hl hf λh₁ MY=>?_);refine Zk (wpAny_entryPlaceOf λpl LK=>?_);unfold wfw newFields;refine Zk (we2 ?_ (LK.sizeOk5 _ _ _ _ _));have SR:h₁.get? e=some oe:=(MY.2.1 e MX).trans he;have SU:=Zo (h:=h₁) {cls:=.type "traceback",dict:=none,data:=.fields ([head,.ref L,.none,rawInt L,.none]++(if pl.isEmpty then Zu 6 waO else pl)).toArray} SR;refine wdM SU hd hsz ?_;have Kg:h₁.objs.size≠e:=wby (Zz SR);have SV:=wc8 hd (·.setIfInBounds 1 (ZD h₁.objs.size));have SW:=waQ (wbZ (·.setIfInBounds 1 (ZD h₁.objs.size))) SU (wdf SV)
 have SX:=(wa3 (h₁.push {cls:=.type "traceback",dict:=none,data:=.fields ([head,.ref L,.none,rawInt L,.none]++(if pl.isEmpty then Zu 6 waO else pl)).toArray})
  (wbZ (·.setIfInBounds 1 (ZD h₁.objs.size))) (waB Kg)).trans (ZP h₁ rfl)
 unfold weI;refine Zk (wd2 SW SV (x:=.ref h₁.objs.size) (by simp[hsz]) ?_);rw[if_pos (show (ZD h₁.objs.size != waO)=true from by simp)];refine wdM SX rfl (by simp only[ZR,Zm,ZZ,weF] <;> omega) (h _ ?_ ?_)
 ·refine⟨SM,SN,vs.setIfInBounds 1 (.ref h₁.objs.size),oe.slots,?_,by simpa using hsz,.inr ⟨h₁.objs.size,_,_,by simp[hsz],by rw[MY.1];exact MU,MV _ (by rw[MY.1];exact Zr _),Kg,
   waQ _ SX (wdf (wc8 rfl _)),wc8 rfl _,by first |(simp;done) |(rcases LK with rfl |⟨_,_,_,_,_,_,_,rfl⟩ <;> simp)⟩⟩
  rw[wa3 _ _ Kg,SW];obtain⟨c,d,dt,sl⟩:=oe;dsimp only at zH SQ hd;subst zH SQ hd;rfl
 ·have keep:∀b o,b≠e->h₁.get? b=some o ->
   (((h₁.push {cls:=.type "traceback",dict:=none,data:=.fields ([head,.ref L,.none,rawInt L,.none]++(if pl.isEmpty then Zu 6 waO else pl)).toArray}).update e (wbZ (·.setIfInBounds 1 (ZD h₁.objs.size)))).update h₁.objs.size
     (wbZ (·.setIfInBounds 3 ((none:Option Addr).elim waO λf=>rawInt f)))).get? b=some o:=λb o Vh hb=>by
   have Vi:h₁.objs.size≠b:=wby (Zz hb);rw[wa3 _ _ Vi,wa3 _ _ (waB Vh)];exact Zo _ hb
  refine⟨λb o hb hx Qm=>keep b o ?_ ((MY.2.1 b Qm).trans hb),λb o hb hm=>?_⟩
  ·rintro rfl;rcases hx with hx |hx
   ·exact absurd (ZI hx SM) (wax _)
   ·exact hx SN
  ·obtain⟨sl,hs⟩:=MY.2.2 b o hb;exact⟨sl,keep b _ (λz=>MX (z ▸ hm)) hs⟩
theorem yx{Q:Unit->Shared->Prop}(p:A.frames=some (env :: outer))(hl:s.heap.FunFrames base (env :: outer))(I:env.frame=some L)(r:lo<=s.heap.objs.size)(g:∀b,s.heap.objs.size<=b->H b=none)
 (F:GN lo H s.heap e C od) (h:∀h',GN lo H h' e C od->D5 lo H ((env :: outer).filterMap (·.frame)) s.heap h'->Q () {s with heap:=h'}) :
 wpAny M A (noteFrame (.ref e) env) (λ_ s'=>wpAny M A (weI (.ref e) none) Q E s') E s:=by
 obtain⟨m,n,z,sl,v,t,k⟩:=F;unfold noteFrame;simp only[I];rcases k with k |⟨T,K,B,G,u,x,y,w,i,k⟩
 ·refine Zk (wd2 v rfl k ?_);rw[if_neg (by decide)];exact vG p hl I r g m n v rfl rfl rfl t h
 ·refine Zk (wd2 v rfl G ?_);rw[if_pos (show (ZD T != waO)=true from by simp)];refine Zk (wd2 w i k ?_);rw[if_neg (show ¬((waO == rawInt L)=true) from by simp[rawInt])];refine Zk (wdM w i (wdW.mp k).1 ?_);have other:∀b,b≠T->(s.heap.update T (wbZ (·.setIfInBounds 3 waO))).get? b=s.heap.get? b:=λb a=>wa3 _ _ (waB a)
  have c:∀b o,s.heap.get? b=some o->(∀z,o.data≠.fields z)->b≠T:=λb o a d q=>by
   rw[q,w]at a;injection a with a;subst a;exact d B i
  have f:(s.heap.update T (wbZ (·.setIfInBounds 3 waO))).objs.size=s.heap.objs.size:=Heap.size_after_update ..;refine vG (s:={s with heap:=s.heap.update T (wbZ (·.setIfInBounds 3 waO))}) p (hl.of_keeps λb o a d=>⟨o,(other b (c b o a d)).trans a,rfl⟩) I (by show lo<=_;rw[f];exact r) (λb a=>g b (by rw[<-f];exact a)) m n ((other e (waB y)).trans v) rfl rfl rfl t λh' J P=>h h' J ⟨λb o a l hn=>P.keep b o ((other b ?_).trans a) l hn,λb o a D=>P.slot b o ((other b ?_).trans a) D⟩
  ·rintro rfl;rcases l with l |l
   ·exact absurd (ZI l u) (wax _)
   ·exact l x
  ·rintro rfl;obtain⟨_,N,j,d⟩:=hl.mem D;rw[w]at j;injection j with j;subst j
   exact d B i
end
noncomputable def yy(P:ZH)(w:World):BE:=λouter H s E ev s'=>∃e C od H',ev=.ref e/\s'.os=s.os/\AllBare s'.gens/\Un (q8 outer) [] H H' s.heap s'.heap/\j4 P w H' s'.heap/\GN s.heap.objs.size H' s'.heap e C od/\E (.ref C) od H'
def BV(X:Cx)(E:XK):Prop:=∀(pins:List (Addr×Obj)) (σ:St) (H:Hp) (s:Shared) (e C:Addr) (od:Option Addr),Inv X pins σ H s->GN X.s₀.heap.objs.size H s.heap e C od->E (.ref C) od H->X.xe (.ref e) s
theorem vH{X:Cx}(g:BV X E):Passes (yy X.prog X.w) X E:=λa σ H s k d I h=>by
 obtain⟨e,C,f,i,rfl,c,bare,un,aZ,F,j⟩:=h;exact g a σ i d e C f (I.vf c un aZ bare λb z=>absurd z (by simp)) (F.low I.sz) j
section
variable{P:ZH}{w:World}{K:Zh}{mg:Str->Option Value}{base:Heap}{N:List Str}{qual:Str}{scope:wc3}{f:Addr}{cd:Value}{A:Around}{outer:List Env}{s:Shared}{H:Hp}{E:XK}
theorem j4.past{lo:Nat}{H:Hp}{fs:List Addr}{h h':Heap}(x:j4 P w H h)(p:D5 lo H fs h h')(g:∀b∈fs,H b=none):j4 P w H h':=λa o e=>
 (x a o e).rS (λb u c q=>p.keep b u q (.inr (by grind)) λd=>by
   grind) (λ_ q=>q) λ_ _ q=>q
theorem cx:BV (uB (yy P w) P w K mg base N qual scope f cd A outer s H E) E:=by
 intro v σ l x e C y I F B;show wpAny (model P w) _ («leaving» _ (.ref e)) (λ_ d=>yy P w outer H s E (.ref e) d) (λD d=>yy P w outer H s E D d) x;unfold «leaving»;have g:∀b,x.heap.objs.size<=b->l b=none:=λb a=>I.aZ.fresh a;refine Zk (yx (lo:=s.heap.objs.size) (H:=l) (base:=base) (outer:=outer) I.ok.frames I.stack rfl I.sz g F λJ G p=>?_);have m:=I.rE
 have h:∀b o,s.heap.get? b=some o->b∉q8 outer->b∉(envOfC qual scope s.heap.objs.size f cd :: outer).filterMap (·.frame):=λb o a hn j=>by
  rcases ZT.mp (show b∈s.heap.objs.size :: q8 outer from j) with z |z
  ·exact absurd (Zz a) (by rw[z];exact wax _)
  ·exact hn z
 refine⟨e,C,y,l,rfl,I.os,I.bare,?_,I.aZ.past p m,G,B⟩;have u:=I.base;refine⟨λb o a n c i=>?_,λb o a n c i=>?_,λb o a n i=>u.free b o a n i,λb o a i=>?_,u.m3,u.k9,u.m4⟩
 ·exact p.keep b o (u.keep b o a n c i) (.inl (Zz a)) (h b o a c)
 ·obtain⟨sl,k⟩:=u.slot b o a n c i;obtain⟨q,r⟩:=p.slot b _ k (show b∈s.heap.objs.size :: q8 outer from Zt _ c);exact⟨q,r⟩
 ·obtain⟨t,k⟩:=u.there b o a i
  by_cases j:b∈(envOfC qual scope s.heap.objs.size f cd :: outer).filterMap (·.frame)
  ·obtain⟨sl,r⟩:=p.slot b t k j;exact⟨_,r⟩
  ·exact⟨t,p.keep b t k (.inl (Zz a)) j⟩
theorem yj.Vj{x qual:Str}{st:Stmt}{f:Addr}{fd:Zv}{N ps:List Str}{k:Nat}{sp:Sp}(F:yj K x qual st f fd)(S:rH N ps (aD st))(len:∀vs H Q E,sp vs H Q E->vs.length=ps.length)
 (j:∀(g:Value) (A:Around) (outer:List Env) (s:Shared) (H:Hp) (vs:List V) (Q:VK) (E:XK),d4 k (A.deeper (envOfC qual (aD st) s.heap.objs.size f g))->sp vs H Q E ->
   ∃t,uw (uB (yy P w) P w K mg base N qual (aD st) f g A outer s H E) (bL st) t/\t {nx:=λ_ l=>Q .non l,rt:=Q} (start N vs) H):aM P w K mg base (yy P w) (k + 1) f fd ps sp:=by
 obtain⟨h,i,kV,c,pm,m,g,ct,d,rfl,lk,a⟩:=F.ex;exact Jf lk a S len λA outer s H vs Q E e b=>j g A outer s H vs Q E e b
end
open PySem.W (Looks looks_findIn looks_typeIn InitBack bind_fn findIn clsIn specialIn readsIn findCls keepIn isFn typeIn InstAt)
section
variable{prog:ZH}{w:World}{A:Around}{R:wc4->Shared->Prop}{h:Heap}{g:Array wcj}{d:Drawn}{t:Nat}{os:wb5}
variable{nm q:Str}{C CB N:Addr}{bs:List Value}{hdct:Bool}{sn:List Str}{sub:List Value}{ab:Bool}{col:Option Bool}{dd:Option Addr}{k0 k1 k2 k3 k5:Option Value}
theorem HH{M:Model}{E:Value->Shared->Prop}{rest:List Value}{Q:Unit->Shared->Prop}(j:h.get? C=some (waJ nm q C N bs (n6 CB) hdct sn sub ab col dd k0 k1 k2 k3 k5 "ValueError.__new__"))
 (l:Q () ⟨h,g,d,t,os⟩):wpAny M A (wda "ValueError.__new__" ⟨.ref C :: rest,[]⟩) Q E ⟨h,g,d,t,os⟩:=by
 have F:=wbj;have a:(ZD C :: n6 CB).contains (.type "ValueError")=true:=rfl;have b:=F.noStar;simp only[wda,F.newKind,F.newSplit,F.newRow]
 repeat (first |refine wal j ?_ |(refine wb3 j ?_;rw[a]) |refine wpAny_staticBase_exc j ?_ |refine wpAny_madeBy_exc j ?_ |simp only[bne_self_eq_false,wb8,if_false] |wp_step)
 exact l
theorem HI{rest:List Value}(j:h.get? C=some (waJ nm q C N bs (n6 CB) hdct sn sub ab col dd k0 k1 k2 k3 k5 "ValueError.__new__"))
 (o:R (.ok (.ret (.ref (h.objs.size + 1)))) ⟨(h.push {cls:=.type "tuple",data:=.seq rest.toArray}).push
   {cls:=.ref C,data:=.fields #[.ref h.objs.size,.none,.none,.none,.bool false,.none]},g,d,t,os⟩) (l:rest.length<=sizeLine:=by size_fits) :
 codeAny (model prog w) A (.builtin "ValueError.__new__" ⟨.ref C :: rest,[]⟩) R ⟨h,g,d,t,os⟩:=by
 have F:=wbj;have a:=F.ends;have b:(ZD C :: n6 CB).contains (.type "ValueError")=true:=rfl;have c:(ZD C :: n6 CB).contains (.type "AttributeError")=false:=rfl;have e:(ZD C :: n6 CB).contains (.type "NameError")=false:=rfl;refine codeAny_builtinAt F.entry ?_;unfold wdI.«BaseException.__new__»;refine wgo ?_;show PySem.wpAt _ _ _ (PySem.stack >>= _) _ _ _;refine wgo (PySem.wpAt_stack λp f=>wfx ?_)
 wp_walk
 refine wfx ?_;rw[F.owner]
 repeat (first |with_reducible refine wpAny_madeHere_exc F.canon j ?_ |with_reducible refine wal j ?_ |(with_reducible refine wb3 j ?_;first |rw[b] |rw[c] |rw[e]) |wp_step)
 show R _ _;rw[waY];exact o
theorem EY{rest:List Value}{init:Value}{p:Around}(l:h.get? C=some (waJ nm q C N bs (n6 CB) hdct sn sub ab col dd k0 k1 k2 k3 k5 "ValueError.__new__"))
 (hi:Looks (model prog w) h (we7 (.ref C) "__init__") (some init)) (J:∀self,Looks (model prog w) h (bindSpecial init self) (init,[self])) (j:rest.length<=sizeLine)
 (T:codeAny (model prog w) p (.call init ⟨.ref (h.objs.size + 1) :: rest,[]⟩) (InitBack (h.objs.size + 1) R) ⟨(h.push (pz rest)).push (et C h.objs.size),g,d,t,os⟩) :
 wpAny (model prog w) p (wdI.«type.__call__» ⟨.ref C :: rest,[]⟩) (λfin s'=>match fin with |.done f=>R (.ok f) s' |.again I=>I.quiet=true/\codeAny (model prog w) A I R s') (λe s'=>R (.error e) s') ⟨h,g,d,t,os⟩:=by
 have F:=wbj
 repeat (first |with_reducible refine wal l ?_ |with_reducible refine wpAny_madeBy_exc l ?_ |wp_step)
 refine codeAny_call_builtin_code (wcN _ F.quiet) (HH l ?_);refine HI l ?_ j;show wpAny _ _ _ _ _ _;have k:∀b o,h.get? b=some o->((h.push (pz rest)).push (et C h.objs.size)).get? b=some o:=λb o e=>Zo _ (Zo _ e)
 have a:=Zo {cls:=.ref C,data:=.fields #[.ref h.objs.size,.none,.none,.none,.bool false,.none]}
  (Zo {cls:=.type "tuple",data:=.seq rest.toArray} l)
 have c:((h.push {cls:=.type "tuple",data:=.seq rest.toArray}).push {cls:=.ref C,data:=.fields #[.ref h.objs.size,.none,.none,.none,.bool false,.none]}).get? (h.objs.size + 1)=some {cls:=.ref C,data:=.fields #[.ref h.objs.size,.none,.none,.none,.bool false,.none]}:=by heap_get
 have i:(ZD C :: n6 CB).contains (.ref C)=true:=by simp
 have m:=hi.keeps k;have n:=(J (.ref (h.objs.size + 1))).keeps k;unfold isInstance
 repeat (first |with_reducible refine wal c ?_ |(with_reducible refine wb3 a ?_;rw[i]) |wp_step)
 show wpAny _ _ (we7 (.ref C) _) _ _ _;refine m.at ?_;refine waG (Zk (n.at ?_));refine Zk (wc5 (wbf T λr s' z=>?_));rcases r with e |(v |_ |_ |_) <;> first |exact z |exact z.elim |skip
 obtain⟨rfl,z⟩:=z
 wp_walk
 exact z
theorem yz{rest:List Value}{init:Value}(l:h.get? C=some (waJ nm q C N bs (n6 CB) hdct sn sub ab col dd k0 k1 k2 k3 k5 "ValueError.__new__"))
 (hi:Looks (model prog w) h (we7 (.ref C) "__init__") (some init)) (o:∀self,Looks (model prog w) h (bindSpecial init self) (init,[self])) (j:rest.length<=sizeLine)
 (p:codeAny (model prog w) (A.under (.builtin "type.__call__" ⟨.ref C :: rest,[]⟩)) (.call init ⟨.ref (h.objs.size + 1) :: rest,[]⟩) (InitBack (h.objs.size + 1) R) ⟨(h.push (pz rest)).push (et C h.objs.size),g,d,t,os⟩) :
 codeAny (model prog w) A (.call (.ref C) ⟨rest,[]⟩) R ⟨h,g,d,t,os⟩:=by
 have f1:=tc_lookup;have f2:=PySem.tc_bind (.ref C);have a:(⟨h,g,d,t,os⟩:Shared).TypeIs (.ref C) "type":=⟨_,l,rfl⟩;refine weG ?_;show wpAny _ _ (callAny (.ref C) _) _ _ _
 repeat (any_goals (first |assumption |with_reducible refine wal l ?_ |wp_step))
 refine⟨rfl,?_⟩;exact codeAny_call_builtin_at (wcN _ (by decide+kernel)) entry_typeCall (wpAny_check_type_call_sub l (EY l hi o j p))
theorem qf{E:Value->Shared->Prop}{Q:Flow->Shared->Prop}(o:A.handled=none)
 (h:wpAny M A (eval x env) (λv j=>∃e l t,v=.ref e/\j.heap.get? C=some (waJ nm q C N bs (n6 CB) hdct sn sub ab col dd k0 k1 k2 k3 k5 "ValueError.__new__") /\
   j.heap.get? e=some {cls:=.ref C,dict:=l,data:=.fields #[.ref t,.none,.none,.none,.bool false,.none]}/\E (.ref e) j) E s) :
 wpAny M A (exec (.Raise (some x) none pos) env) Q E s:=by
 have key:wpAny M A (raiseStmt env (some (do let v <-eval x env;standAt pos;pure v)) none) Q E s:=by
  have b:(ZD C :: n6 CB).contains (.type "BaseException")=true:=rfl;unfold raiseStmt;refine Zk (Zk (wad h (λv j a=>Zk (wct (ZN ?_))) λ_ _ x=>x));obtain⟨e,l,t,rfl,c,f,i⟩:=a;obtain⟨k,g,d,m,os⟩:=j
  repeat (first |with_reducible refine wal f ?_ |with_reducible refine wal c ?_ |(with_reducible refine wb3 c ?_;rw[b]) |wp_step)
  exact wpAny_raiseNew_none o i
 rw[arm_exec_Raise];exact Zk (wct key)
end
end L2
namespace L2
open PySem PySem.Spec PyProof.Rows
open PySem.W (Looks looks_findIn looks_typeIn InitBack bind_fn findIn clsIn specialIn readsIn findCls keepIn isFn typeIn InstAt)
structure cQ(K:Zh)(C CB:Addr)(nm:Str):Prop where
 lk:∃(q:Str) (N:Addr) (bs:List Value) (sn:List Str) (sub:List Value) (ab:Bool) (col:Option Bool) (dd:Option Addr) (k0 k1 k2 k3 k5:Option Value),
  K.lookup C=some (waJ nm q C N bs (n6 CB) true sn sub ab col dd k0 k1 k2 k3 k5 "ValueError.__new__")
 sa:findIn K (.ref C) "__setattr__"=some (some (.builtin "object.__setattr__"))
 ga:findIn K (.ref C) "__getattribute__"=some (some (.builtin "BaseException.__getattribute__"))
 gh:findIn K (.ref C) "__getattr__"=some none
 kp:keepIn K (.ref C)=true
structure EZ(K:Zh)(CB:Addr):Prop where
 sp:wdR K (.ref CB) "__getattribute__"=some (some (.builtin "type.__getattribute__"))
 rd:readsIn K CB (.type "type")=true
 fc:findCls K (.ref CB) (.type "type") "__init__"=some (.val (.builtin "ValueError.__init__"))
noncomputable def XN(x C:Addr):HO:=.ext λh=>∃t,h.get? x=some (et C t)
noncomputable abbrev rK(C d t:Addr):Obj:={cls:=.ref C,dict:=some d,data:=.fields #[.ref t,.none,.none,.none,.bool false,.none]}
noncomputable def XD(x C d:Addr):HO:=.ext λh=>∃t,h.get? x=some (rK C d t)
section
variable{P:ZH}{w:World}{H:Hp}{h:Heap}{x C d t:Addr}
theorem Kq(e:h.get? x=some (et C t)):bO P w H h x (XN x C):=⟨⟨t,e⟩,⟨_,e⟩,λc d ⟨a,b⟩ k=>⟨a,k _ b⟩⟩
theorem Qn(e:h.get? x=some (rK C d t)):bO P w H h x (XD x C d):=⟨⟨t,e⟩,⟨_,e⟩,λc f ⟨a,b⟩ k=>⟨a,k _ b⟩⟩
end
theorem Kr(h:H x=some o):upd H x o=H:=by grind [upd]
noncomputable def del(H:Hp)(x:Addr):Hp:=λb=>if b=x then none else H b
theorem g8:del H x x=none:=if_pos rfl
theorem gW(h:b≠x):del H x b=H b:=if_neg h
theorem BW(h:H x=none):del (upd H x o) x=H:=by grind [g8,gW,ae]
theorem Aj(h:d≠x):del (upd H d o) x=upd (del H x) d o:=by
 funext b
 by_cases e:b=x
 ·subst e;rw[g8,ae (waB h),g8]
 ·rw[gW e]
  by_cases a:b=d
  ·subst a;rw[a6,a6]
  ·rw[ae a,ae a,gW e]
theorem wV:del (upd H x o) x=del H x:=by grind [g8,gW,ae]
section
variable{X:Cx}{pins:List (Addr×Obj)}{σ:St}{H:Hp}{s:Shared}{x:Addr}{φ:Heap->Prop}
theorem Inv.del(I:Inv X pins σ H s)(g:H x=some (.ext φ)):Inv X pins σ (L2.del H x) s:=by
 have ne:∀{b:Addr} {o:HO},H b=some o->(∀ψ,o≠.ext ψ)->b≠x:=λe n z=>by rw[z,g]at e;exact n φ (Zx e).symm
 have nn:∀{b:Addr},H b=none->L2.del H x b=none:=λ{b} e=>by
  by_cases z:b=x
  ·rw[z];exact g8
  ·rw[gW z];exact e
 have u:=I.base;refine⟨I.ok,I.os,I.bare,⟨u.keep,u.slot,λb o q n d=>nn (u.free b o q n d),u.there,λb f q=>?_,λb o v q=>?_,λb ps q=>?_⟩,I.loc,I.cell,nn I.free,λy c e=>nn (I.iH y c e),λp h=>?_,λa o e=>?_,I.len⟩
 ·have e:=u.m3 b f q;rw[gW (ne e λψ z=>by cases z)];exact e
 ·have e:=u.k9 b o v q;rw[gW (ne e λψ z=>by cases z)];exact e
 ·obtain⟨m,e⟩:=u.m4 b ps q;exact⟨m,by rw[gW (ne e λψ z=>by cases z)];exact e⟩
 ·obtain⟨a1,a2,a3⟩:=I.pin p h;exact⟨a1,nn a2,a3⟩
 ·have i:H a=some o:=by
   by_cases z:a=x
   ·rw[z,g8]at e;cases e
   ·rw[gW z]at e;exact e
  refine(I.aZ a o i).rS (λb u _ q=>q) (λb q=>?_) λb f q=>?_
  ·rw[gW (ne q λψ z=>by cases z)];exact q
  ·rw[gW (ne q λψ z=>by cases z)];exact q
end
def Ks(K:Zh)(CB:Addr)(t:TA):TE:=λσ H Q=>t σ H λvs H1=>∃x C nm m,vs=[.ref x,m]/\H1 x=some (XN x C)/\cQ K C CB nm/\Q .non H1
section
variable{X:Cx}{CB C f:Addr}{p pos apos gR:Pos}{e e2:Expr}{es:List Expr}{t:TA}{Jm name:Str}{ta tv:TE}{o value:Expr}{pos':Pos}
theorem F0(J:Gl X Jm)(T:X.mg Jm=some (.ref CB))(B:EZ X.K CB)(ha:PA X [e,e2] t)(g:(Jm == ("__debug__":Str))=false:=by decide)
 (he:starEach [e,e2] X.env=(false,eval e X.env) :: starEach [e2] X.env:=by rfl) (j:(backTo pos (starEach [e2] X.env)).any (·.1)=false:=by rfl)
 (l:eval (.Call (.Attribute (.Name Jm p) "__init__" apos) [e,e2] [] pos) X.env=(do
   let r <-eval (.Name Jm p) X.env
   standAt apos.atName
   let (f,first) <-holding [r] (weB r "__init__" pl)
   callWith pos f first (backTo pos (starEach [e,e2] X.env)) (backToKw pos (wd1 [] X.env))):=by rfl) :
 PE X (.Call (.Attribute (.Name Jm p) "__init__" apos) [e,e2] [] pos) (Ks X.K CB t):=by
 intro a s σ H Q I h;refine wde (pl:=pl) (fM I J T ?_ g) l;refine PySem.W.method_cls I.gy B.sp (PySem.W.cls_value I.gy B.rd B.fc rfl ?_);refine wdp (bS (ha pos a _ σ H _ (I.tok _) h) λF i n=>?_) he j;obtain⟨G,v,c,w,x,C,L,m,y,d,U,q⟩:=n;subst y;obtain⟨M,O,rfl,A,P⟩:=vals2 w;cases A;obtain⟨⟨t,l⟩,_⟩:=c.aZ x _ d;obtain⟨R,N,bs,S,sub,ab,D,V,Y,Z,k2,k3,k5,lk⟩:=U.lk;refine Ai c.gy l lk λh' t' k ex=>⟨.non,v,?_,rfl,q⟩;have:=c.write (x:=x) (e:=x) (o:=XN x C) (h':=h') (t':=i.toks) (by rw[d];exact waP) (.inl rfl) (λb u E z=>k b u E z) ⟨_,ex⟩ (Kq ex);rw[Kr d]at this;exact this
def MZ(K:Zh)(CB:Addr)(ta tv:TE)(name:Str):TS:=λD σ H=>tv σ H λy H1=>ta σ H1 λz H2=>∃x C nm,z=.ref x/\H2 x=some (XN x C)/\cQ K C CB nm/\findIn K (.ref C) name=some none /\
 ∀d,H2 d=none->D.nx σ (upd (upd H2 d (.xd [(name,y)])) x (XD x C d))
theorem HJ(ha:PE X o ta)(J:PE X value tv)(hs:wbd value (some (.Attribute o name pos')) pos.line X.env=pure false):PS X (.Assign [.Attribute o name pos'] value pos) (MZ X.K CB ta tv name):=by
 intro g s σ H D I h;refine wbU (bS (J g s σ H _ I h) λu L ⟨y,M,O,P,q⟩=>bS (ha g L σ M _ O q) λQ F R=>?_) hs;obtain⟨z,m,i,S,x,C,T,V,l,U,hn,W⟩:=R;subst V;obtain rfl:Q=ZD x:=S;obtain⟨⟨t,Y⟩,_⟩:=i.aZ x _ l;obtain⟨Z,N,bs,sn,sub,ab,r,dd,k0,k1,k2,k3,k5,lk⟩:=U.lk;refine EX (CB:=CB) i.gy Y (cd:={name:=T,bases:=bs,mro:=.ref C :: n6 CB,ns:=N,qualname:=Z,hasDict:=true,slotNames:=sn,subclasses:=sub,abstract:=ab,collection:=r,hasDel:=false}) (by unfold clsIn;rw[lk]) rfl rfl hn U.sa λA d tk hd k ex ns=>⟨σ,_,?_,W d (i.aZ.fresh hd)⟩;have SY:d≠x:=λz=>by rw[z]at hd;exact absurd (ZI (i.aZ.lt l) hd) (wax _)
 have c:=i.aZ.fresh hd
 have un:Un (q8 X.stack) [] m (upd (upd m d (.xd [(name,y)])) x (XD x C d)) F.heap A:=by
  have nx:∀{b:Addr} {o:HO},m b=some o->(∀ψ,o≠.ext ψ)->b≠x:=λe n z=>by rw[z,l]at e;exact n _ (Zx e).symm
  have B:∀{b:Addr},m b=none->b≠x:=λe z=>by rw[z,l]at e;cases e
  refine⟨λb o q n _ _=>k b o (B n) q,λb o q n _ _=>⟨o.slots,k b o (B n) q⟩,λb o q n _=>?_,λb o q _=>?_,λb vs q=>?_,λb o v q=>?_,λb ps q=>?_⟩
  ·rw[ae (B n),ae (λz=>by rw[z]at q;exact absurd (ZI (Zz q) hd) (wax _))];exact n
  ·by_cases z:b=x
   ·rw[z];exact⟨_,ex⟩
   ·exact⟨o,k b o z q⟩
  ·rw[ae (nx q λψ z=>by cases z),ae (af q c)];exact q
  ·rw[ae (nx q λψ z=>by cases z),ae (af q c)];exact q
  ·exact⟨#[],by rw[ae (nx q λψ z=>by cases z),ae (af q c),q];simp⟩
 have aZ:j4 X.prog X.w (upd (upd m d (.xd [(name,y)])) x (XD x C d)) A:=λa o e=>by
  by_cases z:a=x
  ·subst z;rw[a6]at e;cases e;exact Qn ex
  ·rw[ae z]at e
   by_cases G:a=d
   ·subst G;rw[a6]at e;cases e;refine⟨_,ns,λf=>?_⟩
    by_cases p:f=name
    ·have j:(f == name)=true:=beq_iff_eq.mpr p;simp only[weL,j,if_pos p];exact P
    ·have j:(f == name)=false:=beq_eq_false_iff_ne.mpr p;simp only[weL,j,if_neg p]
     trivial
   ·rw[ae G]at e;refine(i.aZ a o e).rS (λb u j q=>k b u ?_ q) (λb q=>?_) λb vs q=>?_
    ·rintro rfl;rcases j with rfl |j
     ·exact z rfl
     ·rw[l]at j;cases j
    ·have:b≠x:=λE=>by rw[E,l]at q;cases q
     rw[ae this,ae (af q c)];exact q
    ·have:b≠x:=λE=>by rw[E,l]at q;cases q
     rw[ae this,ae (af q c)];exact q
 exact i.vf (s':={F with heap:=A,toks:=tk}) rfl un aZ i.bare λb z=>absurd z (by simp)
end
end L2
namespace L2
open PySem PySem.Spec PyProof.Rows
open PySem.W (Looks looks_findIn looks_typeIn InitBack bind_fn findIn clsIn specialIn readsIn findCls keepIn isFn typeIn InstAt)
def Kt(K:Zh)(C:Addr)(sp:Sp)(E:XK)(t:TA):TS:=λ_ σ H=>t σ H λvs H1=>vs.length<=sizeLine/\∀x,H1 x=none ->
 sp (.ref x :: vs) (upd H1 x (XN x C)) (λv H2=>v=.non/\((H2 x=some (XN x C)/\E (.ref C) none (del H2 x))\/∃d,H2 x=some (XD x C d)/\E (.ref C) (some d) (del H2 x))) E0
def HK(C:Addr)(E:XK)(t:TA):TS:=λ_ σ H=>t σ H λvs H1=>vs.length=1/\E (.ref C) none H1
section
variable{X:Cx}{CB C f:Addr}{fd:Zv}{ps:List Str}{sp:Sp}{E:XK}{k:Nat}{p pos gR:Pos}{e:Expr}{es:List Expr}{t:TA}{x nm:Str}
theorem Inv.newExc(I:Inv X g σ H s)(us:List Value)(C:Addr) :
 Inv X g σ (upd H (s.heap.objs.size + 1) (XN (s.heap.objs.size + 1) C)) {s with heap:=(s.heap.push (pz us)).push (et C s.heap.objs.size)}:=by
 have c:=I.kept (h':=s.heap.push (pz us)) (t':=s.toks) λb u q=>Zo _ q;refine c.laid (a:=s.heap.objs.size + 1) (t':=s.toks) (λb u q=>Zo _ q) (wdo (waY _ _)) (Kq (t:=s.heap.objs.size) ?_);have:=ZP (s.heap.push (pz us)) (o:=et C s.heap.objs.size) rfl;rwa[waY]at this
theorem F1(hT:BV X E)(hc:X.calm=true)(U:cQ X.K C CB nm)(hi:findIn X.K (.ref C) "__init__"=some (some (.ref f)))(J:isFn X.K (.ref f)=true)
 (F:aM X.prog X.w X.K X.mg X.base cW k f fd ps sp) (hr:d4 (k + 1) X.A) (hb:Binds X.K fd ps []) (hg:Gl X x) (hm:X.mg x=some (.ref C)) (ha:PA X (e :: es) t)
 (T:(x == ("__debug__":Str))=false:=by decide) (he:starEach (e :: es) X.env=(false,eval e X.env) :: starEach es X.env:=by rfl) (LK:(backTo gR (starEach es X.env)).any (·.1)=false:=by rfl) :
 PS X (.Raise (some (.Call (.Name x p) (e :: es) [] gR)) none pos) (Kt X.K C sp E t):=by
 intro a s σ H D I h;obtain⟨Y,N,bs,sn,sub,ab,col,dd,k0,k1,k2,k3,k5,lk⟩:=U.lk;refine qf (C:=C) (CB:=CB) (nm:=nm) (q:=Y) (N:=N) (bs:=bs) (hdct:=true) (sn:=sn) (sub:=sub) (ab:=ab) (col:=col) (dd:=dd) (k0:=k0) (k1:=k1) (k2:=k2) (k3:=k3) (k5:=k5) (I.ok.hd hc) ?_;refine waL (fM I hg hm ?_ T);refine wbA (h₀:=X.base) I.ok.mod.Ja U.kp (bS (ha gR a s σ H _ I h) λc i ⟨Z,H1,j,r,m,q⟩=>⟨j.gy,?_⟩) he LK;have B:=j.aZ.fresh (wbx i.heap.objs.size);have P:=q (i.heap.objs.size + 1) B;have G:=Inv.newExc j c C;have Q:Vals (V.ref (i.heap.objs.size + 1) :: Z) (ZD (i.heap.objs.size + 1) :: c):=.cons rfl r
 have hl:(ZD (i.heap.objs.size + 1) :: c++[]).length=ps.length:=by
  have R:=Q.length;rw[F.len _ _ _ _ P]at R;rw[waf];exact R.symm
 have n:=hb _ (ZD (i.heap.objs.size + 1) :: c) G.gy hl;rw[waf]at n;obtain⟨L,g,dr,tk,os⟩:=i;refine wc5 (yz (j.gy _ _ lk) (wdL j.gy hi) (λself=>bind_fn j.gy self (beq_iff_eq.mp J)) (by show c.length<=sizeLine;rw[<-r.length];exact m) ?_);refine wbf (F.run _ X.stack _ _ ⟨ZD (L.objs.size + 1) :: c,[]⟩ (ZD (L.objs.size + 1) :: c) _ _ E0 (hr.make C c []) (G.Hg.make C c []) n Q P) λrr S b=>?_
 cases rr with
 |error e=>exact waa b
 |ok fl=>
  cases fl with
  |next=>exact waa b
  |brk=>exact waa b
  |cont=>exact waa b
  |ret u=>
   obtain⟨v,H',l,rv,ev,q3⟩:=G.after b;subst ev;refine⟨rv,?_⟩;have o:X.s₀.heap.objs.size<=L.objs.size + 1:=ZE j.sz (wbx _);rcases q3 with⟨y,M⟩ |⟨d,y,M⟩
   ·obtain⟨⟨O,z⟩,_⟩:=l.aZ _ _ y;exact⟨_,none,O,rfl,l.gy _ _ lk,z,hT a σ _ S _ C none (l.del y) ⟨o,g8,_,_,z,by show 1 < 6;decide,.inl rfl⟩ M⟩
   ·obtain⟨⟨O,z⟩,_⟩:=l.aZ _ _ y;exact⟨_,some d,O,rfl,l.gy _ _ lk,z,hT a σ _ S _ C (some d) (l.del y) ⟨o,g8,_,_,z,by show 1 < 6;decide,.inl rfl⟩ M⟩
theorem fz(T:BV X E)(hc:X.calm=true)(U:cQ X.K C CB nm)(hi:findIn X.K (.ref C) "__init__"=some (some (.builtin "ValueError.__init__")))(hg:Gl X x)(hm:X.mg x=some (.ref C))(ha:PA X (e :: es) t)
 (l:(x == ("__debug__":Str))=false:=by decide) (he:starEach (e :: es) X.env=(false,eval e X.env) :: starEach es X.env:=by rfl) (J:(backTo gR (starEach es X.env)).any (·.1)=false:=by rfl) :
 PS X (.Raise (some (.Call (.Name x p) (e :: es) [] gR)) none pos) (HK C E t):=by
 intro a s σ H D I h;obtain⟨y,N,bs,sn,sub,ab,col,dd,k0,k1,k2,k3,k5,lk⟩:=U.lk;refine qf (C:=C) (CB:=CB) (nm:=nm) (q:=y) (N:=N) (bs:=bs) (hdct:=true) (sn:=sn) (sub:=sub) (ab:=ab) (col:=col) (dd:=dd) (k0:=k0) (k1:=k1) (k2:=k2) (k3:=k3) (k5:=k5) (I.ok.hd hc) ?_;refine waL (fM I hg hm ?_ l);refine wbA (h₀:=X.base) I.ok.mod.Ja U.kp (bS (ha gR a s σ H _ I h) λA c ⟨P,B,d,r,f,q⟩=>⟨d.gy,?_⟩) he J
 obtain⟨u,rfl⟩:∃u,A=[u]:=by
  have:=r.length;rw[f]at this;exact List.length_eq_one_iff.mp this.symm
 have m:=Inv.newExc d [u] C;have i:(upd B (c.heap.objs.size + 1) (XN (c.heap.objs.size + 1) C)) (c.heap.objs.size + 1)=some (XN (c.heap.objs.size + 1) C):=a6;have j:=d.aZ.fresh (wbx c.heap.objs.size);obtain⟨k,g,Q,G,os⟩:=c;refine wc5 (yz (d.gy _ _ lk) (wdL d.gy hi) (λself=>Looks.of_pure (wbj.init.bind self)) (by show 1<=sizeLine;decide) ?_);obtain⟨⟨R,L⟩,_⟩:=m.aZ _ _ i;refine sD m.gy L lk λh' t' M ex=>⟨rfl,?_⟩;have w:=m.write (x:=k.objs.size + 1) (e:=k.objs.size + 1) (o:=XN (k.objs.size + 1) C) (h':=h') (t':=G) (by rw[i];exact waP) (.inl rfl) (λb u O z=>M b u O z) ⟨_,ex⟩ (Kq ex);rw[Bx]at w;have n:=w.del (x:=k.objs.size + 1) a6;rw[BW j]at n;have v:X.s₀.heap.objs.size<=k.objs.size + 1:=ZE d.sz (wbx _);exact⟨_,none,t',rfl,n.gy _ _ lk,ex,T a σ _ _ _ C none n ⟨v,j,_,_,ex,by show 1 < 6;decide,.inl rfl⟩ q⟩
end
end L2
namespace L2
open PySem PySem.Spec PyProof.Rows
noncomputable abbrev TJ:=Str->St->Hp->(Str->Hp->Prop)->Prop
def PJ(X:Cx)(es:List Expr)(t:TJ):Prop:=∀(pins:List (Addr×Obj)) (s:Shared) (σ:St) (H:Hp) (acc:Str) (Q:Str->Hp->Prop),Inv X pins σ H s->t acc σ H Q ->
 wpAny (model X.prog X.w) X.A (joinParts acc (evalEach es X.env)) (λu s'=>∃z H',Inv X pins σ H' s'/\(∃tk,u=.str z tk)/\Q z H') X.xe s
section
variable{X:Cx}{e:Expr}{es:List Expr}{te:TE}{t:TJ}{pos:Pos}
noncomputable def Qo:TJ:=λacc _ H Q=>acc.length<=sizeLine/\Q acc H
theorem Ku:PJ X [] Qo:=λb s σ H a Q I h=>joinParts_nil ⟨a,H,I.tok _,⟨_,rfl⟩,h.2⟩ h.1
noncomputable def Qp(z:Str)(t:TJ):TJ:=λacc σ H Q=>(acc++z).length<=sizeLine/\t (acc++z) σ H Q
theorem Ak(h:PJ X es t):PJ X (.Constant (.str z) j pos :: es) (Qp z t):=λa s σ H b Q I q=>
 joinParts_cons (wfC ⟨q.1,h a _ σ H _ Q (I.tok _) q.2⟩)
noncomputable def Qq(te:TE)(t:TJ):TJ:=λacc σ H Q=>te σ H λv H1=>(∃i,v=.int i/\i.natAbs.log2 < 1920/\(acc++(toString i:String)).length<=sizeLine/\t (acc++(toString i:String)) σ H1 Q)\/(∃z,v=.str z/\z.length<=sizeLine/\(acc++z).length<=sizeLine/\t (acc++z) σ H1 Q)
theorem F4(j:PE X e te)(h:PJ X es t):PJ X (.FormattedValue e (-1) none pos :: es) (Qq te t):=λa s σ H k Q I q=>by
 refine joinParts_cons (FormattedValue_plain (bS (j a s σ H _ I q) λv o ⟨y,d,f,g,l⟩=>?_));rcases l with⟨i,rfl,hl,b,c⟩ |⟨z,rfl,hl,b,c⟩
 ·obtain⟨m,rfl⟩:=g;exact formatField_int_small hl ⟨b,h a _ σ d _ Q (f.tok _) c⟩
 ·obtain⟨m,rfl⟩:=g;exact formatField_str (λp n=>⟨b,h a _ σ d _ Q (f.tok _) c⟩) hl
theorem HL(h:PJ X (e :: g :: es) t):PE X (.JoinedStr (e :: g :: es) pos) (λσ H Q=>t wgx σ H λz j=>Q (.str z) j):=λa s σ H Q I q=>
 JoinedStr_many (bS (h a s σ H _ _ I q) λu f ⟨z,b,c,r,d⟩=>⟨.str z,b,c,r,d⟩)
end
noncomputable abbrev OH:=XK->TE
noncomputable abbrev Jn:=(St->XK)->TS
def SZ(X:Cx)(pins:List (Addr×Obj))(σ:St)(E:XK)(ev:Value)(s':Shared):Prop:=∃H0 s0,Inv X pins σ H0 s0/\yy X.prog X.w X.stack H0 s0 E ev s'
def T1(X:Cx)(pins:List (Addr×Obj))(E:St->XK)(ev:Value)(s':Shared):Prop:=∃σ,SZ X pins σ (E σ) ev s'
def T3(X:Cx)(e:Expr)(t:OH):Prop:=∀(pins:List (Addr×Obj)) (s:Shared) (σ:St) (H:Hp) (Q:VK) (E:XK),Inv X pins σ H s->t E σ H Q->wpAny (model X.prog X.w) X.A (eval e X.env) (EP X pins σ Q) (SZ X pins σ E) s
def T4(X:Cx)(st:Stmt)(t:Jn):Prop:=∀(pins:List (Addr×Obj)) (s:Shared) (σ:St) (H:Hp) (D:Ends) (E:St->XK),Inv X pins σ H s->t E D σ H->wpAny (model X.prog X.w) X.A (exec st X.env) (SP X pins D) (T1 X pins E) s
def N0(X:Cx)(st:List Stmt)(t:Jn):Prop:=∀(pins:List (Addr×Obj)) (s:Shared) (σ:St) (H:Hp) (D:Ends) (E:St->XK),Inv X pins σ H s->t E D σ H->wpAny (model X.prog X.w) X.A (execs st X.env) (SP X pins D) (T1 X pins E) s
section
variable{X:Cx}{k:Nat}{f C:Addr}{fd:Zv}{ps:List Str}{sp:Sp}{x m:Str}{p pos apos:Pos}{e o:Expr}{es:List Expr}{ta:TE}{t:TA}{st:Stmt}{rest:List Stmt}
theorem Kv{α:Type}{M:Model}{A:Around}{m:Sem α}{Q:α->Shared->Prop}{E:Value->Shared->Prop}{s:Shared}(h:wpAny M A m Q (λ_ _=>False) s):wpAny M A m Q E s:=wad h (λ_ _ x=>x) λ_ _ z=>z.elim
theorem AP.ee{E:Value->Shared->Prop}{Q:List V->Hp->Prop}(h:AP (X.m6 E) g σ Q us s'):AP X g σ Q us s':=by
 obtain⟨a,b,I,r,q⟩:=h;exact⟨a,b,I.ee,r,q⟩
noncomputable def Kw(C:Addr)(sp:Sp)(t:TA):OH:=λE σ H Q=>t σ H λvs H1=>∀x dx,H1 x=none->H1 dx=none->dx≠x ->
 sp (.ref x :: vs) (upd (upd H1 dx (.own x)) x (.ins C dx [])) (λv H2=>v=.non/\Q (.ref x) H2) E
theorem F5(M:Mk X.K C f)(F:aM X.prog X.w X.K X.mg X.base (yy X.prog X.w) k f fd ps sp)(T:d4 (k + 1) X.A)(U:Gl X x)(hm:X.mg x=some (.ref C))(hb:Binds X.K fd ps [])
 (ha:PA X.DZ (e :: es) t) (l:(x == ("__debug__":Str))=false:=by decide) (he:starEach (e :: es) X.env=(false,eval e X.env) :: starEach es X.env:=by rfl) (J:(backTo pos (starEach es X.env)).any (·.1)=false:=by rfl) :
 T3 X (.Call (.Name x p) (e :: es) [] pos) (Kw C sp t):=by
 intro d s σ H Q E I h;refine waL (fM I U hm ?_ l);refine wbA (h₀:=X.base) I.ok.mod.Ja M.kp (Kv (bS (ha pos d s σ H _ (I.m6 _) h) λc b o=>?_)) he J;obtain⟨y,N,g,r,q⟩:=o.ee;refine⟨g.gy,?_⟩;have m:=q (b.heap.objs.size + 1) b.heap.objs.size (g.aZ.fresh (wbx _)) (g.aZ.fresh (Zr _)) (ZJ (wb6 _));have j:=Inv.made (C:=C) g;have n:Vals (V.ref (b.heap.objs.size + 1) :: y) (ZD (b.heap.objs.size + 1) :: c):=.cons rfl r
 have hl:(ZD (b.heap.objs.size + 1) :: c++[]).length=ps.length:=by
  have e:=n.length;rw[F.len _ _ _ _ m]at e;rw[waf];exact e.symm
 have i:=hb _ (ZD (b.heap.objs.size + 1) :: c) j.gy hl;rw[waf]at i
 refine wc5 (y9 (f:=f) g.gy M.makes M.init (beq_iff_eq.mp M.fn) (wbf (F.run _ X.stack _ _ ⟨ZD (b.heap.objs.size + 1) :: c,[]⟩ (ZD (b.heap.objs.size + 1) :: c) _ _ E (T.make C c [])
  (j.Hg.make C c []) i n m) λr O a=>?_))
 cases r with
 |error e=>exact⟨_,_,j,a⟩
 |ok fl=>
  cases fl with
  |ret u=>
   obtain⟨v,z,B,D,G,L⟩:=j.after a;subst G;exact⟨D,⟨V.ref (b.heap.objs.size + 1),z,B,rfl,L⟩⟩
  |next=>exact waa a
  |brk=>exact waa a
  |cont=>exact waa a
variable{te:OH}{i:Nat}{pos':Pos}{tx ty:Jn}{tc:TT}{c:Expr}{a b:List Stmt}{ts:TS}
noncomputable def Qr(te:OH)(i:Nat):Jn:=λE D σ H=>te (E σ) σ H λv H1=>D.nx (σ.set i (some v)) H1
theorem HM(g:X.N.Nodup)(hi:X.N[i]?=some x)(j:Loc X.env.scope x)(l:T3 X e te)(hs:wbd e (some (.Name x pos')) pos.line X.env=pure false:=by rfl)(r:X.fn x=true\/X.env.scope.names.lookup x=some .local:=by first |exact .inl rfl |exact .inr rfl |assumption) :
 T4 X (.Assign [.Name x pos'] e pos) (Qr te i):=by
 intro a s σ H D E I h;refine wcU (wad (l a s σ H _ (E σ) I h) (λv b ⟨y,c,d,f,k⟩=>?_) λn b z=>⟨σ,z⟩) hs;exact iI d g hi j f (λo m=>⟨_,c,m,k⟩) r
theorem F6(g:T4 X st tx):N0 X [st] tx:=by
 intro a s σ H D E I h;refine wbS (wad (g a s σ H D E I h) (λf b q=>?_) λ_ _ z=>z)
 cases f with
 |next=>exact wbm q
 |ret v=>exact q
 |brk=>exact q
 |cont=>exact q
end
section
variable{M:Model}{A:Around}{E:Value->Shared->Prop}{s:Shared}{e C CB:Addr}{od:Option Addr}{lo:Nat}{H:Hp}
theorem sE{Q:Unit->Shared->Prop}(F:GN lo H s.heap e C od)(h:∀h',GN lo H h' e C od->(∀b o,s.heap.get? b=some o->(b < lo\/H b≠none)->h'.get? b=some o)->Q () {s with heap:=h'}) :
 wpAny M A (weI (.ref e) none) Q E s:=by
 obtain⟨g,i,p,sl,n,j,f⟩:=F;unfold weI;rcases f with f |⟨T,v,u,r,a,k,l,t,d,f⟩
 ·refine Zk (wd2 n rfl f ?_);rw[if_neg (by decide)];exact ZN (h _ ⟨g,i,p,sl,n,j,.inl f⟩ λb o q _=>q)
 ·have c:3 < u.size:=(wdW.mp f).1;refine Zk (wd2 n rfl r ?_);rw[if_pos (show (ZD T != waO)=true from by simp)];refine wdM t d c (h _ ⟨g,i,p,sl,?_,j,.inr ⟨T,_,_,r,a,k,l,waQ _ t (wdf (wc8 d _)),wc8 d _,by simp[c]⟩⟩ λb o q m=>?_)
  ·exact(wa3 _ _ l).trans n
  ·refine(wa3 _ _ ?_).trans q;rintro rfl;rcases m with m |m
   ·exact absurd (ZI m a) (wax _)
   ·exact m k
variable{nm q Jm qB:Str}{N NB:Addr}{bs Y4:List Value}{hdct Y5:Bool}{sn Y6:List Str}{sub subB:List Value}{ab Y7:Bool}{col Vk:Option Bool}{dd Y8:Option Addr}{k0 k1 k2 k3 k5 l0 l1 l2 l3 l5:Option Value}
end
noncomputable abbrev Cx.marked(X:Cx)(e:Addr):Cx:={X with A:=X.A.mark (some (.ref e)),calm:=false}
section
variable{X:Cx}{pins:List (Addr×Obj)}{σ:St}{H:Hp}{s:Shared}{e:Addr}
theorem Cx.Ok.marked(ok:X.Ok):(X.marked e).Ok:=
 ⟨ok.mod,ok.kind,ok.glob,ok.blt,ok.above,ok.inj,ok.has,ok.JW,λz=>Bool.noConfusion z,ok.frames,ok.LA,ok.Ol,ok.bs,ok.DY,ok.zK,ok.Ct,ok.mP,ok.GI⟩
theorem Inv.marked(I:Inv X pins σ H s):Inv (X.marked e) pins σ H s:=⟨I.ok.marked,I.os,I.bare,I.base,I.loc,I.cell,I.free,I.iH,I.pin,I.aZ,I.len⟩
theorem Inv.unmarked(ok:X.Ok)(I:Inv (X.marked e) pins σ H s):Inv X pins σ H s:=⟨ok,I.os,I.bare,I.base,I.loc,I.cell,I.free,I.iH,I.pin,I.aZ,I.len⟩
theorem Inv.Al{l g:Hp}{j s1:Shared}{h':Heap}(I:Inv X pins σ l j)(r:s1.os=j.os)(bare:AllBare s1.gens)(un:Un (q8 X.stack) [] l g j.heap s1.heap)(aZ:j4 X.prog X.w g s1.heap)
 (p:D5 j.heap.objs.size g (q8 X.stack) s1.heap h') (C:∀b∈q8 X.stack,g b=none):Un (q8 X.stack) [] l g j.heap h'/\j4 X.prog X.w g h'/\∀tk,Inv X pins σ g {s1 with heap:=h',toks:=tk}:=by
 have e:Un (q8 X.stack) [] l g j.heap h':=by
  refine⟨λb o d n a f=>p.keep b o (un.keep b o d n a f) (.inl (Zz d)) a,λb o d n a f=>?_,un.free,λb o d f=>?_,un.m3,un.k9,un.m4⟩
  ·obtain⟨sl,h⟩:=un.slot b o d n a f;obtain⟨i,k⟩:=p.slot b _ h a;exact⟨i,k⟩
  ·obtain⟨m,h⟩:=un.there b o d f
   by_cases q:b∈q8 X.stack
   ·obtain⟨sl,k⟩:=p.slot b m h q;exact⟨_,k⟩
   ·exact⟨m,p.keep b m h (.inl (Zz d)) q⟩
 have c:=aZ.past p C;exact⟨e,c,λtk=>I.vf (s':={s1 with heap:=h',toks:=tk}) r e c bare λb z=>absurd z (by simp)⟩
end
structure D6(K:Zh)(CB:Addr)(nm:Str):Prop where
 lk:∃(q:Str) (N:Addr) (bs:List Value) (hd:Bool) (sn:List Str) (sub:List Value) (ab:Bool) (col:Option Bool) (dd:Option Addr) (k0 k1 k2 k3 k5:Option Value),
  K.lookup CB=some (waJ nm q CB N bs OC hd sn sub ab col dd k0 k1 k2 k3 k5 "ValueError.__new__")
section
variable{X:Cx}{CB:Addr}{Jm n x OI:Str}{body:List Stmt}{tb:Jn}{i j:Nat}{p1 p2 p3 p4 Kx pos:Pos}
end
open PySem.W (Looks looks_findIn looks_typeIn looks_find looks_hook looks_mroIn findIn clsIn specialIn takesIn mroIn typeIn subIn InstAt KitX kitOne kitCls kia_one findObj findObj_data class_get handed_on handedOut_of)
open Builtin Builtin.ObjectAttr
theorem cQ.ne{K:Zh}{C D CB j:Addr}{nm g:Str}(U:cQ K C CB nm)(l:cQ K D j g)(h:¬nm=g):C≠D:=λe=>by
 subst e;obtain⟨q,N,bs,s,sub,ab,d,t,u,v,w,x,y,f⟩:=U.lk;obtain⟨z,A,i,k,b,m,c,n,B,p,E,F,G,a⟩:=l.lk;rw[f]at a;have:=congrArg (λo=>match o with |some (⟨_,_,.cls r,_⟩:Obj)=>r.name |_=>nm) a;exact h this
theorem cQ.neT{K:Zh}{C CB g:Addr}{nm j:Str}(U:cQ K C CB nm)(T:D6 K g j)(h:¬nm=j):C≠g:=λe=>by
 subst e;obtain⟨q,N,bs,s,sub,ab,d,t,u,v,w,x,y,f⟩:=U.lk;obtain⟨z,A,i,k,l,b,m,c,n,B,p,D,E,F,a⟩:=T.lk;rw[f]at a;have:=congrArg (λo=>match o with |some (⟨_,_,.cls r,_⟩:Obj)=>r.name |_=>nm) a;exact h this
section
variable{prog:ZH}{w:World}{A:Around}{E:Value->Shared->Prop}{s:Shared}{K:Zh}{x C CB D:Addr}{nm E1 OI:Str}{od:Option Addr}
structure F7(K:Zh)(C:Addr):Prop where
 ha:findIn K (.ref C) "__class__"=some (some (.builtin "object.__class__"))
 hn:wdR K (.builtin "object.__class__") "__get__"=some (some (.builtin "getset_descriptor.__get__"))
 mR:takesIn K (.builtin "object.__class__")=some true
theorem cQ.cls(V:cQ K D CB E1):(clsIn K D).isSome=true/\typeIn K (.ref D)=some (.type "type"):=by
 obtain⟨h,i,d,e,b,f,c,g,j,k,l,m,n,a⟩:=V.lk;refine⟨by unfold clsIn;rw[a];rfl,?_⟩;show Option.map (λx=>x.cls) (K.lookup D)=some (.type "type");rw[a];rfl
end
section
variable{X:Cx}
end
end L2
namespace L2
open PySem
theorem Ky{X:Cx}:Passes (yy P w) X E0:=λ_ _ _ _ _ _ _ h=>by
 obtain⟨_,_,_,_,_,_,_,_,_,_,a⟩:=h;exact a.elim
end L2
namespace Sx
open PySem L2 Bs
theorem Qs:wa8 "int"=some (.type "int"):=by decide+kernel
theorem N1:wa8 "dict"=some (.type "dict"):=by decide+kernel
theorem N2:wa8 "bool"=some (.type "bool"):=by decide+kernel
theorem D7:wa8 "sum"=some (.builtin "sum"):=by decide+kernel
theorem Kz:wa8 "min"=some (.builtin "min"):=by decide+kernel
structure yA(K:Zh)(C CB:Addr)(nm:Str):Prop where
 lk:∃(q:Str) (N:Addr) (bs:List Value) (sn:List Str) (sub:List Value) (ab:Bool) (col:Option Bool) (dd:Option Addr) (k0 k1 k2 k3 k5:Option Value),
  K.lookup C=some (waJ nm q C N bs (n6 CB) true sn sub ab col dd k0 k1 k2 k3 k5 "ValueError.__new__")
theorem HN
 (l:K.lookup C=some (waJ nm q C N bs (n6 CB) true sn sub ab col dd k0 k1 k2 k3 k5 "ValueError.__new__")):yA K C CB nm:=⟨q,N,bs,sn,sub,ab,col,dd,k0,k1,k2,k3,k5,l⟩
theorem HP
 (l:K.lookup CB=some (waJ nm q CB N bs OC hd sn sub ab col dd k0 k1 k2 k3 k5 "ValueError.__new__")):D6 K CB nm:=⟨q,N,bs,hd,sn,sub,ab,col,dd,k0,k1,k2,k3,k5,l⟩
end Sx
namespace Sx
open PySem PySem.Spec PyProof.Rows L2
open PySem.W (clsIn mroIn typeIn subIn kitOne kitCls)
section
variable{K:Zh}{C CB D:Addr}{nm E1 OI:Str}
theorem yA.ne(U:cQ K C CB nm)(V:yA K D CB E1)(h:¬nm=E1):C≠D:=λe=>by
 subst e;obtain⟨q,N,bs,n,sub,ab,d,p,r,s,t,u,v,f⟩:=U.lk;obtain⟨w,x,g,i,b,j,c,k,y,l,z,A,B,a⟩:=V.lk;rw[f]at a;have:=congrArg (λo=>match o with |some (⟨_,_,.cls m,_⟩:Obj)=>m.name |_=>nm) a;exact h this
theorem yA.neT(V:yA K D CB E1)(T:D6 K CB OI)(h:¬E1=OI):D≠CB:=λe=>by
 subst e;obtain⟨q,N,bs,p,sub,ab,d,r,s,t,u,v,w,f⟩:=V.lk;obtain⟨x,y,g,i,j,b,k,c,l,z,m,A,B,C,a⟩:=T.lk;rw[f]at a;have:=congrArg (λo=>match o with |some (⟨_,_,.cls n,_⟩:Obj)=>n.name |_=>E1) a;exact h this
theorem yA.cls(V:yA K D CB E1):(clsIn K D).isSome=true/\typeIn K (.ref D)=some (.type "type"):=by grind [cases yA,K,typeIn,clsIn,Option.map]
end
end Sx
namespace AC
section
variable{W:List (List Nat)}{P:List Nat->Bool}{l m p q u:List Nat}{c:Nat}
def Good(W:List (List Nat))(l:List Nat):Prop:=∀w∈W,¬w <:+: l
def Pl(W:List (List Nat))(p:List Nat):Prop:=p=[]\/((∃w∈W,p <+: w/\p.length < w.length)/\Good W p)
theorem Good.sub(h:Good W l)(hs:m <:+: l):Good W m:=λw hw hi=>h w hw (hi.trans hs)
theorem Pl.init(h:Pl W (u++[c])):Pl W u:=by
 rcases h with h |⟨⟨w,hw,a,hl⟩,b⟩
 ·simp at h
 ·by_cases e:u=[]
  ·exact .inl e
  ·refine .inr ⟨⟨w,hw,(wcO u [c]).trans a,?_⟩,b.sub (wcO u [c]).isInfix⟩;rw[Zm]at hl;simp at hl;omega
noncomputable def jh(P:List Nat->Bool):List Nat->List Nat
 |[]=>[]
 |a :: l=>if P (a :: l)=true then a :: l else jh P l
theorem iP:∀l,jh P l <:+ l
 |[]=>wem _
 |a :: l=>by
  unfold jh;split
  ·exact wem _
  ·exact(iP l).trans (List.suffix_cons a l)
theorem sF(g:P []=true):∀l,P (jh P l)=true
 |[]=>g
 |a :: l=>by
  unfold jh;split
  ·assumption
  ·exact sF g l
theorem iQ(g:P q=true):∀{l},q <:+ l->q <:+ jh P l
 |[],h=>h
 |a :: l,h=>by
  unfold jh;split
  ·exact h
  ·rename_i hn;rcases List.suffix_cons_iff.mp h with e |h
   ·grind
   ·exact iQ g h
theorem F8(g:p <:+ q)(j:q <:+ p):p=q:=g.eq_of_length (weJ g.length_le j.length_le)
theorem yB:∀{q l:List Nat},q <:+ l++[c]->q=[]\/∃u,q=u++[c]/\u <:+ l:=λ{q l} h=>by
 rcases wf6 q with e |⟨u,d,e⟩
 ·exact .inl e
 ·right
  rw[List.concat_eq_append]at e;obtain⟨t,a⟩:=h;subst e;rw[<-waA]at a;have b:=wgf a rfl;have hd:d=c:=by grind
  exact⟨u,by rw[hd],t,b.1⟩
theorem Am(h:w <:+: l++[c]):w <:+: l\/w <:+ l++[c]:=by
 obtain⟨a,b,e⟩:=h;rcases wf6 b with f |⟨g,d,f⟩
 ·grind
 ·grind [wgf]
theorem D8(o:∀x,P x=true↔Pl W x)(j:Good W l)(g:∀w∈W,w≠[]):Good W (jh P l++[c])↔Good W (l++[c]):=by
 have f:=iP (P:=P) l;constructor
 ·intro h w hw hi;rcases Am hi with z |z
  ·exact j w hw z
  ·rcases yB z with e |⟨u,rfl,d⟩
   ·exact g w hw e
   ·have a:Pl W u:=by
     by_cases e:u=[]
     ·exact .inl e
     ·exact .inr ⟨⟨_,hw,wcO u [c],by simp⟩,j.sub d.isInfix⟩
    have:=iQ ((o u).mpr a) d;obtain⟨t,b⟩:=this;exact h _ hw (show u++[c] <:+ jh P l++[c] from ⟨t,by rw[<-waA,b]⟩).isInfix
 ·intro h;obtain⟨t,b⟩:=f;exact h.sub (show jh P l++[c] <:+ l++[c] from ⟨t,by rw[<-waA,b]⟩).isInfix
theorem An(g:∀x,P x=true↔Pl W x)(j:Good W l):jh P (jh P l++[c])=jh P (l++[c]):=by
 have f:=iP (P:=P) l;have b:P []=true:=(g []).mpr (.inl rfl)
 have d:jh P l++[c] <:+ l++[c]:=by
  obtain⟨t,h⟩:=f;exact⟨t,by grind⟩
 refine F8 (iQ (sF b _) ((iP _).trans d)) (iQ (sF b _) ?_);rcases yB (iP (P:=P) (l++[c])) with e |⟨u,e,i⟩
 ·rw[e];exact List.nil_suffix
 ·have a:=(g _).mp (sF b (l++[c]));rw[e]at a ⊢;obtain⟨t,h⟩:=iQ ((g u).mpr a.init) i;exact⟨t,by grind⟩
end
end AC
namespace Bs
open PySem AC
theorem vI(x y:Str)(i:Nat):wfS x y i=true↔((ch x).drop i).take y.length=ch y:=by
 unfold wfS;rw[beq_iff_eq];constructor
 ·intro h;have:=congrArg Array.toList h;rw[wfj,we9,wbs]at this;exact this
 ·intro h;refine wel.mp ?_;rw[wfj,we9,wbs];exact h
theorem HQ(y x:Str):Kh y x=true↔ch y <:+: ch x:=by
 unfold Kh;rw[StrLaws.found_iff];constructor
 ·grind [vI,wgg,wgh]
 ·rintro⟨a,b,e⟩;refine⟨a.length,?_,(vI x y _).mpr ?_⟩
  ·rw[<-aV x,<-e,Zm,Zm,aV];omega
  ·rw[<-e,waA,List.drop_left,<-aV y,List.take_left]
noncomputable def wl(ws:List Str):List (List Nat):=ws.map ch
theorem d1(ws:List Str)(r:Str):bears ws r=false↔Good (wl ws) (ch r):=by simp_all [bears,Good,wl,wfO,HQ,ch]
theorem ik(w:Str)(n:Nat):ch (cC w n)=(ch w).take n:=EE w n
theorem rL(w:Str)(n:Nat):ch (fZ w n)=(ch w).drop n:=sv w n
theorem wW:k∈pq ws g b↔k∈g\/(k=b/\bears ws b=false):=by
 unfold pq wU
 by_cases a:bears ws b=true
 ·grind
 ·grind
theorem nP:∀n,k∈upTo ws w g n↔k∈g\/∃i,i < n/\k=cC w (1 + i)/\bears ws k=false
 |0=>by
  show k∈g↔_;simp
 |n + 1=>by
  rw[fv,wW,nP n];constructor
  ·grind
  ·grind
theorem iC(us:List Str):k∈bU ws e us↔k=e\/∃w∈us,∃i,i < w.length - 1/\k=cC w (1 + i)/\bears ws k=false:=by
 have key:∀(us b:List Str),k∈us.foldl (addW ws) b↔k∈b\/∃w∈us,∃i,i < w.length - 1/\k=cC w (1 + i)/\bears ws k=false:=by
  intro us
  induction us with
  |nil=>intro b;simp
  |cons w us d=>
   intro b;rw[wdq,d];unfold addW;rw[nP];constructor
   ·rintro((h |⟨i,h⟩) |⟨c,a,h⟩)
    ·exact .inl h
    ·exact .inr ⟨w,Zy ..,i,h⟩
    ·exact .inr ⟨c,Zt _ a,h⟩
   ·rintro(h |⟨c,a,h⟩)
    ·exact .inl (.inl h)
    ·rcases ZT.mp a with rfl |a
     ·exact .inl (.inr h)
     ·exact .inr ⟨c,a,h⟩
 unfold bU;rw[key];simp
theorem mem_keys:k∈bU ws "" ws↔Pl (wl ws) (ch k):=by
 rw[iC];constructor
 ·rintro(rfl |⟨w,hw,i,hi,e,b⟩)
  ·exact .inl rfl
  ·right
   refine⟨⟨ch w,Zq.mpr ⟨w,hw,rfl⟩,?_,?_⟩,(d1 ws k).mp b⟩
   ·rw[e,ik];exact wgg _ _
   ·rw[e,ik,ZG,aV];omega
 ·rintro(h |⟨⟨v,c,d,hl⟩,f⟩)
  ·exact .inl (dn h)
  ·by_cases a:ch k=[]
   ·exact .inl (dn a)
   obtain⟨w,hw,rfl⟩:=Zq.mp c
   right
   rw[aV,aV]at hl;have g:k.length≠0:=λz=>a (jf z);refine⟨w,hw,k.length - 1,by omega,dn ?_,(d1 ws k).mpr f⟩;rw[ik,show 1 + (k.length - 1)=k.length by omega,<-aV k];exact(List.prefix_iff_eq_take.mp d)
noncomputable def N3(ss:List Str)(l:List Nat):Bool:=decide (l∈ss.map ch)
theorem ji:N3 ss (ch k)=true↔k∈ss:=by
 unfold N3;rw[decide_eq_true_iff];constructor
 ·grind [dn]
 ·grind
theorem F9(g:ss.Perm (bU ws "" ws))(l:List Nat):N3 ss l=true↔Pl (wl ws) l:=by
 have e:ch ⟨l.toArray⟩=l:=rfl;rw[<-e,ji,g.mem_iff,mem_keys]
theorem vJ{P:List Nat->Bool}(g:P []=true):∀{l:List Nat} {n:Nat},P (l.drop n)=true->(∀m,m < n->P (l.drop m)=false)->jh P l=l.drop n
 |[],n,_,_=>by simp[jh]
 |a :: l,0,b,_=>by
  unfold jh;rw[wf5]at b;rw[if_pos b];rfl
 |a :: l,n + 1,b,c=>by
  have:=c 0 (by omega);rw[wf5]at this;unfold jh;rw[this,if_neg (by simp),List.drop_succ_cons];exact vJ g (by grind) λm d=>by grind
theorem lS(g:("":Str)∈ss)(r:Str):ch (lend ss r)=jh (N3 ss) (ch r):=by
 have d:∃n,n<=r.length/\fZ r n∈ss/\∀m,m < n->fZ r m∉ss:=by
  have i:∃n,fZ r n∈ss:=⟨r.length,by rw[pw];exact g⟩
  have key:∀k,(∃n,n < k/\fZ r n∈ss/\∀m,m < n->fZ r m∉ss)\/∀m,m < k->fZ r m∉ss:=by
   intro k
   induction k with
   |zero=>right;intro m a;omega
   |succ k f=>
    rcases f with⟨n,hn,h⟩ |h
    ·exact .inl ⟨n,by omega,h⟩
    ·by_cases c:fZ r k∈ss
     ·exact .inl ⟨k,by omega,c,h⟩
     ·right
      intro m a
      by_cases e:m=k
      ·rw[e];exact c
      ·exact h m (by omega)
  rcases key (r.length + 1) with⟨n,hn,h⟩ |h
  ·exact⟨n,by omega,h⟩
  ·exact absurd (by rw[pw];exact g) (h r.length (by omega))
 obtain⟨n,hn,a,hl⟩:=d;unfold lend;rw[yw a hl hn,rL];refine(vJ (ji (k:="").mpr g) ?_ λm b=>?_).symm
 ·rw[<-rL];exact ji.mpr a
 ·rw[<-rL];have:=hl m b;rw[<-ji]at this;simpa using this
section
variable{ws ss:List Str}{r:Str}{c:Nat}
theorem pA(g:ss.Perm (bU ws "" ws))(j:bears ws r=false):lend ss (lend ss r++⟨#[c]⟩)=lend ss (r++⟨#[c]⟩):=by
 have a:("":Str)∈ss:=g.mem_iff.mpr (cw ws);refine dn ?_;rw[lS a,aN,lS a,lS a,aN];exact An (F9 g) ((d1 ws r).mp j)
theorem n7(g:ss.Perm (bU ws "" ws))(j:bears ws r=false)(hw:∀w∈ws,1<=w.length):bears ws (lend ss r++⟨#[c]⟩)=bears ws (r++⟨#[c]⟩):=by
 have b:("":Str)∈ss:=g.mem_iff.mpr (cw ws)
 have a:∀w∈wl ws,w≠[]:=by
  intro w d z;obtain⟨v,e,rfl⟩:=Zq.mp d;have:=hw v e;rw[<-aV,z]at this;simp at this
 have:=D8 (c:=c) (F9 g) ((d1 ws r).mp j) a;rw[show [c]=ch (⟨#[c]⟩:Str) from rfl,<-lS b,<-aN,<-aN,<-d1,<-d1]at this;cases f:bears ws (lend ss r++⟨#[c]⟩) <;> cases h:bears ws (r++⟨#[c]⟩) <;> simp[f,h]at this ⊢
theorem lT(h:ch a <:+: ch b)(g:bears ws b=false):bears ws a=false:=(d1 ws a).mpr (((d1 ws b).mp g).sub h)
end
end Bs
namespace L2
open PySem PySem.Spec PyProof.Rows
section
variable{X:Cx}
theorem yC:di X (.type "range") (λxs H Q=>∃j:Int,xs=[.int j]/\∀p,H p=none->Q (.ref p) (upd H p (.rng 0 j))):=by
 intro a s σ H xs c Q I r h;obtain⟨j,rfl,q⟩:=h;obtain⟨u,rfl,t,rfl⟩:=vals1 r;refine call_range_1 ⟨.ref s.heap.objs.size,_,I.laid (λb ob q=>Zo _ q) (Zr _) (show bO X.prog X.w _ _ _ (.rng 0 j) from ⟨_,_,_,ZP _ rfl⟩),rfl,q _ (I.aZ.fresh (Zr _))⟩
theorem Ao(hc:X.calm=true):di X (.type "list") (λxs H Q=>∃(p:Addr) (n:Nat),xs=[.ref p]/\H p=some (.rng 0 (n:Int))/\n<=sizeLine/\∀l,H l=none->Q (.ref l) (upd H l (.lst ((ZY n).map λi=>V.int (i:Nat))))):=by
 intro m s σ H xs b Q I r h;obtain⟨p,n,rfl,x,hn,q⟩:=h;obtain⟨u,rfl,y⟩:=vals1 r;cases y;obtain⟨t,u,v,e⟩:=I.aZ p _ x;have f:n<=2 ^ 24:=by rw[wbe]at hn;omega
 refine call_list_range (I.ok.hd hc) (n:=n) (show IsRange s.heap p 0 (n:Int) 1 t u v from e) (small_one (by omega) (by omega) (by omega) (by omega)) (by rw[rangeSize_one];split <;> omega) f λg z d c kp A a=>?_
 have B:∀(b:List Value) (k:Nat),(∀(j:Nat) (u:Value),b[j]?=some u->∃t,u=.int ((k + j:Nat):Int) t)->Vals ((weT k b.length).map λi=>V.int (i:Nat)) b:=by
  intro b
  induction b with
  |nil=>intro k _;exact .nil
  |cons u b C=>
   intro k h;obtain⟨t,e⟩:=h 0 u rfl;rw[ZZ,wgi,ZK];refine .cons ⟨t,e⟩ (C (k + 1) λj u g=>?_);obtain⟨t,e⟩:=h (j + 1) u (by simpa using g);exact⟨t,by rw[e];congr 1;omega⟩
 have hl:d.toList.length=n:=by rw[wbt];exact a.1
 have o:=B d.toList 0 λj u e=>by
  obtain⟨t,D⟩:=a.2 j u (by rw[<-wbG];exact e);exact⟨t,by rw[D];congr 1;omega⟩
 rw[hl,<-List.range_eq_range']at o;refine⟨.ref s.heap.objs.size,_,I.laid (t':=z) kp (Zr _) (show bO X.prog X.w _ g _ (.lst ((ZY n).map λi=>V.int (i:Nat))) from ⟨?_,d.toList,c,o,?_⟩),rfl,q _ (I.aZ.fresh (Zr _))⟩
 ·rw[Zf,wag];exact hn
 ·rw[wco];exact A
end
section
variable{X:Cx}
end
end L2
namespace Sx
open PySem L2
theorem Fa:wa8 "max"=some (.builtin "max"):=by decide+kernel
theorem HR:wa8 "range"=some (.type "range"):=by decide+kernel
end Sx
namespace Sx
open PySem L2 Bs
set_option genInjectivity true in
inductive Thing(H:Hp):V->Prop where
 |flat {v:V} (h:cK v=true):Thing H v
 |lst {a:Addr} {xs:List V} (h:H a=some (.lst xs)) (f:xs.all cK=true):Thing H (.ref a)
 |tup {a:Addr} {xs:List V} (h:H a=some (.tup xs)) (f:xs.all cK=true):Thing H (.ref a)
 |dic {a:Addr} (h:H a=some (.dK [])):Thing H (.ref a)
theorem Thing.same(t:Thing H v)(s:a8 H g):Thing g v:=by
 cases t with
 |flat h=>exact .flat h
 |lst h f=>exact .lst (s _ _ h) f
 |tup h f=>exact .tup (s _ _ h) f
 |dic h=>exact .dic (s _ _ h)
theorem Ap(j:H e=none)(hd:(upd H e g) d=none):d≠e/\H d=none/\del (upd (upd (upd H e g) d o2) e o3) e=upd H d o2:=by grind [a6,ae,wV,Aj,BW]
section
variable{P:ZH}{w:World}{K:Zh}{mg:Str->Option Value}{base:Heap}{f:Addr}{fd:Zv}
end
end Sx
namespace PySem.SeqAt
open AutoSeq1 (wpAny_loadPart')
open MeetsSeq
section
variable{A:Around}{s:Shared}
end
end PySem.SeqAt
namespace L2
open PySem PySem.Spec PyProof.Rows Sx
section
variable{X:Cx}
end
end L2
namespace L2
open PySem PySem.Spec PyProof.Rows
section
variable{X:Cx}
end
theorem Fb(v:V):V.bl (decide (v=v))=V.bl true:=by simp
theorem Fc(v:V):V.bl (!decide (v=v))=V.bl false:=by simp
end L2
namespace Bs
open PySem AC
theorem nQ(g:("":Str)∈ss)(r:Str):lend ss r∈ss:=by
 rw[<-ji,lS g];exact sF (ji (k:="").mpr g) _
theorem take_snoc(h:(ch r)[i]?=some c):cC r (i + 1)=cC r i++⟨#[c]⟩:=by grind [dn,aN,ik,wa7]
theorem take_zero(r:Str):cC r 0="":=dn (by rw[ik];rfl)
theorem take_all(r:Str):cC r r.length=r:=dn (by rw[ik,<-aV,ZU])
theorem vK(hw:∀w∈ws,1<=w.length):bears ws ""=false:=by
 refine(d1 ws "").mpr λw a hi=>?_;obtain⟨v,b,rfl⟩:=Zq.mp a;have d:=hw v b;have c:=hi.length_le;rw[aV]at c;have:(ch ("":Str)).length=0:=rfl;omega
end Bs
namespace L2
open PySem Bs
end L2
namespace Sx
open PySem L2 Bs
theorem n8(g:Str)(b d q:Addr):(Ae g b d q).lookup ("signs":Str)=some (.str g):=by
 rw[<-D2,aC,if_neg (by decide+kernel),<-put3,aC,if_neg (by decide+kernel),<-put2,aC,if_neg (by decide+kernel),<-Kn,aC,if_pos rfl]
section
variable{P:ZH}{w:World}{K:Zh}{mg:Str->Option Value}{base:Heap}{f:Addr}{fd:Zv}
end
end Sx
namespace L2
open PySem PySem.Spec PyProof.Rows
section
variable{X:Cx}
end
end L2
namespace Bs
open PySem
theorem len_app(a b:Str):(a++b).length=a.length + b.length:=by grind [aV,aN]
structure Out(g r:Str)(i:Nat):Prop where
 at_:∃c,(ch r)[i]?=some c/\c∉ch g
 lo:∀j c,j < i->(ch r)[j]?=some c->c∈ch g
structure Bad(ws:List Str)(r:Str)(n:Nat):Prop where
 lt:n < r.length
 good:bears ws (cC r n)=false
 bad:bears ws (cC r (n + 1))=true
theorem Out.lt(o:Out g r i):i < r.length:=by grind [cases Out,aV]
theorem Out.one(o:Out g r i)(p:Out g r j):i=j:=by grind [cases Out,we3]
theorem vL(h:i<=j)(g:bears ws (cC r j)=false):bears ws (cC r i)=false:=by
 refine lT ?_ g;rw[ik,ik];exact(List.take_prefix_take_left h).isInfix
theorem Bad.one(a:Bad ws r n)(b:Bad ws r m):n=m:=by
 rcases we3 n m with h |h |h
 ·have:=vL (j:=m) (i:=n + 1) h b.good;rw[a.bad]at this;cases this
 ·exact h
 ·have:=vL (j:=n) (i:=m + 1) h a.good;rw[b.bad]at this;cases this
theorem Bad.ex(hw:∀w∈ws,1<=w.length)(h:bears ws r=true):∃n,Bad ws r n:=by
 have key:∀m,m<=r.length->bears ws (cC r m)=true->∃n,Bad ws r n:=by
  intro m
  induction m with
  |zero=>grind [take_zero,vK]
  |succ m a=>
   intro b q
   cases e:bears ws (cC r m) with
   |true=>exact a (by omega) e
   |false=>exact⟨m,by omega,e,q⟩
 exact key r.length (Zr _) (by rw[take_all];exact h)
end Bs
namespace Sx
open PySem L2 Bs
def Qt(CN:Addr)(nm:Str)(v:V)(H:Hp)(E:XK):Prop:=∀(d:Addr) (H':Hp),a8 H H'->H d=none->H' d=some (.xd [(nm,v)])->E (.ref CN) (some d) H'
theorem none_of(s:a8 H g)(h:g d=none):H d=none:=by
 cases q:H d with
 |none=>rfl
 |some o=>rw[s _ _ q]at h;cases h
theorem Qt.same(n:Qt g nm v H E)(s:a8 H j):Qt g nm v j E:=λd a b c e=>n d a (s.trans b) (none_of s c) e
end Sx
namespace Bs
open PySem
end Bs
namespace Sx
open PySem L2 Bs
theorem yD(g:Str)(b d q:Addr):(Ae g b d q).lookup ("barred":Str)=some (.ref b):=by
 rw[<-D2,aC,if_neg (by decide+kernel),<-put3,aC,if_neg (by decide+kernel),<-put2,aC,if_pos rfl]
end Sx
namespace L2
open PySem
end L2
namespace L2
open PySem PySem.Spec PyProof.Rows
section
variable{P:ZH}{w:World}{K:Zh}{mg:Str->Option Value}{base:Heap}{x qual:Str}{st:Stmt}{f:Addr}{fd:Zv}{N ps:List Str}{k:Nat}{sp:Sp}
theorem yj.dD(F:yj K x qual st f fd)
 (l:∀(j:Value) (A:Around) (outer:List Env) (s:Shared) (H:Hp) (vs:List V) (Q:VK) (E:XK),N.Nodup->d4 k (A.deeper (envOfC qual (aD st) s.heap.objs.size f j))->sp vs H Q E ->
   ∃t,uw (uB cW P w K mg base N qual (aD st) f j A outer s H E).DZ (bL st) t/\t {nx:=λ_ o=>Q .non o,rt:=Q} (start N vs) H)
 (a:(aD st).kind=.function:=by rfl) (b:(aD st).isCoroutine=false:=by rfl) (c:(aD st).isGenerator=false:=by rfl) (nd:N.Nodup:=by decide+kernel) (e:N.take ps.length=ps:=by rfl)
 (g:∀x∈ps,(aD st).names.lookup x=some .local\/(aD st).names.lookup x=some .cell:=by decide+kernel) (h:∀y∈(aD st).names,y.2≠.free:=by decide+kernel)
 (len:∀vs H Q E,sp vs H Q E->vs.length=ps.length:=by intro _ _ _ _ h;cases h;subst_vars;rfl):aM P w K mg base cW (k + 1) f fd ps sp:=
 F.ok ⟨a,b,c,nd,e,g,h⟩ len λj A outer s H vs Q E=>l j A outer s H vs Q E nd
theorem yj.D9(F:yj K x qual st f fd)
 (l:∀(j:Value) (A:Around) (outer:List Env) (s:Shared) (H:Hp) (vs:List V) (Q:VK) (E:XK),N.Nodup->d4 k (A.deeper (envOfC qual (aD st) s.heap.objs.size f j))->sp vs H Q E ->
   ∃t,uw (uB (yy P w) P w K mg base N qual (aD st) f j A outer s H E) (bL st) t/\t {nx:=λ_ o=>Q .non o,rt:=Q} (start N vs) H)
 (a:(aD st).kind=.function:=by rfl) (b:(aD st).isCoroutine=false:=by rfl) (c:(aD st).isGenerator=false:=by rfl) (nd:N.Nodup:=by decide+kernel) (e:N.take ps.length=ps:=by rfl)
 (g:∀x∈ps,(aD st).names.lookup x=some .local\/(aD st).names.lookup x=some .cell:=by decide+kernel) (h:∀y∈(aD st).names,y.2≠.free:=by decide+kernel)
 (len:∀vs H Q E,sp vs H Q E->vs.length=ps.length:=by intro _ _ _ _ h;cases h;subst_vars;rfl):aM P w K mg base (yy P w) (k + 1) f fd ps sp:=
 F.Vj ⟨a,b,c,nd,e,g,h⟩ len λj A outer s H vs Q E=>l j A outer s H vs Q E nd
end
section
variable{X:Cx}
theorem ao(F:aM X.prog X.w X.K X.mg X.base cW k f fd ps sp)(a:FnAt X.K X.mg x sm ps f fd)(ha:PA X (e :: j) t)(r:d4 k X.A:=by exact d4.mono (by assumption) (by decide))(C:Gl X x:=by rfl)(l:(x == ("__debug__":Str))=false:=by decide)
 (I:starEach (e :: j) X.env=(false,eval e X.env) :: starEach j X.env:=by rfl) (o:(backTo pos (starEach j X.env)).any (·.1)=false:=by rfl):PE X (.Call (.Name x p) (e :: j) [] pos) (Jd sp [] E0 t):=
 ja F r C a.g a.F.kp a.b .nil cG ha l I o
theorem ai{i:Nat}{x:Str}{e:Expr}{j:TE}{g:Pos}(l:PE X e j)(o:X.N.Nodup:=by assumption)(hi:X.N[i]?=some x:=by rfl)(p:Loc X.env.scope x:=by first |exact wcJ rfl |exact Or.inr rfl)(hs:wbd e (some (.Name x g)) pos.line X.env=pure false:=by rfl)
 (r:X.fn x=true\/X.env.scope.names.lookup x=some .local:=by first |exact .inl rfl |exact .inr rfl |assumption):PS X (.Assign [.Name x g] e pos) (GY j (eK i)):=
 Ed o hi p l hs r
theorem aA{i:Nat}{x:Str}(g:X.N.Nodup:=by assumption)(hi:X.N[i]?=some x:=by rfl)(j:Loc X.env.scope x:=by first |exact wcJ rfl |exact Or.inr rfl)(l:X.fn x=true\/X.env.scope.names.lookup x=some .local:=by first |exact .inl rfl |exact .inr rfl |assumption):PG X (.Name x pos) (eK i):=
 j6 g hi j l
end
section
variable{X:Cx}
theorem jl:∀{ns:List Int} {g:List Value},Vals (ns.map V.int) g->∃xs:List (Int×Tok),g=xs.map (λp=>wey p.1 p.2)/\xs.map (·.1)=ns
 |[],g,r=>by cases r;exact⟨[],rfl,rfl⟩
 |n :: ns,g,r=>by
  cases r with
  |cons h t=>
   obtain⟨a,rfl⟩:=h;obtain⟨xs,rfl,e⟩:=jl t;exact⟨(n,a) :: xs,rfl,by grind⟩
theorem kj(hc:X.calm=true):di X (.builtin "sum") (λxs H Q=>∃p ns,xs=[.ref p]/\aI X.K H p (wcd V.int ns)/\Q (.int ns.sum) H):=by
 intro b s σ H xs k Q I r h;obtain⟨p,ns,rfl,d,q⟩:=h;obtain⟨u,rfl,f⟩:=vals1 r;cases f;obtain⟨a,g,pl,l⟩:=I.list d;obtain⟨c,e,rfl⟩:=jl g
 have hl:s.heap.IsList p (intItems c.toArray):=by
  have:intItems c.toArray=a.toArray:=by rw[e];unfold intItems;simp
  rw[this];exact pl.isList
 refine sum_intListG (I.ok.hd hc) hl λm n i j=>?_;refine⟨.int _,H,I.kept j,⟨i,?_⟩,q⟩;rw[preSum_eq,waN (by simp)]
end
theorem Inv.freeze{X:Cx}(I:Inv X g σ H s)(e:H d=some (.dK kvs)):∃o,s.heap.get? d=some o/\Inv X g σ (upd H d (.frz o (.dK kvs))) s:=by
 have ok:=I.aZ d _ e;obtain⟨z,y,f,rel,o,h,i,a,j⟩:=id ok;refine⟨o,a,?_⟩;exact I.write (x:=d) (e:=d) (h':=s.heap) (t':=s.toks) (by rw[e];exact trivial) (.inl rfl) (λb u _ c=>c) ⟨_,a⟩ ⟨a,ok⟩
noncomputable def HS(d:Addr)(o:Obj)(kvs:List (Key×V)):It:=⟨λi H=>H d=some (.frz o (.dK kvs))/\i < kvs.length,λi H x H'=>H'=H/\∃kv,kvs[i]?=some kv/\x=kV kv.1,λi H=>H d=some (.frz o (.dK kvs))/\kvs.length<=i⟩
theorem iR(d:Addr)(o:Obj)(kvs:List (Key×V)):m9 (HS d o kvs) (λH=>H d=some (.frz o (.dK kvs))) (kvs.map λg=>kV g.1) where
 go:=λi H ok h=>⟨ok,by rwa[Zf]at h⟩
 ur:=λi H x a ok h q=>by
  obtain⟨rfl,g,e,rfl⟩:=q;refine⟨rfl,?_⟩;rw[Zi,e];rfl
 stop:=λH ok=>⟨ok,by rw[Zf];exact Zr _⟩
theorem Fd{κ:Type}:∀{kvs:List (κ×V)} {vs:List (κ×Value)},KV kvs vs->∀{i:Nat} {p:κ×V},kvs[i]?=some p->∃q,vs[i]?=some q/\p.1=q.1/\RelV p.2 q.2
 |_,_,.nil,i,p,h=>by simp at h
 |_,_,.cons r t,i,p,h=>by
  cases i with
  |zero=>exact⟨_,rfl,by have:=Zx h;subst this;exact r⟩
  |succ i=>exact Fd t h
theorem Aq{X:Cx}(I:Inv X g σ H s)(e:H d=some (.frz o (.dK kvs)))(j:o.data=.dict p ep) :
 ∃vs,KV kvs vs/\s.heap.DictAt (bg X.prog X.w) d vs ep:=by
 obtain⟨f,_⟩:=I.aZ d _ e;obtain⟨_,_,vs,rel,h,a,i,b,k,c,l⟩:=mh I.aZ (.inr ⟨o,e⟩);refine⟨vs,rel,h,a,b,k,?_,l⟩;rw[f]at b;cases b;rw[c]at j;cases j;exact c
theorem Dc{P:ZH}{w:World}{K:Zh}{T:Expr}(d it:Addr)(o:Obj)(kvs:List (Key×V))(U:Array DictEntry)(ep:Nat)(J:o.data=.dict U ep):Turn P w K T (HS d o kvs) [it] it (λi h=>h.IsKeyIter it d i kvs.length ep) where
 mem:=by simp
 obj:=λi h st b j=>by
  have e:b=it:=by grind
  subst e;obtain⟨o,e,c,D⟩:=st;exact⟨o,e,λv z=>by grind⟩
 keep:=λi h m st k=>st.at λo e=>k it (by simp) o e
 item:=by
  intro X p hw q hc i a s σ H E I n st r;subst p hw q;obtain⟨u,hi⟩:=r;obtain⟨G,rel,f⟩:=Aq I u J;have F:kvs[i]?=some kvs[i]:=by simp[hi]
  obtain⟨⟨k,v⟩,L,M,_⟩:=Fd rel F;obtain⟨x,f1,f2,A,B,C⟩:=n it (by simp);rw[rel.length]at st;refine wpAny_pyNext_dict_item st f L λkey m l g sb=>?_;have N:Inv X a σ H {s with heap:=m}:=I.turned (t':=s.toks) (λb o j e=>(sb.2 b j).trans e) x f1 A B C;obtain⟨R,e,c,D⟩:=id g;rw[<-rel.length]at g;refine⟨key,rfl,Bz (s:={s with heap:=m}) e c D (by decide) ⟨kV kvs[i].1,H,N,?_,⟨rfl,_,F,rfl⟩,g,λb j=>(n b j).1⟩⟩;have O:kvs[i].1=k:=M;rw[O];rcases bN l with⟨i,t,rfl,rfl⟩ |⟨y,t,rfl,rfl⟩
  ·exact⟨t,rfl⟩
  ·exact⟨t,rfl⟩
 done:=by
   intro X p hw q hc i a s σ H E I n st r;subst p hw q;obtain⟨u,hi⟩:=r;obtain⟨G,rel,f⟩:=Aq I u J;obtain⟨x,f1,f2,A,B,C⟩:=n it (by simp);rw[rel.length]at st hi;exact wpAny_pyNext_dict_end (I.ok.hd hc) st f (by simp;omega) λm Q=>⟨rfl,I.turned (t':=s.toks) (λb o j e=>Q b o j e) x f1 A B C⟩
 self:=λ_ _ _ _ _ st h=>wpAny_pyIter_keyiter st h
section
variable{X:Cx}{tg:Expr}
def N4(tl:TE):TI:=λσ H R=>tl σ H λx H1=>∃d kvs,x=.ref d/\((H1 d=some (.dK kvs)/\∀o,R (HS d o kvs) (upd H1 d (.frz o (.dK kvs))))\/∃o,H1 d=some (.frz o (.dK kvs))/\R (HS d o kvs) H1)
theorem rM{l:Expr}{p:TE}(hl:PE X l p):PI X tg l (N4 p):=by
 intro a s σ H R I h;refine bS (hl a s σ H _ I h) λv g ⟨x,D,m,t,j⟩=>?_;obtain⟨d,f,e,q⟩:=j;subst e;cases t
 have key:∀{i:Hp} {o:Obj},Inv X a σ i g->i d=some (.frz o (.dK f))->R (HS d o f) i->wpAny (model X.prog X.w) X.A (pyIter (.ref d)) (Ou X a σ tg R) X.xe g:=λ{i o} c hd u=>by
  obtain⟨E,lo,y,n,F,z,B,j,G,r,J⟩:=mh c.aZ (.inr ⟨o,hd⟩);obtain⟨C,_⟩:=c.aZ d _ hd;rw[C]at j;cases j;obtain⟨K,rel,k⟩:=Aq c hd r;refine wpAny_pyIter_dict lo k ?_;refine⟨g.heap.objs.size,[g.heap.objs.size],_,_,i,rfl,c.kept (t':=g.toks) λb o e=>Zo _ e,Dc d _ o f z B r,⟨_,ZP _ rfl,rfl,by rw[rel.length];rfl⟩,λb L=>?_,u⟩;have e:b=g.heap.objs.size:=by grind
  subst e;exact c.Cu (Zr _) (c.aZ.fresh (Zr _))
 rcases q with⟨hd,q⟩ |⟨o,hd,q⟩
 ·obtain⟨o,M,c⟩:=m.freeze hd;exact key c a6 (q o)
 ·exact key m hd q
end
end L2
namespace L2
open PySem Bs
theorem dQ.f{H:Hp}{a:Addr}{o:Obj}{kvs:List (Key×V)}{k:Key}(e:H a=some (.frz o (.dK kvs))):dQ H a (kV k) (bu kvs k):=.inl ⟨kvs,k,.inr ⟨o,e⟩,rfl,rfl⟩
noncomputable def eO(g:Str)(ws ss:List Str)(p:Str):List Str:=(ch g).filterMap λc=>if bears ws (p++⟨#[c]⟩)=true then none else some (lend ss (p++⟨#[c]⟩))
noncomputable def Ar(v:V):Bool:=!decide (v=.non)
theorem yE(ws ss:List Str)(p:Str)(cs:List Nat):((cs.map (uv ws ss p)).filter Ar)=(cs.filterMap λc=>if bears ws (p++⟨#[c]⟩)=true then none else some (lend ss (p++⟨#[c]⟩))).map V.str:=by
 induction cs with
 |nil=>rfl
 |cons c cs a=>
  grind [uv,lend,Ar]
theorem As(g:Str)(ws ss:List Str)(p:Str):(eO g ws ss p).length<=g.length:=by
 unfold eO;have:=wcP (λc=>if bears ws (p++⟨#[c]⟩)=true then none else some (lend ss (p++(⟨#[c]⟩:Str)))) (ch g);rw[aV]at this;exact this
theorem Au(j:("":Str)∈ss)(h:t∈eO g ws ss p):t∈ss:=by grind [eO,nQ]
noncomputable def gB(g:Str)(ws ss:List Str):Nat->Str->Int
 |0,_=>1
 |n + 1,p=>((eO g ws ss p).map (gB g ws ss n)).sum
noncomputable def pB(f:Str->V)(ks:List Str):List (Key×V):=ks.map λp=>((ZQ p:Key),f p)
theorem sG(f:Str->V)(h:k∈g):bu (pB f g) (ZQ k:Key)=some (f k):=by
 induction g with
 |nil=>simp at h
 |cons j g a=>
  by_cases e:j=k
  ·subst e;exact bF rfl
  ·unfold pB;rw[ZK,bG (λz=>e (wcb z))];exact a (by grind)
theorem vM(f:Str->V)(h:k∉g):bu (pB f g) (ZQ k:Key)=none:=by
 cases q:bu (pB f g) (ZQ k:Key) with
 |none=>rfl
 |some v=>
  have:=rJ q;unfold pB at this;rw[Zw]at this;obtain⟨m,a,e⟩:=Zq.mp this;have b:m=k:=wcb e;subst b;exact absurd a h
theorem yF(f:Str->V)(g:List Str):(pB f g).length=g.length:=by unfold pB;rw[Zf]
theorem vN(f:Str->V)(g:List Str)(k:Str):pB f (g++[k])=pB f g++[((ZQ k:Key),f k)]:=by unfold pB;rw[ZB];rfl
theorem gX{ss:List Str}(nd:ss.Nodup){i:Nat}{p:Str}(h:ss[i]?=some p):p∉ss.take i:=by
 intro b;obtain⟨j,c,a⟩:=wcq.mp b;rw[we4]at a;rw[ZG]at c;have d:=(Zn.mp h).2;have:=(wcl nd).mp (a.trans d.symm);omega
noncomputable abbrev KA(g:Str)(ws ss:List Str)(n:Nat):List (Key×V):=pB (λp=>.int (gB g ws ss n p)) ss
noncomputable def T5(ws ss:List Str)(p:Str):V->V:=λv=>match v with
 |.str z=>uv ws ss p (z.cps.getD 0 0)
 |_=>.non
theorem Dd(g:Str)(ws ss:List Str)(p:Str):(dO g).map (T5 ws ss p)=(ch g).map (uv ws ss p):=by
 unfold dO;rw[Zw];rfl
noncomputable def HU(f:Str->Int):V->V:=λv=>match v with
 |.str z=>.int (f z)
 |_=>.non
theorem pC(f:Str->Int)(g:List Str):(g.map V.str).map (HU f)=(g.map f).map V.int:=by
 rw[Zw,Zw];rfl
end L2
namespace Sx
open PySem L2 Bs
inductive Av(C:Addr)(vs:List V)(H:Hp)(Q:VK)(eA:XK):Prop
 |mk (x p g ws ss ls) (_:vs=[.ref x,.str p]) (_:aT C H x g ws ss ls) (_:p∈ss) (_:g.length<=10) (_:∀(l:Addr) (H':Hp),a8 H H'->H l=none->H' l=some (.lst ((eO g ws ss p).map V.str))->Q (.ref l) H')
inductive De(C:Addr)(vs:List V)(H:Hp)(Q:VK)(eA:XK):Prop
 |mk (x g ws ss ls) (_:vs=[.ref x]) (_:aT C H x g ws ss ls) (_:g.length<=10) (_:ss.length<=900) (_:∀(d:Addr) (ev:List (Str×Addr)) (H':Hp),a8 H H'->H d=none->H' d=some (.dK (bC ev))->ev.map (·.1)=ss->(∀m∈ev,H' m.2=some (.lst ((eO g ws ss m.1).map V.str)))->(∀m∈ev,H m.2=none)->Q (.ref d) H')
inductive HV(C:Addr)(vs:List V)(H:Hp)(Q:VK)(eA:XK):Prop
 |mk (x n g ws ss ls) (_:vs=[.ref x,.int n]) (_:aT C H x g ws ss ls) (_:g.length<=10) (_:ss.length<=900) (_:0<=n) (_:n<=100000) (_:∀(l:Addr) (ts:List Addr) (H':Hp),a8 H H'->H l=none->H' l=some (.lst (ts.map V.ref))->ts.length=n.toNat + 1->(∀i t,ts[i]?=some t->H' t=some (.dK (KA g ws ss i)))->Q (.ref l) H')
inductive HW(C:Addr)(vs:List V)(H:Hp)(Q:VK)(eA:XK):Prop
 |mk (x n g ws ss ls) (_:vs=[.ref x,.int n]) (_:aT C H x g ws ss ls) (_:g.length<=10) (_:ss.length<=900) (_:0<=n) (_:n<=100000) (_:∀H',a8 H H'->Q (.int (gB g ws ss n.toNat "")) H')
end Sx
namespace L2
open PySem PySem.Spec PyProof.Rows
section
variable{X:Cx}
noncomputable def Vl:Mi:=λx y H Q=>∃i j,x=.int i/\y=.int j/\Hc i j/\Q (.int (i * j)) H
theorem Fe:Ot X .Mult Vl:=by
 intro a s σ H x y v u Q I b c h;obtain⟨i,j,d,e,hc,q⟩:=h;subst d;subst e;obtain⟨t,rfl⟩:=b;obtain⟨f,rfl⟩:=c;exact imul_int ⟨.int _,H,I.tok _,⟨_,rfl⟩,q⟩ hc.ok
end
end L2
namespace Sx
open PySem L2 Bs
inductive Ff(vs:List V)(H:Hp)(Q:VK)(eA:XK):Prop
 |mk (i) (_:vs=[.int i]) (_:Q (.bl true) H)
inductive Df(C:Addr)(vs:List V)(H:Hp)(Q:VK)(eA:XK):Prop
 |mk (x n g ws ss ls) (_:vs=[.ref x,.int n]) (_:aT C H x g ws ss ls) (_:g.length<=10) (_:0<=n) (_:n<=10) (_:Q (.int ((g.length:Int) ^ n.toNat)) H)
structure fA(m:Nat)(many wide:Int):Prop where
 a:2<=many
 b:many<=8
 c:1<=wide
 d:wide<=6
 e:(m:Int) ^ wide.toNat<=64
inductive yG(C:Addr)(vs:List V)(H:Hp)(Q:VK)(eA:XK):Prop
 |mk (x many wide g ws ss ls) (_:vs=[.ref x,.int many,.int wide]) (_:aT C H x g ws ss ls) (_:g.length<=10) (_:fA g.length many wide) (_:Q (.bl true) H)
end Sx
namespace L2
open PySem PySem.Spec PyProof.Rows
theorem yH(ns:List Int)(lo hi:Option Int):∃g:List Int,iK (ns.map V.int) lo hi=g.map V.int/\g.length<=ns.length:=by
 refine⟨_,by unfold iK;rw[<-wd5,<-wc0],?_⟩;rw[ZG,waV];omega
section
variable{X:Cx}
inductive Qu(K:Zh)(x y:V)(H:Hp)(Q:VK):Prop
 |mk (a b xs ys) (_:x=.ref a) (_:y=.ref b) (_:aI K H a xs) (_:aI K H b ys) (_:xs.all cK=true) (_:ys.all cK=true) (_:Q (.bl (!rj xs ys)) H)
theorem KB(l:X.A.units < wbT):m7 X (waI .NotEq) (Qu X.K):=by
 intro m s σ H x y v u Q I D E h;obtain⟨a,b,f,g,rfl,rfl,ha,F,G,J,q⟩:=h;cases D;cases E;obtain⟨d,n,o,_⟩:=I.list ha;obtain⟨c,p,r,_⟩:=I.list F;have L:=n.length;have T:=p.length
 by_cases hl:f.length=g.length
 ·refine SeqAt.RcNeAt.lists (e:=λj=>ph (f.getD j .non) (g.getD j .non)) o.isList r.isList (by simp only[ZR];omega) l (λj M N=>?_) X.prog X.w _ _ ?_
  ·have i:j < d.length:=by simpa using M
   have k:j < c.length:=by simpa using N
   have t:f[j]?=some (f.getD j .non):=by rw[Zj];simp[show j < f.length by omega]
   have z:g[j]?=some (g.getD j .non):=by rw[Zj];simp[show j < g.length by omega]
   obtain⟨O,B,P⟩:=n.get t;obtain⟨R,C,S⟩:=p.get z
   have g1:d.toArray[j]=O:=by
    have:d[j]?=some d[j]:=by simp[i]
    rw[this]at B;simpa using Zx B
   have g2:c.toArray[j]=R:=by
    have:c[j]?=some c[j]:=by simp[k]
    rw[this]at C;simpa using Zx C
   rw[g1,g2];exact wH P S (wa4.mp G _ (ZA t)) (wa4.mp J _ (ZA z))
  ·rw[mX hl]at q;refine⟨.bl _,H,I,rfl,?_⟩;rw[ZR,<-L];exact q
 ·refine SeqAt.RcNeAt.lists_lengths o.isList r.isList (by simp only[ZR,bne_iff_ne];omega) l X.prog X.w _ _ ⟨.bl true,H,I,rfl,?_⟩;rw[yn hl]at q;exact q
theorem Dg(hc:X.calm=true):di X (.builtin "max") (λxs H Q=>∃p ns,xs=[.ref p]/\aI X.K H p (wcd V.int ns)/\ns≠[]/\∀M,M∈ns->(∀a∈ns,a<=M)->Q (.int M) H):=by
 intro g s σ H xs x Q I r h;obtain⟨p,ns,rfl,i,c,q⟩:=h;obtain⟨u,rfl,k⟩:=vals1 r;cases k;obtain⟨d,l,pl,y⟩:=I.list i;obtain⟨b,e,rfl⟩:=jl l
 have hl:s.heap.IsList p (intItems b.toArray):=by
  have:intItems b.toArray=d.toArray:=by grind [intItems]
  rw[this];exact pl.isList
 have f:0 < b.toArray.size:=by
  rw[ZR];exact Nat.pos_of_ne_zero λz=>c (by grind)
 refine max_intList (I.ok.hd hc) hl f λv A B m n=>?_;obtain⟨t,rfl⟩:=wg5 m;obtain⟨C,o⟩:=argBest_gt (numAt b.toArray) (b.toArray.size - 1);refine⟨.int _,H,I.kept n,⟨t,rfl⟩,q _ ?_ λa ha=>?_⟩
 ·rw[numAt_eq];exact getD_mem (by grind)
 ·obtain⟨j,w,rfl⟩:=mem_getD ha;rw[Zf]at w;have:=o j (by grind);rw[numAt_eq]at this;exact this
end
end L2
namespace Bs
open PySem L2
noncomputable def kl(st sp n:Nat):List Nat:=(ZY n).map λk=>(ch dJ).getD ((st + k * sp) % 36) 0
theorem yI{P:Nat->Prop}:∀{ts:List Str},(∀t∈ts,∃c,t=⟨#[c]⟩/\P c)->(ts.map (·.length)).sum=ts.length
 |[],_=>rfl
 |t :: ts,h=>by
  obtain⟨c,rfl,_⟩:=h t (Zy ..);rw[ZK,waK,yI λt a=>h t (Zt _ a),ZZ];show 1 + ts.length=_;omega
noncomputable def HX(st sp:Nat):V->V:=λv=>match v with
 |.int k=>.str ⟨#[(ch dJ).getD ((st + k.toNat * sp) % 36) 0]⟩
 |_=>.non
end Bs
namespace Sx
open PySem L2 Bs
inductive N5(K:Zh)(vs:List V)(H:Hp)(Q:VK)(eA:XK):Prop
 |mk (a:Addr) (ns:List Int) (p:Int) (_:vs=[.ref a,.int p]) (_:aI K H a (ns.map V.int)) (_:∀(c:Int) (H':Hp),a8 H H'->Q (.int c) H')
end Sx
namespace Bs
noncomputable def yJ(k:Nat)(l:List Nat):List Nat:=l.drop (l.length - k)
theorem Dh(k:Nat)(l:List Nat):yJ k l <:+ l:=wgh _ _
theorem Di(k:Nat)(l:List Nat):(yJ k l).length<=k:=by grind [yJ]
theorem gY{α:Type}[DecidableEq α]:∀{g l:List α},g.Nodup->(∀k∈g,k∈l)->g.length<=l.length
 |[],l,_,_=>wa0 _
 |k :: g,l,nd,h=>by
  rw[wa9]at nd;have a:=h k (Zy ..);have:=gY (l:=l.erase k) nd.2 λj b=>(List.mem_erase_of_ne (λz=>nd.1 (by rw[<-z];exact b))).mpr (h j (Zt _ b));rw[List.length_erase_of_mem a]at this;have:0 < l.length:=List.length_pos_of_mem a;rw[ZZ];omega
noncomputable def km(cs:List Nat):Nat->List (List Nat)
 |0=>[[]]
 |n + 1=>[] :: cs.flatMap λc=>(km cs n).map (c :: ·)
theorem vO(cs:List Nat):∀(n:Nat) (l:List Nat),l.length<=n->(∀c∈l,c∈cs)->l∈km cs n
 |0,l,h,_=>by
  rw[waC (Nat.le_zero.mp h)];exact ZC.mpr rfl
 |n + 1,[],_,_=>Zy ..
 |n + 1,c :: l,h,hc=>by
  refine Zt _ (wdb.mpr ⟨c,hc c (Zy ..),Zq.mpr ⟨l,?_,rfl⟩⟩);exact vO cs n l (by grind) λd hd=>hc d (Zt _ hd)
theorem nR{α β:Type}(f:α->List β)(b:Nat):∀(cs:List α),(∀c∈cs,(f c).length<=b)->(cs.flatMap f).length<=cs.length * b
 |[],_=>wa0 _
 |c :: cs,h=>by
  rw[wcZ,Zm,ZZ,Nat.succ_mul];have:=nR f b cs λd hd=>h d (Zt _ hd);have:=h c (Zy ..);omega
theorem lU(cs:List Nat)(h:cs.length<=4):∀n b g,(km cs n).length<=b->g=1 + 4 * b->(km cs (n + 1)).length<=g:=by
 intro n b g d a;unfold km;rw[ZZ];have e:=nR (λc=>(km cs n).map (c :: ·)) b cs λc _=>by grind
 have f:cs.length * b<=4 * b:=wcr _ h;omega
theorem KC(cs:List Nat)(h:cs.length<=4):(km cs 4).length<=341:=
 lU cs h 3 85 _ (lU cs h 2 21 _ (lU cs h 1 5 _ (lU cs h 0 1 _ (Zr 1) rfl) rfl) rfl) rfl
section
variable{κ:Type}[DecidableEq κ]
noncomputable def bump:List (κ×Int)->κ->Int->List (κ×Int)
 |[],k,v=>[(k,v)]
 |(j,u) :: m,k,v=>if j=k then(j,u + v) :: m else(j,u) :: bump m k v
theorem dE(k:κ)(v:Int):∀m:List (κ×Int),(bump m k v).map (·.1)=if k∈m.map (·.1) then m.map (·.1) else m.map (·.1)++[k]
 |[]=>rfl
 |(j,u) :: m=>by
  unfold bump
  by_cases h:j=k
  ·rw[if_pos h,if_pos (by grind)];rfl
  ·rw[if_neg h,ZK,dE k v m,ZK]
   by_cases a:k∈m.map (·.1)
   ·grind
   ·grind
end
end Bs
namespace Bs
open PySem L2 AC
variable{ws ss:List Str}
noncomputable def Fg(L:Nat)(r:Str):Str:=fZ r (r.length - (L - 1))
theorem HY(L:Nat)(r:Str):ch (Fg L r)=yJ (L - 1) (ch r):=by unfold Fg yJ;rw[rL,aV]
noncomputable def HZ(ws:List Str)(L:Nat)(e:Str)(v:Int)(m:List (Str×Int))(c:Nat):List (Str×Int):=if bears ws (e++⟨#[c]⟩)=true then m else bump m (Fg L (e++⟨#[c]⟩)) v
noncomputable def N6(g:Str)(ws:List Str)(L:Nat)(m:List (Str×Int))(p:Str×Int):List (Str×Int):=(ch g).foldl (HZ ws L p.1 p.2) m
noncomputable def N7(g:Str)(ws:List Str)(L:Nat)(hs:List (Str×Int)):List (Str×Int):=hs.foldl (N6 g ws L) []
noncomputable def Jo(g:Str)(ws:List Str)(L:Nat):Nat->List (Str×Int)
 |0=>[("",1)]
 |n + 1=>N7 g ws L (Jo g ws L n)
structure bZ(g:Str)(L:Nat)(m:List (Str×Int)):Prop where
 nd:(m.map (·.1)).Nodup
 sh:∀k∈m.map (·.1),(∀c∈ch k,c∈ch g)/\k.length<=L - 1
theorem bZ.nil(g:Str)(L:Nat):bZ g L []:=⟨wau,λk h=>nomatch h⟩
theorem bZ.bump(h:bZ g L m)(l:(∀c∈ch k,c∈ch g)/\k.length<=L - 1):bZ g L (bump m k v):=by
 by_cases d:k∈m.map (·.1)
 ·exact⟨by rw[dE,if_pos d];exact h.nd,by rw[dE,if_pos d];exact h.sh⟩
 ·refine⟨?_,?_⟩
  ·rw[dE,if_neg d];exact wbr.mpr ⟨h.nd,wa9.mpr ⟨λz=>(nomatch z),wau⟩,λa ha b e z=>d (by rw[<-ZC.mp e,<-z];exact ha)⟩
  ·rw[dE,if_neg d];intro j f;rcases ZL.mp f with z |z
   ·exact h.sh j z
   ·rw[ZC.mp z];exact l
theorem Dj(j:∀c∈ch e,c∈ch g)(hc:c∈ch g):(∀d∈ch (Fg L (e++⟨#[c]⟩)),d∈ch g)/\(Fg L (e++⟨#[c]⟩)).length<=L - 1:=by grind [aV,HY,Di,Dh,aN,wO]
theorem bZ.add(h:bZ g L m)(j:∀c∈ch e,c∈ch g)(hc:c∈ch g):bZ g L (HZ ws L e v m c):=by
 unfold HZ;split
 ·exact h
 ·exact h.bump (Dj j hc)
theorem bZ.fold(j:∀c∈ch e,c∈ch g):∀{cs:List Nat} {m:List (Str×Int)},bZ g L m->(∀c∈cs,c∈ch g)->bZ g L (cs.foldl (HZ ws L e v) m)
 |[],m,h,_=>h
 |c :: cs,m,h,hc=>bZ.fold (cs:=cs) j (h.add j (hc c (Zy ..))) λd hd=>hc d (Zt _ hd)
theorem bZ.steps:∀{hs m:List (Str×Int)},bZ g L m->(∀p∈hs,∀c∈ch p.1,c∈ch g)->bZ g L (hs.foldl (N6 g ws L) m)
 |[],m,h,_=>h
 |p :: hs,m,h,hc=>bZ.steps (hs:=hs) (bZ.fold (hc p (Zy ..)) h λc hc=>hc) λq a=>hc q (Zt _ a)
theorem bZ.here:∀n,bZ g L (Jo g ws L n)
 |0=>⟨wa9.mpr ⟨λz=>(nomatch z),wau⟩,λk a=>by
   rw[ZC.mp a]
   exact⟨λc hc=>(nomatch hc),wa0 _⟩⟩
 |n + 1=>bZ.steps (bZ.nil g L) λp b=>((bZ.here n).sh p.1 (Zq.mpr ⟨p,b,rfl⟩)).1
theorem bZ.len(h:bZ g L m)(j:g.length<=4)(o:L<=5):m.length<=341:=by
 have d:((m.map (·.1)).map ch).Nodup:=by
  refine wfT _ ?_ h.nd;intro a b c z;exact c (dn z)
 have e:=gY (l:=km (ch g) 4) d λk f=>by
  obtain⟨x,i,rfl⟩:=Zq.mp f;obtain⟨a,b⟩:=h.sh x i;exact vO _ _ _ (by rw[aV];omega) a
 have n:=KC (ch g) (by rw[aV];exact j);rw[Zf,Zf]at e;omega
noncomputable def bc(m:List (Str×Int)):List (Key×V):=m.map λp=>((ZQ p.1:Key),V.int p.2)
theorem iS(m:List (Str×Int)):(bc m).length=m.length:=Zf ..
noncomputable def kn:List (Str×Int)->Str->Option Int
 |[],_=>none
 |(j,u) :: m,k=>if j=k then some u else kn m k
theorem dF(k:Str):∀m:List (Str×Int),bu (bc m) (ZQ k:Key)=(kn m k).map V.int
 |[]=>rfl
 |(j,u) :: m=>by
  unfold kn
  by_cases h:j=k
  ·rw[if_pos h,h];exact bF rfl
  ·rw[if_neg h,<-dF k m];exact bG (λz=>h (wcb z))
theorem sH:∀{m:List (Str×Int)},k∉m.map (·.1)->kn m k=none
 |[],_=>rfl
 |(j,u) :: m,h=>by
  unfold kn;rw[if_neg (λz=>h (by rw[z];exact Zy ..))];exact sH λz=>h (Zt _ z)
end Bs
namespace L2
open PySem
theorem yK{R:It->Hp->Prop}(h:g d=some (.dK kvs)\/∃o,g d=some (.frz o (.dK kvs)))
 (k:∀o j,j d=some (.frz o (.dK kvs))->(∀c,c≠d->j c=g c)->R (HS d o kvs) j) :
 (g d=some (.dK kvs)/\∀o,R (HS d o kvs) (upd g d (.frz o (.dK kvs))))\/∃o,g d=some (.frz o (.dK kvs))/\R (HS d o kvs) g:=by
 rcases h with h |⟨o,h⟩
 ·exact .inl ⟨h,λo=>k o _ a6 λc hc=>ae hc⟩
 ·exact .inr ⟨o,h,k o _ h λc _=>rfl⟩
end L2
namespace Sx
open PySem L2 Bs
end Sx
namespace L2
open PySem PySem.Spec PyProof.Rows
def jm(K:Zh)(J:It)(l:Addr)(σf:St)(tt:TT)(te:TE)(H:Hp)(Q:Hp->Prop):Prop:=
 ∃W:Nat->Nat->List V->Hp->Prop,(∃m,W 0 m [] (upd H l (.lst [])))/\∀i m ys H2,W i m ys H2->H2 l=some (.lst ys) /\
  ((J.stop i H2/\Q H2)\/(J.go i H2/\ys.length < sizeLine/\∀x H3,J.ur i H2 x H3->∃p a b,x=.ref p/\ia K H3 p [a,b]/\tt (some a :: some b :: σf) H3 λok H4=>
    if ok=true then te (some a :: some b :: σf) H4 λy H5=>H5 l=some (.lst ys)/\∃m',m' < m/\W (i + 1) m' (ys++[y]) (upd H5 l (.lst (ys++[y])))
    else ∃m',m' < m/\W (i + 1) m' ys H4))
def KD(K:Zh)(wi:TI)(ix:List Nat)(tt:TT)(te:TE):TE:=λσ H Q=>wi σ H λJ H1=>∀l,H1 l=none->jm K J l (pick σ ix) tt te H1 (λH2=>Q (.ref l) H2)
section
variable{X:Cx}{pins:List (Addr×Obj)}{σ:St}{H:Hp}{s₂:Shared}{scope:wc3}{x x2:Str}{ys:List Str}{ix:List Nat}{cl:List (Str×Addr)}{fp:List Addr}{L:Addr}
theorem yL(hc:X.calm=true)(B:bE X scope x ys ix)(g:bE X scope x2 ys ix)(j:x≠x2)(cl L s H ex pn):PG (bb X scope ([x,x2]++ys) cl L s H ex pn) (.Tuple [.Name x o,.Name x2 l] p pt) (Eb X.K 2 (kc (eK 0) (kc (eK 1) Ea))):=by
 have c:(relabel scope X.env).names.lookup x=some .local:=wbo B.var;have a:(relabel scope X.env).names.lookup x2=some .local:=wbo g.var
 have b:(x :: x2 :: ys).Nodup:=by
  have:=B.nd;have:=g.nd
  grind
 exact eL hc (aS (j6 b rfl (.inl c) (.inr c)) (aS (j6 b rfl (.inl a) (.inr a)) d5))
theorem yM{K:Zh}{J:It}(h:jm K J l g j o H Q):vv (Eb K 2 (kc (eK 0) (kc (eK 1) Ea))) 2 J l g j o H Q:=
 let ⟨W,a,t⟩:=h
 ⟨W,a,λi m ys f w=>let ⟨p,q⟩:=t i m ys f w;⟨p,q.imp id λ⟨a,b,c⟩=>⟨a,b,λx k n u y=>by revert n;refine ib 2 _ ?_;exact λ_ _=>let ⟨p,v,d,e,r,s⟩:=c x k y;⟨p,[v,d],e,r,rfl,v,[d],rfl,d,[],rfl,rfl,⟨[some v,some d],rfl,rfl⟩,s⟩⟩⟩⟩
theorem eP(hc:X.calm=true)(B:bE X scope x ys ix)(T:bE X scope x2 ys ix)(g:x≠x2)(hi:PI X (.Tuple [.Name x U,.Name x2 j] kt pt) iter wi)
 (ht:∀cl L s H ex pn,GJ (bb X scope (x :: x2 :: ys) cl L s H ex pn) o r) (he:∀cl L s H ex pn,PE (bb X scope (x :: x2 :: ys) cl L s H ex pn) p I)
 (hs:∀v,wbc iter X.env v=pure v:=by intro _;rfl):PE X (.ListComp p [⟨.Tuple [.Name x U,.Name x2 j] kt pt,iter,o,0⟩] scope pos) (KD X.K wi ix r I):=
 sr (C:=λJ l a H Q=>jm X.K J l a r I H Q) (xs:=[x,x2]) hc B (yL hc B T g) (λ_ _ _ _ _=>yM) hi ht he hs
end
def ck(H:Hp)(rs:List Addr)(T6:List (List V)):Prop:=rs.length=T6.length/\∀(i:Nat) (r:Addr) (xs:List V),rs[i]?=some r->T6[i]?=some xs->H r=some (.tup xs)
theorem ck.nil(H:Hp):ck H [] []:=⟨rfl,λi r a h=>by simp at h⟩
theorem ck.keep(t:ck H j g)(k:∀r xs,H r=some (.tup xs)->l r=some (.tup xs)):ck l j g:=⟨t.1,λi r xs a b=>k _ _ (t.2 i r xs a b)⟩
theorem ck.same(t:ck H j g)(s:a8 H l):ck l j g:=t.keep λr a h=>s _ _ h
theorem ck.snoc(t:ck H g j)(h:H r=some (.tup xs)):ck H (g++[r]) (j++[xs]):=by
 refine⟨by rw[Zm,Zm,t.1];rfl,λi a b c d=>?_⟩
 by_cases hi:i < g.length
 ·rw[ZX hi]at c;rw[ZX (by rw[<-t.1];exact hi)]at d;exact t.2 i a b c d
 ·have e:i=g.length:=by
   have:=(Zn.mp c).1;rw[Zm,wbF]at this;omega
  subst e;rw[ZW (Zr _),wbg]at c;rw[ZW (by rw[t.1];exact Zr _),t.1,wbg]at d;cases c;cases d;exact h
theorem ck.mem(t:ck H j g)(h:r∈j):∃xs∈g,H r=some (.tup xs):=by
 obtain⟨i,hi,e⟩:=wcq.mp h;have a:i < g.length:=by rw[<-t.1];exact hi
 exact⟨g[i],ZV a,t.2 i r _ (by grind) (Zg a)⟩
noncomputable def jL(q:V×V):List V:=[q.1,q.2]
theorem n9{K:Zh}{J:It}{Ok:Hp->Prop}{j:List Addr}{prs:List (V×V)}{l:Addr}{I:St}{tt:TT}{te:TE}{H:Hp}{Q:Hp->Prop}(p:V×V->Bool)(g:V×V->V)(hJ:m9 J Ok (j.map V.ref))(hT:ck H j (prs.map jL))(hl:H l=none)(hz:j.length<=sizeLine)(T:∀r,a8 H r->Ok r)
 (ht:∀q C U,q∈prs->a8 H C->(∀r,a8 C r->U (p q) r)->tt (some q.1 :: some q.2 :: I) C U)
 (he:∀q C U,q∈prs->p q=true->a8 H C->(∀r,a8 C r->U (g q) r)->te (some q.1 :: some q.2 :: I) C U)
 (hd:∀r,a8 H r->r l=some (.lst ((prs.filter p).map g))->Q r):jm K J l I tt te H Q:=by
 have f:j.length=prs.length:=by rw[hT.1,Zf]
 refine⟨λi m s d=>m=j.length - i/\i<=j.length/\a8 H d/\d l=some (.lst s)/\s=((prs.take i).filter p).map g,⟨j.length,by simp,wa0 _,a8.upd hl,a6,by simp⟩,?_⟩;rintro i m s d ⟨rfl,hi,c,k,n⟩;refine⟨k,?_⟩
 by_cases a:i < j.length
 ·refine .inr ⟨hJ.go i d (T _ c) (by rw[Zf];exact a),?_,λx C y=>?_⟩
  ·rw[n,Zf];refine wap (wat _ _) ?_;rw[ZG];omega
  ·obtain⟨e,u⟩:=hJ.ur i d x C (T _ c) (by rw[Zf];exact a) y;subst e;have v:prs[i]?=some prs[i]:=Zg (by omega);have w:j[i]?=some j[i]:=Zg a;rw[Zi,w]at u;obtain rfl:V.ref j[i]=x:=Zx u;have mem:prs[i]∈prs:=ZV _;have z:prs.take (i + 1)=prs.take i++[prs[i]]:=by rw[wa7,v];rfl
   refine⟨j[i],prs[i].1,prs[i].2,rfl,ia.of (c _ _ (hT.2 i j[i] _ w (by rw[Zi,v];rfl))),ht prs[i] _ _ mem c λB h=>?_⟩
   cases t:p prs[i] with
   |false=>
    rw[if_neg ZF];refine⟨j.length - (i + 1),by omega,rfl,a,c.trans h,h _ _ k,?_⟩;rw[z,waE,n];simp[t]
   |true=>
    rw[if_pos rfl];refine he prs[i] _ _ mem t (c.trans h) λD A=>⟨A _ _ (h _ _ k),j.length - (i + 1),by omega,rfl,a,λb o e=>?_,a6,?_⟩
    ·rw[ae (af e hl)];exact A _ _ (h _ _ (c _ _ e))
    ·rw[z,waE,n];simp[t]
 ·have e:i=j.length:=by omega
  subst e;refine .inl ⟨?_,hd d c ?_⟩
  ·have:=hJ.stop d (T _ c);rwa[Zf]at this
  ·rw[k,n,f,ZU]
theorem Dk{K:Zh}{J:It}{Ok:Hp->Prop}{j:List Addr}{prs:List (V×V)}{l:Addr}{T:St}{tt:TT}{te:TE}{H:Hp}{Q:Hp->Prop}(p:V×V->Bool)(g:V×V->List V)(hJ:m9 J Ok (j.map V.ref))(hT:ck H j (prs.map jL))(hl:H l=none)(hz:j.length<=sizeLine)(U:∀C,a8 H C->Ok C)
 (ht:∀q I Q',q∈prs->a8 H I->(∀C,a8 I C->Q' (p q) C)->tt (some q.1 :: some q.2 :: T) I Q')
 (he:∀q I Q',q∈prs->p q=true->a8 H I->(∀r C,a8 I C->C r=some (.tup (g q))->Q' (.ref r) C)->te (some q.1 :: some q.2 :: T) I Q')
 (hd:∀ys C,a8 H C->C l=some (.lst (ys.map V.ref))->ck C ys ((prs.filter p).map g)->Q C):jm K J l T tt te H Q:=by
 have h:j.length=prs.length:=by rw[hT.1,Zf]
 refine⟨λi m A d=>m=j.length - i/\i<=j.length/\a8 H d/\∃ys:List Addr,A=ys.map V.ref/\d l=some (.lst (ys.map V.ref))/\ck d ys (((prs.take i).filter p).map g),⟨j.length,by simp,wa0 _,a8.upd hl,[],rfl,a6,by simpa using ck.nil _⟩,?_⟩;rintro i m A d ⟨rfl,hi,c,ys,rfl,k,n⟩;refine⟨k,?_⟩
 by_cases a:i < j.length
 ·refine .inr ⟨hJ.go i d (U _ c) (by rw[Zf];exact a),?_,λx I y=>?_⟩
  ·rw[Zf,n.1,Zf];refine wap (wat _ _) ?_;rw[ZG];omega
  ·obtain⟨e,B⟩:=hJ.ur i d x I (U _ c) (by rw[Zf];exact a) y;subst e;have D:prs[i]?=some prs[i]:=Zg (by omega);have E:j[i]?=some j[i]:=Zg a;rw[Zi,E]at B;obtain rfl:V.ref j[i]=x:=Zx B;have mem:prs[i]∈prs:=ZV _;have F:prs.take (i + 1)=prs.take i++[prs[i]]:=by rw[wa7,D];rfl
   refine⟨j[i],prs[i].1,prs[i].2,rfl,ia.of (c _ _ (hT.2 i j[i] _ E (by rw[Zi,D];rfl))),ht prs[i] _ _ mem c λL f=>?_⟩
   cases t:p prs[i] with
   |false=>
    rw[if_neg ZF];refine⟨j.length - (i + 1),by omega,rfl,a,c.trans f,ys,rfl,f _ _ k,?_⟩
    have e:((prs.take (i + 1)).filter p).map g=((prs.take i).filter p).map g:=by
     rw[F,waE];simp[t]
    rw[e];exact n.same f
   |true=>
    rw[if_pos rfl];refine he prs[i] _ _ mem t (c.trans f) λr M s u=>⟨s _ _ (f _ _ k),j.length - (i + 1),by omega,rfl,a,λb o e=>?_,ys++[r],by rw[ZB];rfl,by rw[a6,ZB];rfl,?_⟩
    ·rw[ae (af e hl)];exact s _ _ (f _ _ (c _ _ e))
    ·have e:((prs.take (i + 1)).filter p).map g=((prs.take i).filter p).map g++[g prs[i]]:=by
      rw[F,waE];simp[t]
     rw[e];have v:=s _ _ (f _ _ k);refine ck.keep ((n.same (f.trans s)).snoc u) λN G w=>?_;rw[ae (λz=>by rw[z,v]at w;cases w)];exact w
 ·have e:i=j.length:=by omega
  subst e;refine .inl ⟨?_,hd ys d c k ?_⟩
  ·have:=hJ.stop d (U _ c);rwa[Zf]at this
  ·rw[h,ZU]at n;exact n
theorem Rd.same(h:Rd H a u)(s:a8 H g):Rd g a u:=by
 rcases h with h |⟨o,h⟩
 ·exact .inl (s _ _ h)
 ·exact .inr ⟨o,s _ _ h⟩
theorem dQ.rd{H:Hp}{a:Addr}{kvs:List (Key×V)}{k:Key}(e:Rd H a (.dK kvs)):dQ H a (kV k) (bu kvs k):=.inl ⟨kvs,k,e,rfl,rfl⟩
def KG(tl:TE):TI:=λσ H R=>tl σ H λx H1=>∃d kvs,x=.ref d/\(H1 d=some (.dK kvs)\/∃o,H1 d=some (.frz o (.dK kvs)))/\∀o H',H' d=some (.frz o (.dK kvs))->(∀c,c≠d->H' c=H1 c)->R (HS d o kvs) H'
theorem yN{X:Cx}(hl:PE X l g)(p:∀{σ H} {Q o:VK},(∀x j,Q x j->o x j)->g σ H Q->g σ H o:=by intro _ _ _ _ h q;obtain⟨v,e,q⟩:=q;exact⟨v,e,h _ _ q⟩):PI X r l (KG g):=by
 intro c s σ H R I h;refine rM hl c s σ H R I (p (λx j q=>?_) h);obtain⟨d,f,e,a,b⟩:=q;exact⟨d,f,e,yK a b⟩
noncomputable def hitsD(kb ka:List (Key×V)):Bool:=ka.all λkv=>match bu kb kv.1 with
 |some y=>ph kv.2 y
 |none=>false
noncomputable def Qv(ka kb:List (Key×V)):Bool:=ka.length == kb.length && hitsD kb ka
noncomputable def sI(kvs:List (Key×V)):Bool:=kvs.all λkv=>cK kv.2
theorem Dl(h:sI kvs=true)(e:bu kvs k=some v):cK v=true:=by
 unfold bu at e
 cases q:kvs.find? λa=>decide (a.1=k) with
 |none=>rw[q]at e;cases e
 |some a=>
  rw[q]at e;have:=wa4.mp h a (List.mem_of_find?_eq_some q);cases e;exact this
section
variable{X:Cx}{A:Around}{s:Shared}
theorem sJ(o:KV g j)(r:sI g=true):∀{l:List (Key×V)} {C:List (Key×Value)},KV l C->sI l=true->wgp A s j C (hitsD g l)
 |_,_,.nil,_=>.nil
 |_,_,@Paired.cons _ _ _ p q ps d h t,c=>by
  obtain⟨k,v⟩:=p;obtain⟨f,u⟩:=q;obtain⟨i,m⟩:=h;obtain rfl:k=f:=i;have f1:cK v=true:=wa4.mp c (k,v) (Zy ..);have f2:sI ps=true:=wa4.mpr λz n=>wa4.mp c z (Zt _ n);have w:=sJ o r t f2;have a:=o.val k;unfold hitsD;rw[wdT];show wgp A s j ((k,u) :: d) ((match bu g k with |some y=>ph v y |none=>false) && _)
  cases e:bu g k with
  |none=>
   rw[e]at a
   cases b:valueAt j k with
   |none=>exact .miss b
   |some y=>rw[b]at a;exact waa a
  |some y=>
   rw[e]at a
   cases b:valueAt j k with
   |none=>rw[b]at a;exact waa a
   |some x=>
    rw[b]at a;exact .hit b (wH m a f1 (Dl r e)) w
inductive Qw(x y:V)(H:Hp)(Q:VK):Prop
 |mk (a b ka kb) (_:x=.ref a) (_:y=.ref b) (_:Rd H a (.dK ka)) (_:Rd H b (.dK kb)) (_:sI ka=true) (_:sI kb=true) (_:Q (.bl (Qv ka kb)) H)
theorem KH(g:X.A.units < wbT):m7 X (waI .Eq) Qw:=by
 intro c s σ H x y v u Q I f i h;obtain⟨a,b,r,t,rfl,rfl,ha,j,k,l,q⟩:=h;cases f;cases i;obtain⟨_,m,w,d,n⟩:=mh I.aZ ha;obtain⟨_,o,z,e,p⟩:=mh I.aZ j;refine PySem.W.keq_eq m o n p g (λ_=>sJ e l d k) ⟨.bl _,H,I,rfl,?_⟩;rw[<-d.length,<-e.length];exact q
end
end L2
namespace Bs
open PySem L2
noncomputable def pD(g:Str)(ws ss:List Str)(q:Str×Str):List (Str×Str):=(ch g).filterMap λc=>if bears ws (q.2++⟨#[c]⟩)=true then none else some (q.1++⟨#[c]⟩,lend ss (q.2++⟨#[c]⟩))
noncomputable def eQ(g:Str)(ws ss:List Str)(qs:List (Str×Str)):List (Str×Str):=qs.flatMap (pD g ws ss)
noncomputable def sL(g:Str)(ws ss:List Str)(p:Str):Nat->List (Str×Str)
 |0=>[("",p)]
 |n + 1=>eQ g ws ss (sL g ws ss p n)
noncomputable def aP(g:Str)(ws ss ls:List Str)(n:Nat)(p:Str):List (Str×Str):=(sL g ws ss p n).filter λq=>decide (q.2∈ls)
theorem Aw(g:Str)(ws ss:List Str)(q:Str×Str):(pD g ws ss q).length<=g.length:=by
 unfold pD;have:=wcP (λc=>if bears ws (q.2++⟨#[c]⟩)=true then none else some (q.1++(⟨#[c]⟩:Str),lend ss (q.2++(⟨#[c]⟩:Str)))) (ch g);rw[aV]at this;exact this
theorem qg(g:Str)(ws ss:List Str)(j:List (Str×Str)):(eQ g ws ss j).length<=j.length * g.length:=nR _ _ _ λq _=>Aw g ws ss q
theorem nT(g:Str)(ws ss:List Str)(p:Str):∀n,(sL g ws ss p n).length<=g.length ^ n
 |0=>Zr 1
 |n + 1=>ZE (qg g ws ss _) (by rw[Nat.pow_succ];exact wcr _ (nT g ws ss p n))
theorem Ax(j:("":Str)∈ss)(h:r∈pD g ws ss q):r.2∈ss/\r.1.length=q.1.length + 1:=by
 unfold pD at h;obtain⟨c,_,e⟩:=wcF.mp h;split at e
 ·cases e
 ·cases e;exact⟨nQ j _,len_app _ _⟩
theorem sM(j:("":Str)∈ss)(l:p∈ss):∀n,∀r∈sL g ws ss p n,r.2∈ss/\r.1.length=n
 |0,r,h=>by
  rw[ZC.mp h];exact⟨l,rfl⟩
 |n + 1,r,h=>by
  obtain⟨q,a,b⟩:=wdb.mp h;have:=Ax j b;have:=(sM j l n q a).2;exact⟨‹r.2∈ss/\_›.1,by omega⟩
theorem cR(h:r∈aP g ws ss ls n p):r.2∈ls:=of_decide_eq_true (ZO.mp h).2
theorem fB(g:Str)(ws ss ls:List Str)(n:Nat)(p:Str):(aP g ws ss ls n p).length<=g.length ^ n:=ZE (wat _ _) (nT g ws ss p n)
noncomputable def qh(q:Str×Str):List V:=[.str q.1,.str q.2]
noncomputable def nU(q:Str×Str):V×V:=(.str q.1,.str q.2)
theorem BX(g:List (Str×Str)):(g.map nU).map jL=g.map qh:=by
 rw[Zw];rfl
structure cS(H:Hp)(l:Addr)(rs:List Addr)(qs:List (Str×Str)):Prop where
 l:H l=some (.lst (rs.map V.ref))
 t:ck H rs (qs.map qh)
theorem cS.same{H g:Hp}{l:Addr}{j:List Addr}{o:List (Str×Str)}(r:cS H l j o)(s:a8 H g):cS g l j o:=⟨s _ _ r.l,r.t.same s⟩
theorem cS.len{H:Hp}{l:Addr}{g:List Addr}{j:List (Str×Str)}(r:cS H l g j):g.length=j.length:=by rw[r.t.1,Zf]
theorem cS.push{H:Hp}{l:Addr}{g:List Addr}{j:List (Str×Str)}(R:cS H l g j){r:Addr}(o:H r=none)(q:Str×Str):cS (upd (upd H r (.tup (qh q))) l (.lst (g.map V.ref++[.ref r]))) l (g++[r]) (j++[q]):=by
 have hl:(upd H r (.tup (qh q))) l=some (.lst (g.map V.ref)):=a8.upd o _ _ R.l;refine⟨by rw[a6,ZB];rfl,?_⟩;rw[ZB];refine ck.keep ((R.t.same (a8.upd o)).snoc a6) λa b h=>?_;rw[ae (λz=>by rw[z,hl]at h;cases h)];exact h
theorem cS.upd{H:Hp}{l:Addr}{g:List Addr}{j:List (Str×Str)}(R:cS H l g j){d:Addr}{kvs:List (Key×V)}{u:HO}(h:H d=some (.dK kvs)):cS (L2.upd H d u) l g j:=by
 refine⟨?_,R.t.keep λr a b=>?_⟩
 ·rw[ae (λz=>by have:=R.l;rw[z,h]at this;cases this)];exact R.l
 ·grind [ae]
theorem yO(ls:List Str)(g:List (Str×Str)):((g.map nU).filter λq=>nK q.2 (ls.map V.str)).map jL=(g.filter λq=>decide (q.2∈ls)).map qh:=by
 induction g with
 |nil=>rfl
 |cons q g a=>
  have e:nK (nU q).2 (ls.map V.str)=decide (q.2∈ls):=iN q.2 ls;rw[ZK]
  by_cases h:q.2∈ls
  ·rw[wah (by rw[e];exact decide_eq_true h),wah (by exact decide_eq_true h),ZK,ZK,a];rfl
  ·rw[waj (by rw[e];simpa using h),waj (by simpa using h),a]
noncomputable def gv(g:Str)(ws ss ls:List Str)(n:Nat)(f:Str->Int)(p:Str):Int:=((aP g ws ss ls n p).map λq=>f q.2).sum
def Fh(m:List (Str×Int))(ls:List Str)(f:Str->Int):Prop:=∀p∈ls,kn m p=some (f p)
theorem sN(m:List (Str×Int)):sI (bc m)=true:=wa4.mpr λa h=>by
 obtain⟨p,_,rfl⟩:=Zq.mp h;rfl
theorem pE(h:k∉m.map (·.1))(v:Int):putK (bc m) (ZQ k:Key) (.int v)=bc (m++[(k,v)]):=by
 rw[cF _ (by rw[dF,sH h];rfl)];unfold bc;rw[ZB];rfl
noncomputable def Qx(m:List (Str×Int))(p:Str):Int:=(kn m p).getD 0
theorem Ay(h:k∈m.map (·.1)):kn m k=some (Qx m k):=by
 unfold Qx
 induction m with
 |nil=>exact nomatch h
 |cons p m a=>
  obtain⟨j,u⟩:=p;unfold kn
  by_cases e:j=k
  ·grind
  ·grind
theorem Fh.of(h:m.map (·.1)=ls):Fh m ls (Qx m):=λp a=>Ay (by grind)
structure Az(H:Hp)(db:Addr)(o:Obj)(ev:List (Str×Addr))(Bf:Str->List (Str×Str))(ls:List Str):Prop where
 d:H db=some (.frz o (.dK (bC ev)))
 k:ev.map (·.1)=ls
 r:∀q∈ev,∃rs,cS H q.2 rs (Bf q.1)
 e:∀p,∀q∈Bf p,q.2∈ls
 n:∀p,(Bf p).length<=1000
 nd:ls.Nodup
 few:ls.length<=60
theorem Az.same{g:Str->List (Str×Str)}(b:Az H j o l g ls)(s:a8 H p):Az p j o l g ls:=
 ⟨s _ _ b.d,b.k,λq a=>let ⟨c,h⟩:=b.r q a;⟨c,h.same s⟩,b.e,b.n,b.nd,b.few⟩
theorem vP{f:Str->Int}:∀{os:List Str},k∈os->kn (os.map λp=>(p,f p)) k=some (f k)
 |[],h=>nomatch h
 |j :: os,h=>by
  show (if j=k then some (f j) else kn (os.map λp=>(p,f p)) k)=_
  by_cases e:j=k
  ·rw[if_pos e,e]
  ·rw[if_neg e];rcases ZT.mp h with z |z
   ·grind
   ·exact vP z
end Bs
namespace Sx
open PySem L2 Bs
inductive Qy(C:Addr)(vs:List V)(H:Hp)(Q:VK)(eA:XK):Prop
 |mk (x p g ws ss ls) (_:vs=[.ref x,.str p]) (_:aT C H x g ws ss ls) (_:p∈ls) (_:Q .non H)
inductive Fi(C:Addr)(vs:List V)(H:Hp)(Q:VK)(eA:XK):Prop
 |mk (x l rs qs g ws ss ls) (_:vs=[.ref x,.ref l]) (_:aT C H x g ws ss ls) (_:cS H l rs qs) (_:(∀q∈qs,q.2∈ss/\q.1.length<=100)) (_:qs.length<=100) (_:g.length<=10) (_:∀(l':Addr) (Qz:List Addr) (H':Hp),a8 H H'->H l'=none->cS H' l' Qz (eQ g ws ss qs)->Q (.ref l') H')
inductive Fj(C:Addr)(vs:List V)(H:Hp)(Q:VK)(eA:XK):Prop
 |mk (x:Addr) (p:Str) (n:Nat) (g:Str) (ws ss ls:List Str) (_:vs=[.ref x,.str p,.int (n:Int)]) (_:aT C H x g ws ss ls) (_:p∈ls) (_:g.length ^ n<=100) (_:n<=10) (_:2<=g.length) (_:g.length<=10) (_:∀(l':Addr) (Qz:List Addr) (H':Hp),a8 H H'->H l'=none->cS H' l' Qz (aP g ws ss ls n p)->Q (.ref l') H')
inductive yP(C:Addr)(vs:List V)(H:Hp)(Q:VK)(eA:XK):Prop
 |mk (x:Addr) (n:Nat) (g:Str) (ws ss ls:List Str) (_:vs=[.ref x,.int (n:Int)]) (_:aT C H x g ws ss ls) (_:g.length ^ n<=100) (_:n<=10) (_:2<=g.length) (_:g.length<=10) (_:ss.length<=900) (_:∀(d:Addr) (ev:List (Str×Addr)) (H':Hp),a8 H H'->H d=none->H' d=some (.dK (bC ev))->ev.map (·.1)=ls->(∀m∈ev,H' m.2=some (.lst (((aP g ws ss ls n m.1).map (·.2)).map V.str)))->(∀m∈ev,H m.2=none)->Q (.ref d) H')
inductive Fl(K:Zh)(vs:List V)(H:Hp)(Q:VK)(eA:XK):Prop
 |mk (l d es m f) (_:vs=[.ref l,.ref d]) (_:aI K H l (es.map V.str)) (_:es.length<=1000) (_:Rd H d (.dK (bc m))) (_:Fh m es f) (_:∀H',a8 H H'->Q (.int ((es.map f).sum)) H')
end Sx
namespace Bs
open PySem L2 AC
section
variable{g:Str}{ws ss ls:List Str}
theorem AA{α:Type}{a b:α->Int}:∀{l:List α},(∀x∈l,a x<=b x)->(l.map a).sum<=(l.map b).sum
 |[],_=>wcv _
 |x :: l,h=>by
  rw[ZK,ZK,waK,waK];exact Int.add_le_add (h x (Zy ..)) (AA λy c=>h y (Zt _ c))
theorem sO{α:Type}{a:α->Int}{l:List α}(h:∀x∈l,0<=a x):0<=(l.map a).sum:=by
 have:=AA (a:=λ_=>(0:Int)) (b:=a) h
 have e:∀l:List α,(l.map λ_=>(0:Int)).sum=0:=by
  intro l
  induction l with
  |nil=>rfl
  |cons x l c=>grind
 rw[e]at this;exact this
theorem KI(n:Nat):∀p,0<=gB g ws ss n p:=by
 induction n with
 |zero=>intro p;show (0:Int)<=1;decide
 |succ n a=>intro p;exact sO λe _=>a e
theorem nc(j:ss.Perm (bU ws "" ws))(hw:∀w∈ws,1<=w.length)(h:p∈ss):bears ws p=false/\lend ss p=p:=by
 have a:("":Str)∈ss:=j.mem_iff.mpr (cw ws);constructor
 ·rcases mem_keys.mp (j.mem_iff.mp h) with z |z
  ·have:p="":=dn (by rw[z];exact(jf rfl).symm);rw[this];exact vK hw
  ·exact(d1 ws p).mpr z.2
 ·refine dn ?_;rw[lS a];have b:N3 ss (ch p)=true:=ji.mpr h;exact F8 (iP _) (iQ b (wem _))
def E2(g:Str)(ws ss ls:List Str)(many:Int)(n:Nat)(f:Str->Int):Prop:=∀p∈ls,many * f p<=gv g ws ss ls n f p
noncomputable def c9(f:Str->Int)(ls:List Str):List (Str×Int):=ls.map λp=>(p,f p)
theorem pF(f:Str->Int)(ls:List Str):(c9 f ls).map (·.1)=ls:=by
 unfold c9;rw[Zw];exact List.map_id _
theorem jn(f:Str->Int)(ls:List Str):Fh (c9 f ls) ls f:=λp a=>vP a
theorem Jp{f h:Str->Int}:Qv (bc (c9 f ls)) (bc (c9 h ls))=true↔∀p∈ls,f p=h p:=by
 unfold Qv;rw[iS,iS];have e:(c9 f ls).length=(c9 h ls).length:=by unfold c9;rw[Zf,Zf]
 rw[e,beq_self_eq_true,wd6];unfold hitsD;rw[wa4];constructor
 ·intro q p a;have:=q ((ZQ p:Key),.int (f p)) (Zq.mpr ⟨(p,f p),Zq.mpr ⟨p,a,rfl⟩,rfl⟩);have this:(match bu (bc (c9 h ls)) (ZQ p:Key) with |some y=>ph (.int (f p)) y |none=>false)=true:=this;rw[dF,jn h ls p a]at this;have this:ph (.int (f p)) (.int (h p))=true:=this;unfold ph at this;simpa using this
 ·intro q d b;obtain⟨z,c,rfl⟩:=Zq.mp b;obtain⟨p,a,rfl⟩:=Zq.mp c;show (match bu (bc (c9 h ls)) (ZQ p:Key) with |some y=>ph (.int (f p)) y |none=>false)=true;rw[dF,jn h ls p a];show ph (.int (f p)) (.int (h p))=true;rw[q p a];unfold ph;simp
noncomputable def kq(g:Str)(ws ss ls:List Str)(many:Int)(n:Nat)(f:Str->Int)(p:Str):Int:=if gv g ws ss ls n f p / many < f p then gv g ws ss ls n f p / many else f p
theorem Fm{n:Nat}{f:Str->Int}(h:∀p∈ls,0<=f p)(p:Str):0<=gv g ws ss ls n f p:=sO λq a=>h _ (cR a)
theorem AB{f h:Str->Int}(e:∀p∈ls,f p<=h p)(p:Str):gv g ws ss ls n f p<=gv g ws ss ls n h p:=AA λq a=>e _ (cR a)
theorem Fn(many:Int)(n:Nat)(f:Str->Int)(p:Str):kq g ws ss ls many n f p<=f p:=by
 unfold kq;split <;> omega
theorem Fo{f:Str->Int}(j:2<=many)(h:∀p∈ls,0<=f p):∀p∈ls,0<=kq g ws ss ls many n f p:=λp a=>by
 have b:=wgq (Fm (g:=g) (ws:=ws) (ss:=ss) (n:=n) h p) (show 0<=many by omega);have c:=h p a;unfold kq;split <;> omega
theorem Dm{f h:Str->Int}(l:2<=many)(j:E2 g ws ss ls many n f)(e:∀p∈ls,f p<=h p):∀p∈ls,f p<=kq g ws ss ls many n h p:=λp a=>by
 have b:=j p a;have c:=AB (g:=g) (ws:=ws) (ss:=ss) (n:=n) e p;have d:f p<=gv g ws ss ls n h p / many:=(weU (by omega)).mpr (by grind);have i:=e p a;unfold kq;split <;> omega
theorem Ia{f:Str->Int}(j:2<=many)(e:∀p∈ls,kq g ws ss ls many n f p=f p):E2 g ws ss ls many n f:=λp a=>by
 have h:=e p a;unfold kq at h
 have b:f p<=gv g ws ss ls n f p / many:=by
  grind
 have:=(weU (show 0 < many by omega)).mp b;rw[Int.mul_comm]at this;exact this
theorem KJ{f:Str->Int}(j:2<=many)(o:∀p∈ls,0<=f p)(e:¬∀p∈ls,kq g ws ss ls many n f p=f p):(ls.map λp=>(kq g ws ss ls many n f p).toNat).sum < (ls.map λp=>(f p).toNat).sum:=by
 have b:∀p∈ls,kq g ws ss ls many n f p<=f p:=λp _=>Fn many n f p;have c:=Fo (g:=g) (ws:=ws) (ss:=ss) (n:=n) j o;generalize kq g ws ss ls many n f=h at e b c
 have key:∀l:List Str,(∀p∈l,h p<=f p/\0<=h p)->(l.map λp=>(h p).toNat).sum<=(l.map λp=>(f p).toNat).sum/\((∃p∈l,h p≠f p)->(l.map λp=>(h p).toNat).sum < (l.map λp=>(f p).toNat).sum):=by
  intro l
  induction l with
  |nil=>intro _;exact⟨Zr _,λ⟨p,a,_⟩=>nomatch a⟩
  |cons x l i=>
   intro hl;obtain⟨m,k⟩:=i λp a=>hl p (Zt _ a);obtain⟨r,s⟩:=hl x (Zy ..);rw[ZK,ZK,waK,waK];refine⟨by omega,λ⟨p,a,d⟩=>?_⟩;rcases ZT.mp a with z |z
   ·rw[z]at d;omega
   ·have:=k ⟨p,z,d⟩;omega
 refine(key ls λp a=>⟨b p a,c p a⟩).2 ?_;apply wea;intro q;exact e λp a=>wea λz=>q ⟨p,a,z⟩
end
end Bs
namespace Sx
open PySem L2 Bs
inductive Fp(C:Addr)(vs:List V)(H:Hp)(Q:VK)(eA:XK):Prop
 |mk (x p n g ws ss ls) (_:vs=[.ref x,.str p,.int n]) (_:aT C H x g ws ss ls) (_:p∈ss) (_:g.length<=10) (_:ss.length<=900) (_:0<=n) (_:n<=100000) (_:∀H',a8 H H'->Q (.int (gB g ws ss n.toNat p)) H')
inductive Dn(vs:List V)(H:Hp)(Q:VK)(eA:XK):Prop
 |mk (de dw many n o ev f g ws ss ls) (_:vs=[.ref de,.int many,.ref dw]) (_:H de=some (.frz o (.dK (bC ev)))) (_:ev.map (·.1)=ls) (_:(∀m∈ev,H m.2=some (.lst (((aP g ws ss ls n m.1).map (·.2)).map V.str)))) (_:g.length ^ n<=100) (_:ls.Nodup) (_:ls.length<=900) (_:2<=many) (_:many<=8) (_:Rd H dw (.dK (bc (c9 f ls)))) (_:∀(d:Addr) (H':Hp),a8 H H'->H d=none->H' d=some (.dK (bc (c9 (kq g ws ss ls many n f) ls)))->Q (.ref d) H')
structure gw(g:Str)(ws ss ls:List Str)(many:Int)(n:Nat)(most:Int)(f:Str->Int):Prop where
 nn:∀p∈ls,0<=f p
 le:∀p∈ls,f p<=most
 fit:E2 g ws ss ls many n f
 top:∀h:Str->Int,(∀p∈ls,h p<=most)->E2 g ws ss ls many n h->∀p∈ls,h p<=f p
inductive Ib(C:Addr)(vs:List V)(H:Hp)(Q:VK)(eA:XK):Prop
 |mk (x:Addr) (many:Int) (n:Nat) (most:Int) (g:Str) (ws ss ls:List Str) (_:vs=[.ref x,.int many,.int (n:Int),.int most]) (_:aT C H x g ws ss ls) (_:2<=g.length) (_:g.length<=10) (_:ss.length<=900) (_:fA g.length many n) (_:0<=most) (_:∀(d:Addr) (f:Str->Int) (H':Hp),a8 H H'->H d=none->H' d=some (.dK (bc (c9 f ls)))->gw g ws ss ls many n most f->Q (.ref d) H')
set_option genInjectivity true in
inductive LL(g:Str)(ws ss:List Str)(many:Int)(n:Nat)(most:Int):V->Prop where
 |some (k:Nat) (a:1<=k) (b:(k:Int)<=most) (c:gB g ws ss (k * n) "" < many ^ k) (d:∀j:Nat,1<=j->j < k->¬gB g ws ss (j * n) "" < many ^ j):LL g ws ss many n most (.int (k:Nat))
 |none (a:∀j:Nat,1<=j->(j:Int)<=most->¬gB g ws ss (j * n) "" < many ^ j):LL g ws ss many n most .non
inductive Dp(C:Addr)(vs:List V)(H:Hp)(Q:VK)(eA:XK):Prop
 |mk (x many wide most g ws ss ls) (_:vs=[.ref x,.int many,.int wide,.int most]) (_:aT C H x g ws ss ls) (_:g.length<=10) (_:ss.length<=900) (_:fA g.length many wide) (_:0<=most) (_:most<=100) (_:∀v H',a8 H H'->LL g ws ss many wide.toNat most v->Q v H')
end Sx
namespace Bs
open PySem L2
end Bs
namespace L2
open PySem PySem.Spec PyProof.Rows
section
variable{X:Cx}
theorem AD:di X (.type "dict") (λxs H Q=>∃d kvs,xs=[.ref d]/\Rd H d (.dK kvs)/\∀l,H l=none->Q (.ref l) (upd H l (.dK kvs))):=by
 intro a s σ H xs n Q I r h;obtain⟨d,kvs,rfl,hd,q⟩:=h;obtain⟨u,rfl,f⟩:=vals1 r;cases f;obtain⟨c,lo,g,rel,i⟩:=mh I.aZ hd;refine kt_call_dict (knd:=bg X.prog X.w) lo i (by rw[<-rel.length];exact c) λp j k=>?_;have m:=(si (P:=X.prog) (w:=X.w) (H:=H) s.heap I.big);refine⟨.ref s.heap.objs.size,upd H s.heap.objs.size (.dK kvs),I.laid (t':=s.toks) (λb o e=>?_) (Zr _) ⟨c,m.2.1,g,rel,j⟩,rfl,q _ (I.aZ.fresh (Zr _))⟩;exact k.extBut b o (ZJ (Zz e)) (Zo _ e)
end
end L2
namespace Bs
open PySem L2
end Bs
namespace Sx
open PySem L2 Bs
end Sx
namespace Bs
open PySem L2
section
variable{g:Str}{ws ss ls:List Str}
end
end Bs
namespace Sx
open PySem L2 Bs
section
variable{g:Str}{ws ss ls:List Str}{many T7 most Jq:Int}{n:Nat}{f f':Str->Int}
theorem gw.BZ(G:gw g ws ss ls many n most f)(j:gw g ws ss ls many n Jq f')(h:most<=Jq):∀p∈ls,f p<=f' p:=j.top f (λp a=>wcf (G.le p a) h) G.fit
theorem gw.one(G:gw g ws ss ls many n most f)(j:gw g ws ss ls many n most f'):∀p∈ls,f p=f' p:=λp a=>Int.le_antisymm (G.BZ j (wcv _) p a) (j.BZ G (wcv _) p a)
end
end Sx
namespace Bs
open PySem L2 AC
section
variable{g:Str}{ws ss:List Str}
theorem jo(r:Str):r++("":Str)=r:=dn (by rw[aN,jf (z:="") rfl,waf])
theorem C0(r:Str):("":Str)++r=r:=dn (by rw[aN,jf (z:="") rfl,wgr])
theorem eB(a b c:Str):a++b++c=a++(b++c):=by grind [dn,aN,waA]
noncomputable def KL(g:Str):Nat->List Str
 |0=>[""]
 |n + 1=>(ch g).flatMap λc=>(KL g n).map λr=>(⟨#[c]⟩:Str)++r
noncomputable def Ic(g:Str):Nat->List Str
 |0=>[""]
 |n + 1=>(Ic g n).flatMap λr=>(ch g).map λc=>r++(⟨#[c]⟩:Str)
theorem rN:∀n,Ic g n=KL g n
 |0=>rfl
 |1=>by
  show ([""]:List Str).flatMap (λr=>(ch g).map λc=>r++(⟨#[c]⟩:Str))=(ch g).flatMap λc=>([""]:List Str).map λr=>(⟨#[c]⟩:Str)++r;rw[List.flatMap_singleton]
  have:∀a:List Nat,(a.map λc=>("":Str)++(⟨#[c]⟩:Str))=a.flatMap λc=>([""]:List Str).map λr=>(⟨#[c]⟩:Str)++r:=by
   intro a
   induction a with
   |nil=>rfl
   |cons c a b=>
    grind [C0,jo]
  exact this _
 |n + 2=>by
  show (Ic g (n + 1)).flatMap (λr=>(ch g).map λc=>r++(⟨#[c]⟩:Str))=(ch g).flatMap λc=>(KL g (n + 1)).map λr=>(⟨#[c]⟩:Str)++r;rw[rN (n + 1)];show ((ch g).flatMap λc=>(KL g n).map λr=>(⟨#[c]⟩:Str)++r).flatMap (λr=>(ch g).map λc=>r++(⟨#[c]⟩:Str))=_;rw[List.flatMap_assoc];congr 1;funext c;rw[<-rN (n + 1)];show _=((Ic g n).flatMap λr=>(ch g).map λc=>r++(⟨#[c]⟩:Str)).map λr=>(⟨#[c]⟩:Str)++r;rw[rN n,List.map_flatMap,List.flatMap_map];congr 1;funext r;rw[Zw];refine wac λd _=>?_;exact eB _ _ _
theorem vQ(nd:(ch g).Nodup):∀n,(KL g n).Nodup
 |0=>wa9.mpr ⟨λz=>(nomatch z),wau⟩
 |n + 1=>by
  show ((ch g).flatMap λc=>(KL g n).map λr=>(⟨#[c]⟩:Str)++r).Nodup;have l:=vQ nd n
  have key:∀f:List Nat,f.Nodup->(f.flatMap λc=>(KL g n).map λr=>(⟨#[c]⟩:Str)++r).Nodup:=by
   intro f
   induction f with
   |nil=>intro _;exact wau
   |cons c f i=>
    intro hn;rw[wa9]at hn;rw[wcZ];refine wbr.mpr ⟨?_,i hn.2,λa ha b m z=>?_⟩
    ·refine wfT _ ?_ l;intro a b j z;have:=congrArg ch z;rw[aN,aN]at this;exact j (dn (List.append_cancel_left this))
    ·obtain⟨r,_,rfl⟩:=Zq.mp ha;obtain⟨d,hd,k⟩:=wdb.mp m;obtain⟨q,_,rfl⟩:=Zq.mp k;have:=congrArg ch z;rw[aN,aN,wO,wO]at this
     have e:c=d:=by
      have h:=this;rw[wf7,wf7]at h;exact(wfs h).1
     exact hn.1 (by rw[e];exact hd)
  exact key _ nd
end
end Bs
namespace L2
open PySem PySem.Spec PyProof.Rows
section
variable{X:Cx}
theorem Ie:Ot X .Add (λx y H Q=>∃i j,x=.str i/\y=.str j/\i.length + j.length<=sizeLine/\Q (.str (i++j)) H):=λa s σ H x y v u Q I b c h=>y8 a s σ H x y v u Q I b c h
end
end L2
namespace Bs
open PySem L2
end Bs
namespace Sx
open PySem L2 Bs
inductive Fq(K:Zh)(vs:List V)(H:Hp)(Q:VK)(eA:XK):Prop
 |mk (r a ws) (_:vs=[.str r,.ref a]) (_:aI K H a (ws.map V.str)) (_:ws.length<=1000) (_:∀H',a8 H H'->Q (.bl (!bears ws r)) H')
end Sx
namespace L2
open PySem PySem.Spec PyProof.Rows
section
variable{X:Cx}
def N8(i j:Int):Prop:=0 < j/\j.natAbs.log2 < 9000
theorem sP:m7 X (binaryOp .FloorDiv) (rI N8 λi j=>.int (i / j)):=Ow λi j _ _ _ _ _ hc q=>by
 have a:(0:Int) < j:=hc.1;exact floordiv_int (by omega) (by grind) (.inl (PyProof.noPylong_of_log2 hc.2))
end
theorem yQ(xs:List V)(k:Nat):iK xs (some (k:Int)) none=xs.drop k:=by
 unfold iK HT.xY;simp only;split
 ·omega
 ·by_cases h:k<=xs.length
  ·rw[show min ((k:Int)).toNat xs.length=k by omega];exact waN (by rw[waV];exact Zr _)
  ·rw[show min ((k:Int)).toNat xs.length=xs.length by omega,wbg,wf8,wd3 (by omega)]
theorem Ig(xs:List V){i j:Nat}(h:i<=j):iK xs (some (i:Int)) (some (j:Int))=(xs.drop i).take (j - i):=by
 unfold iK HT.xY;simp only;rw[if_neg (by omega),if_neg (by omega)]
 by_cases a:i<=xs.length
 ·by_cases b:j<=xs.length
  ·rw[show min ((i:Int)).toNat xs.length=i by omega,show min ((j:Int)).toNat xs.length=j by omega]
  ·rw[show min ((i:Int)).toNat xs.length=i by omega,show min ((j:Int)).toNat xs.length=xs.length by omega];rw[waN (by rw[waV];exact Zr _),waN (by rw[waV];omega)]
 ·rw[show min ((i:Int)).toNat xs.length=xs.length by omega,wd3 (Zr _),wd3 (by omega),List.take_nil,List.take_nil]
end L2
namespace Sx
open PySem L2 Bs
inductive Fs(vs:List V)(H:Hp)(Q:VK)(eA:XK):Prop
 |mk (c:Int) (m:Nat) (_:vs=[.int c,.int (m:Int)]) (_:m<=1000) (_:∀(l:Addr) (xs:List Int) (H':Hp),a8 H H'->H l=none->H' l=some (.lst (xs.map V.int))->xs.length=m->Q (.ref l) H')
inductive Ih(K:Zh)(vs:List V)(H:Hp)(Q:VK)(eA:XK):Prop
 |mk (a:Addr) (ns:List Int) (_:vs=[.ref a]) (_:aI K H a (ns.map V.int)) (_:∀(p lw:Addr) (g:Str) (ws:List Str) (H':Hp),a8 H H'->H p=none->H lw=none->H' p=some (.tup [.str g,.ref lw])->H' lw=some (.lst (ws.map V.str))->vC g->ws.length<=6->(∀w∈ws,wR g w)->Q (.ref p) H')
inductive Ii(K:Zh)(vs:List V)(H:Hp)(Q:VK)(eA:XK):Prop
 |mk (a:Addr) (ns:List Int) (g:Str) (_:vs=[.ref a,.str g]) (_:aI K H a (ns.map V.int)) (_:2<=g.length) (_:g.length<=4) (_:∀(p:Addr) (many wide:Int) (H':Hp),a8 H H'->H p=none->H' p=some (.tup [.int many,.int wide])->fA g.length many wide->Q (.ref p) H')
end Sx
namespace L2
open PySem PySem.Spec PyProof.Rows
section
variable{X:Cx}{tg:Expr}
end
end L2
namespace Bs
open PySem L2
section
variable{ws ss:List Str}
noncomputable def addQ(ws ss:List Str)(e:Str)(v:Int)(m:List (Str×Int))(c:Nat):List (Str×Int):=if bears ws (e++⟨#[c]⟩)=true then m else bump m (lend ss (e++⟨#[c]⟩)) v
noncomputable def N9(g:Str)(ws ss:List Str)(m:List (Str×Int))(p:Str×Int):List (Str×Int):=(ch g).foldl (addQ ws ss p.1 p.2) m
noncomputable def Jr(g:Str)(ws ss:List Str):Nat->List (Str×Int)
 |0=>[("",1)]
 |n + 1=>(Jr g ws ss n).foldl (N9 g ws ss) []
structure dq(ss:List Str)(m:List (Str×Int)):Prop where
 nd:(m.map (·.1)).Nodup
 sh:∀k∈m.map (·.1),k∈ss
theorem dq.nil:dq ss []:=⟨wau,λk h=>nomatch h⟩
theorem dq.bump(h:dq ss m)(g:k∈ss):dq ss (bump m k v):=by
 by_cases c:k∈m.map (·.1)
 ·exact⟨by rw[dE,if_pos c];exact h.nd,by rw[dE,if_pos c];exact h.sh⟩
 ·refine⟨?_,?_⟩
  ·rw[dE,if_neg c];exact wbr.mpr ⟨h.nd,wa9.mpr ⟨λz=>(nomatch z),wau⟩,λa ha b d z=>c (by rw[<-ZC.mp d,<-z];exact ha)⟩
  ·rw[dE,if_neg c];intro j e;rcases ZL.mp e with z |z
   ·exact h.sh j z
   ·rw[ZC.mp z];exact g
theorem dq.add(g:("":Str)∈ss)(h:dq ss m):dq ss (addQ ws ss e v m c):=by
 unfold addQ;split
 ·exact h
 ·exact h.bump (nQ g _)
theorem dq.fold(g:("":Str)∈ss):∀{cs:List Nat} {m:List (Str×Int)},dq ss m->dq ss (cs.foldl (addQ ws ss e v) m)
 |[],m,h=>h
 |c :: cs,m,h=>dq.fold (cs:=cs) g (h.add g)
theorem dq.steps(j:("":Str)∈ss):∀{hs m:List (Str×Int)},dq ss m->dq ss (hs.foldl (N9 g ws ss) m)
 |[],m,h=>h
 |p :: hs,m,h=>dq.steps (hs:=hs) j (dq.fold j h)
theorem dq.here(j:("":Str)∈ss):∀n,dq ss (Jr g ws ss n)
 |0=>⟨wa9.mpr ⟨λz=>(nomatch z),wau⟩,λk a=>by
   rw[ZC.mp a]
   exact j⟩
 |n + 1=>dq.steps j dq.nil
theorem dq.len(h:dq ss m):m.length<=ss.length:=by
 have:=gY h.nd h.sh;rw[Zf]at this;exact this
end
end Bs
namespace Sx
open PySem L2 Bs
end Sx
namespace L2
open PySem PySem.Spec PyProof.Rows
section
variable{M:Model}{A:Around}{E:Value->Shared->Prop}{e C CB:Addr}{nm q:Str}{N:Addr}{bs:List Value}{hdct:Bool}{sn:List Str}{sub:List Value}{ab:Bool}{col:Option Bool}{dd:Option Addr}{k0 k1 k2 k3 k5:Option Value}
theorem qi{h:Heap}{g:Array wcj}{d:Drawn}{t:Nat}{os:wb5}{o:Obj}{Q:Bool->Shared->Prop}(l:h.get? C=some (waJ nm q C N bs (n6 CB) hdct sn sub ab col dd k0 k1 k2 k3 k5 "ValueError.__new__"))
 (p:h.get? e=some o) (j:o.cls=.ref C) (r:Q true ⟨h,g,d,t,os⟩) :
 wpAny M A (wfk (.ref e) (.ref C)) Q E ⟨h,g,d,t,os⟩:=by
 have a:(ZD C :: n6 CB).contains (.type "BaseException")=true:=by grind
 have b:(ZD C :: n6 CB).contains (.ref C)=true:=by grind
 have f:=tc_notTuple;unfold wfk
 repeat (first |(with_reducible refine wal p ?_;rw[j]) |with_reducible refine wal l ?_ |(with_reducible refine wb3 l ?_;rw[b]) |(with_reducible refine wb3 l ?_;rw[a]) |wp_step)
 exact r
end
section
variable{X:Cx}{CB C:Addr}{Nb x nm:Str}{b:Bool}{body:List Stmt}{tb:Jn}{i jj:Nat}{p1 p2 p3 p4 Kx pos:Pos}
theorem Ft{X:Cx}{K:Zh}{o e:Expr}{l:List Expr}{to:TE}{t:TA}{name:Str}{apos g:Pos}{T id:String}{r:V->List V->Hp->VK->Prop}(hK:X.K=K)(pa:wff T)(slot:Slot T name id)(U:typeOf (.builtin id)=pure (.type "method_descriptor"))(hm:Jg X id r)(ho:PE X o to)(ha:PA X (e :: l) t)
 (p:wbH o name X.env (eval o X.env)=eval o X.env:=by rfl)
 (J:((backTo g (starEach (e :: l) X.env)).all (λx=>!x.1) && (backToKw g (wd1 [] X.env)).all (λx=>x.1.isSome)
   && decide ((e :: l).length + ([]:List wec).length + (if ([]:List wec).isEmpty then 0 else 1) < 30))=true:=by rfl)
 (I:(apos.endLine == g.line)=true:=by rfl) (hs:starEach (e :: l) X.env=(false,eval e X.env) :: starEach l X.env:=by rfl) (j:(backTo g (starEach l X.env)).any (·.1)=false:=by rfl) :
 PE X (.Call (.Attribute o name apos) (e :: l) [] g) (Su K T r to t):=by
 subst hK;exact iL pa slot U hm ho ha p J I hs j
end
end L2
namespace Bs
open PySem L2
section
variable{g:Str}{ws ss:List Str}
structure QA(g r r':Str)(k c d:Nat):Prop where
 eq:∀m,m < k->(ch r)[m]?=(ch r')[m]?
 hc:(ch r)[k]?=some c
 hd:(ch r')[k]?=some d
 lt:∃i j:Nat,(ch g)[i]?=some c/\(ch g)[j]?=some d/\i < j
theorem QA.cons(h:QA g r j k c d)(e:Nat):QA g ((⟨#[e]⟩:Str)++r) ((⟨#[e]⟩:Str)++j) (k + 1) c d:=by
 have a:∀z:Str,ch ((⟨#[e]⟩:Str)++z)=e :: ch z:=λz=>by rw[aN,wO];rfl
 refine⟨λm b=>?_,?_,?_,h.lt⟩
 ·rw[a,a]
  cases m with
  |zero=>rfl
  |succ m=>exact h.eq m (by omega)
 ·rw[a];exact h.hc
 ·rw[a];exact h.hd
structure eR(H:Hp)(de:Addr)(g:Str)(ws ss:List Str)(ev:List (Str×Addr)):Prop where
 at_:H de=some (.dK (bC ev))
 nd:(ev.map (·.1)).Nodup
 sh:∀k∈ev.map (·.1),k∈ss
 row:∀m∈ev,H m.2=some (.lst ((eO g ws ss m.1).map V.str))
theorem eR.ne(h:eR H o g ws ss j)(hd:H l=some (.dK p)):∀m∈j,m.2≠l:=by grind [cases eR]
theorem eR.len(h:eR H l g ws ss j):j.length<=ss.length:=by
 have:=gY h.nd h.sh;rw[Zf]at this;exact this
theorem eR.keep(h:eR H l g ws ss r)(hd:H p=some (.dK I))(j:l≠p)(k:∀c o,H c=some o->c≠p->C c=some o):eR C l g ws ss r:=
 ⟨k _ _ h.at_ j,h.nd,h.sh,λm a=>k _ _ (h.row m a) (h.ne hd m a)⟩
theorem eR.same(h:eR H j g ws ss l)(s:a8 H o):eR o j g ws ss l:=⟨s _ _ h.at_,h.nd,h.sh,λm a=>s _ _ (h.row m a)⟩
theorem eR.put(h:eR H j g ws ss l)(o:p∈ss)(hn:p∉l.map (·.1))(ha:H a=some (.lst ((eO g ws ss p).map V.str))):eR (upd H j (.dK (putK (bC l) (ZQ p:Key) (.ref a)))) j g ws ss (l++[(p,a)]):=by
 refine⟨?_,?_,?_,?_⟩
 ·rw[a6,cF _ (jg hn)];unfold bC;rw[ZB];rfl
 ·rw[ZB];exact wbr.mpr ⟨h.nd,wa9.mpr ⟨λz=>(nomatch z),wau⟩,λy d b f z=>hn (by have e:b=p:=ZC.mp f;rw[<-e,<-z];exact d)⟩
 ·intro k c;rw[ZB]at c;rcases ZL.mp c with z |z
  ·exact h.sh k z
  ·rw[ZC.mp z];exact o
 ·intro m i;rcases ZL.mp i with z |z
  ·rw[ae (h.ne h.at_ m z)];exact h.row m z
  ·have:m=(p,a):=by simpa using z
   subst this;have:a≠j:=λz=>by rw[z,h.at_]at ha;cases ha
   rw[ae this];exact ha
end
end Bs
namespace Sx
open PySem L2 Bs
end Sx
namespace L2
open PySem PySem.Spec PyProof.Rows
section
variable{prog:ZH}{w:World}{A:Around}{R:wc4->Shared->Prop}{s:Shared}{d it l t:Addr}{i:Nat}{items:Array Value}
end
section
variable{prog:ZH}{w:World}{K:Type}[DecidableEq K]{knd:KeyKind prog w K}{A:Around}{E:Value->Shared->Prop}{s:Shared}{l:Addr}{o:Obj}{items:Array Value}{n:Nat}
end
section
variable{X:Cx}{A:Around}{pins:List (Addr×Obj)}{σ:St}{H:Hp}{d it l:Addr}{ts:List Addr}{ps:List (Key×V)}{R:wc4->Shared->Prop}
end
end L2
namespace Bs
open PySem L2
end Bs
namespace Sx
open PySem L2 Bs
end Sx
namespace L2
open PySem PySem.Spec PyProof.Rows
section
variable{X:Cx}
end
end L2
namespace Bs
open PySem L2
section
variable{g:Str}{ws ss Vm:List Str}
end
noncomputable def isInt:V->Bool
 |.int _=>true
 |_=>false
end Bs
namespace Sx
open PySem L2 Bs
end Sx
namespace L2
open PySem PySem.Spec PyProof.Rows
noncomputable def rP:List Expr->Option (List Int)
 |[]=>some []
 |.Constant (.int i) _ _ :: es=>(rP es).map (i :: ·)
 |_ :: _=>none
def Js:List Int->TA
 |[]=>Ej
 |i :: is=>ya (tC (.int i)) (Js is)
theorem nV{X:Cx}:∀{g:List Expr} {is:List Int},rP g=some is->PA X g (Js is)
 |[],is,h=>by
  obtain rfl:[]=is:=Zx h;exact a9
 |e :: g,is,h=>by
  unfold rP at h;split at h
  ·rename_i heq;exact nomatch heq
  ·rename_i i j p a heq;cases heq
   cases q:rP g with
   |none=>rw[q]at h;cases h
   |some b=>
    rw[q]at h;obtain rfl:=Zx h;exact a5 ak (nV q)
  ·cases h
def sQ:List (Int×Int)->TA
 |[]=>Ej
 |p :: ps=>ya (Mv (ya (tC (.int p.1)) (ya (tC (.int p.2)) Ej))) (sQ ps)
theorem Ij{X:Cx}{ps:List (Int×Int)}(h:PA X g (sQ ps)):PA X (.Tuple [.Constant (.int i) l o,.Constant (.int j) p r] C pt :: g) (sQ ((i,j) :: ps)):=a5 (dj (a5 ak (a5 ak a9))) h
theorem C3{σ:St}:∀{ps:List (Int×Int)} {H Q},(∀g j,a8 H g->j.length=ps.length->(∀(i:Nat) p,ps[i]?=some p->∃q,j[i]?=some (.ref q)/\g q=some (.tup [.int p.1,.int p.2]))->Q j g)->sQ ps σ H Q
 |[],H,_,k=>k H [] (a8.refl _) rfl λ_ _ h=>nomatch h
 |_ :: _,_,_,k=>⟨(by show 2<=sizeLine;decide),λq f=>C3 λg j s e a=>k g (.ref q :: j) ((a8.upd f).trans s) (congrArg (· + 1) e) λ
  |0,_,h=>⟨q,rfl,by cases h;exact s _ _ a6⟩
  |i + 1,p,h=>a i p h⟩
set_option genInjectivity true in
inductive jM where
 |at (v:V)
 |tup (ds:List jM)
 |lst (ds:List jM)
noncomputable def KM:V->Bool
 |.non=>true
 |.bl _=>true
 |.int _=>true
 |.str _=>true
 |_=>false
mutual
def bh(K:Zh)(H:Hp):jM->V->Prop
 |.at x,v=>v=x/\KM x=true
 |.tup ds,v=>∃a xs,v=.ref a/\H a=some (.tup xs)/\b6 K H ds xs
 |.lst ds,v=>∃a xs,v=.ref a/\Rd H a (.lst xs)/\b6 K H ds xs
def b6(K:Zh)(H:Hp):List jM->List V->Prop
 |[],xs=>xs=[]
 |d :: ds,xs=>∃v vs,xs=v :: vs/\bh K H d v/\b6 K H ds vs
end
section
variable{K:Zh}{H:Hp}
end
section
variable{X:Cx}{pins:List (Addr×Obj)}{σ:St}{H:Hp}{s:Shared}
end
end L2
namespace L2
open PySem PySem.Spec PyProof.Rows Sx
section
variable{X:Cx}
end
end L2
namespace Bs
open PySem L2 AC
section
variable{g:Str}{ws ss ls:List Str}{p:Str}
noncomputable def jq(ws ss:List Str)(p:Str)(r:Str):Option (Str×Str):=if bears ws (p++r)=true then none else some (r,lend ss (p++r))
theorem Fu(h:bears ws (p++a)=true):jq ws ss p (a++c)=none:=by
 unfold jq;rw[if_pos]
 cases e:bears ws (p++(a++c)) with
 |true=>rfl
 |false=>
  have:=lT (a:=p++a) (b:=p++(a++c)) (by rw[<-eB,aN (p++a) c];exact⟨[],ch c,by simp⟩) e;rw[h]at this;cases this
theorem sR{α β:Type}{f:α->Option β}:∀{l:List α},(∀a∈l,f a=none)->l.filterMap f=[]:=by intro l;induction l <;> grind [Zy,Zt]
theorem vR(j:ss.Perm (bU ws "" ws))(hw:∀w∈ws,1<=w.length)(h:bears ws (p++r)=false):∀cs:List Nat,(cs.filterMap λc=>if bears ws (lend ss (p++r)++⟨#[c]⟩)=true then none else some (r++(⟨#[c]⟩:Str),lend ss (lend ss (p++r)++(⟨#[c]⟩:Str))))=(cs.map λc=>r++(⟨#[c]⟩:Str)).filterMap (jq ws ss p)
 |[]=>rfl
 |c :: cs=>by
  rw[ZK,waw,waw,vR j hw h cs]
  have e:(if bears ws (lend ss (p++r)++⟨#[c]⟩)=true then none else some (r++(⟨#[c]⟩:Str),lend ss (lend ss (p++r)++(⟨#[c]⟩:Str))))=jq ws ss p (r++⟨#[c]⟩):=by
   unfold jq;rw[n7 j h hw,pA j h,eB]
  rw[e]
theorem yR(j:ss.Perm (bU ws "" ws))(hw:∀w∈ws,1<=w.length):∀L:List Str,eQ g ws ss (L.filterMap (jq ws ss p))=(L.flatMap λr=>(ch g).map λc=>r++(⟨#[c]⟩:Str)).filterMap (jq ws ss p)
 |[]=>rfl
 |r :: L=>by
  rw[wcZ,wf9,<-yR j hw L,waw]
  cases h:bears ws (p++r) with
  |true=>
   have e:jq ws ss p r=none:=by unfold jq;rw[if_pos h]
   rw[e,sR (l:=(ch g).map λc=>r++(⟨#[c]⟩:Str)) λa ha=>by grind [Fu]];rfl
  |false=>
   have e:jq ws ss p r=some (r,lend ss (p++r)):=by unfold jq;rw[if_neg (by rw[h];exact ZF)]
   rw[e,<-vR j hw h];exact wcZ ..
theorem sS(l:ss.Perm (bU ws "" ws))(hw:∀w∈ws,1<=w.length)(j:p∈ss):∀n,sL g ws ss p n=(Ic g n).filterMap (jq ws ss p)
 |0=>by
  obtain⟨b,a⟩:=nc l hw j;show [(("":Str),p)]=[("":Str)].filterMap (jq ws ss p);have e:jq ws ss p ""=some (("":Str),p):=by unfold jq;rw[jo,a,if_neg (by grind)]
  rw[waw,e];rfl
 |n + 1=>by
  show eQ g ws ss (sL g ws ss p n)=((Ic g n).flatMap λr=>(ch g).map λc=>r++(⟨#[c]⟩:Str)).filterMap (jq ws ss p);rw[sS l hw j n,yR l hw]
noncomputable def Ik(ws ss ls:List Str)(p:Str)(r:Str):Option (Str×Str):=if bears ws (p++r)=true then none else if lend ss (p++r)∈ls then some (r,lend ss (p++r)) else none
theorem AF(l:ss.Perm (bU ws "" ws))(hw:∀w∈ws,1<=w.length)(j:p∈ss)(n:Nat):(Ic g n).filterMap (Ik ws ss ls p)=aP g ws ss ls n p:=by
 unfold aP;rw[sS l hw j]
 have:∀L:List Str,L.filterMap (Ik ws ss ls p)=(L.filterMap (jq ws ss p)).filter λq=>decide (q.2∈ls):=by
  intro L
  induction L with
  |nil=>rfl
  |cons r L a=>
   rw[waw,waw,a];unfold Ik jq
   cases h:bears ws (p++r) with
   |true=>rfl
   |false=>
    rw[if_neg ZF,if_neg ZF]
    by_cases hl:lend ss (p++r)∈ls
    ·rw[if_pos hl,wah (by exact decide_eq_true hl)]
    ·rw[if_neg hl,waj (by simpa using hl)]
 exact this _
end
end Bs
namespace L2
open PySem Bs
end L2
namespace Sx
open PySem L2 Bs
end Sx
namespace L2
open PySem PySem.Spec PyProof.Rows Sx
section
variable{X:Cx}
end
theorem b6.pG{K:Zh}{H:Hp}:∀(g:List jM) (ys:List V),g.length=ys.length->(∀(i:Nat) (d:jM) (y:V),g[i]?=some d->ys[i]?=some y->bh K H d y)->b6 K H g ys
 |[],[],_,_=>rfl
 |[],_ :: _,h,_=>by simp at h
 |_ :: _,[],h,_=>by simp at h
 |d :: g,y :: ys,h,r=>⟨y,ys,rfl,r 0 d y rfl rfl,b6.pG g ys (by simpa using h) λi a b c e=>r (i + 1) a b c e⟩
theorem yS{Ok:Hp->Prop}{Q:Hp->Prop}(R:Nat->V->Hp->Prop)(I:∀i y T g ys,R i y T->T l=some (.lst ys)->(∀b o,T b=some o->b≠l->g b=some o)->R i y g)(U:m9 J Ok xs)(hl:H l=none)(hz:xs.length<=sizeLine)(r:∀p,a8 H p->Ok p)
 (he:∀i x C ys Q',xs[i]?=some x->a8 H C->C l=some (.lst ys)->(∀y p,a8 C p->R i y p->Q' y p)->te (some x :: σf) C Q')
 (hd:∀ys p,a8 H p->p l=some (.lst ys)->ys.length=xs.length->(∀i y,ys[i]?=some y->R i y p)->Q p):ml J l σf uE te H Q:=by
 refine⟨λi m a g=>m=xs.length - i/\i<=xs.length/\a8 H g/\g l=some (.lst a)/\a.length=i/\∀j y,a[j]?=some y->R j y g,⟨xs.length,by simp,wa0 _,a8.upd hl,a6,rfl,λj y h=>by simp at h⟩,?_⟩;rintro i m a g ⟨rfl,hi,f,k,c,A⟩;refine⟨k,?_⟩
 by_cases d:i < xs.length
 ·refine .inr ⟨U.go i g (r _ f) d,by rw[c];omega,λx C y=>?_⟩;obtain⟨e,B⟩:=U.ur i g x C (r _ f) d y;subst e;unfold uE;dsimp only;rw[if_pos rfl];refine he i x _ a _ B f k λy s t u=>⟨t _ _ k,xs.length - (i + 1),by omega,rfl,d,λb o e=>?_,a6,by rw[Zm,c];rfl,λj z n=>?_⟩
  ·rw[ae (af e hl)];exact t _ _ (f _ _ e)
  ·have q:=t _ _ k;have kp:∀b o,s b=some o->b≠l->(upd s l (.lst (a++[y]))) b=some o:=λb o e D=>by rw[ae D];exact e
   by_cases v:j < a.length
   ·rw[ZX v]at n;exact I j z s _ _ (I j z _ _ _ (A j z n) k λb o e _=>t _ _ e) q kp
   ·rw[ZW (by omega)]at n
    have w:j - a.length=0:=by
     have:=(Zn.mp n).1;simp at this;omega
    rw[w]at n;cases n;have:j=i:=by omega
    rw[this];exact I i y s _ _ u q kp
 ·have e:i=xs.length:=by omega
  subst e;exact .inl ⟨U.stop g (r _ f),hd a g f k c A⟩
section
variable{X:Cx}
theorem Dq{K:Zh}(J:X.K=K):Jg X "list.index" (λx xs H Q=>∃l g k i,x=.ref l/\xs=[.str k]/\aI K H l (wcd V.str g)/\g.length<=1000/\g[i]?=some k/\(∀j:Nat,j < i->g[j]?≠some k)/\Q (.int (i:Nat)) H):=by
 subst J;intro A s σ H x xs v U Q I E G h;obtain⟨l,g,k,i,rfl,rfl,L,M,hi,f,q⟩:=h;cases E;obtain⟨u,rfl,N,rfl⟩:=G.one;obtain⟨a,B,pl,Y⟩:=I.list L;obtain⟨⟨cls,O,data,sl⟩,C,hc,n,hd⟩:=pl.isList;simp only at hc hd;subst hc hd;have c:=B.length;rw[Zf]at c;have P:i < g.length:=(Zn.mp hi).1
 have at_:∀m (b:m < a.length),∃t,a[m]=.str (g[m]'(by omega)) t:=λm b=>by
  obtain⟨w,D,R⟩:=B.get (i:=m) (x:=.str (g[m]'(by omega))) (by rw[Zi,Zg (by omega)];rfl);rw[Zg b]at D;obtain⟨t,rfl⟩:=R;exact⟨t,Zx D⟩
 refine wdr wbW ⟨_,C,rfl⟩ wen (web _ _)
  (weo l a.toArray n O sl (.str k N) (λw=>match w with |.str z _=>z == k |_=>false) i (by simp;omega) (by omega) ?_ ?_) ⟨C,λy S=>?_,?_⟩
 ·obtain⟨t,e⟩:=at_ i (by omega);have T:g[i]=k:=(Zn.mp hi).2;simp only[wcs];rw[e,T];simp
 ·intro m b o;have p:m < a.length:=by simpa using b
  obtain⟨t,e⟩:=at_ m p;simp only[wcs];rw[e];have d:=f m o;rw[Zg (by omega)]at d;simp only[beq_eq_false_iff_ne,ne_eq];exact λz=>d (by rw[z])
 ·have r:y∈a:=by simpa using S
  obtain⟨m,b,rfl⟩:=wb4 r;obtain⟨t,e⟩:=at_ m b;rw[e];exact wf3 _ _ _ _
 ·exact⟨.int (i:Nat),H,I.tok _,⟨_,rfl⟩,q⟩
end
end L2
namespace L2
open PySem PySem.Spec PyProof.Rows Sx Bs
theorem nW(s:a8 H g)(h:Rd H a o):Rd g a o:=by
 rcases h with e |⟨z,e⟩
 ·exact .inl (s _ _ e)
 ·exact .inr ⟨z,s _ _ e⟩
theorem a8.Il{K:Zh}{H g:Hp}{a:Addr}{xs:List V}(s:a8 H g)(h:ia K H a xs):ia K g a xs:=by
 rcases h with e |e
 ·exact .inl (nW s e)
 ·exact .inr e
mutual
theorem bh.same{K:Zh}{H g:Hp}(s:a8 H g):∀(d:jM) (v:V),bh K H d v->bh K g d v
 |.at _,_,h=>h
 |.tup c,_,h=>by
  obtain⟨a,b,e,f,hl⟩:=h;exact⟨a,b,e,s _ _ f,b6.same s c b hl⟩
 |.lst c,_,h=>by
  obtain⟨a,b,e,f,hl⟩:=h;exact⟨a,b,e,nW s f,b6.same s c b hl⟩
theorem b6.same{K:Zh}{H j:Hp}(s:a8 H j):∀(g:List jM) (xs:List V),b6 K H g xs->b6 K j g xs
 |[],_,h=>h
 |d :: g,_,h=>by
  obtain⟨v,a,e,b,hl⟩:=h;exact⟨v,a,e,bh.same s d v b,b6.same s g a hl⟩
end
theorem b6.len{K:Zh}{H:Hp}:∀{g:List jM} {xs:List V},b6 K H g xs->xs.length=g.length
 |[],xs,h=>by
  have e:xs=[]:=h;subst e;rfl
 |d :: g,_,h=>by
  obtain⟨v,a,rfl,_,hl⟩:=h;rw[ZZ,ZZ,b6.len hl]
theorem b6.get{K:Zh}{H:Hp}:∀{g:List jM} {xs:List V},b6 K H g xs->∀(i:Nat) (x:V),xs[i]?=some x->∃d,g[i]?=some d/\bh K H d x
 |[],_,h,i,x,e=>by
  rw[show _=[] from h]at e;simp at e
 |d :: g,_,h,i,x,e=>by
  obtain⟨v,a,rfl,b,hl⟩:=h
  cases i with
  |zero=>grind
  |succ i=>exact b6.get hl i x e
theorem b6.at{K:Zh}{H:Hp}{g:List jM}{xs:List V}(h:b6 K H g xs){i:Nat}{d:jM}(e:g[i]?=some d):∃x,xs[i]?=some x/\bh K H d x:=by
 have hi:i < g.length:=(Zn.mp e).1;have a:xs[i]?=some (xs[i]'(by rw[h.len];exact hi)):=Zg _;obtain⟨c,b,r⟩:=h.get i _ a;rw[e]at b;cases b;exact⟨_,a,r⟩
noncomputable def aF(H H':Hp):Hp:=λa=>match H a with
 |none=>H' a
 |some _=>none
theorem bj(H g:Hp):a8 (aF H g) g:=λa o e=>by
 grind [aF]
theorem dG(s:a8 g H):a8 (aF H j) (aF g j):=λa o e=>by
 unfold aF at e ⊢
 cases h:H a with
 |none=>rw[h]at e;rw[none_of s h];exact e
 |some z=>rw[h]at e;cases e
theorem gZ(s:a8 g j):a8 (aF H g) (aF H j):=by grind [a8,aF]
theorem bz(hl:H l=some o)(kp:∀b o,g b=some o->b≠l->j b=some o):a8 (aF H g) (aF H j):=by grind [a8,aF]
theorem bH(h:H a=none)(e:g a=some o):aF H g a=some o:=by
 grind [aF]
theorem sT{K:Zh}{J:It}{Ok:Hp->Prop}{xs:List V}{l:Addr}{C:St}{te:TE}{H:Hp}{Q:Hp->Prop}(p:List jM)(hJ:m9 J Ok xs)(hl:H l=none)(hz:xs.length<=sizeLine)(I:p.length=xs.length)(T:∀g,a8 H g->Ok g)
 (he:∀(i:Nat) (x:V) (d:jM) j U,xs[i]?=some x->p[i]?=some d->a8 H j->(∀y g,a8 j g->bh K (aF j g) d y->U y g)->te (some x :: C) j U)
 (hd:∀g,a8 H g->bh K (aF H g) (.lst p) (.ref l)->Q g):ml J l C uE te H Q:=by
 refine yS (λi y g=>∀d,p[i]?=some d->∃j o,a8 H j/\j l=some o/\bh K (aF j g) d y) ?_ hJ hl hz T (λi x j f U k b c m=>?_) (λf g h n e q=>?_)
 ·intro i y u v f r s kp d a;obtain⟨j,o,b,c,r⟩:=r d a;exact⟨j,o,b,c,bh.same (bz c kp) d y r⟩
 ·have hi:i < p.length:=by rw[I];exact(Zn.mp k).1
  refine he i x p[i] j _ k (Zg hi) b λy g h r=>m y g h λd a=>?_;rw[Zg hi]at a;cases a;exact⟨j,_,b,c,r⟩
 ·refine hd g h ⟨l,f,rfl,.inl (bH hl n),b6.pG p f (by rw[I,e]) λi d y a t=>?_⟩;obtain⟨j,o,b,c,r⟩:=q i y t d a;exact bh.same (dG b) d y r
theorem iT{K:Zh}{J:It}{Ok:Hp->Prop}{xs:List V}{prs:List (V×V)}{l:Addr}{T:St}{tt:TT}{te:TE}{H:Hp}{Q:Hp->Prop}(p:V×V->Bool)(D:V×V->jM)(hJ:m9 J Ok xs)(I:xs.length=prs.length)
 (hT:∀(i:Nat) (q:V×V),prs[i]?=some q->∃r,xs[i]?=some (.ref r)/\ia K H r [q.1,q.2]) (hl:H l=none) (hz:xs.length<=sizeLine) (U:∀C,a8 H C->Ok C)
 (ht:∀q g Q',q∈prs->a8 H g->(∀C,a8 g C->Q' (p q) C)->tt (some q.1 :: some q.2 :: T) g Q')
 (he:∀q g Q',q∈prs->p q=true->a8 H g->(∀y C,a8 g C->bh K (aF g C) (D q) y->Q' y C)->te (some q.1 :: some q.2 :: T) g Q')
 (hd:∀C,a8 H C->bh K (aF H C) (.lst ((prs.filter p).map D)) (.ref l)->Q C):jm K J l T tt te H Q:=by
 refine⟨λi m c s=>m=xs.length - i/\i<=xs.length/\a8 H s/\s l=some (.lst c)/\c.length=((prs.take i).filter p).length/\∀(j:Nat) (d:jM) (y:V),(((prs.take i).filter p).map D)[j]?=some d->c[j]?=some y->∃g o,a8 H g/\g l=some o/\bh K (aF g s) d y,
  ⟨xs.length,by simp,wa0 _,a8.upd hl,a6,by simp,λj d y h=>by simp at h⟩,?_⟩
 rintro i m c s ⟨rfl,hi,k,L,f,S⟩;refine⟨L,?_⟩
 by_cases n:i < xs.length
 ·have Y9:((prs.take i).filter p).length<=i:=ZE (wat _ _) (by rw[ZG];omega);refine .inr ⟨hJ.go i s (U _ k) n,by omega,λx g y=>?_⟩;obtain⟨e,hx⟩:=hJ.ur i s x g (U _ k) n y;subst e;have X:prs[i]?=some prs[i]:=Zg (by omega);obtain⟨r,w,hr⟩:=hT i _ X;rw[hx]at w;cases w;have mem:prs[i]∈prs:=ZV _;have Y:prs.take (i + 1)=prs.take i++[prs[i]]:=by rw[wa7,X];rfl
  refine⟨r,prs[i].1,prs[i].2,rfl,k.Il hr,ht prs[i] _ _ mem k λZ u=>?_⟩
  have A:∀(j:Nat) (d:jM) (y:V),(((prs.take i).filter p).map D)[j]?=some d->c[j]?=some y->∃g o,a8 H g/\g l=some o/\bh K (aF g Z) d y:=λj d y h1 h3=>by
   obtain⟨M,o,B,h5,N⟩:=S j d y h1 h3;exact⟨M,o,B,h5,bh.same (gZ u) d y N⟩
  cases O:p prs[i] with
  |false=>
   rw[if_neg ZF];have E:(prs.take (i + 1)).filter p=(prs.take i).filter p:=by rw[Y,waE];simp[O]
   exact⟨xs.length - (i + 1),by omega,rfl,n,k.trans u,u _ _ L,by rw[E];exact f,by rw[E];exact A⟩
  |true=>
   rw[if_pos rfl];have E:(prs.take (i + 1)).filter p=(prs.take i).filter p++[prs[i]]:=by rw[Y,waE];simp[O]
   have v:=u _ _ L;refine he prs[i] _ _ mem O (k.trans u) λy M B N=>⟨B _ _ v,xs.length - (i + 1),by omega,rfl,n,λb o e=>?_,a6,by rw[E,Zm,Zm,f];rfl,λj d z t a=>?_⟩
   ·rw[ae (af e hl)];exact B _ _ (u _ _ (k _ _ e))
   ·have kp:∀b o,M b=some o->b≠l->(upd M l (.lst (c++[y]))) b=some o:=λb o e hb=>by rw[ae hb];exact e
    rw[E,ZB]at t;have P:(((prs.take i).filter p).map D).length=c.length:=by rw[Zf,f]
    by_cases R:j < c.length
    ·rw[ZX (by omega)]at t;rw[ZX R]at a;obtain⟨H6,o,s6,h6,r6⟩:=A j d z t a;exact⟨H6,o,s6,h6,bh.same ((gZ B).trans (bz h6 kp)) d z r6⟩
    ·rw[ZW (by omega)]at t a
     have F:j - c.length=0:=by
      have:=(Zn.mp a).1;simp at this;omega
     rw[P,F]at t;rw[F]at a;cases t;cases a;exact⟨Z,_,k.trans u,v,bh.same (bz v kp) _ _ N⟩
 ·have e:i=xs.length:=by omega
  subst e;refine .inl ⟨hJ.stop s (U _ k),hd s k ⟨l,c,rfl,.inl (bH hl L),b6.pG _ c ?_ λj d y t hy=>?_⟩⟩
  ·rw[I,ZU]at f;rw[Zf,f]
  ·have G:=S j d y;rw[I,ZU]at G;obtain⟨g,o,s3,h3,r3⟩:=G t hy;exact bh.same (dG s3) d y r3
noncomputable def eS(H:Hp)(x:Addr):Hp:=λd=>if d=x then none else H d
theorem fC(h:H d=some o)(hd:d≠x):eS H x d=some o:=by
 unfold eS;rw[if_neg hd];exact h
theorem fP(kp:∀b o,H b=some o->b≠x->g b=some o):a8 (eS H x) g:=λd o e=>by
 unfold eS at e
 by_cases hd:d=x
 ·grind
 ·grind
theorem KN(j:H x=some (.ins C g fs))(h:Rd H d o)(l:∀z,o≠.ins C g z)(p:∀a b,HO.frz a b≠.ins C g fs):Rd (eS H x) d o:=by grind [Rd,eS,fC,Zx]
theorem wX{K:Zh}{H:Hp}{x C g:Addr}{fs:List (Str×V)}(j:H x=some (.ins C g fs)){d:Addr}{ys:List V}(h:aI K H d ys):aI K (eS H x) d ys:=by
 rcases h with(e |⟨o,e⟩) |e
 ·exact .inl (.inl (fC e λz=>by grind))
 ·exact .inl (.inr ⟨o,fC e λz=>by grind⟩)
 ·exact .inr e
mutual
theorem bh.off{K:Zh}{H:Hp}{x C j:Addr}{fs:List (Str×V)}(g:H x=some (.ins C j fs)):∀(d:jM) (v:V),bh K H d v->bh K (eS H x) d v
 |.at _,_,h=>h
 |.tup c,_,h=>by
  obtain⟨a,b,e,f,hl⟩:=h;exact⟨a,b,e,fC f (λz=>by grind),b6.off g c b hl⟩
 |.lst c,_,h=>by
  obtain⟨a,b,e,f,hl⟩:=h;exact⟨a,b,e,KN g f (λ_ z=>by cases z) (λ_ _ z=>by cases z),b6.off g c b hl⟩
theorem b6.off{K:Zh}{H:Hp}{x C l:Addr}{fs:List (Str×V)}(j:H x=some (.ins C l fs)):∀(g:List jM) (xs:List V),b6 K H g xs->b6 K (eS H x) g xs
 |[],_,h=>h
 |d :: g,_,h=>by
  obtain⟨v,a,e,b,hl⟩:=h;exact⟨v,a,e,bh.off j d v b,b6.off j g a hl⟩
end
theorem gK{K:Zh}{H:Hp}{d:jM}{v:V}:∀{g:List jM} {xs:List V},b6 K H g xs->bh K H d v->b6 K H (g++[d]) (xs++[v])
 |[],xs,h,r=>by
  have e:xs=[]:=h;subst e;exact⟨v,[],rfl,r,rfl⟩
 |c :: g,_,h,r=>by
  obtain⟨v0,a,rfl,b,hl⟩:=h;exact⟨v0,a++[v],rfl,b,gK hl r⟩
end L2
namespace Bs
open PySem L2 Sx
noncomputable def jN(q:Str×Nat):jM:=.tup [.at (.str q.1),.at (.int (q.2:Int))]
noncomputable def bI(qs:List (Str×Nat)):jM:=.lst (qs.map jN)
noncomputable def jr(lns:List (List (Str×Nat))):jM:=.lst (lns.map bI)
noncomputable def qj(hs:List Str):jM:=.lst (hs.map λh=>.at (.str h))
noncomputable def mn(ws:List Int):jM:=.lst (ws.map λw=>.at (.int w))
theorem Fv(h:bh K H (qj hs) v):∃a,v=.ref a/\aI K H a (hs.map V.str):=by
 obtain⟨a,b,rfl,f,hl⟩:=h;refine⟨a,rfl,?_⟩
 have:b=hs.map V.str:=by
  refine wfU λi=>?_
  cases e:b[i]? with
  |none=>
   have:=hl.len;rw[Zf]at this;rw[wfa (by rw[Zf];have:=wbK.mp e;omega)]
  |some x=>
   obtain⟨d,hd,r⟩:=hl.get i x e;rw[Zi]at hd ⊢
   cases c:hs[i]? with
   |none=>rw[c]at hd;cases hd
   |some z=>
    rw[c]at hd;cases hd;rw[r.1];rfl
 rw[<-this];exact .inl f
theorem hE(h:bh K H (mn ws) v):∃a,v=.ref a/\aI K H a (ws.map V.int):=by
 obtain⟨a,b,rfl,f,hl⟩:=h;refine⟨a,rfl,?_⟩
 have:b=ws.map V.int:=by
  refine wfU λi=>?_
  cases e:b[i]? with
  |none=>
   have:=hl.len;rw[Zf]at this;rw[wfa (by rw[Zf];have:=wbK.mp e;omega)]
  |some x=>
   obtain⟨d,hd,r⟩:=hl.get i x e;rw[Zi]at hd ⊢
   cases c:ws[i]? with
   |none=>rw[c]at hd;cases hd
   |some z=>
    rw[c]at hd;cases hd;rw[r.1];rfl
 rw[<-this];exact .inl f
theorem nX(h:H a=some (.lst (hs.map V.str))):bh K H (qj hs) (.ref a):=
 ⟨a,_,rfl,.inl h,b6.pG _ _ (by simp) λi d y hd b=>by
   rw[Zi]at hd b
   cases e:hs[i]? with
   |none=>rw[e]at hd;cases hd
   |some z=>rw[e]at hd b;cases hd;cases b;exact⟨rfl,rfl⟩⟩
theorem iU(h:H a=some (.lst (ws.map V.int))):bh K H (mn ws) (.ref a):=
 ⟨a,_,rfl,.inl h,b6.pG _ _ (by simp) λi d y hd b=>by
   rw[Zi]at hd b
   cases e:ws[i]? with
   |none=>rw[e]at hd;cases hd
   |some z=>rw[e]at hd b;cases hd;cases b;exact⟨rfl,rfl⟩⟩
noncomputable def dM(q:Str×Nat):V×V:=(.str q.1,.int (q.2:Int))
theorem js(h:bh K H (bI g) v):∃a xs,v=.ref a/\aI K H a xs/\xs.length=(g.map dM).length/\∀(i:Nat) (q:V×V),(g.map dM)[i]?=some q->∃r,xs[i]?=some (.ref r)/\H r=some (.tup [q.1,q.2]):=by
 obtain⟨a,xs,rfl,j,hl⟩:=h;refine⟨a,xs,rfl,.inl j,by rw[hl.len,Zf,Zf],λi q b=>?_⟩;rw[Zi]at b
 cases e:g[i]? with
 |none=>rw[e]at b;cases b
 |some z=>
  rw[e]at b;cases b;obtain⟨x,k,r⟩:=hl.at (i:=i) (d:=jN z) (by grind);obtain⟨l,p,rfl,f,m⟩:=r;obtain⟨v1,s,rfl,⟨rfl,_⟩,n⟩:=m;obtain⟨t,c,rfl,⟨rfl,_⟩,o⟩:=n;rw[show c=[] from o]at f;exact⟨l,k,f⟩
theorem kr(g:H r=none)(q:Str×Nat):bh K (aF H (upd H r (.tup [.str q.1,.int (q.2:Int)]))) (jN q) (.ref r):=
 ⟨r,_,rfl,bH g a6,.str q.1,[.int (q.2:Int)],rfl,⟨rfl,rfl⟩,.int (q.2:Int),[],rfl,⟨rfl,rfl⟩,rfl⟩
noncomputable def qk(a:Addr):List (Str×V):=[("homes",.ref a)]
noncomputable def nY(a b:Addr):List (Str×V):=[("homes",.ref a),("weights",.ref b)]
noncomputable def AG(a b c:Addr):List (Str×V):=[("homes",.ref a),("weights",.ref b),("lines",.ref c)]
theorem Jt(a:Addr):cq "homes" (.ref a) []=qk a:=rfl
theorem Fw(a b:Addr):cq "weights" (.ref b) (qk a)=nY a b:=by
 show (if ("homes":Str)="weights" then(("homes":Str),V.ref b) :: [] else(("homes":Str),V.ref a) :: cq "weights" (.ref b) [])=_;rw[if_neg (by decide+kernel)];rfl
theorem C4(a b c:Addr):cq "lines" (.ref c) (nY a b)=AG a b c:=by
 show (if ("homes":Str)="lines" then(("homes":Str),V.ref c) :: [(("weights":Str),V.ref b)] else(("homes":Str),V.ref a) :: (if ("weights":Str)="lines" then(("weights":Str),V.ref c) :: [] else(("weights":Str),V.ref b) :: cq "lines" (.ref c) []))=_;rw[if_neg (by decide+kernel),if_neg (by decide+kernel)];rfl
theorem eC(a b c:Addr):(AG a b c).lookup ("homes":Str)=some (.ref a):=by
 rw[<-C4,aC,if_neg (by decide+kernel),<-Fw,aC,if_neg (by decide+kernel),<-Jt,aC,if_pos rfl]
theorem cf(a b c:Addr):(AG a b c).lookup ("weights":Str)=some (.ref b):=by
 rw[<-C4,aC,if_neg (by decide+kernel),<-Fw,aC,if_pos rfl]
theorem bD(a b c:Addr):(AG a b c).lookup ("lines":Str)=some (.ref c):=by
 rw[<-C4,aC,if_pos rfl]
structure bM(K:Zh)(C:Addr)(H:Hp)(x:Addr)(hs:List Str)(ws:List Int)(lns:List (List (Str×Nat))):Prop where
 ex:∃dx a b c,H x=some (.ins C dx (AG a b c))/\bh K H (qj hs) (.ref a)/\bh K H (mn ws) (.ref b)/\bh K H (jr lns) (.ref c)
theorem bM.same(h:bM K C H x hs ws lns)(s:a8 H g):bM K C g x hs ws lns:=by
 obtain⟨d,a,b,c,e,f,i,j⟩:=h;exact⟨d,a,b,c,s _ _ e,bh.same s _ _ f,bh.same s _ _ i,bh.same s _ _ j⟩
end Bs
namespace Sx
open PySem L2 Bs
inductive Fx(K:Zh)(vs:List V)(H:Hp)(Q:VK)(eA:XK):Prop
 |mk (v qs) (_:vs=[v]) (_:bh K H (bI qs) v) (_:qs.length<=10000) (_:∀y H',a8 H H'->bh K (aF H H') (bI qs) y->Q y H')
inductive Fy(K:Zh)(C:Addr)(vs:List V)(H:Hp)(Q:VK)(eA:XK):Prop
 |mk (x dx u v w hs ws lns) (_:vs=[.ref x,u,v,w]) (_:H x=some (.ins C dx [])) (_:bh K H (qj hs) u) (_:bh K H (mn ws) v) (_:bh K H (jr lns) w) (_:hs.length<=10000) (_:ws.length<=10000) (_:lns.length<=10000) (_:(∀l∈lns,l.length<=10000)) (_:∀a b c H',H' x=some (.ins C dx (AG a b c))->bh K (aF H H') (qj hs) (.ref a)->bh K (aF H H') (mn ws) (.ref b)->bh K (aF H H') (jr lns) (.ref c)->(∀b o,H b=some o->b≠x->H' b=some o)->Q .non H')
end Sx
namespace Bs
open PySem L2 Sx
noncomputable def aq(ls:List Str)(f:Str->Int):List Str:=ls.filter λp=>decide (0 < f p)
noncomputable def fD(g:Str)(ws ss ls:List Str)(n:Nat)(hs:List Str)(p:Str):List (Str×Nat):=((aP g ws ss ls n p).filter λq=>decide (q.2∈hs)).map λq=>(q.1,hs.idxOf q.2)
noncomputable def bA(g:Str)(ws ss ls:List Str)(n:Nat)(hs:List Str):List (List (Str×Nat)):=hs.map (fD g ws ss ls n hs)
theorem AH(g:Str)(ws ss ls:List Str)(n:Nat)(hs:List Str)(p:Str):(fD g ws ss ls n hs p).length<=g.length ^ n:=by
 unfold fD;rw[Zf];exact ZE (wat _ _) (fB g ws ss ls n p)
theorem ql:∀{hs:List Str} {j:Nat} (h:j < hs.length),hs.idxOf hs[j]<=j
 |[],j,h=>absurd h (wcB _)
 |a :: hs,0,h=>by
  show (a :: hs).idxOf a<=0;rw[wfl];exact Zr 0
 |a :: hs,j + 1,h=>by
  have b:j < hs.length:=by simpa using h
  show (a :: hs).idxOf hs[j]<=j + 1;rw[wgs];have:=ql b
  cases(a == hs[j]) with
  |true=>grind
  |false=>grind
theorem pH{hs:List Str}{k:Str}(h:k∈hs):hs[hs.idxOf k]?=some k/\∀j:Nat,j < hs.idxOf k->hs[j]?≠some k:=by grind [Zg,Zx,ql]
end Bs
namespace Sx
open PySem L2 Bs
inductive Im(K:Zh)(C CS:Addr)(vs:List V)(H:Hp)(Q:VK)(eA:XK):Prop
 |mk (x d:Addr) (many:Int) (n:Nat) (m:List (Str×Int)) (f:Str->Int) (g:Str) (ws ss ls:List Str) (_:vs=[.ref x,.int many,.int (n:Int),.ref d]) (_:aT C H x g ws ss ls) (_:2<=g.length) (_:g.length<=10) (_:ss.length<=900) (_:fA g.length many n) (_:Rd H d (.dK (bc m))) (_:Fh m ls f) (_:∀(y:Addr) (H':Hp),a8 H H'->bM K CS (aF H H') y (aq ls f) ((aq ls f).map f) (bA g ws ss ls n (aq ls f))->Q (.ref y) H')
end Sx
namespace L2
open PySem PySem.Spec PyProof.Rows Sx
section
variable{X:Cx}
end
end L2
namespace L2
open PySem
theorem gQ.rd(h:Rd H a (.lst xs)):gQ K H (.ref a) (.type "list"):=by
 rcases h with e |⟨o,e⟩
 ·exact .lst e
 ·exact .frz e
end L2
namespace PySem
section
variable{P:ZH}{W0:World}{B:Around}{R:wc4->Shared->Prop}{I:Addr}{fp wr:List Addr}{n:Nat}{Pr:Nat->Value->Prop}{St:Nat->Heap->Prop}
theorem uH(W:Walks P W0 B.in1 I fp wr n Pr St)(bt:Nat->Nat->Bool)(cmp:CmpOf P W0 B.in1 .Gt Pr bt)(S:Addr)(nS:S∉fp)(kw:List (Str×Value)) :
 ∀(k j:Nat) (z:Shared) (best:Value) (c:Nat),n - (j + 1)=k->j + 1<=n->St (j + 1) z.heap->Pr (argBest bt j) best->z.heap.get? S=some {cls:=.type "list",dict:=none,data:=.seq #[best,best] c,slots:=#[]} ->
 (∀v h' tk,Pr (argBest bt (n - 1)) v->(∀b o,b∉wr->b≠S->z.heap.get? b=some o->h'.get? b=some o)->R (.ok (.ret v)) {z with heap:=h',toks:=tk}) ->
 codeAny (model P W0) B (.builtin "max.loop" ⟨[.ref I,.none,.ref S],kw⟩) R z:=by
 have OJ:S∉wr:=λh=>nS (W.sub _ h);have nm:(toString "max"++toString ".loop":String)="max.loop":=by decide
 intro k
 induction k with
 |zero=>
  intro j z best c hk hj st pb gS fin;have last:j + 1=n:=by omega
  refine waT wdc ?_;rw[waM wbb _];show wpAny _ B.in1 (wdg (.ref S) >>= _) _ _ z;refine Zk (wbQ gS rfl ?_);show wpAny _ B.in1 (tryCatch (pyNext (.ref I)) _ >>= _) _ _ z;refine Zk (waZ (W.done z _ _ (last ▸ st) λh' tk kp=>?_));have Ju:=kp S _ OJ gS;show wpAny _ B.in1 (wfK S (λ_=>#[]) >>= _) _ _ _;refine Zk (wc9 Ju rfl (Zk (wce (ZN ?_))));exact fin best _ tk (by rw[<-last];exact pb) λb o h1 h2 e=>(wa3 _ _ (waB h2)).trans (kp b o h1 e)
 |succ k ih=>
  intro j z best c hk hj st pb gS fin;have more:j + 1 < n:=by omega
  refine waT wdc ?_;rw[waM wbb _];show wpAny _ B.in1 (wdg (.ref S) >>= _) _ _ z;refine Zk (wbQ gS rfl ?_);show wpAny _ B.in1 (tryCatch (pyNext (.ref I)) _ >>= _) _ _ z;refine Zk (waZ (W.item (j + 1) z _ _ more st λv h' tk hP OM kp=>?_));have Ju:=kp S _ OJ gS;show wpAny _ B.in1 (tryCatch (holding [v,v] (richCompare .Gt v best >>= _)) _ >>= _) _ _ _;refine Zk (waZ (waG (Zk (cmp (j + 1) (argBest bt j) v best _ _ _ hP pb ?_))));refine Zk (waG (wb1 (Zk (wce (ZN ?_)))))
  cases hb:bt (j + 1) (argBest bt j) with
  |true=>
   simp only[if_true];refine Zk (wc9 Ju rfl (Zk (wce ?_)));rw[nm];refine ZN ⟨wbi wbb _,ih (j + 1) _ v _ (by omega) more (W.frame _ _ _ OM λb T8 o e=>?_) (by simp only[argBest,hb,if_true];exact hP) (waQ _ Ju rfl) λv' h2 Nc Jv Nf=>?_⟩
   ·exact(wa3 _ _ (λh:S=b=>nS (by rw[h];exact T8))).trans e
   ·exact fin v' h2 Nc Jv λb o h1 h3 e=>Nf b o h1 h3 ((wa3 _ _ (waB h3)).trans (kp b o h1 e))
  |false=>
   simp only[wb8,if_false];refine Zk (wce ?_);rw[nm];refine ZN ⟨wbi wbb _,ih (j + 1) _ best c (by omega) more OM (by simp only[argBest,hb,wb8,if_false];exact pb) Ju λv' h2 Nc Jv Nf=>?_⟩;exact fin v' h2 Nc Jv λb o h1 h3 e=>Nf b o h1 h3 (kp b o h1 e)
theorem sU(W:Walks P W0 B.in1 I fp wr n Pr St)(bt:Nat->Nat->Bool)(cmp:CmpOf P W0 B.in1 .Gt Pr bt)(S:Addr)(nS:S∉fp)(kw:List (Str×Value))(pos:0 < n)(st:St 0 z.heap)(gS:z.heap.get? S=some {cls:=.type "list",dict:=none,data:=.seq #[] c,slots:=#[]})
 (fin:∀v h' tk,Pr (argBest bt (n - 1)) v->(∀b o,b∉wr->b≠S->z.heap.get? b=some o->h'.get? b=some o)->R (.ok (.ret v)) {z with heap:=h',toks:=tk}):codeAny (model P W0) B (.builtin "max.loop" ⟨[.ref I,.none,.ref S],kw⟩) R z:=by
 have OJ:S∉wr:=λh=>nS (W.sub _ h);have nm:(toString "max"++toString ".loop":String)="max.loop":=by decide
 refine waT wdc ?_;rw[waM wbb _];show wpAny _ B.in1 (wdg (.ref S) >>= _) _ _ z;refine Zk (wbQ gS rfl ?_);show wpAny _ B.in1 (tryCatch (pyNext (.ref I)) _ >>= _) _ _ z;refine Zk (waZ (W.item 0 z _ _ pos st λv h' tk hP OM kp=>?_));have Ju:=kp S _ OJ gS;show wpAny _ B.in1 (wfK S (λ_=>#[v,v]) >>= _) _ _ _;refine Zk (wc9 Ju rfl ?_);rw[nm];refine ZN ⟨wbi wbb _,uH W bt cmp S nS kw _ 0 _ v _ rfl pos (W.frame _ _ _ OM λb T8 o e=>?_) hP (waQ _ Ju rfl) λv' h2 Nc Jv Nf=>?_⟩
 ·exact(wa3 _ _ (λh:S=b=>nS (by grind))).trans e
 ·exact fin v' h2 Nc Jv λb o h1 h3 e=>Nf b o h1 h3 ((wa3 _ _ (waB h3)).trans (kp b o h1 e))
theorem uI(W:Walks P W0 B.in1 I fp wr n Pr St)(S:Addr)(nS:S∉fp)(dv:Value)(Ng:n=0)(st:St 0 z.heap)(gS:z.heap.get? S=some {cls:=.type "list",dict:=none,data:=.seq #[] c,slots:=#[]})
 (fin:∀h' tk,(∀b o,b∉wr->b≠S->z.heap.get? b=some o->h'.get? b=some o)->R (.ok (.ret dv)) {z with heap:=h',toks:=tk}):codeAny (model P W0) B (.builtin "max.loop" ⟨[.ref I,.none,.ref S],[(wbp "default",dv)]⟩) R z:=by
 refine waT wdc ?_;rw[waM wbb _];show wpAny _ B.in1 (wdg (.ref S) >>= _) _ _ z;refine Zk (wbQ gS rfl ?_);show wpAny _ B.in1 (tryCatch (pyNext (.ref I)) _ >>= _) _ _ z;refine Zk (waZ (W.done z _ _ (Ng ▸ st) λh' tk kp=>?_));have done:=fin h' tk λb o h1 _ e=>kp b o h1 e
 wp_walk
 exact done
end
section
variable{P:ZH}{W0:World}{B:Around}{E:Value->Shared->Prop}{z:Shared}
theorem uJ(a v:Value):argsOk "max" ⟨[a],[(wbp "default",v)]⟩:=by unfold argsOk;kernel_rfl
theorem uK{Q:Value->Shared->Prop}(hh:B.handled=none)(il:z.heap.IsList l (intItems xs))
 (he:xs.size=0->∀h' tk,(∀b o,z.heap.get? b=some o->h'.get? b=some o)->Q dv {z with heap:=h',toks:=tk})
 (hn:0 < xs.size->∀v h' tk,(intItems xs)[argBest (λi j=>decide (numAt xs i > numAt xs j)) (xs.size - 1)]?=some v->(∀b o,z.heap.get? b=some o->h'.get? b=some o)->Q v {z with heap:=h',toks:=tk}) :
 wpAny (model P W0) B (call (.builtin "max") [.ref l] [(wbp "default",dv)]) Q E z:=by
 have nm:(toString "max"++toString ".loop":String)="max.loop":=by decide
 refine PyProof.Rows.kmk_tree F.kind_max F.plain_max F.entry_max (uJ _ _) ?_;show wpAny _ B.in1 (wbC "max" ["key","default"] 0 ⟨[],[(wbp "default",dv)]⟩ >>= _) _ _ z;refine Zk (wg6 (show wbC "max" ["key","default"] 0 ⟨[],[(wbp "default",dv)]⟩=pure [none,some dv] from rfl) ?_);refine Zk (ZN (Zk (iter_intList il λs₂ e st Vn Nh=>?_)));subst e;refine Zk (we2 ?_);rw[nm];have W:=we8 (prog:=P) (w:=W0) (A:=B.in1) hh z.heap.objs.size l Nh (intItems xs);have nS:(z.heap.push {cls:=.type "list_iterator",data:=.fields #[.ref l,.int 0 0]}).objs.size∉[z.heap.objs.size,l]:=λhm=>wax _ (Vn _ hm)
 have keep:∀{h':Heap},(∀b o,b∉[z.heap.objs.size]->b≠(z.heap.push {cls:=.type "list_iterator",data:=.fields #[.ref l,.int 0 0]}).objs.size->((z.heap.push {cls:=.type "list_iterator",data:=.fields #[.ref l,.int 0 0]}).push {cls:=.type "list",data:=.seq #[]}).get? b=some o->h'.get? b=some o)->∀b o,z.heap.get? b=some o->h'.get? b=some o:=λ{h'} hk b o e=>by
  have lt:=Zz e;refine hk b o (λhm=>?_) (λh=>?_) (Zo _ (Zo _ e))
  ·rw[ZC.mp hm]at lt;exact wax _ lt
  ·rw[waY]at h;rw[h]at lt;exact absurd (show z.heap.objs.size + 1 < z.heap.objs.size from lt) (by omega)
 by_cases h0:xs.size=0
 ·refine ZN ⟨wbi wbb _,uI W _ nS dv (by simp[intItems,h0]) (W.frame _ _ _ st λb _ o e=>Zo _ e) (ZP _ rfl) λh' tk hk=>?_⟩;exact he h0 h' tk (keep hk)
 ·refine ZN ⟨wbi wbb _,sU W _ (CmpOf.ints_gt (numAt xs) (λ_ _=>wg5)) _ nS _ (by simp[intItems];omega) (W.frame _ _ _ st λb _ o e=>Zo _ e) (ZP _ rfl) λv h' tk hP hk=>?_⟩;exact hn (by omega) v h' tk (by simpa [intItems] using hP) (keep hk)
end
end PySem
namespace L2
open PySem PySem.Spec PyProof.Rows Sx
section
variable{X:Cx}{e e2:Expr}{te t2:TE}{p kp pos:Pos}
theorem Dr(hc:X.calm=true)(I:Inv X g σ H s)(l:RelV (.int d) v)(o:aI X.K H a (wcd V.int ns))(C:ns=[]->Q (.int d) H)(J:∀M,M∈ns->(∀a∈ns,a<=M)->Q (.int M) H) :
 wpAny (model X.prog X.w) X.A (call (.builtin "max") [.ref a] [(wbp "default",v)]) (EP X g σ Q) X.xe s:=by
 obtain⟨f,r,pl,x⟩:=I.list o;obtain⟨c,e,rfl⟩:=jl r
 have hl:s.heap.IsList a (intItems c.toArray):=by
  have:intItems c.toArray=f.toArray:=by rw[e];unfold intItems;simp
  rw[this];exact pl.isList
 refine uK (I.ok.hd hc) hl (λh k m i=>?_) (λh y k m n i=>?_)
 ·have:c=[]:=by
   rw[ZR]at h;exact waC h
  subst this;exact⟨.int d,H,I.kept i,l,C rfl⟩
 ·obtain⟨t,rfl⟩:=wg5 n;obtain⟨z,p⟩:=argBest_gt (numAt c.toArray) (c.toArray.size - 1);refine⟨.int _,H,I.kept i,⟨t,rfl⟩,J _ ?_ λb q=>?_⟩
  ·rw[numAt_eq];exact getD_mem (by rw[Zf];simp only[ZR]at *;omega)
  ·obtain⟨j,u,rfl⟩:=mem_getD q;rw[Zf]at u;have:=p j (by simp only[ZR]at *;omega);rw[numAt_eq]at this;exact this
end
section
variable{X:Cx}{e e2:Expr}{t:TA}{t2:TE}{p kp pos:Pos}
def Ni(K:Zh)(t:TA)(t2:TE):TE:=λσ H Q=>t σ H λvs H1=>t2 σ H1 λy H2=>∃a ns d,vs=[.ref a]/\y=.int d/\aI K H2 a (wcd V.int ns)/\(ns=[]->Q (.int d) H2)/\(∀M,M∈ns->(∀a∈ns,a<=M)->Q (.int M) H2)
theorem Io(hc:X.calm=true)(g:Gl X "max")(j:X.mg "max"=none)(ha:PA X [e] t)(hd:PE X e2 t2)(hs:starEach [e] X.env=[(false,eval e X.env)]:=by rfl):PE X (.Call (.Name "max" p) [e] [⟨some "default",e2,kp⟩] pos) (Ni X.K t t2):=by
 intro b s σ H Q I h;refine waL (iB I g j (show wa8 "max"=some (.builtin "max") from Fa) ?_ (by decide) (by decide));refine wep (bS (ha pos b s σ H _ I h) λz c ⟨A,f,i,k,l⟩=>?_) (by rw[hs];rfl) (by rw[hs];rfl);refine wdh (bS (hd b c σ f _ i l) λv B ⟨y,C,m,n,o⟩=>wdx ?_);obtain⟨a,ns,d,rfl,rfl,q,r,w⟩:=o;obtain⟨u,rfl,x⟩:=vals1 k;cases x;exact Dr hc m n q r w
end
end L2
namespace L2
open PySem PySem.Spec PyProof.Rows Sx Bs
def Ip(K:Zh)(wi:TI)(ix:List Nat)(tt:TT)(te:TE)(i:Nat):TS:=λD σ H=>wi σ H λJ H1=>∀l,H1 l=none->jm K J l (pick σ ix) tt te H1 (λH2=>D.nx (σ.set i (some (.ref l))) H2)
section
variable{X:Cx}{scope:wc3}{x x2:Str}{ys:List Str}{ix:List Nat}
theorem qm(hc:X.calm=true)(B:bE X scope x ys ix)(hN:X.N.Nodup)(hy:X.N[i]?=some y)(r:X.env.scope.names.lookup y=some .local)(B2:bE X scope x2 ys ix)(I:x≠x2)(hi:PI X (.Tuple [.Name x U,.Name x2 g] kt pt) iter wi)
 (ht:∀cl L s H ex pn,GJ (bb X scope (x :: x2 :: ys) cl L s H ex pn) j tt) (he:∀cl L s H ex pn,PE (bb X scope (x :: x2 :: ys) cl L s H ex pn) o te)
 (T:wbd (.ListComp o [⟨.Tuple [.Name x U,.Name x2 g] kt pt,iter,j,0⟩] scope pos) (some (.Name y py)) p.line X.env=pure true:=by rfl)
 (hs:∀v,wbc iter X.env v=pure v:=by intro _;rfl):PS X (.Assign [.Name y py] (.ListComp o [⟨.Tuple [.Name x U,.Name x2 g] kt pt,iter,j,0⟩] scope pos) p) (Ip X.K wi ix tt te i):=
 qa (C:=λJ l a H Q=>jm X.K J l a tt te H Q) (xs:=[x,x2]) hc B hN hy r (yL hc B B2 I) (λ_ _ _ _ _=>yM) hi ht he T hs
inductive Nj(x y:V)(H:Hp)(Q:VK):Prop
 |mk (l b xs zs) (_:x=.ref l) (_:y=.ref b) (_:Rd H l (.lst xs)) (_:Rd H b (.lst zs)) (_:xs.length + zs.length<=sizeLine) (_:∀p,H p=none->Q (.ref p) (upd H p (.lst (xs++zs))))
theorem wY:m7 X (binaryOp .Add) Nj:=by
 intro d s σ H x y v u Q I g i h;obtain⟨l,b,t,w,rfl,rfl,j,k,A,q⟩:=h;cases g;cases i;obtain⟨z,c,n,r,e⟩:=j.ok I.aZ;obtain⟨B,a,C,f,m⟩:=k.ok I.aZ;have hl:=r.length;have o:=f.length;refine wg9 e m ?_ (by grind);have p:c.toArray++a.toArray=(c++a).toArray:=by simp
 rw[p];exact⟨.ref _,_,I.K9 (t':=s.toks) (r.append f) (by grind),rfl,q _ I.fresh⟩
theorem uL{K:Zh}(g:X.K=K):di X (.type "list") (λxs H Q=>∃p ys,xs=[.ref p]/\(aI K H p ys\/ia K H p ys)/\∀l,H l=none->Q (.ref l) (upd H l (.lst ys))):=by
 subst g;exact dC
end
noncomputable def b4{α:Type}(p:Nat->Bool):Nat->List α->List α
 |_,[]=>[]
 |i,x :: xs=>if p i then x :: b4 p (i + 1) xs else b4 p (i + 1) xs
theorem ng{α:Type}(p:Nat->Bool)(x:α):∀(k:Nat) (xs:List α),b4 p k (xs++[x])=b4 p k xs++(if p (k + xs.length) then[x] else[])
 |k,[]=>by
  show (if p k then x :: [] else[])=[]++_;rw[wgr];rfl
 |k,y :: xs=>by
  have e:k + (y :: xs).length=k + 1 + xs.length:=by grind
  rw[e];show (if p k then y :: b4 p (k + 1) (xs++[x]) else b4 p (k + 1) (xs++[x]))=(if p k then y :: b4 p (k + 1) xs else b4 p (k + 1) xs)++_;rw[ng p x (k + 1) xs];cases p k <;> rfl
theorem lV{α:Type}(p:Nat->Bool):∀(k:Nat) (xs:List α),(b4 p k xs).length<=xs.length
 |_,[]=>Zr _
 |k,x :: xs=>by
  have:=lV p (k + 1) xs;show (if p k then x :: b4 p (k + 1) xs else b4 p (k + 1) xs).length<=xs.length + 1
  cases p k with
  |true=>grind
  |false=>grind
theorem vS{α β:Type}(f:α->β)(p:Nat->Bool):∀(k:Nat) (xs:List α),b4 p k (xs.map f)=(b4 p k xs).map f
 |_,[]=>rfl
 |k,x :: xs=>by
  show (if p k then f x :: b4 p (k + 1) (xs.map f) else b4 p (k + 1) (xs.map f))=(if p k then x :: b4 p (k + 1) xs else b4 p (k + 1) xs).map f;rw[vS f p (k + 1) xs];cases p k <;> rfl
theorem pI{α:Type}(p:Nat->Bool):∀(k:Nat) (xs:List α),(b4 p k xs).Sublist xs
 |_,[]=>we5 _
 |k,x :: xs=>by
  show (if p k then x :: b4 p (k + 1) xs else b4 p (k + 1) xs).Sublist (x :: xs)
  cases p k with
  |true=>exact(pI p (k + 1) xs).cons₂ x
  |false=>exact(pI p (k + 1) xs).cons x
theorem gL{α:Type}{p:Nat->Bool}{k:Nat}{xs:List α}{x:α}(h:x∈b4 p k xs):x∈xs:=(pI p k xs).subset h
theorem b6.pick{K:Zh}{H:Hp}(p:Nat->Bool):∀(k:Nat) (g:List jM) (xs:List V),b6 K H g xs->b6 K H (b4 p k g) (b4 p k xs)
 |_,[],xs,h=>by
  have e:xs=[]:=h;subst e;rfl
 |k,d :: g,_,h=>by
  obtain⟨v,a,rfl,c,hl⟩:=h;have b:=b6.pick p (k + 1) g a hl;show b6 K H (if p k then d :: b4 p (k + 1) g else b4 p (k + 1) g) (if p k then v :: b4 p (k + 1) a else b4 p (k + 1) a)
  cases p k with
  |true=>exact⟨v,_,rfl,c,b⟩
  |false=>exact b
theorem b6.set{K:Zh}{H:Hp}{d:jM}{v:V}:∀{g:List jM} {xs:List V},b6 K H g xs->∀i:Nat,bh K H d v->b6 K H (g.set i d) (xs.set i v)
 |[],xs,h,i,r=>by
  have e:xs=[]:=h;subst e;exact h
 |c :: g,_,h,0,r=>by
  obtain⟨v0,a,rfl,b,hl⟩:=h;exact⟨v,a,rfl,r,hl⟩
 |c :: g,_,h,i + 1,r=>by
  obtain⟨v0,a,rfl,b,hl⟩:=h;exact⟨v0,a.set i v,rfl,b,b6.set hl i r⟩
theorem vT{K:Zh}{a l:Addr}{xs:List V}{r:St}{J:TT}{U:TE}{H:Hp}{Q:Hp->Prop}(p:Nat->Bool)(I:aI K H a xs)(hl:H l=none)(hz:xs.length<=sizeLine)
 (ht:∀(i:Nat) (x:V) j C,xs[i]?=some x->a8 H j->(∀g,a8 j g->C (p i) g)->J (some (.int (i:Nat)) :: some x :: r) j C)
 (he:∀(i:Nat) (x:V) j C,xs[i]?=some x->a8 H j->(∀g,a8 j g->C x g)->U (some (.int (i:Nat)) :: some x :: r) j C)
 (hd:∀g,a8 H g->g l=some (.lst (b4 p 0 xs))->Q g):jm K (LI K a) l r J U H Q:=by
 refine⟨λi m t f=>m=xs.length - i/\i<=xs.length/\a8 H f/\f l=some (.lst t)/\t=b4 p 0 (xs.take i),⟨xs.length,by simp,wa0 _,a8.upd hl,a6,rfl⟩,?_⟩;rintro i m t f ⟨rfl,hi,c,u,k⟩;refine⟨u,?_⟩
 by_cases d:i < xs.length
 ·refine .inr ⟨⟨xs,xs[i],c.seq I,Zg d⟩,?_,λx j y=>?_⟩
  ·rw[k];refine wap (lV p 0 _) ?_;rw[ZG];omega
  ·obtain⟨T,h,D,E,F,y⟩:=y;subst E F;have v:xs[i]?=some h:=y xs (c.seq I);have n:a8 f (upd f T (.tup [.int (i:Nat),h])):=a8.upd D;have w:xs.take (i + 1)=xs.take i++[h]:=by rw[wa7,v];rfl
   have q:(xs.take i).length=i:=by rw[ZG];omega
   refine⟨T,.int (i:Nat),h,rfl,ia.of a6,ht i h _ _ v (c.trans n) λG s=>?_⟩;have z:=s _ _ (n _ _ u)
   cases A:p i with
   |false=>
    rw[if_neg ZF];exact⟨xs.length - (i + 1),by omega,rfl,d,(c.trans n).trans s,z,by rw[w,ng,q,wfL,A,if_neg ZF,waf];exact k⟩
   |true=>
    rw[if_pos rfl];refine he i h _ _ v ((c.trans n).trans s) λL B=>⟨B _ _ z,xs.length - (i + 1),by omega,rfl,d,λb o e=>?_,a6,?_⟩
    ·rw[ae (af e hl)];exact B _ _ (s _ _ (n _ _ (c _ _ e)))
    ·rw[w,ng,q,wfL,A,if_pos rfl,k]
 ·have e:i=xs.length:=by omega
  subst e;rw[ZU]at k;exact .inl ⟨⟨xs,c.seq I,Zr _⟩,hd f c (by rw[u,k])⟩
theorem KO(xs:List V)(k:Nat)(h:k<=xs.length):iK xs none (some (k:Int))=xs.take k:=by simp_all [iK,HT.xY,if_neg]
theorem sV(y:Int)(ns:List Int):nK (.int y) (ns.map V.int)=decide (y∈ns):=by
 unfold nK;rw[wdw]
 induction ns with
 |nil=>rfl
 |cons a l b=>
  rw[wbY,b];show ((a == y) ||decide (y∈l))=decide (y∈a :: l)
  by_cases e:a=y
  ·subst e;simp
  ·grind
theorem fE(ns:List Int):(ns.map V.int).all cK=true:=by grind [cK]
end L2
namespace Bs
open PySem L2 Sx
noncomputable def dU(i:Int)(n:Nat):Bool:=decide (0<=i) && decide (i < (n:Int))
noncomputable def aY(ws:List Int)(qs:List (Str×Nat)):Int:=(qs.map λq=>ws.getD q.2 0).sum
noncomputable def dP(ws:List Int)(many:Int)(qs:List (Str×Nat))(w:Int):Bool:=!qs.isEmpty && (decide (1<=w) && decide (many * w<=aY ws qs))
noncomputable def b0{α:Type}(ns:List Int)(l:List α):List α:=b4 (λi=>decide ((i:Int)∈ns)) 0 l
noncomputable def aX{α:Type}(ns:List Int)(l:List α):List α:=b4 (λi=>!decide ((i:Int)∈ns)) 0 l
noncomputable def eT(d t:Nat)(l:List (Str×Nat)):List (Str×Nat):=l.flatMap λq=>if q.2=d then[q,(q.1,t)] else[q]
noncomputable def d8(ws:List Int)(lns:List (List (Str×Nat)))(many rk:Int)(ns:List Int)(w:Int):Bool:=
 dU rk lns.length && (ns.all (λi=>dU i (lns.getD rk.toNat []).length) && (dP ws many (b0 ns (lns.getD rk.toNat [])) w && dP ws many (aX ns (lns.getD rk.toNat [])) (ws.getD rk.toNat 0 - w)))
noncomputable def cT(hs:List Str)(d:Nat):List Str:=hs++[hs.getD d ""]
noncomputable def bV(ws:List Int)(d:Nat)(w:Int):List Int:=(ws++[ws.getD d 0 - w]).set d w
noncomputable def hF(lns:List (List (Str×Nat)))(d:Nat)(ns:List Int):List (List (Str×Nat)):=((lns++[aX ns (lns.getD d [])]).set d (b0 ns (lns.getD d []))).map (eT d lns.length)
theorem pJ(d t:Nat):∀l:List (Str×Nat),(eT d t l).length<=2 * l.length
 |[]=>Zr _
 |q :: l=>by
  have:=pJ d t l;show ((if q.2=d then[q,(q.1,t)] else[q])++eT d t l).length<=2 * (l.length + 1);rw[Zm];split
  ·grind
  ·grind
theorem sW(d t:Nat)(l:List (Str×Nat))(q:Str×Nat):eT d t (l++[q])=eT d t l++(if q.2=d then[q,(q.1,t)] else[q]):=by simp_all [eT,wfy,congr,waf]
theorem yT(p:Nat->Bool)(h:b6 K H (g.map jN) xs):b6 K H ((b4 p 0 g).map jN) (b4 p 0 xs):=by
 rw[<-vS];exact h.pick p 0 _ _
theorem wZ{α:Type}{K:Zh}{H:Hp}(f:α->V):∀(g:List α) (xs:List V),b6 K H (g.map λz=>jM.at (f z)) xs->xs=g.map f
 |[],xs,h=>h
 |z :: g,_,h=>by
  obtain⟨v,a,rfl,⟨rfl,_⟩,hl⟩:=h;rw[wZ f g a hl];rfl
theorem x9(h:bh K H (qj hs) (.ref a)):Rd H a (.lst (hs.map V.str)):=by
 obtain⟨d,b,e,c,hl⟩:=h;cases e;rwa[wZ V.str hs b hl]at c
theorem Iq(h:bh K H (mn ws) (.ref a)):Rd H a (.lst (ws.map V.int)):=by
 obtain⟨d,b,e,c,hl⟩:=h;cases e;rwa[wZ V.int ws b hl]at c
theorem dH(h:bh K H (bI j) v):∃a l,v=.ref a/\aI K H a (l.map V.ref)/\ck H l ((j.map dM).map jL):=by
 obtain⟨a,d,rfl,n,b,k⟩:=js h
 have ex:d=(d.map λv=>match v with |.ref r=>r |_=>0).map V.ref:=by
  rw[Zw];refine(wcQ d).symm.trans (wac λv o=>?_);obtain⟨i,hi,rfl⟩:=wb4 o;obtain⟨r,m,_⟩:=k i _ (Zg (by rw[<-b];exact hi));rw[Zg hi]at m;rw[Zx m];rfl
 refine⟨a,_,rfl,by rw[<-ex];exact n,by rw[Zf,Zf,b],λi r s f c=>?_⟩;rw[Zi]at f c
 cases e:(j.map dM)[i]? with
 |none=>rw[e]at c;cases c
 |some q=>
  rw[e]at c;cases c;obtain⟨t,g,p⟩:=k i q e;rw[g]at f;cases f;exact p
structure Jw(hs:List Str)(ws:List Int)(lns:List (List (Str×Nat))):Prop where
 w:ws.length=hs.length
 l:lns.length=hs.length
 e:∀l∈lns,∀q∈l,q.2 < hs.length
 n:hs.length<=1000
 m:∀l∈lns,l.length<=5000
end Bs
namespace Sx
open PySem L2 Bs
inductive Ir(K:Zh)(vs:List V)(H:Hp)(Q:VK)(eA:XK):Prop
 |mk (i a xs) (_:vs=[.int i,.ref a]) (_:aI K H a xs) (_:Q (.bl (dU i xs.length)) H)
inductive KP(K:Zh)(CS CN:Addr)(vs:List V)(H:Hp)(Q:VK)(E:XK):Prop
 |mk (x many v w hs ws lns qs) (_:vs=[.ref x,.int many,v,.int w]) (_:bM K CS H x hs ws lns) (_:bh K H (bI qs) v) (_:qs.length<=10000) (_:(∀q∈qs,q.2 < ws.length)) (_:0<=many) (_:many<=1000) (_:((dP ws many qs w=true/\∀H',a8 H H'->Q .non H')\/(dP ws many qs w=false/\∀H',a8 H H'->E (.ref CN) none H')))
inductive Iu(K:Zh)(vs:List V)(H:Hp)(Q:VK)(eA:XK):Prop
 |mk (v:V) (d t:Nat) (qs:List (Str×Nat)) (_:vs=[v,.int (d:Int),.int (t:Int)]) (_:bh K H (bI qs) v) (_:qs.length<=5000) (_:∀y H',a8 H H'->bh K (aF H H') (bI (eT d t qs)) y->Q y H')
inductive Iv(K:Zh)(CS CN:Addr)(vs:List V)(H:Hp)(Q:VK)(E:XK):Prop
 |mk (x a many rk w ns hs ws lns) (_:vs=[.ref x,.int many,.int rk,.ref a,.int w]) (_:bM K CS H x hs ws lns) (_:aI K H a (ns.map V.int)) (_:ns.length<=10000) (_:Jw hs ws lns) (_:0<=many) (_:many<=1000) (_:((d8 ws lns many rk ns w=true/\∀y H',a8 H H'->bM K CS (aF H H') y (cT hs rk.toNat) (bV ws rk.toNat w) (hF lns rk.toNat ns)->Q (.ref y) H')\/(d8 ws lns many rk ns w=false/\∀H',a8 H H'->E (.ref CN) none H')))
end Sx
namespace L2
open PySem PySem.Spec PyProof.Rows Sx Bs
section
variable{X:Cx}
end
end L2
namespace Bs
open PySem L2 Sx
def Nk(z:Str):Prop:=z.length < 2\/4 < z.length\/(∃c∈ch z,c∉ch dJ)\/∃i j,i < j/\j < z.length/\dm z i=dm z j
def KQ(H:Hp)(v:V):Prop:=Thing H v/\∀z,v=.str z->Nk z/\z.length<=100
def Nm(g z:Str):Prop:=z.length < 1\/5 < z.length\/∃c∈ch z,c∉ch g
def KR(g:Str)(H:Hp)(v:V):Prop:=Thing H v/\∀z,v=.str z->Nm g z/\z.length<=100
theorem KQ.same(h:KQ H v)(s:a8 H g):KQ g v:=⟨h.1.same s,h.2⟩
theorem KR.same(h:KR g H v)(s:a8 H j):KR g j v:=⟨h.1.same s,h.2⟩
end Bs
namespace Sx
open PySem L2 Bs
def KS(C:Addr)(name:Str)(n:Int)(H:Hp)(E:XK):Prop:=∀(d:Addr) (H':Hp),a8 H H'->H d=none->H' d=some (.xd [(name,.int n)])->E (.ref C) (some d) H'
end Sx
namespace Bs
open PySem L2 Sx
theorem KS.same(h:KS C name n H E)(s:a8 H g):KS C name n g E:=λd a b hd e=>h d a (s.trans b) (none_of s hd) e
end Bs
namespace Sx
open PySem L2 Bs
end Sx
namespace Bs
open PySem L2 Sx
theorem nZ(hi:i < ws.length)(g:i≠d):(bV ws d w).getD i 0=ws.getD i 0:=by grind [bV,wbL,ZX]
theorem qo(hd:d < ws.length):(bV ws d w).getD d 0=w:=by
 unfold bV;rw[Zj,wcc (by rw[Zm];omega)];rfl
theorem qp(hd:d < ws.length):(bV ws d w).getD ws.length 0=ws.getD d 0 - w:=by
 unfold bV;rw[Zj,wbL (by omega),ZW (Zr _),wbg];rfl
theorem AI(ws:List Int)(d:Nat)(w:Int):(bV ws d w).length=ws.length + 1:=by
 unfold bV;rw[wbE,Zm];rfl
theorem cb(ws:List Int)(q:Str×Nat)(g:List (Str×Nat)):aY ws (q :: g)=ws.getD q.2 0 + aY ws g:=rfl
theorem sX(ws:List Int)(ps g:List (Str×Nat)):aY ws (ps++g)=aY ws ps + aY ws g:=by
 unfold aY;rw[ZB,wgt]
theorem mq(hd:d < ws.length):∀g:List (Str×Nat),(∀q∈g,q.2 < ws.length)->aY (bV ws d w) (eT d ws.length g)=aY ws g
 |[],_=>rfl
 |q :: g,h=>by
  have c:=mq (w:=w) hd g λq b=>h q (Zt _ b);have b:=h q (Zy ..);have e:eT d ws.length (q :: g)=(if q.2=d then[q,(q.1,ws.length)] else[q])++eT d ws.length g:=rfl;rw[e,sX,c,cb]
  by_cases a:q.2=d
  ·rw[if_pos a,cb,cb,a,qo hd];have f:(bV ws d w).getD ((q.1,ws.length):Str×Nat).2 0=ws.getD d 0 - w:=qp hd;rw[f];show w + (ws.getD d 0 - w + 0) + _=_;omega
  ·rw[if_neg a,cb,nZ b a];show ws.getD q.2 0 + 0 + _=_;omega
theorem C5:∀(ws:List Int) (d:Nat) (w:Int),d < ws.length->(ws.set d w).sum=ws.sum - ws.getD d 0 + w
 |[],_,_,h=>absurd h (wcB _)
 |x :: ws,0,w,_=>by
  show w + ws.sum=x + ws.sum - x + w;omega
 |x :: ws,d + 1,w,h=>by
  have a:=C5 ws d w (by simpa using h);show x + (ws.set d w).sum=x + ws.sum - ws.getD d 0 + w;rw[a];omega
theorem AJ(hd:d < ws.length):(bV ws d w).sum=ws.sum:=by grind [bV,C5,Zm,ZX]
structure ip(many:Int)(hs:List Str)(ws:List Int)(lns:List (List (Str×Nat))):Prop where
 w:ws.length=hs.length
 l:lns.length=hs.length
 p:∀w∈ws,1<=w
 e:∀l∈lns,∀q∈l,q.2 < hs.length
 b:∀(i:Nat) (l:List (Str×Nat)),lns[i]?=some l->many * ws.getD i 0<=aY ws l
theorem AK(h:q∈eT d t l):q.2=t\/q∈l:=by grind [eT]
theorem sY(h:dP ws many g w=true):g≠[]/\1<=w/\many * w<=aY ws g:=by simp_all [dP,wb7,of_decide_eq_true]
theorem ip.split{many:Int}{hs:List Str}{ws:List Int}{lns:List (List (Str×Nat))}(S:ip many hs ws lns){d:Nat}{ns:List Int}{w:Int}(h:d8 ws lns many (d:Int) ns w=true):ip many (cT hs d) (bV ws d w) (hF lns d ns)/\d < hs.length:=by
 unfold d8 at h;simp only[wb7]at h;obtain⟨n,A,v,x⟩:=h;rw[ZS]at A v x;obtain⟨E,F,B⟩:=sY v;obtain⟨G,H,C⟩:=sY x;have j:=S.w;have o:=S.l
 have hd:d < lns.length:=by
  unfold dU at n;rw[wb7]at n;have:=of_decide_eq_true n.2;omega
 have f:d < ws.length:=by omega
 have r:(cT hs d).length=hs.length + 1:=by unfold cT;rw[Zm];rfl
 have a:lns.getD d []∈lns:=by
  rw[Zj,Zg hd];exact ZV hd
 have k:=S.e _ a
 have c:∀l∈(lns++[aX ns (lns.getD d [])]).set d (b0 ns (lns.getD d [])),∀q∈l,q.2 < hs.length:=λl hl=>by
  rcases wbO hl with z |z
  ·rcases ZL.mp z with z |z
   ·exact S.e l z
   ·rw[ZC.mp z];exact λq a=>k q (gL a)
  ·rw[z];exact λq a=>k q (gL a)
 refine⟨⟨by rw[r,AI,j],?_,λz y=>?_,λl hl q a=>?_,λi l hl=>?_⟩,by omega⟩
 ·unfold hF;rw[r,Zf,wbE,Zm,o];rfl
 ·unfold bV at y;rcases wbO y with q |q
  ·rcases ZL.mp q with q |q
   ·exact S.p z q
   ·rw[ZC.mp q];omega
  ·rw[q];omega
 ·rw[r];unfold hF at hl;obtain⟨m,s,rfl⟩:=Zq.mp hl;rcases AK a with e |e
  ·omega
  ·have:=c m s q e;omega
 ·unfold hF at hl;rw[Zi]at hl
  cases e:((lns++[aX ns (lns.getD d [])]).set d (b0 ns (lns.getD d [])))[i]? with
  |none=>rw[e]at hl;cases hl
  |some m=>
   rw[e]at hl;cases hl;have D:=c m (ZA e);rw[show lns.length=ws.length by omega,mq f m (λq a=>by rw[j];exact D q a)]
   by_cases g:i=d
   ·subst g;rw[wcc (by rw[Zm];omega)]at e;cases e;rw[qo f];exact B
   ·rw[wbL (λz=>g z.symm)]at e
    by_cases t:i < lns.length
    ·rw[ZX t]at e;rw[nZ (by omega) g];exact S.b i m e
    ·have u:i=lns.length:=by
      have:=(Zn.mp e).1;rw[Zm]at this;simp at this;omega
     subst u;rw[ZW (Zr _),wbg]at e;cases e;rw[show lns.length=ws.length by omega,qp f];exact C
noncomputable def pre(ls:List Int)(k:Nat):Int:=(ls.take k).sum
end Bs
namespace L2
open PySem PySem.Spec PyProof.Rows
section
variable{prog:ZH}{w:World}{κ:Type}[DecidableEq κ]{knd:HeapKind prog w κ}{A:Around}{E:Value->Shared->Prop}{s:Shared}
end
theorem KT.len:∀{g:List (List Key×V)} {j:List (List Key×Addr×Value)},KT H g j->g.length=j.length
 |_,_,.nil=>rfl
 |_,_,.cons _ t=>congrArg (· + 1) (KT.len t)
section
variable{X:Cx}
end
end L2
namespace Bs
open PySem L2 Sx
theorem OO{a b:Prop}[Decidable a][Decidable b]{α:Type}{x y:α}(h:a↔b):(if a then x else y)=if b then x else y:=by simp_all [if_pos,if_neg]
noncomputable def gC(p:Str)(z:Str×Nat):List Str->List (List (Str×Nat))->Nat
 |h :: hs,l :: lns=>(if h=p then l.count z else 0) + gC p z hs lns
 |_,_=>0
theorem vU(p:Str)(z:Str×Nat)(h:Str)(l:List (Str×Nat)):∀(hs:List Str) (lns:List (List (Str×Nat))),hs.length=lns.length->gC p z (hs++[h]) (lns++[l])=gC p z hs lns + (if h=p then l.count z else 0)
 |[],[],_=>by
  show (if h=p then l.count z else 0) + 0=0 + _;omega
 |[],_ :: _,e=>by cases e
 |_ :: _,[],e=>by cases e
 |x :: hs,y :: lns,e=>by
  show (if x=p then y.count z else 0) + gC p z (hs++[h]) (lns++[l])=_;rw[vU p z h l hs lns (by simpa using e)];show _=(if x=p then y.count z else 0) + gC p z hs lns + _;omega
theorem yU(p:Str)(z:Str×Nat)(g:List (Str×Nat)):∀(hs:List Str) (lns:List (List (Str×Nat))) (d:Nat),hs.length=lns.length->d < lns.length ->
 gC p z hs (lns.set d g) + (if hs.getD d ""=p then(lns.getD d []).count z else 0)=gC p z hs lns + (if hs.getD d ""=p then g.count z else 0)
 |_,[],d,_,h=>absurd h (wcB _)
 |[],_ :: _,_,e,_=>by cases e
 |x :: hs,y :: lns,0,_,_=>by
  show (if x=p then g.count z else 0) + gC p z hs lns + (if x=p then y.count z else 0)=(if x=p then y.count z else 0) + gC p z hs lns + (if x=p then g.count z else 0);omega
 |x :: hs,y :: lns,d + 1,e,h=>by
  have a:=yU p z g hs lns d (by simpa using e) (by simpa using h);show (if x=p then y.count z else 0) + gC p z hs (lns.set d g) + (if hs.getD d ""=p then(lns.getD d []).count z else 0)=(if x=p then y.count z else 0) + gC p z hs lns + (if hs.getD d ""=p then g.count z else 0);omega
theorem yV(p:Str){f:List (Str×Nat)->List (Str×Nat)}:∀(hs:List Str) (lns:List (List (Str×Nat))),(∀l∈lns,(f l).count z=l.count z')->gC p z hs (lns.map f)=gC p z' hs lns
 |_,[],_=>by cases ‹List Str› <;> rfl
 |[],_ :: _,_=>rfl
 |x :: hs,y :: lns,h=>by
  show (if x=p then(f y).count z else 0) + gC p z hs (lns.map f)=(if x=p then y.count z' else 0) + gC p z' hs lns;rw[yV p hs lns λl hl=>h l (Zt _ hl),h y (Zy ..)]
theorem o1:∀{hs:List Str} {lns:List (List (Str×Nat))} {i:Nat} {l:List (Str×Nat)},hs[i]?=some p->lns[i]?=some l->l.count z<=gC p z hs lns
 |y :: hs,x :: lns,0,l,a,b=>by
  cases a;cases b;show _<=(if p=p then x.count z else 0) + _;rw[if_pos rfl];omega
 |h :: hs,x :: lns,i + 1,l,a,b=>by
  have:=o1 (z:=z) (hs:=hs) (lns:=lns) (i:=i) (by simpa using a) (by simpa using b);show _<=_ + gC p z hs lns;omega
 |[],_,_,_,a,_=>by simp at a
 |_ :: _,[],_,_,_,b=>by simp at b
theorem cnt_cons(q z:Str×Nat)(l:List (Str×Nat)):(q :: l).count z=l.count z + if q=z then 1 else 0:=by simp_all [List.count_cons,if_pos,beq_self_eq_true,if_neg]
theorem sZ(f:Nat->Bool)(z:Str×Nat):∀(k:Nat) (l:List (Str×Nat)),(b4 f k l).count z + (b4 (λi=>!f i) k l).count z=l.count z
 |_,[]=>rfl
 |k,q :: l=>by
  have a:=sZ f z (k + 1) l;show (if f k then q :: b4 f (k + 1) l else b4 f (k + 1) l).count z + (if !f k then q :: b4 (λi=>!f i) (k + 1) l else b4 (λi=>!f i) (k + 1) l).count z=_;rw[cnt_cons]
  cases f k with
  |true=>
   grind
  |false=>
   grind
theorem qt(hd:d < t)(w:Str)(e:Nat):∀l:List (Str×Nat),(∀q∈l,q.2 < t)->(eT d t l).count (w,e)=l.count (w,if e=t then d else e)
 |[],_=>rfl
 |q :: l,h=>by
  have f:=qt hd w e l λq c=>h q (Zt _ c);have c:=h q (Zy ..);have g:eT d t (q :: l)=(if q.2=d then[q,(q.1,t)] else[q])++eT d t l:=rfl;rw[g,List.count_append,f,cnt_cons];obtain⟨a,b⟩:=q;have c:b < t:=c;show (if b=d then[(a,b),(a,t)] else[(a,b)]).count (w,e) + _=_
  by_cases i:b=d
  ·grind
  ·grind
def C6(B:Str->List (Str×Str))(hs:List Str)(lns:List (List (Str×Nat))):Prop:=
 ∀(p w:Str) (e:Nat),gC p (w,e) hs lns=if e < hs.length/\p∈hs/\(w,hs.getD e "")∈B p then 1 else 0
theorem C6.split{B:Str->List (Str×Str)}(h:C6 B hs lns)(hl:lns.length=hs.length)(o:∀l∈lns,∀q∈l,q.2 < hs.length)(hd:d < hs.length)(ns:List Int):C6 B (cT hs d) (hF lns d ns):=by
 intro p w e
 have u:lns.getD d []∈lns:=by
  rw[Zj,Zg (by omega)];exact ZV _
 have k:∀l∈(lns++[aX ns (lns.getD d [])]).set d (b0 ns (lns.getD d [])),∀q∈l,q.2 < lns.length:=λl b=>by
  rw[hl];rcases wbO b with z |z
  ·rcases ZL.mp z with z |z
   ·exact o l z
   ·rw[ZC.mp z];exact λq c=>o _ u q (gL c)
  ·rw[z];exact λq c=>o _ u q (gL c)
 have n:(hs++[hs.getD d ""]).getD d ""=hs.getD d "":=by
  rw[Zj,ZX hd,<-Zj]
 have r:(lns++[aX ns (lns.getD d [])]).getD d []=lns.getD d []:=by
  rw[Zj,ZX (by omega),<-Zj]
 unfold cT hF;rw[yV p (z':=(w,if e=lns.length then d else e)) _ _ λl b=>qt (by omega) w e l (k l b)];have s:=yU p (w,if e=lns.length then d else e) (b0 ns (lns.getD d [])) (hs++[hs.getD d ""]) (lns++[aX ns (lns.getD d [])]) d (by rw[Zm,Zm];simp[hl]) (by rw[Zm];omega);rw[n,r,vU p _ _ _ hs lns hl.symm]at s;have v:=sZ (λi=>decide ((i:Int)∈ns)) (w,if e=lns.length then d else e) 0 (lns.getD d []);have A:(b0 ns (lns.getD d [])).count (w,if e=lns.length then d else e) + (aX ns (lns.getD d [])).count (w,if e=lns.length then d else e)=(lns.getD d []).count (w,if e=lns.length then d else e):=v;have x:=h p w (if e=lns.length then d else e)
 have y:gC p (w,if e=lns.length then d else e) (hs++[hs.getD d ""]) ((lns++[aX ns (lns.getD d [])]).set d (b0 ns (lns.getD d [])))=gC p (w,if e=lns.length then d else e) hs lns:=by
  by_cases j:hs.getD d ""=p
  ·rw[if_pos j,if_pos j,if_pos j]at s;omega
  ·rw[if_neg j,if_neg j,if_neg j]at s;omega
 rw[y,x]
 have m:p∈hs++[hs.getD d ""]↔p∈hs:=by
  rw[ZL,ZC];refine⟨λz=>z.elim id λz=>?_,.inl⟩;rw[z,Zj,Zg hd];exact ZV _
 have a:(hs++[hs.getD d ""]).length=hs.length + 1:=by rw[Zm];rfl
 by_cases f:e=lns.length
 ·rw[if_pos f]
  have t:(hs++[hs.getD d ""]).getD e ""=hs.getD d "":=by
   rw[f,hl,Zj,ZW (Zr _),wbg];rfl
  rw[t,a];refine OO ⟨λz=>⟨by omega,m.mpr z.2.1,z.2.2⟩,λz=>⟨hd,m.mp z.2.1,z.2.2⟩⟩
 ·rw[if_neg f]
  by_cases g:e < hs.length
  ·have t:(hs++[hs.getD d ""]).getD e ""=hs.getD e "":=by
    rw[Zj,ZX g,<-Zj]
   rw[t,a];refine OO ⟨λz=>⟨by omega,m.mpr z.2.1,z.2.2⟩,λz=>⟨g,m.mp z.2.1,z.2.2⟩⟩
  ·rw[if_neg (λz=>g z.1),if_neg (λz=>by have:=z.1;omega)]
theorem C6.line{B:Str->List (Str×Str)}(h:C6 B hs lns)(hl:lns.length=hs.length)(g:∀p,(B p).length<=b):∀l∈lns,l.length<=b * hs.length:=by
 intro l j;obtain⟨i,hi,e⟩:=wb4 j;have f:lns[i]?=some l:=by rw[Zg hi,e]
 have a:hs[i]?=some (hs[i]'(by omega)):=Zg _;generalize hs[i]'(by omega)=p at a
 have one:∀z,l.count z<=1:=λz=>by
  have c:=o1 (z:=z) a f;have d:=h p z.1 z.2;rw[show ((z.1,z.2):Str×Nat)=z from rfl]at d;rw[d]at c;split at c <;> omega
 have nd:l.Nodup:=List.nodup_iff_count.mpr one
 have sub:∀z∈l,z∈((B p).map (·.1)).flatMap λw=>(ZY hs.length).map λe=>(w,e):=λz k=>by
  have c:=o1 (z:=z) a f;have d:=h p z.1 z.2;rw[show ((z.1,z.2):Str×Nat)=z from rfl]at d;rw[d]at c;have m:0 < l.count z:=wdO.mpr k
  by_cases hc:z.2 < hs.length/\p∈hs/\(z.1,hs.getD z.2 "")∈B p
  ·exact wdb.mpr ⟨z.1,Zq.mpr ⟨_,hc.2.2,rfl⟩,Zq.mpr ⟨z.2,wak.mpr hc.1,rfl⟩⟩
  ·rw[if_neg hc]at c;omega
 have c:=gY nd sub
 have d:(((B p).map (·.1)).flatMap λw=>(ZY hs.length).map λe=>(w,e)).length<=(B p).length * hs.length:=by
  have:=nR (λw=>(ZY hs.length).map λe=>((w,e):Str×Nat)) hs.length ((B p).map (·.1)) λw _=>by rw[Zf,wag];exact Zr _
  rwa[Zf]at this
 exact ZE c (ZE d (wcr _ (g p)))
theorem t6(p:Str)(z:Str×Nat)(f:Str->List (Str×Nat)):∀hs:List Str,hs.Nodup->gC p z hs (hs.map f)=if p∈hs then(f p).count z else 0
 |[],_=>rfl
 |h :: hs,nd=>by
  rw[wa9]at nd;show (if h=p then(f h).count z else 0) + gC p z hs (hs.map f)=_;rw[t6 p z f hs nd.2]
  by_cases e:h=p
  ·grind
  ·grind
theorem iD{f:Str->Option (Str×Str)}(g:∀r x,f r=some x->x.1=r):∀L:List Str,((L.filterMap f).map (·.1)).Sublist L
 |[]=>.slnil
 |r :: L=>by
  rw[waw]
  cases e:f r with
  |none=>exact(iD g L).cons _
  |some x=>
   show (x.1 :: (L.filterMap f).map (·.1)).Sublist _;rw[g r x e];exact(iD g L).cons₂ _
theorem xa(nd:(ch g).Nodup)(l:ss.Perm (bU ws "" ws))(hw:∀w∈ws,1<=w.length)(j:p∈ss)(n:Nat):((aP g ws ss ls n p).map (·.1)).Nodup:=by
 rw[<-AF l hw j n];refine List.Nodup.sublist (iD (λr x e=>?_) _) (by rw[rN];exact vQ nd n);unfold Ik at e;split at e
 ·cases e
 ·grind
theorem xc:∀{l:List (Str×Str)},(l.map (·.1)).Nodup->l.Nodup:=by intro l;induction l <;> grind [wau,wa9]
theorem AO{g:List (Str×Str)}{hs:List Str}(nd:g.Nodup)(hn:hs.Nodup)(w:Str)(e:Nat) :
 (((g.filter λq=>decide (q.2∈hs)).map λq=>(q.1,hs.idxOf q.2)):List (Str×Nat)).count (w,e)=if e < hs.length/\(w,hs.getD e "")∈g then 1 else 0:=by
 have inj:∀q∈g.filter (λq=>decide (q.2∈hs)),((q.1,hs.idxOf q.2):Str×Nat)=(w,e)↔(e < hs.length/\q=(w,hs.getD e "")):=λq a=>by
  grind
 have gen:∀L:List (Str×Str),L.Nodup->(∀q∈L,((q.1,hs.idxOf q.2):Str×Nat)=(w,e)↔(e < hs.length/\q=(w,hs.getD e "")))->(L.map λq=>((q.1,hs.idxOf q.2):Str×Nat)).count (w,e)=if e < hs.length/\(w,hs.getD e "")∈L then 1 else 0:=by
  intro L
  induction L with
  |nil=>grind
  |cons q L b=>
   grind
 rw[gen _ (nd.filter _) inj];refine OO ⟨λz=>⟨z.1,(ZO.mp z.2).1⟩,λz=>⟨z.1,ZO.mpr ⟨z.2,decide_eq_true ?_⟩⟩⟩;rw[Zj,Zg z.1];exact ZV _
theorem C6.first{g:Str}{ws ss ls:List Str}{n:Nat}{hs:List Str}(nd:(ch g).Nodup)(l:ss.Perm (bU ws "" ws))(hw:∀w∈ws,1<=w.length)(j:∀p∈hs,p∈ss)(hn:hs.Nodup):C6 (aP g ws ss ls n) hs (bA g ws ss ls n hs):=by
 intro p w e;unfold bA;rw[t6 p (w,e) _ hs hn]
 by_cases h:p∈hs
 ·rw[if_pos h];unfold fD;rw[AO (xc (xa nd l hw (j p h) n)) hn];exact OO ⟨λz=>⟨z.1,h,z.2⟩,λz=>⟨z.1,z.2.2⟩⟩
 ·rw[if_neg h,if_neg (λz=>h z.2.1)]
noncomputable def gD(p w:Str)(e:Nat):List Key:=[.inr p,.inr w,.inl (e:Int)]
theorem yW(h:gD p w e=gD g j l):p=g/\w=j/\e=l:=by grind [gD]
structure o4(kvs:List (List Key×V))(c:Str->Str->Nat->Nat):Prop where
 nd:(kvs.map (·.1)).Nodup
 v:∀p w e,bu kvs (gD p w e)=if c p w e=0 then none else some (.int (c p w e:Int))
 k:∀kv∈kvs,∃p w e,kv.1=gD p w e
theorem o4.nil:o4 [] λ_ _ _=>0:=⟨wau,λ_ _ _=>rfl,λ_ h=>nomatch h⟩
theorem lW{κ:Type}[DecidableEq κ]{kvs:List (κ×V)}{k:κ}{v y:V}(h:bu kvs k=some y):(putK kvs k v).map (·.1)=kvs.map (·.1):=by
 unfold putK;have e:(kvs.any λa=>decide (a.1=k))=true:=by rw[fX,h];rfl
 rw[if_pos e,Zw];refine wac λa _=>?_;show (if a.1=k then(a.1,v) else a).1=a.1;split <;> rfl
theorem o4.put{kvs:List (List Key×V)}{c:Str->Str->Nat->Nat}(h:o4 kvs c)(p w:Str)(e:Nat){v:Nat}(r:v≠0){o:Str->Str->Nat->Nat}(hc:∀g j l,o g j l=if g=p/\j=w/\l=e then v else c g j l):o4 (putK kvs (gD p w e) (.int (v:Int))) o:=by
 refine⟨?_,λg j l=>?_,λm f=>?_⟩
 ·cases a:bu kvs (gD p w e) with
  |none=>exact BJ _ h.nd a
  |some y=>rw[lW a];exact h.nd
 ·rw[rZ,hc]
  by_cases b:gD g j l=gD p w e
  ·rw[if_pos b,if_pos (yW b),if_neg r]
  ·rw[if_neg b,if_neg (c:=g=p/\j=w/\l=e) (λz=>b (by obtain⟨rfl,rfl,rfl⟩:=z;rfl))];exact h.v g j l
 ·have d:m.1∈(putK kvs (gD p w e) (.int (v:Int))).map (·.1):=Zq.mpr ⟨m,f,rfl⟩
  have old:∀{x:List Key},x∈kvs.map (·.1)->∃p w e,x=gD p w e:=λn=>by
   obtain⟨i,q,rfl⟩:=Zq.mp n;exact h.k i q
  cases a:bu kvs (gD p w e) with
  |none=>
   rw[cF _ a,ZB]at d;rcases ZL.mp d with z |z
   ·exact old z
   ·exact⟨p,w,e,ZC.mp z⟩
  |some y=>
   rw[lW a]at d;exact old d
theorem yX{κ:Type}[DecidableEq κ]:∀{kvs:List (κ×V)} {g:κ×V},(kvs.map (·.1)).Nodup->g∈kvs->bu kvs g.1=some g.2:=by intro kvs;induction kvs <;> grind [wa9,bF,bG]
theorem o4.hits{c:Str->Str->Nat->Nat}(ha:o4 j c)(l:o4 o c):∀g∈j,∃i:Int,g.2=.int i/\bu o g.1=some (.int i):=λg a=>by
 obtain⟨p,w,e,d⟩:=ha.k g a;have f:=yX ha.nd a;have b:=ha.v p w e;have h:=l.v p w e;rw[<-d]at b h;rw[f]at b
 by_cases m:c p w e=0
 ·grind
 ·grind
theorem o4.le{c:Str->Str->Nat->Nat}(ha:o4 g c)(j:o4 l c):g.length<=l.length:=by
 have:=gY ha.nd λk a=>by
  obtain⟨b,d,rfl⟩:=Zq.mp a;obtain⟨i,_,e⟩:=ha.hits j b d;exact rJ e
 rwa[Zf,Zf]at this
theorem o4.len{c:Str->Str->Nat->Nat}(ha:o4 j c)(g:o4 l c):j.length=l.length:=weJ (ha.le g) (g.le ha)
structure Fz(kvs:List (List Key×V))(S:Str->Str->Nat->Prop):Prop where
 nd:(kvs.map (·.1)).Nodup
 y:∀p w e,S p w e->bu kvs (gD p w e)=some (.int 1)
 n:∀p w e,¬S p w e->bu kvs (gD p w e)=none
 k:∀kv∈kvs,∃p w e,kv.1=gD p w e
theorem Fz.nil{S:Str->Str->Nat->Prop}(h:∀p w e,¬S p w e):Fz [] S:=⟨wau,λp w e z=>absurd z (h p w e),λ_ _ _ _=>rfl,λ_ h=>nomatch h⟩
theorem Fz.put{S r:Str->Str->Nat->Prop}(h:Fz kvs S)(p w:Str)(e:Nat)(o:∀g j l,r g j l↔S g j l\/(g=p/\j=w/\l=e)):Fz (putK kvs (gD p w e) (.int 1)) r:=by
 refine⟨?_,λg j l z=>?_,λg j l z=>?_,λi d=>?_⟩
 ·cases b:bu kvs (gD p w e) with
  |none=>exact BJ _ h.nd b
  |some y=>rw[lW b];exact h.nd
 ·rw[rZ]
  by_cases a:gD g j l=gD p w e
  ·rw[if_pos a]
  ·rw[if_neg a];refine h.y g j l (((o _ _ _).mp z).resolve_right λq=>a ?_);obtain⟨rfl,rfl,rfl⟩:=q;rfl
 ·rw[rZ]
  by_cases a:gD g j l=gD p w e
  ·exact absurd ((o _ _ _).mpr (.inr (yW a))) z
  ·rw[if_neg a];exact h.n g j l λq=>z ((o _ _ _).mpr (.inl q))
 ·have c:i.1∈(putK kvs (gD p w e) (.int 1)).map (·.1):=Zq.mpr ⟨i,d,rfl⟩
  have old:∀{x:List Key},x∈kvs.map (·.1)->∃p w e,x=gD p w e:=λm=>by
   obtain⟨f,s,rfl⟩:=Zq.mp m;exact h.k f s
  cases b:bu kvs (gD p w e) with
  |none=>
   rw[cF _ b,ZB]at c;rcases ZL.mp c with z |z
   ·exact old z
   ·exact⟨p,w,e,ZC.mp z⟩
  |some y=>
   rw[lW b]at c;exact old c
theorem o6{α:Type}(f:α->Int):∀l:List α,(∀x∈l,0<=f x)->(l.map f).sum=((l.filter λx=>decide (0 < f x)).map f).sum:=by intro l;induction l <;> grind [Zt,Zy,wah,decide_eq_true,waj,decide_eq_false]
theorem vV{f:Str->Int}(h:∀p∈ls,0<=f p):((aq ls f).map f).sum=(ls.map f).sum:=(o6 f ls h).symm
theorem FA{f:Str->Int}(hn:∀p∈ls,0<=f p)(p:Str):aY ((aq ls f).map f) (fD g ws ss ls n (aq ls f) p)=gv g ws ss ls n f p:=by
 unfold gv;rw[o6 (λq:Str×Str=>f q.2) (aP g ws ss ls n p) λq a=>hn _ (cR a)];unfold aY fD;rw[Zw]
 have e:(aP g ws ss ls n p).filter (λq=>decide (q.2∈aq ls f))=(aP g ws ss ls n p).filter λq=>decide (0 < f q.2):=we6 λq a=>by
  unfold aq;exact decide_eq_decide.mpr (by rw[ZO];exact⟨λz=>of_decide_eq_true z.2,λz=>⟨cR a,decide_eq_true z⟩⟩)
 rw[e];refine congrArg List.sum (wac λq a=>?_)
 have b:q.2∈aq ls f:=by
  unfold aq;have:=ZO.mp a;exact ZO.mpr ⟨cR this.1,this.2⟩
 show ((aq ls f).map f).getD ((aq ls f).idxOf q.2) 0=f q.2;rw[Zj,Zi,(pH b).1];rfl
theorem ip.first{f:Str->Int}(hn:∀p∈ls,0<=f p)(j:E2 g ws ss ls many n f):ip many (aq ls f) ((aq ls f).map f) (bA g ws ss ls n (aq ls f)):=by
 have a:∀p∈aq ls f,p∈ls/\0 < f p:=λp b=>⟨(ZO.mp b).1,of_decide_eq_true (ZO.mp b).2⟩;refine⟨Zf _,Zf _,λw hw=>?_,λl hl q c=>?_,λi l hl=>?_⟩
 ·obtain⟨p,b,rfl⟩:=Zq.mp hw;have:=(a p b).2;omega
 ·obtain⟨p,b,rfl⟩:=Zq.mp hl;obtain⟨z,d,rfl⟩:=Zq.mp c;exact List.idxOf_lt_length_of_mem (of_decide_eq_true (ZO.mp d).2)
 ·unfold bA at hl;rw[Zi]at hl
  cases e:(aq ls f)[i]? with
  |none=>rw[e]at hl;cases hl
  |some p=>
   rw[e]at hl;cases hl;rw[FA hn,Zj,Zi,e];exact j p (a p (ZA e)).1
end Bs
namespace L2
open PySem PySem.Calls PySem.Spec PyProof.Rows
theorem qu:∀ns:List Int,preSum (λi=>ns.getD i 0) ns.length=ns.sum
 |[]=>rfl
 |n :: ns=>by
  show preSum (λi=>(n :: ns).getD i 0) (ns.length + 1)=n + ns.sum;rw[PySem.W.kdu_shift,<-qu ns];rfl
section
variable{X:Cx}
theorem Ds(hc:X.calm=true):di X (.builtin "sum") (λxs H Q=>∃v d kvs ns,xs=[.ref v]/\H v=some (kg v d)/\H d=some (.dK kvs)/\kvs.map (·.2)=wcd V.int ns/\Q (.int ns.sum) H):=by
 intro m s σ H xs R Q I r h;obtain⟨v,d,kvs,ns,rfl,D,hd,hn,q⟩:=h;obtain⟨u,rfl,E⟩:=vals1 r;cases E;obtain⟨S,lo,c,rel,F⟩:=se I.aZ hd;obtain⟨ep,f⟩:=F.dictAt;obtain⟨a,_⟩:=(show bO X.prog X.w H s.heap v (kg v d) from I.aZ v _ D);have G:=I.ok.hd hc
 have g:c.length=ns.length:=by
  have:=congrArg wcu hn;rw[Zf,Zf]at this;rw[<-rel.length];exact this
 have J:∀{kvs:List (Key×V)} {c:List (Key×Value)} {ns:List Int},KV kvs c->kvs.map (·.2)=ns.map V.int->∀(i:Nat) (k:Key) (x:Value),c[i]?=some (k,x)->∃t,x=.int (ns.getD i 0) t:=by
  intro kvs c ns r
  induction r generalizing ns with
  |nil=>intro _ i k x e;simp at e
  |@cons p q ps T h t K=>
   intro e i k x j
   cases ns with
   |nil=>cases e
   |cons n ns=>
    rw[ZK,ZK]at e;injection e with L M
    cases i with
    |zero=>
     simp at j;have y:=h.2;rw[L,j]at y;exact y
    |succ i=>exact K M i k x (by simpa using j)
 have z:=wfH (prog:=X.prog) (w:=X.w) (r:=v) (d:=d) (knd:=bg X.prog X.w) (kvs:=c) (ep:=ep);refine call_sum_walkAnyS ?_;obtain⟨N,St,hit,W,st⟩:=z.iter X.A.in1 s G ⟨a,f⟩;refine hit _ _ ⟨s.heap.objs.size,_,_,_,c.length,_,_,λi=>ns.getD i 0,rfl,W.toS,st,λb l=>?_,λi x ⟨k,e⟩=>J rel hn i k x e,λB t' C=>?_⟩
 ·show b < (s.heap.push N).objs.size;rw[size_push'];rcases ZT.mp l with e |l
  ·rw[e];exact wb6 _
  ·rw[ZC.mp l];exact wcW (z.there _ ⟨a,f⟩).2
 ·have O:∀b o,s.heap.get? b=some o->B.heap.get? b=some o:=λb o e=>
   C.heap b o (λP=>absurd (Zz e) (by rw[ZC.mp P];exact wax _)) (Zo _ e)
  rw[Moved.eq_with C];refine⟨.int ns.sum,H,I.kept (t':=B.toks) O,⟨t',?_⟩,q⟩;rw[g,qu]
end
section
variable{prog:ZH}{w:World}{A:Around}{E:Value->Shared->Prop}{s:Shared}{l I S:Addr}{vs:List Value}{R:wc4->Shared->Prop}{Q:Value->Shared->Prop}
theorem g9{h h':Heap}{p:Addr}{g:Array Value}(e:h.IsList p g)(j:∀b o,h.get? b=some o->h'.get? b=some o):h'.IsList p g:=let ⟨o,a,r⟩:=e;⟨o,j _ _ a,r⟩
theorem xf(kf:Nat->Int)(hh:A.handled=none)(hl:s.heap.IsList l vs.toArray)(hI:I=s.heap.objs.size)(KU:S≠I)(Vo:s.heap.objs.size<=S)
 (turn:∀(i:Nat) (v:Value),vs[i]?=some v->∃p items,v=.ref p/\s.heap.IsList p items/\(items.size:Int)=kf i/\(items.size:Int) < 2 ^ 63)
 (hR:∀(v:Value) (h':Heap) (AQ:Nat),v∈vs->(∀b o,s.heap.get? b=some o->h'.get? b=some o)->R (.ok (.ret v)) {s with heap:=h',toks:=AQ}) :
 ∀(r j i:Nat) (h:Heap) (tk:Nat) (vb:Value) (tb:Tok) (c:Nat),vs.length - (j + 1)=r->j + 1<=vs.length->(∀b o,s.heap.get? b=some o->h.get? b=some o) ->
  h.get? S=some (seqObj "list" #[vb,.int (kf i) tb] c)->h.IsListIter I l (j + 1)->vs[i]?=some vb ->
  codeAny (model prog w) A (.builtin "min.loop" ⟨[.ref I,.builtin "len",.ref S],[]⟩) R {s with heap:=h,toks:=tk}:=by
 have yY:(toString "min"++toString ".loop":String)="min.loop":=by decide
 have AR:l < s.heap.objs.size:=let ⟨o,ho,_⟩:=hl;Zz ho
 have Nh:l≠I:=by rw[hI];exact ZJ AR
 have W:=we8 (prog:=prog) (w:=w) (A:=A.in1) hh I l Nh vs.toArray;have hsz:vs.toArray.size=vs.length:=ZR ..
 have old:∀{b:Addr} {o:Obj},s.heap.get? b=some o->b≠S/\b≠I:=λ{b o} e=>by
  have hb:b < s.heap.objs.size:=Zz e;exact⟨ZJ (ZI hb Vo),by rw[hI];exact ZJ hb⟩
 intro r
 induction r with
 |zero=>
  intro j i h tk vb tb c hr hj mono nS hit QB;have Vp:j + 1=vs.length:=by omega
  refine waT wd4 ?_;rw[waM wb0 _];show wpAny _ A.in1 (wdg (.ref S) >>= _) _ _ _;refine Zk (wbQ nS rfl ?_);show wpAny _ A.in1 (tryCatch (pyNext (.ref I)) _ >>= _) _ _ _;refine Zk (waZ (W.done _ _ _ ⟨by rw[hsz,<-Vp];exact hit,g9 hl mono⟩ λh' AQ GO=>?_));have Vq:=GO S _ (by simpa using KU) nS;have s1:=wdF h' S (wbM λ_=>(#[]:Array Value));show wpAny _ A.in1 (wfK S (λ_=>#[]) >>= _) _ _ _;refine Zk ?_;refine wc9 Vq rfl (Zk (wce (ZN ?_)));exact hR vb _ _ (ZA QB) λb o e=>(s1.2 b (old e).1).trans (GO b o (by simpa using(old e).2) (mono b o e))
 |succ r ih=>
  intro j i h tk vb tb c hr hj mono nS hit QB;have KW:j + 1 < vs.length:=by omega
  refine waT wd4 ?_;rw[waM wb0 _];show wpAny _ A.in1 (wdg (.ref S) >>= _) _ _ _;refine Zk (wbQ nS rfl ?_);show wpAny _ A.in1 (tryCatch (pyNext (.ref I)) _ >>= _) _ _ _;refine Zk (waZ (W.item (j + 1) _ _ _ (by rw[hsz];exact KW) ⟨hit,g9 hl mono⟩ λv h' AQ hP Iw GO=>?_));have hv:vs[j + 1]?=some v:=by simpa using hP
  have vW:∀b o,s.heap.get? b=some o->h'.get? b=some o:=λb o e=>GO b o (by simpa using(old e).2) (mono b o e);have LN:=GO S _ (by simpa using KU) nS;obtain⟨p,items,rfl,hp,QC,Dt⟩:=turn (j + 1) v hv;show wpAny _ A.in1 (tryCatch (holding [ZD p] (call (.builtin "len") [.ref p])) _ >>= _) _ _ _;refine Zk (waZ (waG (wdE (g9 hp vW) Dt ?_)));rw[QC];show wpAny _ A.in1 (tryCatch (holding [ZD p,.int (kf (j + 1)) _] (richCompare .Lt (.int (kf (j + 1)) _) (.int (kf i) tb) >>= _)) _ >>= _) _ _ _;refine Zk (waZ (waG (Zk (CmpOf.ints_lt (prog:=prog) (w:=w) (A:=A.in1) (P:=λi v=>∃t,v=.int (kf i) t) kf (λi v h=>h) (j + 1) i _ _ _ _ _ ⟨_,rfl⟩ ⟨tb,rfl⟩ ?_))));refine Zk (waG (wb1 ?_));refine Zk (wce (ZN ?_))
  by_cases FC:kf (j + 1) < kf i
  ·simp only[FC,decide_true,if_true];refine Zk ?_;refine wc9 LN rfl (Zk (wce ?_));rw[yY];have s1:=wdF h' S (wbM λ_=>#[ZD p,.int (kf (j + 1)) (AQ + 1)]);obtain⟨c2,QD⟩:∃c2,(h'.update S (wbM λ_=>#[ZD p,.int (kf (j + 1)) (AQ + 1)])).get? S=some (seqObj "list" #[ZD p,.int (kf (j + 1)) (AQ + 1)] c2):=⟨_,get?_update_seq LN λ_=>#[ZD p,.int (kf (j + 1)) (AQ + 1)]⟩;refine ZN ⟨wbi wb0 _,ih (j + 1) (j + 1) _ _ _ _ c2 (by omega) KW (λb o e=>(s1.2 b (old e).1).trans (vW b o e)) QD ?_ hv⟩;obtain⟨QE,KY,QF⟩:=id Iw.1;exact⟨QE,(s1.2 I KU.symm).trans KY,QF⟩
  ·simp only[FC,decide_false,wb8,if_false];refine Zk (wce ?_);rw[yY];exact ZN ⟨wbi wb0 _,ih (j + 1) i _ _ vb tb c (by omega) KW vW LN Iw.1 QB⟩
theorem Iy(kf:Nat->Int)(hh:A.handled=none)(hl:s.heap.IsList l vs.toArray)(yp:0 < vs.length)
 (turn:∀(i:Nat) (v:Value),vs[i]?=some v->∃p items,v=.ref p/\s.heap.IsList p items/\(items.size:Int)=kf i/\(items.size:Int) < 2 ^ 63)
 (hQ:∀(v:Value) (h':Heap) (AQ:Nat),v∈vs->(∀b o,s.heap.get? b=some o->h'.get? b=some o)->Q v {s with heap:=h',toks:=AQ}) :
 wpAny (model prog w) A (call (.builtin "min") [.ref l] [(wbp "key",.builtin "len")]) Q E s:=by
 have yY:(toString "min"++toString ".loop":String)="min.loop":=by decide
 have AR:l < s.heap.objs.size:=let ⟨o,ho,_⟩:=hl;Zz ho
 refine kmk_tree PySem.F.kind_min PySem.F.plain_min PySem.F.entry_min (kmk_min_key _ _) ?_;show wpAny _ A.in1 (wbC "min" ["key","default"] 0 ⟨[],[(wbp "key",.builtin "len")]⟩ >>= _) _ _ s;refine Zk (wg6 (show wbC "min" ["key","default"] 0 ⟨[],[(wbp "key",.builtin "len")]⟩=pure [some (.builtin "len"),none] from rfl) ?_);refine Zk (ZN ?_);refine Zk (wbJ hl ?_);refine Zk (wpAny_newList ?_ (wa0 _));rw[yY];have hS:(s.heap.push {cls:=.type "list_iterator",data:=.fields #[.ref l,.int 0 0]}).objs.size=s.heap.objs.size + 1:=size_push' ..;have Nh:l≠s.heap.objs.size:=ZJ AR;have KU:(s.heap.push {cls:=.type "list_iterator",data:=.fields #[.ref l,.int 0 0]}).objs.size≠s.heap.objs.size:=by rw[hS];exact wby (wb6 _)
 refine ZN ⟨wbi wb0 _,?_⟩
 have gI:((s.heap.push {cls:=.type "list_iterator",data:=.fields #[.ref l,.int 0 0]}).push (seqObj "list" #[] 0)).get? s.heap.objs.size=some {cls:=.type "list_iterator",data:=.fields #[.ref l,.int 0 0]}:=
  Zo _ (ZP _ rfl)
 have gS:((s.heap.push {cls:=.type "list_iterator",data:=.fields #[.ref l,.int 0 0]}).push (seqObj "list" #[] 0)).get? (s.heap.push {cls:=.type "list_iterator",data:=.fields #[.ref l,.int 0 0]}).objs.size=some (seqObj "list" #[] 0):=ZP _ rfl;have Jx:∀b o,s.heap.get? b=some o->((s.heap.push {cls:=.type "list_iterator",data:=.fields #[.ref l,.int 0 0]}).push (seqObj "list" #[] 0)).get? b=some o:=λb o e=>Zo _ (Zo _ e)
 have old:∀{b:Addr} {o:Obj},s.heap.get? b=some o->b≠s.heap.objs.size + 1/\b≠s.heap.objs.size:=λ{b o} e=>by
  have hb:b < s.heap.objs.size:=Zz e;exact⟨ZJ (wcW hb),ZJ hb⟩
 have W:=we8 (prog:=prog) (w:=w) (A:=A.in1) hh s.heap.objs.size l Nh vs.toArray;have hsz:vs.toArray.size=vs.length:=ZR ..;refine waT wd4 ?_;rw[waM wb0 _];show wpAny _ A.in1 (wdg (.ref _) >>= _) _ _ _;refine Zk (wbQ gS rfl ?_);show wpAny _ A.in1 (tryCatch (pyNext (.ref s.heap.objs.size)) _ >>= _) _ _ _;refine Zk (waZ (W.item 0 _ _ _ (by rw[hsz];exact yp) ⟨⟨_,gI,rfl,rfl⟩,g9 hl Jx⟩ λv h' AQ hP Iw GO=>?_));have hv:vs[0]?=some v:=by simpa using hP
 have vW:∀b o,s.heap.get? b=some o->h'.get? b=some o:=λb o e=>GO b o (by simpa using(old e).2) (Jx b o e);have LN:=GO _ _ (by simpa using KU) gS;obtain⟨p,items,rfl,hp,QC,Dt⟩:=turn 0 v hv;show wpAny _ A.in1 (tryCatch (holding [ZD p] (call (.builtin "len") [.ref p])) _ >>= _) _ _ _;refine Zk (waZ (waG (wdE (g9 hp vW) Dt ?_)));rw[QC];have s1:=wdF h' (s.heap.push {cls:=.type "list_iterator",data:=.fields #[.ref l,.int 0 0]}).objs.size (wbM λ_=>#[ZD p,.int (kf 0) (AQ + 1)]);obtain⟨c2,QD⟩:∃c2,(h'.update (s.heap.push {cls:=.type "list_iterator",data:=.fields #[.ref l,.int 0 0]}).objs.size (wbM λ_=>#[ZD p,.int (kf 0) (AQ + 1)])).get? (s.heap.push {cls:=.type "list_iterator",data:=.fields #[.ref l,.int 0 0]}).objs.size=some (seqObj "list" #[ZD p,.int (kf 0) (AQ + 1)] c2):=⟨_,get?_update_seq LN λ_=>#[ZD p,.int (kf 0) (AQ + 1)]⟩;show wpAny _ A.in1 (wfK (s.heap.push {cls:=.type "list_iterator",data:=.fields #[.ref l,.int 0 0]}).objs.size (λ_=>#[ZD p,.int (kf 0) (AQ + 1)]) >>= _) _ _ _;refine Zk ?_;refine wc9 LN rfl ?_;rw[yY];obtain⟨QE,KY,QF⟩:=id Iw.1;refine ZN ⟨wbi wb0 _,xf kf hh hl rfl KU (by rw[hS];exact wbx _) turn hQ _ 0 0 _ _ _ _ c2 rfl yp (λb o e=>(s1.2 b (by rw[hS];exact(old e).1)).trans (vW b o e)) QD ⟨QE,(s1.2 _ KU.symm).trans KY,QF⟩ hv⟩
end
section
variable{X:Cx}{e:Expr}{t:TA}{p p2 kp pos:Pos}
def Nn(K:Zh)(t:TA):TE:=λσ H Q=>t σ H λvs H1=>∃(a:Addr) (ps:List Addr),vs=[.ref a]/\aI K H1 a (ps.map V.ref)/\ps≠[]/\(∀q∈ps,∃ys,aI K H1 q ys)/\∀q∈ps,Q (.ref q) H1
theorem Iz(hc:X.calm=true)(C:Gl X "min")(J:X.mg "min"=none)(l:Gl X "len")(o:X.mg "len"=none)(ha:PA X [e] t)(hs:starEach [e] X.env=[(false,eval e X.env)]:=by rfl):PE X (.Call (.Name "min" p) [e] [⟨some "key",.Name "len" p2,kp⟩] pos) (Nn X.K t):=by
 intro f s σ H Q I h;refine waL (iB I C J (show wa8 "min"=some (.builtin "min") from Sx.Kz) ?_ (by decide) (by decide));refine wep (bS (ha pos f s σ H _ I h) λP A ⟨R,B,g,D,E⟩=>?_) (by rw[hs];rfl) (by rw[hs];rfl);refine wdh (iB g l o (show wa8 "len"=some (.builtin "len") from wa1) (wdx ?_) (by decide) (by decide));obtain⟨a,ps,rfl,F,m,n,q⟩:=E;obtain⟨u,rfl,G⟩:=vals1 D;cases G;obtain⟨b,k,pl,y⟩:=g.list F;have hl:b.length=ps.length:=by have:=k.length;rw[Zf]at this;exact this.symm
 have j:∀{ps:List Addr} {b:List Value},Vals (ps.map V.ref) b->b=ps.map ZD:=by
  intro ps
  induction ps with
  |nil=>intro b r;cases r;rfl
  |cons x ps L=>
   intro b r
   cases r with
   |cons h t=>rw[L t];cases h;rfl
 have e:=j k;subst e
 have sz:∀q∈ps,∃b:List Value,A.heap.IsList q b.toArray/\b.length<=sizeLine:=λq c=>by
  obtain⟨S,M⟩:=n q c;obtain⟨b,k,pl,y⟩:=g.list M;exact⟨b,pl.isList,by rw[<-k.length];exact y⟩
 have hn:=mQ;refine Iy (kf:=λi=>match ps[i]? with |some q=>if c:q∈ps then((Classical.choose (sz q c)).length:Int) else 0 |none=>0) (g.ok.hd hc) pl.isList (by rw[Zf];cases ps with |nil=>exact absurd rfl m |cons _ _=>exact Nat.succ_pos _) (λi v d=>?_) λv T w d N=>?_
 ·rw[Zi]at d
  cases e:ps[i]? with
  |none=>rw[e]at d;cases d
  |some q=>
   rw[e]at d;cases d;have c:q∈ps:=ZA e;obtain⟨O,U⟩:=Classical.choose_spec (sz q c);refine⟨q,_,rfl,O,?_,?_⟩
   ·show _=if c:q∈ps then _ else _
    rw[dif_pos c,ZR]
   ·rw[ZR];omega
 ·obtain⟨z,c,rfl⟩:=Zq.mp d;exact⟨.ref z,B,g.kept (t':=w) N,rfl,q z c⟩
end
open AutoSeq1 (wpAny_loadPart')
noncomputable abbrev Jy(t:Tok):List (Str×Value):=[(wbp "start",.int 1 t)]
theorem Du(l:Addr)(items:Array Value)(n:Nat)(j:Option Addr)(sl:Array (Option Value))(t:Tok) :
 Meets (wdI.«enumerate.__new__» ⟨[.type "enumerate",.ref l],Jy t⟩) (λ_ R s=>s.heap.get? l=some {cls:=.type "list",dict:=j,data:=.seq items n,slots:=sl} /\
  R (.ok (.ret (.ref (s.heap.objs.size + 1)))) {s with heap:=(s.heap.push {cls:=.type "list_iterator",data:=.fields #[.ref l,.int 0 0]}).push {cls:=.type "enumerate",data:=.fields #[.none,.bool false,.ref s.heap.objs.size,rawInt 1,.none,.none]}}):=
 .of_wp λprog w A R s h=>by
  obtain⟨a,g,d,i,os⟩:=s;obtain⟨hl,h⟩:=h;have b:(a.push {cls:=.type "list_iterator",data:=.fields #[.ref l,.int 0 0]}).objs.size=a.objs.size + 1:=waY ..;have e:=sub_enumerate;have f:Heap.IsList (Shared.heap ⟨a,g,d,i,os⟩) l items:=⟨_,hl,rfl,n,rfl⟩
  wp_walk using wpAny_loadPart' hl
  refine wpAny_stack_any λst=>ZN ?_;split
  ·rename_i c _ _ _ _ _;cases(c == wdj "enumerate") <;> (wp_walk using wpAny_loadPart' hl,wbJ f;exact⟨_,rfl,by rw[b];exact h⟩)
  ·wp_walk using wpAny_loadPart' hl,wbJ f
   exact⟨_,rfl,by rw[b];exact h⟩
section
variable{prog:ZH}{w:World}{A:Around}{E:Value->Shared->Prop}{s:Shared}
theorem FD(l:Addr)(t:Tok):checkTypeCall "enumerate" ⟨[.ref l],Jy t⟩=pure ():=by kernel_rfl
theorem FE(l:Addr)(t:Tok):wda "enumerate.__new__" ⟨[.type "enumerate",.ref l],Jy t⟩=pure ():=by kernel_rfl
theorem AU(o l:Addr)(t:Tok):argsOk "object.__init__" ⟨[.ref o,.ref l],Jy t⟩:=by unfold argsOk;kernel_rfl
theorem AV(o l:Addr)(t:Tok):Meets (wdI.«object.__init__» ⟨[.ref o,.ref l],Jy t⟩) (λ_ R s=>s.TypeIs (.ref o) "enumerate"/\R (.ok (.ret .none)) s):=by
 have hl:=wdP.init.lookup;have c:=wdP.made;have a:(some "enumerate.__new__" != some "object.__new__")=true:=by decide
 refine Meets.of_wp λprog w A R s ⟨d,b⟩=>?_
 repeat (any_goals (first |assumption |wp_step))
 exact⟨_,rfl,b⟩
theorem AW{Q:Value->Shared->Prop}(C:s.heap.IsList l items)
 (h:∀h',IsEnum h' (s.heap.objs.size + 1) s.heap.objs.size 1 .none->h'.IsListIter s.heap.objs.size l 0->(∀b o,s.heap.get? b=some o->h'.get? b=some o)->Q (.ref (s.heap.objs.size + 1)) {s with heap:=h'}) :
 wpAny (model prog w) A (call (.type "enumerate") [.ref l] (Jy t)) Q E s:=by
 obtain⟨⟨c,f,x,sl⟩,hl,hc,n,hd⟩:=C;have y:c=.type "list":=hc;have z:x=.seq items n:=hd;subst y z;have B:(s.heap.push {cls:=.type "list_iterator",data:=.fields #[.ref l,.int 0 0]}).objs.size=s.heap.objs.size + 1:=waY ..;have a:=wdP;obtain⟨c,J,k⟩:=a.mro;have g:=a.made;have m:=a.sub;have K:=a.notType;have L:=a.canCreate;have D:=FD l t;refine wc5 (weG (show wpAny _ _ (callAny (.type "enumerate") _) _ _ _ from ZN ⟨wcN _ (by decide+kernel),waT wfg ?_⟩));rw[wfI (wf4 "enumerate" [.ref l] (Jy t)) (units_type_call_type "enumerate" [.ref l] (Jy t))]
 repeat (any_goals (first |assumption |wp_step))
 have p:((s.heap.push {cls:=.type "list_iterator",data:=.fields #[.ref l,.int 0 0]}).push {cls:=.type "enumerate",data:=.fields #[.none,.bool false,.ref s.heap.objs.size,rawInt 1,.none,.none]}).get? (s.heap.objs.size + 1)=some {cls:=.type "enumerate",data:=.fields #[.none,.bool false,.ref s.heap.objs.size,rawInt 1,.none,.none]}:=by
  rw[<-B];exact ZP _ rfl
 refine wbf (wbN a.plain F.entry_enumerate_new (wg6 (FE l t) ((Du l items n f sl t) prog w A.in1 (wants (λv i=>v=.ref (s.heap.objs.size + 1)/\i={s with heap:=(s.heap.push {cls:=.type "list_iterator",data:=.fields #[.ref l,.int 0 0]}).push {cls:=.type "enumerate",data:=.fields #[.none,.bool false,.ref s.heap.objs.size,rawInt 1,.none,.none]}}) E) s ⟨hl,rfl,rfl⟩))) λr q j=>?_
 cases r with
 |error e=>exact j
 |ok fl=>
  cases fl with
  |ret obj=>
   obtain⟨rfl,rfl⟩:=j;have u:wgy {s with heap:=(s.heap.push {cls:=.type "list_iterator",data:=.fields #[.ref l,.int 0 0]}).push {cls:=.type "enumerate",data:=.fields #[.none,.bool false,.ref s.heap.objs.size,rawInt 1,.none,.none]}} (.ref (s.heap.objs.size + 1)) "enumerate":=⟨_,p,rfl⟩;have G:=a.init.lookup;have H:=a.init.bind (.ref (s.heap.objs.size + 1));have M:=h _ p ⟨_,Zo _ (ZP _ rfl),rfl,rfl⟩ λb o e=>Zo _ (Zo _ e)
   repeat (any_goals (first |assumption |wp_step))
   refine wbf (wbN a.init.plain F.entry_object_init (a.init.check _ _ _ _ _ _ _ _ u (AU _ l t) ((AV (s.heap.objs.size + 1) l t) prog w A.in1 (wants (λv i=>v=.none/\i={s with heap:=(s.heap.push {cls:=.type "list_iterator",data:=.fields #[.ref l,.int 0 0]}).push {cls:=.type "enumerate",data:=.fields #[.none,.bool false,.ref s.heap.objs.size,rawInt 1,.none,.none]}}) E) _ ⟨u,rfl,rfl⟩))) λI N d=>?_
   cases I with
   |error e=>exact d
   |ok LJ=>
    cases LJ with
    |ret r=>
     obtain⟨rfl,rfl⟩:=d
     repeat (any_goals (first |assumption |wp_step))
    |_=>exact d.elim
  |_=>exact j.elim
theorem AX{P:Nat->Value->Prop}{St:Nat->Heap->Prop}(D:Draws prog w A it g n P St):Draws prog w A it g (n + 1) (λj v=>∃i,j=i + 1/\P i v) (λj h=>∃i,j=i + 1/\St i h) where
 live:=λ_ _ ⟨i,_,st⟩=>D.live i _ st
 frame:=λ_ h a ⟨i,e,st⟩ b=>⟨i,e,D.frame i h a st b⟩
 item:=λ_ s Q E m ⟨i,e,st⟩ c=>D.item i s Q E (by omega) st λx a d f k sb=>c x a d ⟨i,e,f⟩ ⟨i + 1,by omega,k⟩ sb
 done:=λs Q E ⟨i,e,st⟩ l=>D.done s Q E ((show n=i by omega) ▸ st) l
theorem Dv(g:A.handled=none)(it l:Addr)(items:Array Value)(i:Nat)(p:items[i]?=none):Draws prog w A it [it,l] (i + 1) (λ_ _=>False) (λj h=>j=i + 1/\h.IsListIter it l i/\h.IsList l items) where
 live:=λ_ _ ⟨_,st,_⟩=>let ⟨o,b,_⟩:=st;⟨o,b⟩
 frame:=λ_ _ _ ⟨e,st,sl⟩ a=>⟨e,st.at λo q=>a it (by simp) o q,sl.at λo q=>a l (by simp) o q⟩
 item:=λ_ _ _ _ c ⟨e,_⟩ _=>absurd e (ZJ c)
 done:=λ_ _ _ ⟨_,st,sl⟩ d=>wpAny_nextOf_list_end g st sl p d
end
noncomputable def FG(K:Zh)(a:Addr):It:=
 ⟨λi H=>∃xs x,aI K H a xs/\xs[i]?=some x,λi H x H'=>∃T xv,H T=none/\x=.ref T/\H'=upd H T (.tup [.int ((i + 1:Nat):Int),xv])/\∀xs,aI K H a xs->xs[i]?=some xv,λi H=>∃xs,aI K H a xs/\xs.length<=i⟩
theorem AY{P:ZH}{w:World}{K:Zh}{T:List Expr}{k:Nat}{pos:Pos}(a e it:Addr)(C:e≠it)(U:a≠it):Turn P w K (.Tuple T k pos) (FG K a) [e,it] e (λi h=>(∃old,IsEnum h e it ((i + 1:Nat):Int) old)/\h.IsListIter it a i) where
 mem:=by simp
 obj:=λi h st b d=>by
  obtain⟨⟨old,f⟩,o,F,hc,hd⟩:=st;rcases ZT.mp d with z |d
  ·exact⟨_,z ▸ f,λv q=>by
    have q':wg1 _=wgw v:=q
    cases q'⟩
  ·exact⟨o,ZC.mp d ▸ F,λv q=>by rw[hd]at q;cases q⟩
 keep:=λi h h' st k=>⟨st.1.imp λold f=>k e (by simp) _ f,st.2.at λo q=>k it (by simp) o q⟩
 item:=by
  intro X S hw V hc i B s σ H E I L st Y;subst S hw V;obtain⟨xs,x,R,Z⟩:=Y;obtain⟨g,rv,p,hz⟩:=I.list R;obtain⟨u,hu,ru⟩:=rv.get Z;obtain⟨⟨old,f⟩,hit⟩:=st;obtain⟨f0,f1,f2,f3,f4,f5⟩:=L e (by simp);obtain⟨g0,g1,g2,g3,g4,g5⟩:=L it (by simp)
  have yp:e≠a:=λz=>by
   obtain⟨o,F,Vr,_⟩:=p.isList;have j:=f;rw[z]at j;rw[j]at F;cases F;have q:wdj "enumerate"=.type "list":=Vr;injection q with q
   exact absurd q (by decide)
  have Vs:i < g.length:=(Zn.mp hu).1;refine wpAny_pyNext_enum_itemD (i:=i + 1) (AX (Draws.list (A:=X.A.in1) (I.ok.hd hc) it a U g.toArray)) f ⟨i,rfl,hit,p.isList⟩ (by rw[ZR];omega) C (by simp[C,yp]) λy h' tk G F Np hT hsz hk=>?_;obtain⟨M,e1,G⟩:=G;obtain⟨i2,e2,N,Vt⟩:=Np;have e1:M=i:=by omega
  have e2:i2=i + 1:=by omega
  subst e1 e2
  have ey:y=u:=by
   rw[List.getElem?_toArray,hu]at G;exact(Zx G).symm
  subst ey;refine⟨_,rfl,wdV F λl j D=>?_⟩;have kp:∀b o,b≠e->b≠it->s.heap.get? b=some o->l.get? b=some o:=λb o h1 h2 q=>(D.2 b h1).trans (hk b o h1 h2 q);have O:e < s.heap.objs.size:=Zz f;have Kg:s.heap.objs.size≠e:=wby O;have Qb:l.get? s.heap.objs.size=some {cls:=.type "tuple",data:=.seq #[.int ((M + 1:Nat):Int) tk,y]}:=(D.2 _ Kg).trans hT;have J:=I.aZ.fresh (Zr s.heap.objs.size);have t:∀b o,H b=some o->b≠e/\b≠it:=λb o q=>⟨(λz=>by rw[z,f0]at q;cases q),(λz=>by rw[z,g0]at q;cases q)⟩
  have Q:j4 X.prog X.w (upd H s.heap.objs.size (.tup [.int ((M + 1:Nat):Int),x])) l:=by
   intro b o q
   by_cases d:b=s.heap.objs.size
   ·subst d;rw[a6]at q;cases q;exact⟨by show 2<=sizeLine;decide,[.int ((M + 1:Nat):Int) tk,y],.cons ⟨_,rfl⟩ (.cons ru .nil),⟨_,Qb,rfl,_,rfl⟩⟩
   ·rw[ae d]at q;refine(I.aZ b o q).rS (λc v hc r=>?_) (λc r=>by rw[ae (af r J)];exact r) λc ys r=>by rw[ae (af r J)];exact r
    rcases hc with z |z
    ·rw[z]at r ⊢;exact kp b v (t b o q).1 (t b o q).2 r
    ·exact kp c v (t c _ z).1 (t c _ z).2 r
  have I1:Inv X B σ (upd H s.heap.objs.size (.tup [.int ((M + 1:Nat):Int),x])) {s with heap:=l,gens:=s.gens,drawn:=s.drawn,toks:=tk + 1}:=by
   refine I.step (ch:=[e,it]) (λb d=>?_) (λb o _ _ hc q _=>kp b o (λz=>hc (by simp[z])) (λz=>hc (by simp[z])) q) (λb o _ _ hc q _=>⟨o.slots,kp b o (λz=>hc (by simp[z])) (λz=>hc (by simp[z])) q⟩)
    (λb o _ q n=>by rw[ae (ZJ (Zz q))];exact n) (λb o hc q=>⟨o,kp b o (λz=>hc (by simp[z])) (λz=>hc (by simp[z])) q⟩)
    (λb ys r=>by rw[ae (af r J)];exact r) (λb o u r=>by rw[ae (af r J)];exact r) (λb ps r=>⟨#[],by rw[ae (af r J),r];simp⟩)
    (λm ⟨o,es,ep,Qc,r⟩=>⟨o,es,ep,kp _ o (waB f1) (waB g1) Qc,r⟩) Q I.bare
   rcases ZT.mp d with rfl |d
   ·exact⟨f3,f1,f4,f5⟩
   ·have e':b=it:=by simpa using d
    subst e';exact⟨g3,g1,g4,g5⟩
  refine⟨.ref s.heap.objs.size,_,I1,rfl,⟨s.heap.objs.size,x,J,rfl,rfl,λys G=>by rw[I.rV G R];exact Z⟩,⟨⟨y,by simpa using j⟩,?_⟩,λb d=>?_⟩
  ·exact N.at λo q=>(D.2 it (waB C)).trans q
  ·have:b < s.heap.objs.size:=by
    rcases ZT.mp d with rfl |d
    ·exact O
    ·have e':b=it:=by simpa using d
     subst e';obtain⟨o,q,_⟩:=hit;exact Zz q
   rw[ae (ZJ this)];exact(L b d).1
 done:=by
   intro X S hw V hc i B s σ H E I L st Y;subst S hw V;obtain⟨xs,R,Z⟩:=Y;obtain⟨g,rv,p,hz⟩:=I.list R;have hl:=rv.length;obtain⟨⟨old,f⟩,hit⟩:=st;obtain⟨g0,g1,g2,g3,g4,g5⟩:=L it (by simp);exact wpAny_pyNext_enum_endD (Dv (A:=X.A.in1) (I.ok.hd hc) it a g.toArray i (weQ (by simp;omega))) f ⟨rfl,hit,p.isList⟩ λh' eb=>⟨rfl,I.turned (t':=s.toks) (λb o d e=>eb b o d e) g0 g1 g3 g4 g5⟩
 self:=λ_ _ _ _ _ st h=>let ⟨⟨_,f⟩,_⟩:=st;wcX f h
theorem xg{E:Value->Shared->Prop}{Q:Value->Shared->Prop}(l:args.any (·.1)=false)(o:j.any (·.1.isNone)=false)
 (h:wpAny M A (evalArgs (.type T) true args j) (λa g=>wpAny M A (call (.type T) (first++a.pos) a.kw) Q E g) E s):wpAny M A (callWith pos (.type T) first args j) Q E s:=by
 unfold callWith;refine Zk (waG (wad h (λa g b=>Zk (wct ?_)) λ_ _ x=>x));simp only[l,o,Bool.or_false];exact Zk (ZN (Zk (wad b (λr c d=>Zk (waG (wpAny_point (ZN d)))) λ_ _ x=>x)))
section
variable{X:Cx}
def KZ(K:Zh)(ta:TA):TI:=λσ H R=>ta σ H λvs H1=>∃a xs,vs=[.ref a]/\aI K H1 a xs/\R (FG K a) H1
theorem FH{g:List Expr}{k j:Nat}{o:Pos}{l:Expr}{C:TA}{p J kp pos:Pos}(T:Gl X "enumerate")(U:X.mg "enumerate"=none)(ha:PA X [l] C)(hs:starEach [l] X.env=[(false,eval l X.env)]:=by rfl) :
 PI X (.Tuple g k o) (.Call (.Name "enumerate" p) [l] [⟨some "start",.Constant (.int 1) j J,kp⟩] pos) (KZ X.K C):=by
 intro c s σ H R I h;refine waL (iB I T U jG ?_ (by decide) (by decide));refine xg (by rw[hs];rfl) rfl ?_
 have w:backTo pos (starEach [l] X.env)=(false,(backTo pos (starEach [l] X.env)).head (by rw[hs];exact λz=>nomatch z) |>.2) :: []:=by
  simp only[hs];rfl
 rw[w];refine evalArgs_kwB rfl ?_;rw[<-w];refine bS (ha pos c s σ H _ I h) λZ E ⟨vs,A,F,G,L⟩=>?_;refine wdh (bS (ak (X:=X) (i:=1) c E σ A (λx m=>x=.int 1/\m=A) F ⟨rfl,rfl⟩) λv d ⟨y,m,n,M,N,O⟩=>wdx ?_);subst N O;obtain⟨t,rfl⟩:=M;obtain⟨a,xs,e,P,q⟩:=L;subst e;obtain⟨u,rfl,Q⟩:=vals1 G;cases Q;obtain⟨S,rv,pl,hz⟩:=n.list P;refine AW pl.isList λV B hit kp=>wcX B ?_;have W:Inv X c σ m {d with heap:=V}:=n.kept (t':=d.toks) kp;have r:a < d.heap.objs.size:=let ⟨_,Y,_⟩:=pl.isList;Zz Y
 refine⟨d.heap.objs.size + 1,[d.heap.objs.size + 1,d.heap.objs.size],_,_,m,rfl,W,AY a _ _ (wby (wb6 _)) (ZJ r),⟨⟨_,B⟩,hit⟩,λb D=>?_,q⟩
 have f:d.heap.objs.size<=b:=by
  rcases ZT.mp D with rfl |D
  ·grind
  ·grind
 exact n.Cu f (n.aZ.fresh f)
end
theorem Dw{K:Zh}{a:Addr}{xs:List V}{g:TG}{C:TS}{D:Ends}{σ:St}{H:Hp}(Pv:Nat->St->Hp->Prop)(J:Pv 0 σ H)(hl:∀i σ H,i<=xs.length->Pv i σ H->aI K H a xs)
 (hs:∀i x σ H T,xs[i]?=some x->Pv i σ H->H T=none->g (.ref T) σ (upd H T (.tup [.int ((i + 1:Nat):Int),x])) λj r=>C {D with nx:=Pv (i + 1),ct:=Pv (i + 1),bk:=D.nx} j r) (hd:∀σ H,Pv xs.length σ H->D.nx σ H) :
 ∃W:Nat->Nat->St->Hp->Prop,(∃m,W 0 m σ H)/\∀i m σ H,W i m σ H ->
  ((FG K a).stop i H/\D.nx σ H)\/((FG K a).go i H/\∃N:St->Hp->Prop,(∀l o,N l o->∃I,I < m/\W (i + 1) I l o)/\∀x o,(FG K a).ur i H x o->g x σ o λj r=>C {D with nx:=N,ct:=N,bk:=D.nx} j r):=by
 refine⟨λi m σ H=>m=xs.length - i/\i<=xs.length/\Pv i σ H,⟨xs.length,by simp,wa0 _,J⟩,?_⟩;rintro i m σ H ⟨rfl,hi,p⟩;have q:=hl i σ H hi p
 by_cases b:i < xs.length
 ·refine .inr ⟨⟨xs,xs[i],q,by simp[b]⟩,Pv (i + 1),λl o c=>⟨xs.length - (i + 1),by omega,rfl,b,c⟩,λx o y=>?_⟩;obtain⟨T,d,f,h,k,y⟩:=y;subst h k;exact hs i d σ _ T (y xs q) p f
 ·have e:i=xs.length:=by omega
  subst e;exact .inl ⟨⟨xs,q,Zr _⟩,hd σ H p⟩
end L2
namespace L2
open PySem PySem.Spec PyProof.Rows
def t8(K:Zh)(J:It)(l:Addr)(σf:St)(tt:TT)(te:TE)(H:Hp)(Q:Hp->Prop):Prop:=
 ∃W:Nat->Nat->List V->Hp->Prop,(∃m,W 0 m [] (upd H l (.lst [])))/\∀i m ys H2,W i m ys H2->H2 l=some (.lst ys) /\
  ((J.stop i H2/\Q H2)\/(J.go i H2/\ys.length < sizeLine/\∀x H3,J.ur i H2 x H3->∃p a b c,x=.ref p/\ia K H3 p [a,b,c]/\tt (some a :: some b :: some c :: σf) H3 λok H4=>
    if ok=true then te (some a :: some b :: some c :: σf) H4 λy H5=>H5 l=some (.lst ys)/\∃m',m' < m/\W (i + 1) m' (ys++[y]) (upd H5 l (.lst (ys++[y])))
    else ∃m',m' < m/\W (i + 1) m' ys H4))
def L1(K:Zh)(wi:TI)(ix:List Nat)(tt:TT)(te:TE):TE:=λσ H Q=>wi σ H λJ H1=>∀l,H1 l=none->t8 K J l (pick σ ix) tt te H1 (λH2=>Q (.ref l) H2)
section
variable{X:Cx}{pins:List (Addr×Obj)}{σ:St}{H:Hp}{s₂:Shared}{scope:wc3}{x x2 x3:Str}{ys:List Str}{ix:List Nat}{cl:List (Str×Addr)}{fp:List Addr}{L:Addr}
theorem FI(hc:X.calm=true)(B:bE X scope x ys ix)(g:bE X scope x2 ys ix)(j:bE X scope x3 ys ix)(l:x≠x2/\x≠x3/\x2≠x3)(cl L s H ex pn):PG (bb X scope ([x,x2,x3]++ys) cl L s H ex pn) (.Tuple [.Name x r,.Name x2 o,.Name x3 p] C pt) (Eb X.K 3 (kc (eK 0) (kc (eK 1) (kc (eK 2) Ea)))):=by
 have d:(relabel scope X.env).names.lookup x=some .local:=wbo B.var;have b:(relabel scope X.env).names.lookup x2=some .local:=wbo g.var;have c:(relabel scope X.env).names.lookup x3=some .local:=wbo j.var
 have a:(x :: x2 :: x3 :: ys).Nodup:=by
  have:=B.nd;have:=g.nd;have:=j.nd
  grind
 exact eL hc (aS (j6 a rfl (.inl d) (.inr d)) (aS (j6 a rfl (.inl b) (.inr b)) (aS (j6 a rfl (.inl c) (.inr c)) d5)))
theorem FJ{K:Zh}{J:It}(h:t8 K J l g j o H Q):vv (Eb K 3 (kc (eK 0) (kc (eK 1) (kc (eK 2) Ea)))) 3 J l g j o H Q:=
 let ⟨W,a,t⟩:=h
 ⟨W,a,λi m ys k w=>let ⟨p,q⟩:=t i m ys k w;⟨p,q.imp id λ⟨a,b,c⟩=>⟨a,b,λx n r z y=>by revert r;refine ib 3 _ ?_;exact λ_ _ _=>let ⟨p,v,f,d,e,u,s⟩:=c x n y;⟨p,[v,f,d],e,u,rfl,v,[f,d],rfl,f,[d],rfl,d,[],rfl,rfl,⟨[some v,some f,some d],rfl,rfl⟩,s⟩⟩⟩⟩
theorem FK(hc:X.calm=true)(B:bE X scope x ys ix)(U:bE X scope x2 ys ix)(B3:bE X scope x3 ys ix)(g:x≠x2/\x≠x3/\x2≠x3)(hi:PI X (.Tuple [.Name x px,.Name x2 j,.Name x3 o] kt pt) iter wi)
 (ht:∀cl L s H ex pn,GJ (bb X scope (x :: x2 :: x3 :: ys) cl L s H ex pn) p I) (he:∀cl L s H ex pn,PE (bb X scope (x :: x2 :: x3 :: ys) cl L s H ex pn) r T)
 (hs:∀v,wbc iter X.env v=pure v:=by intro _;rfl):PE X (.ListComp r [⟨.Tuple [.Name x px,.Name x2 j,.Name x3 o] kt pt,iter,p,0⟩] scope pos) (L1 X.K wi ix I T):=
 sr (C:=λJ l a H Q=>t8 X.K J l a I T H Q) (xs:=[x,x2,x3]) hc B (FI hc B U B3 g) (λ_ _ _ _ _=>FJ) hi ht he hs
end
end L2
namespace Bs
open PySem L2 Sx
noncomputable def cU(ds:List Nat)(qs:List (Str×Nat)):List (Str×Nat):=qs.filter λq=>decide (q.2∈ds)
theorem vX(h:∀d∈S,d∈T):∀g:List (Str×Nat),(cU S g).length<=(cU T g).length
 |[]=>Zr _
 |q :: g=>by
  have a:=vX h g;unfold cU at a ⊢
  by_cases b:q.2∈S
  ·rw[wah (by exact decide_eq_true b),wah (by exact decide_eq_true (h _ b))];exact Nat.succ_le_succ a
  ·rw[waj (by simpa using b)]
   by_cases c:q.2∈T
   ·rw[wah (by exact decide_eq_true c)];exact Nat.le_succ_of_le a
   ·rw[waj (by simpa using c)];exact a
theorem FL(j:List Nat)(g:List (Str×Nat)):(cU j g).length<=g.length:=wat _ _
noncomputable def tf(lns:List (List (Str×Nat)))(many:Int)(ds:List Nat):List Nat:=ds.filter λd=>decide (many<=((cU ds (lns.getD d [])).length:Int))
def C7(lns:List (List (Str×Nat)))(many:Int)(S:List Nat):Prop:=∀d∈S,d < lns.length/\many<=((cU S (lns.getD d [])).length:Int)
structure Above(lns:List (List (Str×Nat)))(many:Int)(ks:List Nat):Prop where
 sub:ks.Sublist (ZY lns.length)
 top:∀S,C7 lns many S->∀d∈S,d∈ks
theorem Above.start(lns:List (List (Str×Nat)))(many:Int):Above lns many (ZY lns.length):=⟨we5 _,λS h d hd=>wak.mpr (h d hd).1⟩
theorem Above.next(h:Above lns many g):Above lns many (tf lns many g):=by
 refine⟨wcw.trans h.sub,λS a d hd=>ZO.mpr ⟨h.top S a d hd,decide_eq_true ?_⟩⟩;have b:=(a d hd).2;have c:=vX (h.top S a) (lns.getD d []);omega
theorem Above.stays(h:Above lns many g)(e:tf lns many g=g):C7 lns many g:=λd hd=>by
 refine⟨wak.mp (h.sub.subset hd),?_⟩;rw[<-e]at hd;exact of_decide_eq_true (ZO.mp hd).2
theorem FN(e:tf lns many g≠g):(tf lns many g).length < g.length:=by
 have a:(tf lns many g).Sublist g:=wcw;exact Nat.lt_of_le_of_ne a.length_le λz=>e (a.eq_of_length z)
structure nh(lns:List (List (Str×Nat)))(many:Int)(ks:List Nat):Prop where
 ab:Above lns many ks
 st:C7 lns many ks
theorem ni:∀g:List (Str×Nat),(∀q∈g,ws.getD q.2 0<=h)->aY ws g<=(g.length:Int) * h
 |[],_=>by show (0:Int)<=(0:Nat) * h;simp
 |q :: g,a=>by
  have c:=ni g λp b=>a p (Zt _ b);have d:=a q (Zy ..);rw[cb,ZZ,wcC,weV];show _<=_ + 1 * h;omega
theorem getD_mem{ws:List Int}{i:Nat}(h:i < ws.length):ws.getD i 0∈ws:=by
 grind
theorem yZ{many h:Int}{hs:List Str}{ws:List Int}{lns:List (List (Str×Nat))}(S:ip many hs ws lns)(K:nh lns many [])(C:h∈ws)(I:∀w∈ws,w<=h)(m1:1<=many) :
 ∃(d i:Nat) (g:List (Str×Nat)) (q:Str×Nat),lns[d]?=some g/\g[i]?=some q/\ws.getD d 0=h/\ws.getD q.2 0 < h:=by
 have f:=S.w;have u:=S.l
 by_cases s:∃(d i:Nat) (g:List (Str×Nat)) (q:Str×Nat),lns[d]?=some g/\g[i]?=some q/\ws.getD d 0=h/\ws.getD q.2 0 < h
 ·exact s
 exfalso
 have all:∀(d:Nat) (g:List (Str×Nat)),lns[d]?=some g->ws.getD d 0=h->∀q∈g,ws.getD q.2 0=h:=λd g hd hw q c=>by
  obtain⟨i,hi,e⟩:=wb4 c;have v:¬ws.getD q.2 0 < h:=λz=>s ⟨d,i,g,q,hd,by rw[Zg hi,e],hw,z⟩;have o:=I _ (getD_mem (ws:=ws) (i:=q.2) (by rw[f];exact S.e g (ZA hd) q c));omega
 obtain⟨x,j,y⟩:=wb4 C;have v:1<=h:=S.p h C
 have r:C7 lns many ((ZY ws.length).filter λd=>decide (ws.getD d 0=h)):=λd hd=>by
  obtain⟨t,n⟩:=ZO.mp hd;have t:=wak.mp t;have n:ws.getD d 0=h:=of_decide_eq_true n;have k:d < lns.length:=by omega
  have c:lns[d]?=some (lns.getD d []):=by rw[Zj,Zg k];rfl
  refine⟨k,?_⟩;have m:=all d _ c n;have A:cU ((ZY ws.length).filter λd=>decide (ws.getD d 0=h)) (lns.getD d [])=lns.getD d []:=wab.mpr λq a=>decide_eq_true (ZO.mpr ⟨wak.mpr (by rw[f];exact S.e _ (ZA c) q a),decide_eq_true (m q a)⟩);rw[A];have o:=S.b d _ c;have B:=ni (lns.getD d []) λq a=>Int.le_of_eq (m q a);rw[n]at o;have D:many * h<=((lns.getD d []).length:Int) * h:=wcf o B;exact wdX D (by omega)
 have:=K.ab.top _ r x (ZO.mpr ⟨wak.mpr j,decide_eq_true (by rw[Zj,Zg j,y];rfl)⟩);cases this
theorem vY(f:Nat->Bool)(ws:List Int):∀(k:Nat) (g:List (Str×Nat)),aY ws (b4 f k g)=(((weT k g.length).filter f).map λi=>ws.getD (g.getD (i - k) ("",0)).2 0).sum
 |_,[]=>rfl
 |k,q :: g=>by
  have a:=vY f ws (k + 1) g
  have e:((weT (k + 1) g.length).filter f).map (λi=>ws.getD ((q :: g).getD (i - k) ("",0)).2 0)=((weT (k + 1) g.length).filter f).map λi=>ws.getD (g.getD (i - (k + 1)) ("",0)).2 0:=wac λi hi=>by
   have:=(wfV.mp (ZO.mp hi).1).1;rw[show i - k=(i - (k + 1)) + 1 by omega];rfl
  show aY ws (if f k then q :: b4 f (k + 1) g else b4 f (k + 1) g)=_;rw[ZZ,wgi]
  cases b:f k with
  |true=>
   rw[if_pos rfl,wah b,ZK,e,cb,a,waK,wbg];rfl
  |false=>
   rw[if_neg (by decide),waj (by grind),e,a]
theorem FO{a b:List Int}(h:a.Perm b):a.sum=b.sum:=by
 induction h with
 |nil=>rfl
 |cons x _ c=>grind
 |swap x y l=>grind
 |trans _ _ d e=>grind
theorem AZ{a b:List Nat}(na:a.Nodup)(g:b.Nodup)(h:∀x,x∈a↔x∈b):a.Perm b:=by grind [weJ]
theorem B1(ws:List Int)(g:List (Str×Nat)){ns:List Nat}(nd:ns.Nodup)(j:∀n∈ns,n < g.length):aY ws (b0 (ns.map λn:Nat=>(n:Int)) g)=(ns.map λi=>ws.getD (g.getD i ("",0)).2 0).sum:=by
 unfold b0;rw[vY];refine FO (List.Perm.map _ (AZ ((List.nodup_range' ..).filter _) nd λx=>?_));rw[ZO,wfV,decide_eq_true_eq,Zq];constructor
 ·grind
 ·grind
theorem Dx(ws:List Int)(ns:List Int)(g:List (Str×Nat)):aY ws (b0 ns g) + aY ws (aX ns g)=aY ws g:=by
 have gen:∀(f:Nat->Bool) (k:Nat) (l:List (Str×Nat)),aY ws (b4 f k l) + aY ws (b4 (λi=>!f i) k l)=aY ws l:=by
  intro f k l
  induction l generalizing k with
  |nil=>rfl
  |cons q l a=>
   have a:=a (k + 1);show aY ws (if f k then q :: b4 f (k + 1) l else b4 f (k + 1) l) + aY ws (if !f k then q :: b4 (λi=>!f i) (k + 1) l else b4 (λi=>!f i) (k + 1) l)=_;rw[cb]
   cases f k with
   |true=>
    rw[if_pos (by decide),if_neg (by decide),cb];omega
   |false=>
    rw[if_neg (by decide),if_pos (by decide),cb];omega
 exact gen _ 0 g
theorem nj{f:Nat->Int}:∀ns:List Nat,(∀n∈ns,f n<=h)->(ns.map f).sum<=(ns.length:Int) * h
 |[],_=>by show (0:Int)<=(0:Nat) * h;simp
 |n :: ns,a=>by
  have c:=nj ns λp b=>a p (Zt _ b);have d:=a n (Zy ..);rw[ZK,waK,ZZ,wcC,weV];show _<=_ + 1 * h;omega
theorem tj{f:Nat->Int}:∀ns:List Nat,(∀n∈ns,f n<=h)->x∈ns->f x < h->(ns.map f).sum < (ns.length:Int) * h
 |[],_,a,_=>nomatch a
 |n :: ns,c,a,b=>by
  have i:=c n (Zy ..);rw[ZK,waK,ZZ,wcC,weV];show _ < _ + 1 * h;rcases ZT.mp a with e |a
  ·have g:=nj ns λp d=>c p (Zt _ d);rw[e]at b;omega
  ·have g:=tj ns (λp d=>c p (Zt _ d)) a b;omega
theorem tm{f:Nat->Int}:∀ns:List Nat,(∀n∈ns,1<=f n)->ns≠[]->1<=(ns.map f).sum
 |[],_,h=>absurd rfl h
 |[n],a,_=>by
  have:=a n (Zy ..);show 1<=f n + 0;omega
 |n :: m :: ns,a,_=>by
  have c:=a n (Zy ..);have d:=tm (m :: ns) (λp b=>a p (Zt _ b)) (λz=>nomatch z);rw[ZK,waK];omega
theorem Dy{many h w:Int}{hs:List Str}{ws:List Int}{lns:List (List (Str×Nat))}(S:ip many hs ws lns){d i0:Nat}{g:List (Str×Nat)}{ns:List Nat}(T:∀w∈ws,w<=h)(hd:lns[d]?=some g)(hw:ws.getD d 0=h)(m1:1<=many)
 (nd:ns.Nodup) (r:∀n∈ns,n < g.length) (C:ns≠[]) (J:(ns.length:Int)<=many) (o:(ns.length:Int)=many->i0∈ns) (I:ws.getD (g.getD i0 ("",0)).2 0 < h)
 (j:(ns.map λi=>ws.getD (g.getD i ("",0)).2 0).sum=many * w):d8 ws lns many (d:Int) (ns.map λn:Nat=>(n:Int)) w=true:=by
 have k:=S.w;have t:=S.l;have u:d < lns.length:=(Zn.mp hd).1;have m:lns.getD d []=g:=by rw[Zj,hd];rfl
 have q:g∈lns:=ZA hd
 have a:∀i,i < g.length->ws.getD (g.getD i ("",0)).2 0∈ws:=λi hi=>by
  have e:g.getD i ("",0)=g[i]:=by rw[Zj,Zg hi];rfl
  rw[e];exact getD_mem (by rw[k];exact S.e g q _ (ZV hi))
 have c:∀n∈ns,1<=ws.getD (g.getD n ("",0)).2 0:=λn hn=>S.p _ (a n (r n hn));have f:∀n∈ns,ws.getD (g.getD n ("",0)).2 0<=h:=λn hn=>T _ (a n (r n hn));have x:=tm ns c C;rw[j]at x
 have y:1<=w:=by
  by_cases z:1<=w
  ·exact z
  ·have:=Int.mul_nonpos_of_nonneg_of_nonpos (show 0<=many by omega) (show w<=0 by omega);omega
 have H:1<=h:=by rw[<-hw];exact S.p _ (getD_mem (by omega))
 have K:w < h:=by
  have lt:many * w < many * h:=by
   rw[<-j]
   by_cases z:(ns.length:Int)=many
   ·have:=tj ns f (o z) I;rw[z]at this;exact this
   ·have A:=nj ns f;have B:((ns.length:Int) + 1) * h<=many * h:=Int.mul_le_mul_of_nonneg_right (by omega) (by omega);rw[weV]at B;omega
  exact Int.lt_of_mul_lt_mul_left lt (by omega)
 have s:=B1 ws g nd r;rw[j]at s;have L:=Dx ws (ns.map λn:Nat=>(n:Int)) g;have b:=S.b d g hd;rw[hw]at b
 have D:many * (h - w)<=aY ws (aX (ns.map λn:Nat=>(n:Int)) g):=by
  rw[Int.mul_sub];omega
 have part:∀(l:List (Str×Nat)) (v:Int),1<=v->many * v<=aY ws l->dP ws many l v=true:=λl v E hl=>by
  have hn:l≠[]:=λz=>by
   rw[z]at hl;have A:many * v<=0:=hl;have:=Int.mul_pos (show 0 < many by omega) (show 0 < v by omega);omega
  unfold dP;rw[decide_eq_true E,decide_eq_true hl]
  cases l with
  |nil=>exact absurd rfl hn
  |cons _ _=>rfl
 unfold d8;rw[ZS,m,hw,part _ w y (Int.le_of_eq s.symm),part _ (h - w) (by omega) D];have F:dU (d:Int) lns.length=true:=by unfold dU;rw[decide_eq_true (by omega),decide_eq_true (by omega)];rfl
 have G:(ns.map λn:Nat=>(n:Int)).all (λi=>dU i g.length)=true:=wa4.mpr λi hi=>by
  obtain⟨n,hn,rfl⟩:=Zq.mp hi;have:=r n hn;unfold dU;rw[decide_eq_true (by omega),decide_eq_true (by omega)];rfl
 rw[F,G];rfl
noncomputable def nI(ds:List Nat):List Int:=ds.map λn:Nat=>(n:Int)
theorem L4{g:List Nat}{e:Nat}:(e:Int)∈nI g↔e∈g:=by grind [nI]
theorem FP(e:Nat)(g:List Nat):nK (.int (e:Int)) ((nI g).map V.int)=decide (e∈g):=by
 rw[sV];exact decide_eq_decide.mpr L4
theorem bJ(g:List Nat):(nI g).length=g.length:=Zf _
theorem xh{g:List Nat}{i n:Nat}(h:g[i]?=some n):((nI g).map V.int)[i]?=some (.int (n:Int)):=by
 unfold nI;rw[Zi,Zi,h];rfl
theorem FQ:∀{a b:List Nat},nI a=nI b->a=b
 |[],[],_=>rfl
 |[],_ :: _,h=>nomatch h
 |_ :: _,[],h=>nomatch h
 |x :: a,y :: b,h=>by
  unfold nI at h;rw[ZK,ZK]at h;injection h with d c
  rw[FQ (a:=a) (b:=b) c,show x=y by omega]
theorem lX(a b:List Nat):nI (a++b)=nI a++nI b:=ZB
structure Reach(lns:List (List (Str×Nat)))(rs:List Nat):Prop where
 cl:∀d∈rs,∀q∈lns.getD d [],q.2∈rs
 lt:∀d∈rs,d < lns.length
 ne:rs≠[]
 nd:rs.Nodup
noncomputable def cB(Kp:List Str)(f:Str->Int):Str->Int:=λp=>if p∈Kp then f p else 0
theorem tq{α:Type}{f g:α->Int}:∀l:List α,(∀x∈l,f x<=g x)->(l.map f).sum<=(l.map g).sum
 |[],_=>wcv _
 |x :: l,h=>by
  have:=h x (Zy ..);have:=tq l λy a=>h y (Zt _ a);rw[ZK,ZK,waK,waK];omega
theorem tu{α:Type}{f:α->Int}{x:α}:∀l:List α,(∀x∈l,0<=f x)->x∈l->0 < f x->0 < (l.map f).sum
 |y :: l,h,a,c=>by
  have d:=h y (Zy ..);have hn:=sO λz b=>h z (Zt _ b);rw[ZK,waK];rcases ZT.mp a with e |a
  ·rw[<-e];omega
  ·have:=tu l (λz b=>h z (Zt _ b)) a c;omega
theorem tD{ls g:List Str}{f:Str->Int}(h:∀p∈ls,0<=f p):∀p∈ls,0<=cB g f p:=λp a=>by
 unfold cB;split
 ·exact h p a
 ·grind
theorem z0{ls g:List Str}{f:Str->Int}(h:∀p∈ls,0<=f p):∀p∈ls,cB g f p<=f p:=λp a=>by
 unfold cB;split
 ·grind
 ·exact h p a
theorem Dz{ls g:List Str}{f:Str->Int}(h:∀p∈ls,0<=f p):(ls.map (cB g f)).sum<=(ls.map f).sum:=tq ls (z0 h)
theorem DA{ls:List Str}{f:Str->Int}{g:List Nat}(h:∀p∈ls,0<=f p)(hl:∀d∈g,d < (aq ls f).length)(j:g≠[]):0 < (ls.map (cB (g.map λd=>(aq ls f).getD d "") f)).sum:=by
 cases g with
 |nil=>exact absurd rfl j
 |cons d g=>
  have hd:=hl d (Zy ..)
  have a:(aq ls f).getD d ""∈aq ls f:=by
   grind
  obtain⟨b,c⟩:=ZO.mp a;refine tu ls (tD h) b ?_;unfold cB;rw[if_pos (Zq.mpr ⟨d,Zy ..,rfl⟩)];exact of_decide_eq_true c
theorem DB{g:Str}{ws ss ls:List Str}{n:Nat}{many:Int}{f:Str->Int}{j:List Nat}(hn:∀p∈ls,0<=f p)(o:E2 g ws ss ls many n f)(R:Reach (bA g ws ss ls n (aq ls f)) j) :
 E2 g ws ss ls many n (cB (j.map λd=>(aq ls f).getD d "") f):=by
 intro p m
 by_cases h:p∈j.map λd=>(aq ls f).getD d ""
 ·obtain⟨d,hd,rfl⟩:=Zq.mp h;have b:=R.lt d hd;have c:d < (aq ls f).length:=by unfold bA at b;rwa[Zf]at b
  have k:(bA g ws ss ls n (aq ls f)).getD d []=fD g ws ss ls n (aq ls f) ((aq ls f).getD d ""):=by
   unfold bA;rw[Zj,Zi,Zg c,Zj,Zg c];rfl
  have e:gv g ws ss ls n (cB (j.map λd=>(aq ls f).getD d "") f) ((aq ls f).getD d "")=gv g ws ss ls n f ((aq ls f).getD d ""):=by
   unfold gv;refine congrArg List.sum (wac λq i=>?_);unfold cB
   by_cases a:q.2∈j.map λd=>(aq ls f).getD d ""
   ·rw[if_pos a]
   ·rw[if_neg a]
    by_cases r:0 < f q.2
    ·exfalso;have l:q.2∈aq ls f:=ZO.mpr ⟨cR i,decide_eq_true r⟩
     have s:(q.1,(aq ls f).idxOf q.2)∈(bA g ws ss ls n (aq ls f)).getD d []:=by
      rw[k];unfold fD;exact Zq.mpr ⟨q,ZO.mpr ⟨i,decide_eq_true l⟩,rfl⟩
     have:=R.cl d hd _ s;refine a (Zq.mpr ⟨_,this,?_⟩);show (aq ls f).getD ((aq ls f).idxOf q.2) ""=q.2;rw[Zj,(pH l).1];rfl
    ·have:=hn _ (cR i);omega
  rw[e];unfold cB;rw[if_pos h];exact o _ m
 ·have e:cB (j.map λd=>(aq ls f).getD d "") f p=0:=by unfold cB;rw[if_neg h]
  rw[e,Int.mul_zero];unfold gv;exact sO λq i=>tD hn _ (cR i)
end Bs
namespace Sx
open PySem L2 Bs
inductive L5(K:Zh)(vs:List V)(H:Hp)(Q:VK)(eA:XK):Prop
 |mk (v a ds qs) (_:vs=[v,.ref a]) (_:bh K H (bI qs) v) (_:aI K H a ((nI ds).map V.int)) (_:qs.length<=10000) (_:∀y H',a8 H H'->bh K (aF H H') (bI (cU ds qs)) y->Q y H')
inductive L6(K:Zh)(C:Addr)(vs:List V)(H:Hp)(Q:VK)(eA:XK):Prop
 |mk (x many hs ws lns) (_:vs=[.ref x,.int many]) (_:bM K C H x hs ws lns) (_:lns.length<=1000) (_:(∀l∈lns,l.length<=10000)) (_:∀(l:Addr) (ks:List Nat) (H':Hp),a8 H H'->H l=none->H' l=some (.lst ((nI ks).map V.int))->nh lns many ks->Q (.ref l) H')
inductive DC(K:Zh)(C:Addr)(vs:List V)(H:Hp)(Q:VK)(eA:XK):Prop
 |mk (x:Addr) (d:Nat) (hs:List Str) (ws:List Int) (lns:List (List (Str×Nat))) (_:vs=[.ref x,.int (d:Int)]) (_:bM K C H x hs ws lns) (_:d < lns.length) (_:(∀l∈lns,∀q∈l,q.2 < lns.length)) (_:lns.getD d []≠[]) (_:lns.length<=1000) (_:∀(l:Addr) (rs:List Nat) (H':Hp),a8 H H'->H l=none->H' l=some (.lst ((nI rs).map V.int))->Reach lns rs->Q (.ref l) H')
structure Down(ws:List Int)(lns:List (List (Str×Nat)))(h:Int)(d i:Nat)(qs:List (Str×Nat))(q:Str×Nat):Prop where
 m:h∈ws
 t:∀w∈ws,w<=h
 l:lns[d]?=some qs
 s:qs[i]?=some q
 e:ws.getD d 0=h
 lt:ws.getD q.2 0 < h
inductive L7(K:Zh)(C:Addr)(vs:List V)(H:Hp)(Q:VK)(eA:XK):Prop
 |mk (x hs ws lns) (_:vs=[.ref x]) (_:bM K C H x hs ws lns) (_:ws.length=lns.length) (_:(∀l∈lns,∀q∈l,q.2 < ws.length)) (_:ws≠[]) (_:(∀h∈ws,(∀w∈ws,w<=h)->∃d i qs q,Down ws lns h d i qs q)) (_:∀(t:Addr) (h:Int) (d i:Nat) (qs:List (Str×Nat)) (q:Str×Nat) (H':Hp),a8 H H'->H' t=some (.tup [.int (d:Int),.int (i:Int)])->Down ws lns h d i qs q->Q (.ref t) H')
inductive Nq(K:Zh)(vs:List V)(H:Hp)(Q:VK)(eA:XK):Prop
 |mk (a b:Addr) (many:Int) (wl:List Int) (nums:List Nat) (_:vs=[.ref a,.ref b,.int many]) (_:aI K H a (wl.map V.int)) (_:aI K H b ((nI nums).map V.int)) (_:1<=many) (_:many<=1000) (_:(nums.length:Int)=many) (_:(∀n∈nums,n < wl.length)) (_:∀(l:Addr) (i j:Nat) (H':Hp),a8 H H'->H l=none->i < j->j<=nums.length->(((nums.take j).drop i).map λn=>wl.getD n 0).sum % many=0->H' l=some (.lst ((nI ((nums.take j).drop i)).map V.int))->Q (.ref l) H')
inductive L8(K:Zh)(C:Addr)(vs:List V)(H:Hp)(Q:VK)(eA:XK):Prop
 |mk (x many hs ws lns) (_:vs=[.ref x,.int many]) (_:bM K C H x hs ws lns) (_:ip many hs ws lns) (_:nh lns many []) (_:hs≠[]) (_:hs.length<=1000) (_:(∀l∈lns,l.length<=10000)) (_:1<=many) (_:many<=1000) (_:∀(t l:Addr) (d:Nat) (ns:List Nat) (w:Int) (H':Hp),a8 H H'->H l=none->H t=none->H' t=some (.tup [.int (d:Int),.ref l,.int w])->H' l=some (.lst ((nI ns).map V.int))->d8 ws lns many (d:Int) (nI ns) w=true->d < hs.length->ns.length<=1000->Q (.ref t) H')
end Sx
namespace Bs
open PySem L2 Sx
theorem vZ:∀(a b:List Int),rj (a.map V.int) (b.map V.int)=decide (a=b)
 |[],[]=>rfl
 |[],_ :: _=>rfl
 |_ :: _,[]=>rfl
 |x :: a,y :: b=>by
  have d:=vZ a b;show (ph (.int x) (.int y) && rj (a.map V.int) (b.map V.int))=_;rw[d]
  by_cases h:x=y
  ·subst h
   by_cases c:a=b
   ·subst c;have:ph (.int x) (.int x)=true:=by simp[ph]
    rw[this,decide_eq_true rfl,decide_eq_true rfl];rfl
   ·rw[decide_eq_false c,wcT,decide_eq_false λz=>c (wfs z).2]
  ·have:ph (.int x) (.int y)=false:=by simp[ph,h]
   rw[this,wcg,decide_eq_false λz=>h (wfs z).1]
theorem pK(a b:List Nat):rj ((nI a).map V.int) ((nI b).map V.int)=decide (a=b):=by
 rw[vZ];exact decide_eq_decide.mpr ⟨FQ,λe=>by rw[e]⟩
theorem w4{p:V->Bool}{f:Nat->Bool}(h:∀n:Nat,p (.int (n:Int))=f n):∀g:List Nat,((nI g).map V.int).filter p=(nI (g.filter f)).map V.int:=by intro n;induction n <;> grind [nI,wah,waj]
theorem pL(h:x∈(nI g).map V.int):∃n∈g,x=.int (n:Int):=by grind [nI]
theorem z4(n:Nat):((ZY n).map λi=>V.int (i:Nat))=(nI (ZY n)).map V.int:=by
 unfold nI;rw[Zw];rfl
noncomputable def dB(rs:List Nat):List (Key×V):=rs.map λn:Nat=>((wao (n:Int):Key),V.bl true)
theorem B4(e:Nat):∀g:List Nat,bu (dB g) (wao (e:Int):Key)=if e∈g then some (.bl true) else none
 |[]=>rfl
 |r :: g=>by
  have a:=B4 e g
  by_cases h:r=e
  ·subst h;rw[if_pos (Zy ..)];exact bF (p:=((wao (r:Int):Key),V.bl true)) (r:=dB g) rfl
  ·have hn:¬(wao (r:Int):Key)=wao (e:Int):=λz=>h (by grind);rw[show dB (r :: g)=((wao (r:Int):Key),V.bl true) :: dB g from rfl,bG hn,a]
   by_cases b:e∈g
   ·grind
   ·grind
theorem La{e:Nat}{g:List Nat}(h:e∉g):putK (dB g) (wao (e:Int):Key) (.bl true)=dB (g++[e]):=by
 rw[cF _ (by rw[B4,if_neg h])];unfold dB;rw[ZB];rfl
theorem IA(g:List Nat):((dB g).map λj=>kV j.1)=(nI g).map V.int:=by
 unfold dB nI;rw[Zw,Zw];rfl
theorem ku{n:Nat}{g:List Nat}(nd:g.Nodup)(h:∀r∈g,r < n):g.length<=n:=by
 have:=gY nd λr a=>wak.mpr (h r a);rwa[wag]at this
theorem IB(h:g≠[]):∃(z:Nat) (ys:List Nat),g=ys++[z]/\((nI g).map V.int)[((nI g).map V.int).length - 1]?=some (.int (z:Int))/\((nI g).map V.int).dropLast=(nI ys).map V.int:=by
 refine⟨g.getLast h,g.dropLast,(wch h).symm,?_,?_⟩
 ·have e:nI g=nI g.dropLast++[((g.getLast h:Nat):Int)]:=by
   conv=>lhs;rw[<-wch h]
   exact lX _ _
  rw[e,ZB,Zm];show (_++[V.int _])[_ + 1 - 1]?=_;rw[Nat.add_sub_cancel,ZW (Zr _),wbg];rfl
 ·unfold nI;rw[<-wfW,<-wfW]
noncomputable def jt(wl:List Int)(nums:List Nat)(j:Nat):Int:=((nums.take j).map λn=>wl.getD n 0).sum
theorem DE{wl:List Int}{g:List Nat}{j n:Nat}(h:g[j]?=some n):jt wl g (j + 1)=jt wl g j + wl.getD n 0:=by
 unfold jt;rw[wa7,h,ZB,wgt];show _ + (wl.getD n 0 + 0)=_;omega
theorem FR(wl:List Int)(g:List Nat)(h:i<=j):(((g.take j).drop i).map λn=>wl.getD n 0).sum=jt wl g j - jt wl g i:=by grind [jt,wdd,weH]
theorem FT{wl:List Int}{g:List Nat}{i j:Nat}{many:Int}(h:i<=j)(e:jt wl g i % many=jt wl g j % many):(((g.take j).drop i).map λn=>wl.getD n 0).sum % many=0:=by
 rw[FR wl g h];exact Int.emod_eq_emod_iff_emod_sub_eq_zero.mp e.symm
noncomputable def dR(many:Int)(p:Nat->Int)(n:Nat):List (Key×V):=(ZY n).map λi:Nat=>((wao (p i % many):Key),V.int (i:Int))
theorem DF{κ:Type}[DecidableEq κ]{k:κ}{v:V}:∀{kvs:List (κ×V)},bu kvs k=some v->(k,v)∈kvs:=by intro kvs;induction kvs <;> grind [Et,bF,Zy,bG,Zt]
theorem FU(many:Int)(p:Nat->Int)(n:Nat)(r:Int):(bu (dR many p n) (wao r:Key)=none/\∀i,i < n->p i % many≠r)\/∃i,i < n/\p i % many=r/\bu (dR many p n) (wao r:Key)=some (.int (i:Int)):=by
 cases h:bu (dR many p n) (wao r:Key) with
 |none=>
  refine .inl ⟨rfl,λi hi e=>?_⟩;refine yk h (Zq.mpr ⟨((wao (p i % many):Key),V.int (i:Int)),Zq.mpr ⟨i,wak.mpr hi,rfl⟩,?_⟩);show (wao (p i % many):Key)=_;rw[e]
 |some v=>
  obtain⟨i,hi,e⟩:=Zq.mp (DF h);have a:p i % many=r:=Sum.inl.inj (wd0 e).1;have b:V.int (i:Int)=v:=(wd0 e).2;exact .inr ⟨i,wak.mp hi,a,by rw[b]⟩
theorem Lb{p:Nat->Int}(h:bu (dR many p n) (wao (p n % many):Key)=none):putK (dR many p n) (wao (p n % many):Key) (.int (n:Int))=dR many p (n + 1):=by
 rw[cF _ h];unfold dR;rw[wcA,ZB];rfl
theorem Lc(many:Int)(p:Nat->Int)(n:Nat):(dR many p n).length=n:=by unfold dR;rw[Zf,wag]
theorem nodup_map_on{α β:Type}{f:α->β}:∀{l:List α},l.Nodup->(∀a∈l,∀b∈l,f a=f b->a=b)->(l.map f).Nodup:=by intro l;induction l <;> grind [wau,Zt,Zy]
theorem B5{many:Int}{p:Nat->Int}{n:Nat}(g:0 < many)(hn:(n:Int)=many)(hd:∀i k,i < k->k<=n->p i % many≠p k % many):False:=by
 have nd:((ZY (n + 1)).map λi=>(p i % many).toNat).Nodup:=nodup_map_on wgj λa ha b c e=>by
  have ha:=wak.mp ha;have c:=wak.mp c;have a0:=wav (p a) (show many≠0 by omega);have f:=wav (p b) (show many≠0 by omega);have j:p a % many=p b % many:=by grind
  rcases we3 a b with h |h |h
  ·grind
  ·exact h
  ·grind
 have:=ku (n:=n) nd λr d=>by
  obtain⟨i,_,rfl⟩:=Zq.mp d;have a0:=wav (p i) (show many≠0 by omega);have a1:=waF (p i) g;show (p i % many).toNat < n;omega
 rw[Zf,wag]at this;omega
theorem FV(xs:List Int)(g:i<=j)(l:j<=xs.length):iK (xs.map V.int) (some (i:Int)) (some (j:Int))=((xs.take j).drop i).map V.int:=by grind [iK,HT.Hh,Zf,weH,wd5,wc0,List.drop_take]
theorem o7(ns:List Nat)(j:Nat):(nI ns).take j=nI (ns.take j):=by unfold nI;rw[wc0]
theorem IC(ns:List Nat)(j:Nat):(nI ns).drop j=nI (ns.drop j):=by unfold nI;rw[wd5]
noncomputable def restOf(m i0:Nat):List Nat:=(ZY m).filter λn=>decide (n≠i0)
noncomputable def numsOf(m i0 k:Nat):List Nat:=i0 :: (restOf m i0).take k
theorem z5:∀{m:Nat},i0 < m->(restOf m i0).length=m - 1
 |m + 1,h=>by
  unfold restOf;rw[wcA,waE,Zm]
  by_cases e:i0=m
  ·subst e;have b:(ZY i0).filter (λn=>decide (n≠i0))=ZY i0:=wab.mpr λn hn=>decide_eq_true (by grind);rw[b,waj (by simp),wag];rfl
  ·have a:=z5 (i0:=i0) (m:=m) (by omega);unfold restOf at a;rw[a,wah (by grind)];show m - 1 + 1=_;omega
theorem B8(m i0 k:Nat):(numsOf m i0 k).Nodup:=by
 unfold numsOf;refine wa9.mpr ⟨λh=>?_,(wgj.filter _).sublist (waz _ _)⟩;have:=of_decide_eq_true (ZO.mp ((waz _ _).subset h)).2;exact this rfl
theorem xi(h:i0 < m):∀n∈numsOf m i0 k,n < m:=λn hn=>by
 rcases ZT.mp hn with rfl |hn
 ·exact h
 ·exact wak.mp (ZO.mp ((waz _ _).subset hn)).1
theorem z6(h:i0 < m)(g:k + 1<=m):(numsOf m i0 k).length=k + 1:=by
 grind [numsOf,ZZ,z5]
theorem w5(S:ip many hs ws lns)(D:Down ws lns h d i g q):many<=(g.length:Int):=by
 have a:g∈lns:=ZA D.l;have c:=S.b d g D.l;have f:=ni (ws:=ws) (h:=h) g λp j=>D.t _ (getD_mem (by rw[S.w];exact S.e g a p j));rw[D.e]at c;have k:1<=h:=S.p h D.m;exact wdX (wcf c f) (by omega)
theorem Ld(ws:List Int){g:List (Str×Nat)}{n:Nat}(h:n < g.length):(g.map λq=>ws.getD q.2 0).getD n 0=ws.getD (g.getD n ("",0)).2 0:=by
 rw[Zj,Zi,Zg h,Zj (l:=g),Zg h];rfl
theorem IE{many h:Int}{hs:List Str}{ws:List Int}{lns:List (List (Str×Nat))}(S:ip many hs ws lns)(m1:1<=many){d i0:Nat}{g:List (Str×Nat)}{q:Str×Nat}(D:Down ws lns h d i0 g q){i j:Nat}(p:i < j)(C:j<=(numsOf g.length i0 (many - 1).toNat).length)
 (r:((((numsOf g.length i0 (many - 1).toNat).take j).drop i).map λn=>(g.map λq=>ws.getD q.2 0).getD n 0).sum % many=0) :
 d8 ws lns many (d:Int) (nI (((numsOf g.length i0 (many - 1).toNat).take j).drop i)) (((((numsOf g.length i0 (many - 1).toNat).take j).drop i).map λn=>(g.map λq=>ws.getD q.2 0).getD n 0).sum / many)=true:=by
 have b:i0 < g.length:=(Zn.mp D.s).1;have hl:=w5 S D;have u:=z6 (k:=(many - 1).toNat) b (by omega);have c:=B8 g.length i0 (many - 1).toNat;have f:=xi (k:=(many - 1).toNat) b;have m:i0∈numsOf g.length i0 (many - 1).toNat:=Zy ..;generalize numsOf g.length i0 (many - 1).toNat=a at *;have sub:((a.take j).drop i).Sublist a:=(wfX _ _).trans (waz _ _);have len:((a.take j).drop i).length=j - i:=by rw[waV,ZG];omega
 have o:∀n∈(a.take j).drop i,n < g.length:=λn hn=>f n (sub.subset hn);have e:((a.take j).drop i).map (λn=>(g.map λq=>ws.getD q.2 0).getD n 0)=((a.take j).drop i).map λn=>ws.getD (g.getD n ("",0)).2 0:=wac λn hn=>Ld ws (o n hn);rw[e]at r ⊢;have v:g.getD i0 ("",0)=q:=by rw[Zj,D.s];rfl
 refine Dy S (i0:=i0) D.t D.l D.e m1 (c.sublist sub) o (λz=>?_) ?_ (λz=>?_) (by rw[v];exact D.lt) ?_
 ·rw[z]at len;have:(0:Nat)=j - i:=len;omega
 ·rw[len];omega
 ·have w:(a.take j).drop i=a:=sub.eq_of_length (by grind);rw[w];exact m
 ·have:=Int.mul_ediv_add_emod ((((a.take j).drop i).map λn=>ws.getD (g.getD n ("",0)).2 0).sum) many;omega
end Bs
namespace L2
open PySem
theorem IG{X:Cx}(g:X.K=K):LD X (MA K):=by
 subst g;exact gg
end L2
namespace Bs
open PySem L2 Sx
structure lY(g:Str)(ws ss ls:List Str)(many:Int)(n:Nat)(f:Str->Int):Prop where
 gr:∃most:Int,1<=most/\most<=8/\gw g ws ss ls many n most f/\∀(m:Int) (h:Str->Int),1<=m->m < most->gw g ws ss ls many n m h->(ls.map h).sum=0
 ps:0 < (ls.map f).sum
 le:(ls.map f).sum<=40
def o8(g:Str)(ws ss ls:List Str)(many:Int)(n:Nat):Prop:=∃most:Int,1<=most/\most<=9/\(∀(m:Int) (h:Str->Int),1<=m->m < most->gw g ws ss ls many n m h->(ls.map h).sum=0)/\(most=9\/∃f,gw g ws ss ls many n most f/\40 < (ls.map f).sum)
theorem DG{f h:Str->Int}(a:gw g ws ss ls many n most f)(b:gw g ws ss ls many n most h):∀p∈ls,f p=h p:=λp c=>by
 have d:=a.top h b.le b.fit p c;have e:=b.top f a.le a.fit p c;omega
theorem w6{f h:Str->Int}(a:gw g ws ss ls many n most f)(b:gw g ws ss ls many n most h):(ls.map f).sum=(ls.map h).sum:=congrArg List.sum (wac λp c=>DG a b p c)
theorem B9(f:Str->Int)(ls:List Str):(bc (c9 f ls)).map (·.2)=(ls.map f).map V.int:=by simp_all [bc,c9,Zw]
theorem IH{R:Addr->Prop}:(∀y∈ys,∃q,y=.ref q/\R q)->∃ps:List Addr,ys=ps.map V.ref/\∀q∈ps,R q:=by
 induction ys with
 |nil=>exact λ_=>⟨[],rfl,λq h=>nomatch h⟩
 |cons y ys a=>
  intro h;obtain⟨q,rfl,c⟩:=h y (Zy ..);obtain⟨ps,rfl,d⟩:=a λz b=>h z (Zt _ b)
  exact⟨q :: ps,rfl,λr e=>by
   grind⟩
end Bs
namespace Sx
open PySem L2 Bs
inductive FW(C CO:Addr)(vs:List V)(H:Hp)(Q:VK)(E:XK):Prop
 |mk (x:Addr) (many:Int) (n:Nat) (g:Str) (ws ss ls:List Str) (_:vs=[.ref x,.int many,.int (n:Int)]) (_:aT C H x g ws ss ls) (_:2<=g.length) (_:g.length<=10) (_:ss.length<=900) (_:fA g.length many n) (_:(∀(d:Addr) (f:Str->Int) (H':Hp),a8 H H'->H d=none->H' d=some (.dK (bc (c9 f ls)))->lY g ws ss ls many n f->Q (.ref d) H')) (_:(o8 g ws ss ls many n->∀H',a8 H H'->E (.ref CO) none H'))
inductive FX(C:Addr)(vs:List V)(H:Hp)(Q:VK)(eA:XK):Prop
 |mk (x d:Addr) (many:Int) (n:Nat) (f:Str->Int) (g:Str) (ws ss ls:List Str) (_:vs=[.ref x,.int many,.int (n:Int),.ref d]) (_:aT C H x g ws ss ls) (_:(∀w∈ws,1<=w.length)) (_:(ch g).Nodup) (_:2<=g.length) (_:g.length<=10) (_:ss.length<=900) (_:fA g.length many n) (_:H d=some (.dK (bc (c9 f ls)))) (_:(∀p∈ls,0<=f p)) (_:E2 g ws ss ls many n f) (_:0 < (ls.map f).sum) (_:∀(dl:Addr) (f':Str->Int) (H':Hp),(∀c o,H c=some o->c≠d->H' c=some o)->H dl=none->H' dl=some (.dK (bc (c9 f' ls)))->(∀p∈ls,0<=f' p)->E2 g ws ss ls many n f'->0 < (ls.map f').sum->(∀p∈ls,f' p<=f p)->(ls.map f').sum<=(ls.map f).sum->Q (.ref dl) H')
end Sx
namespace L2
open PySem Sx Bs
theorem DH{Ok:Hp->Prop}{Q:Hp->Prop}(R:Nat->V->Hp->Prop)(T:∀i y U g ys,R i y U->U l=some (.lst ys)->(∀b o,U b=some o->b≠l->g b=some o)->R i y g)(hJ:m9 J Ok xs)(hl:H l=none)(hz:xs.length<=sizeLine)(C:∀r,a8 H r->Ok r)
 (he:∀i x I ys,xs[i]?=some x->a8 H I->I l=some (.lst ys)->∃p a b c,x=.ref p/\ia K I p [a,b,c]/\∀Q',(∀y r,a8 I r->R i y r->Q' y r)->te (some a :: some b :: some c :: σf) I Q')
 (hd:∀ys r,a8 H r->r l=some (.lst ys)->ys.length=xs.length->(∀i y,ys[i]?=some y->R i y r)->Q r):t8 K J l σf uE te H Q:=by
 refine⟨λi m d g=>m=xs.length - i/\i<=xs.length/\a8 H g/\g l=some (.lst d)/\d.length=i/\∀j y,d[j]?=some y->R j y g,⟨xs.length,by simp,wa0 _,a8.upd hl,a6,rfl,λj y h=>by simp at h⟩,?_⟩;rintro i m d g ⟨rfl,hi,n,q,f,D⟩;refine⟨q,?_⟩
 by_cases k:i < xs.length
 ·refine .inr ⟨hJ.go i g (C _ n) k,by rw[f];omega,λx I y=>?_⟩;obtain⟨e,E⟩:=hJ.ur i g x I (C _ n) k y;subst e;obtain⟨p,a,b,c,rfl,F,G⟩:=he i x _ d E n q;refine⟨p,a,b,c,rfl,F,?_⟩;unfold uE;dsimp only;rw[if_pos rfl];refine G _ λy u v w=>⟨v _ _ q,xs.length - (i + 1),by omega,rfl,k,λb o e=>?_,a6,by rw[Zm,f];rfl,λj z s=>?_⟩
  ·rw[ae (af e hl)];exact v _ _ (n _ _ e)
  ·have t:=v _ _ q;have kp:∀b o,u b=some o->b≠l->(upd u l (.lst (d++[y]))) b=some o:=λb o e L=>by rw[ae L];exact e
   by_cases A:j < d.length
   ·rw[ZX A]at s;exact T j z u _ _ (T j z _ _ _ (D j z s) q λb o e _=>v _ _ e) t kp
   ·rw[ZW (by omega)]at s
    have B:j - d.length=0:=by
     have:=(Zn.mp s).1;simp at this;omega
    rw[B]at s;cases s;have:j=i:=by omega
    rw[this];exact T i y u _ _ w t kp
 ·have e:i=xs.length:=by omega
  subst e;exact .inl ⟨hJ.stop g (C _ n),hd d g n q f D⟩
theorem FY{Ok:Hp->Prop}{Q:Hp->Prop}(C:List jM)(hJ:m9 J Ok xs)(hl:H l=none)(hz:xs.length<=sizeLine)(I:C.length=xs.length)(U:∀g,a8 H g->Ok g)
 (he:∀(i:Nat) (x:V) (d:jM) j,xs[i]?=some x->C[i]?=some d->a8 H j->∃p a b c,x=.ref p/\ia K j p [a,b,c]/\∀T,(∀y g,a8 j g->bh K (aF j g) d y->T y g)->te (some a :: some b :: some c :: σf) j T)
 (hd:∀g,a8 H g->bh K (aF H g) (.lst C) (.ref l)->Q g):t8 K J l σf uE te H Q:=by
 refine DH (λi y g=>∀d,C[i]?=some d->∃j o,a8 H j/\j l=some o/\bh K (aF j g) d y) ?_ hJ hl hz U (λi x j n s h k=>?_) (λn g q t m u=>?_)
 ·intro i y D E n r v kp d f;obtain⟨j,o,h,k,r⟩:=r d f;exact⟨j,o,h,k,bh.same (bz k kp) d y r⟩
 ·have hi:i < C.length:=by rw[I];exact(Zn.mp s).1
  obtain⟨p,a,b,c,e,w,z⟩:=he i x C[i] j s (Zg hi) h;refine⟨p,a,b,c,e,w,λT A=>z T λy g q r=>A y g q λd f=>?_⟩;rw[Zg hi]at f;cases f;exact⟨j,_,h,k,r⟩
 ·refine hd g q ⟨l,n,rfl,.inl (bH hl t),b6.pG C n (by rw[I,m]) λi d y f B=>?_⟩;obtain⟨j,o,h,k,r⟩:=u i y B d f;exact bh.same (dG h) d y r
end L2
namespace Bs
open PySem L2 Sx
noncomputable abbrev z7:=Nat×List Nat×Int
noncomputable def xj(s:z7):jM:=.tup [.at (.int (s.1:Int)),mn (nI s.2.1),.at (.int s.2.2)]
set_option genInjectivity true in
inductive Runs(many:Int)(OQ:List Str)(OS:List Int)(II:List (List (Str×Nat))):List z7->List Str->List Int->List (List (Str×Nat))->Prop
 |nil:Runs many OQ OS II [] OQ OS II
 |snoc {l:List z7} {hs:List Str} {ws:List Int} {lns:List (List (Str×Nat))} {d:Nat} {ns:List Nat} {w:Int}:Runs many OQ OS II l hs ws lns->d8 ws lns many (d:Int) (nI ns) w=true->Runs many OQ OS II (l++[(d,ns,w)]) (cT hs d) (bV ws d w) (hF lns d (nI ns))
noncomputable def qw(a:Addr):List (Str×V):=[("weights",.ref a)]
noncomputable def o9(a b:Addr):List (Str×V):=[("weights",.ref a),("splits",.ref b)]
noncomputable def qx(a b c:Addr):List (Str×V):=[("weights",.ref a),("splits",.ref b),("kept",.ref c)]
noncomputable def tE(a b c d:Addr):List (Str×V):=[("weights",.ref a),("splits",.ref b),("kept",.ref c),("last",.ref d)]
theorem Nr(a:Addr):cq "weights" (.ref a) []=qw a:=rfl
theorem Jz(a b:Addr):cq "splits" (.ref b) (qw a)=o9 a b:=by
 show (if ("weights":Str)="splits" then _ else(("weights":Str),V.ref a) :: cq "splits" (.ref b) [])=_;rw[if_neg (by decide+kernel)];rfl
theorem FZ(a b c:Addr):cq "kept" (.ref c) (o9 a b)=qx a b c:=by
 show (if ("weights":Str)="kept" then _ else(("weights":Str),V.ref a) :: (if ("splits":Str)="kept" then _ else(("splits":Str),V.ref b) :: cq "kept" (.ref c) []))=_;rw[if_neg (by decide+kernel),if_neg (by decide+kernel)];rfl
theorem C8(a b c d:Addr):cq "last" (.ref d) (qx a b c)=tE a b c d:=by
 show (if ("weights":Str)="last" then _ else(("weights":Str),V.ref a) :: (if ("splits":Str)="last" then _ else(("splits":Str),V.ref b) :: (if ("kept":Str)="last" then _ else(("kept":Str),V.ref c) :: cq "last" (.ref d) [])))=_;rw[if_neg (by decide+kernel),if_neg (by decide+kernel),if_neg (by decide+kernel)];rfl
theorem Ba(a b c d:Addr):(tE a b c d).lookup ("last":Str)=some (.ref d):=by
 rw[<-C8,aC,if_pos rfl]
theorem Bb(a b c d:Addr):(tE a b c d).lookup ("kept":Str)=some (.ref c):=by
 rw[<-C8,aC,if_neg (by decide+kernel),<-FZ,aC,if_pos rfl]
theorem xk(a b c d:Addr):(tE a b c d).lookup ("splits":Str)=some (.ref b):=by
 rw[<-C8,aC,if_neg (by decide+kernel),<-FZ,aC,if_neg (by decide+kernel),<-Jz,aC,if_pos rfl]
structure nk(K:Zh)(C CS:Addr)(H:Hp)(x:Addr)(m:List (Str×Int))(nF:List z7)(ks:List Nat)(hs:List Str)(ws:List Int)(lns:List (List (Str×Nat))):Prop where
 ex:∃dx a b c d,H x=some (.ins C dx (tE a b c d))/\H a=some (.dK (bc m))/\bh K H (.lst (nF.map xj)) (.ref b)/\bh K H (mn (nI ks)) (.ref c)/\bM K CS H d hs ws lns
theorem nk.same(h:nk K C j H x m g l hs ws lns)(s:a8 H o):nk K C j o x m g l hs ws lns:=by
 obtain⟨e,a,b,c,d,f,i,k,n,p⟩:=h;exact⟨e,a,b,c,d,s _ _ f,s _ _ i,bh.same s _ _ k,bh.same s _ _ n,p.same s⟩
theorem oa(s:a8 H g):a8 (eS H b) (eS g b):=λc o e=>by
 unfold eS at e ⊢
 by_cases h:c=b
 ·rw[if_pos h]at e;cases e
 ·rw[if_neg h]at e ⊢;exact s _ _ e
theorem IJ:eS (upd H b o) b=eS H b:=by
 funext c;unfold eS
 by_cases h:c=b
 ·rw[if_pos h,if_pos h]
 ·rw[if_neg h,if_neg h,ae h]
theorem tF:a8 (eS H b) H:=fP λ_ _ e _=>e
theorem C9(h:H b=some o):a8 (aF H g) (eS g b):=by grind [a8,eS,bj,fC,aF]
theorem G0(s:a8 H g)(h:H b=none):a8 H (eS g b):=λc o e=>fC (s _ _ e) (af e h)
theorem Ca(g:H t=some (.tup [.int (d:Int),.ref l,.int w]))(j:H l=some (.lst ((nI ns).map V.int))):bh K H (xj (d,ns,w)) (.ref t):=
 ⟨t,_,rfl,g,_,_,rfl,⟨rfl,rfl⟩,_,_,rfl,iU j,_,_,rfl,⟨rfl,rfl⟩,rfl⟩
structure ky(g:Str)(bw ss ls:List Str)(many:Int)(n:Nat)(f:Str->Int)(nF:List z7)(ks:List Nat)(hs:List Str)(ws:List Int)(lns:List (List (Str×Nat))):Prop where
 nn:∀p∈ls,0<=f p
 le:∀p∈ls,f p<=8
 fit:E2 g bw ss ls many n f
 ps:0 < (ls.map f).sum
 m:(ls.map f).sum<=40
 rn:Runs many (aq ls f) ((aq ls f).map f) (bA g bw ss ls n (aq ls f)) nF hs ws lns
 b:ip many hs ws lns
 cv:C6 (aP g bw ss ls n) hs lns
 ln:hs.length<=40
 ko:nh lns many ks
 ne:ks≠[]
 sl:nF.length<=40
 sb:∀p∈hs,p∈ls
end Bs
namespace Sx
open PySem L2 Bs
inductive G1(K:Zh)(C:Addr)(vs:List V)(H:Hp)(Q:VK)(eA:XK):Prop
 |mk (x hs ws lns) (_:vs=[.ref x]) (_:bM K C H x hs ws lns) (_:hs.length<=10000) (_:ws.length<=10000) (_:lns.length<=10000) (_:(∀l∈lns,l.length<=10000)) (_:∀y H',a8 H H'->bM K C (aF H H') y hs ws lns->Q (.ref y) H')
inductive IK(K:Zh)(C CS:Addr)(vs:List V)(H:Hp)(Q:VK)(eA:XK):Prop
 |mk (x dx d z:Addr) (u v:V) (m:List (Str×Int)) (nF:List z7) (ks:List Nat) (hs:List Str) (ws:List Int) (lns:List (List (Str×Nat))) (_:vs=[.ref x,.ref d,u,v,.ref z]) (_:H x=some (.ins C dx [])) (_:Rd H d (.dK (bc m))) (_:bh K H (.lst (nF.map xj)) u) (_:bh K H (mn (nI ks)) v) (_:bM K CS H z hs ws lns) (_:hs.length<=10000) (_:ws.length<=10000) (_:lns.length<=10000) (_:(∀l∈lns,l.length<=10000)) (_:nF.length<=10000) (_:∀a b c y H',H' x=some (.ins C dx (tE a b c y))->H a=none->H' a=some (.dK (bc m))->bh K (aF H H') (.lst (nF.map xj)) (.ref b)->bh K (aF H H') (mn (nI ks)) (.ref c)->bM K CS (aF H H') y hs ws lns->(∀b o,H b=some o->b≠x->H' b=some o)->Q .non H')
inductive DI(K:Zh)(C CS:Addr)(vs:List V)(H:Hp)(Q:VK)(eA:XK):Prop
 |mk (x m nF ks hs ws lns) (_:vs=[.ref x]) (_:nk K C CS H x m nF ks hs ws lns) (_:hs.length<=10000) (_:ws.length<=10000) (_:lns.length<=10000) (_:(∀l∈lns,l.length<=10000)) (_:∀y H',a8 H H'->bM K CS (aF H H') y hs ws lns->Q (.ref y) H')
end Sx
namespace L2
open PySem PySem.Spec PyProof.Rows
theorem under(n:Nat){P:Int->Prop}(h:∀k:Fin n,P ((k.val:Nat):Int))(d:Int)(a:0<=d)(b:d < (n:Int)):P d:=by
 obtain⟨k,rfl⟩:=weu a;exact h ⟨k,Int.ofNat_lt.mp b⟩
theorem d9{t u:TS}{D:Ends}{σ:St}{H:Hp}(h:∀R:St->Hp->Prop,(∀σ H,u D σ H->R σ H)->t {D with nx:=R} σ H):K0 t u D σ H:=h (u D) λ_ _ x=>x
theorem av{X:Cx}(ys:List Str)(ix:List Nat)(h:mZ X.env.scope scope X.N x ys ix=true:=by kernel_rfl):bE X scope x ys ix:=Aa rfl rfl h
end L2
namespace Bs
open PySem L2 Sx
theorem tG:∀{ws:List Int},(∀w∈ws,1<=w)->(ws.length:Int)<=ws.sum
 |[],_=>wcv _
 |w :: ws,h=>by
  have b:=h w (Zy ..);have c:=tG (ws:=ws) λx a=>h x (Zt _ a);rw[waK,ZZ];omega
structure fF(g:Str)(bw ss ls:List Str)(many:Int)(n:Nat)(f:Str->Int)(nF:List z7)(hs:List Str)(ws:List Int)(lns:List (List (Str×Nat))):Prop where
 rn:Runs many (aq ls f) ((aq ls f).map f) (bA g bw ss ls n (aq ls f)) nF hs ws lns
 b:ip many hs ws lns
 cv:C6 (aP g bw ss ls n) hs lns
 sm:ws.sum=(ls.map f).sum
 sl:nF.length + (aq ls f).length=hs.length
 sb:∀p∈hs,p∈ls
theorem fF.start{f:Str->Int}(nd:(ch g).Nodup)(j:ss.Perm (bU l "" l))(hw:∀w∈l,1<=w.length)(o:∀p∈ls,p∈ss)(hl:ls.Nodup)(hn:∀p∈ls,0<=f p)(r:E2 g l ss ls many n f) :
 fF g l ss ls many n f [] (aq ls f) ((aq ls f).map f) (bA g l ss ls n (aq ls f)):=
 ⟨.nil,ip.first hn r,C6.first nd j hw (λp j=>o p (ZO.mp j).1) (hl.filter _),vV hn,wfL _,λp j=>(ZO.mp j).1⟩
theorem fF.step{g:Str}{o ss ls:List Str}{many:Int}{n:Nat}{f:Str->Int}{j:List z7}{hs:List Str}{ws:List Int}{lns:List (List (Str×Nat))}(h:fF g o ss ls many n f j hs ws lns){d:Nat}{ns:List Nat}{w:Int}(ok:d8 ws lns many (d:Int) (nI ns) w=true) :
 fF g o ss ls many n f (j++[(d,ns,w)]) (cT hs d) (bV ws d w) (hF lns d (nI ns)):=by
 obtain⟨b,hd⟩:=h.b.split ok;have hw:=h.b.w;have hl:=h.b.l;refine⟨.snoc h.rn ok,b,h.cv.split hl h.b.e hd (nI ns),?_,?_,λp a=>?_⟩
 ·rw[AJ (by omega)];exact h.sm
 ·have:=h.sl;unfold cT;rw[Zm,Zm];show j.length + 1 + _=hs.length + 1;omega
 ·unfold cT at a;rcases ZL.mp a with a |a
  ·exact h.sb p a
  ·rw[ZC.mp a,Zj,Zg hd];exact h.sb _ (ZV hd)
theorem fF.len{f:Str->Int}(h:fF g l ss ls many n f j hs ws lns):(hs.length:Int)<=(ls.map f).sum:=by
 have:=tG h.b.p;have a:=h.sm;have c:=h.b.w;omega
theorem fF.whole{f:Str->Int}(h:fF g o ss ls many n f r hs ws lns)(C:(ls.map f).sum<=40)(j:g.length ^ n<=64):Jw hs ws lns:=by
 have hl:=h.len;refine⟨h.b.w,h.b.l,h.b.e,by omega,λl a=>?_⟩;have c:=h.cv.line h.b.l (b:=64) (λp=>ZE (fB g o ss ls n p) j) l a;have d:64 * hs.length<=64 * 40:=wdG _ (by omega);omega
def z8(g:Str)(bw ss:List Str)(many:Int)(n:Nat):Prop:=∀j:Nat,1<=j->(j:Int)<=24->¬gB g bw ss (j * n) "" < many ^ j
end Bs
namespace Sx
open PySem L2 Bs
def QG(CX:Addr)(g:Str)(bw ss:List Str)(many:Int)(n:Nat)(H:Hp)(E:XK):Prop:=∀(k:Nat) (d:Addr) (H':Hp),LL g bw ss many n 24 (.int (k:Nat))->a8 H H'->H d=none->H' d=some (.xd [("length",.int (k:Nat)),("rows",.int (gB g bw ss (k * n) ""))])->E (.ref CX) (some d) H'
inductive IL(C CX:Addr)(vs:List V)(H:Hp)(Q:VK)(E:XK):Prop
 |mk (x:Addr) (many:Int) (n:Nat) (g:Str) (bw ss ls:List Str) (_:vs=[.ref x,.int many,.int (n:Int)]) (_:aT C H x g bw ss ls) (_:g.length<=10) (_:ss.length<=900) (_:fA g.length many n) (_:(z8 g bw ss many n->∀H',a8 H H'->Q .non H')) (_:QG CX g bw ss many n H E)
inductive G2(K:Zh)(C CP CS CX CO:Addr)(vs:List V)(H:Hp)(Q:VK)(E:XK):Prop
 |mk (x:Addr) (many:Int) (n:Nat) (g:Str) (bw ss ls:List Str) (_:vs=[.ref x,.int many,.int (n:Int)]) (_:aT C H x g bw ss ls) (_:(∀w∈bw,1<=w.length)) (_:(ch g).Nodup) (_:2<=g.length) (_:g.length<=10) (_:ss.length<=900) (_:fA g.length many n) (_:(z8 g bw ss many n->∀(y:Addr) (f0 f:Str->Int) (nF:List z7) (ks:List Nat) (hs:List Str) (ws:List Int) (lns:List (List (Str×Nat))) (H':Hp),a8 H H'->nk K CP CS (aF H H') y (c9 f ls) nF ks hs ws lns->lY g bw ss ls many n f0->(∀p∈ls,f p<=f0 p)->ky g bw ss ls many n f nF ks hs ws lns->Q (.ref y) H')) (_:QG CX g bw ss many n H E) (_:(z8 g bw ss many n->o8 g bw ss ls many n->∀H',a8 H H'->E (.ref CO) none H'))
end Sx
namespace K41
open PySem L2 Bs Sx
noncomputable def top(i:Nat):Stmt:=PySem.Challenge.pw_bandscribe_k41_whole_written_rows_are_go.main.body.getD i (.Pass ⟨0,0,0,0⟩)
structure Txt(mg:Str->Option Value):Prop where
 «all»:mg "all"=none
 «any»:mg "any"=none
 «bool»:mg "bool"=none
 «dict»:mg "dict"=none
 «enum»:mg "enumerate"=none
 «int»:mg "int"=none
 «JA»:mg "isinstance"=none
 «len»:mg "len"=none
 «list»:mg "list"=none
 «max»:mg "max"=none
 «min»:mg "min"=none
 «range»:mg "range"=none
 «set»:mg "set"=none
 «sorted»:mg "sorted"=none
 «str»:mg "str"=none
 «sum»:mg "sum"=none
structure G3(K:Zh)(C:Addr):Prop where
 cl:zQ K C
 gE:bQ K C "homes"
 cH:bQ K C "weights"
 cp:bQ K C "lines"
structure IM(K:Zh)(C:Addr):Prop where
 cl:zQ K C
 cH:bQ K C "weights"
 z9:bQ K C "splits"
 G4:bQ K C "kept"
 G5:bQ K C "last"
structure DJ(K:Zh)(C:Addr):Prop where
 cl:zQ K C
 og:bQ K C "scheme"
 G6:bQ K C "band"
 G7:bQ K C "many"
 G8:bQ K C "wide"
 gE:bQ K C "homes"
 cp:bQ K C "lines"
 pM:bQ K C "opening"
 xm:bQ K C "first"
structure IP(K:Zh)(C:Addr):Prop where
 cl:zQ K C
 rQ:bQ K C "signs"
 za:bQ K C "barred"
 lZ:bQ K C "moves"
 pN:bQ K C "lasting"
structure Lk(K:Zh)(mg:Str->Option Value) where
 T:Txt mg
 tH:Addr
 tI:Zv
 hH:FnAt K mg "is_whole" (top 13) ["thing"] tH tI
 tJ:Addr
 tK:Zv
 nq:FnAt K mg "all_rows" (top 15) ["band","wide"] tJ tK
 w9:Addr
 we:Zv
 pO:FnAt K mg "is_rate" (top 16) ["band","many","wide"] w9 we
 oh:Addr
 oi:Zv
 dI:FnAt K mg "check_rate" (top 17) ["band","many","wide"] oh oi
 mr:Addr
 mw:Zv
 iE:FnAt K mg "longer_rows" (top 18) ["band","rows"] mr mw
 mx:Addr
 my:Zv
 fQ:FnAt K mg "blocks_from" (top 19) ["band","place","wide"] mx my
 qy:Addr
 qz:Zv
 kz:FnAt K mg "ends_from" (top 21) ["band","place"] qy qz
 tL:Addr
 tM:Zv
 nr:FnAt K mg "all_ends" (top 22) ["band"] tL tM
 kA:Addr
 kB:Zv
 eU:FnAt K mg "counts_up_to" (top 23) ["band","length"] kA kB
 oj:Addr
 om:Zv
 ju:FnAt K mg "count_from" (top 24) ["band","place","length"] oj om
 Cb:Addr
 Cd:Zv
 xn:FnAt K mg "count" (top 25) ["band","length"] Cb Cd
 oo:Addr
 oq:Zv
 jv:FnAt K mg "block_ends" (top 27) ["band","wide"] oo oq
 qA:Addr
 qE:Zv
 kC:FnAt K mg "weight_of" (top 28) ["places","weights"] qA qE
 wg:Addr
 wh:Zv
 pP:FnAt K mg "lowered" (top 29) ["ends","many","weights"] wg wh
 nu:Addr
 tN:Zv
 nv:FnAt K mg "greatest" (top 30) ["band","many","wide","most"] nu tN
 zb:Addr
 zc:Zv
 tO:FnAt K mg "scarce" (top 31) ["band","many","wide","most"] zb zc
 kD:Addr
 kE:Zv
 hO:FnAt K mg "copied_steps" (top 33) ["line"] kD kE
 fG:Addr
 iV:Zv
 mz:Addr
 mB:Zv
 fR:FnAt K mg "first_sheet" (top 35) ["band","many","wide","weights"] mz mB
 kF:Addr
 kG:Zv
 eV:FnAt K mg "is_number_of" (top 36) ["number","things"] kF kG
 ot:Addr
 ou:Zv
 cy:FnAt K mg "check_part" (top 37) ["sheet","many","steps","weight"] ot ou
 ow:Addr
 oy:Zv
 jw:FnAt K mg "with_twins" (top 38) ["line","desk","twin"] ow oy
 Ce:Addr
 Cg:Zv
 oz:FnAt K mg "split" (top 39) ["sheet","many","desk","numbers","weight"] Ce Cg
 kH:Addr
 kI:Zv
 eW:FnAt K mg "copied_sheet" (top 44) ["sheet"] kH kI
 gi:Addr
 jO:Zv
 oA:Addr
 oB:Zv
 hU:Addr
 hV:Zv
 cm:FnAt K mg "check_not_scarce" (top 46) ["band","many","wide"] hU hV
 eD:Addr
 eE:Zv
 bo:FnAt K mg "weights_of_least_most" (top 47) ["band","many","wide"] eD eE
 kJ:Addr
 kK:Zv
 hX:FnAt K mg "reached_from" (top 48) ["sheet","desk"] kJ kK
 iW:Addr
 iX:Zv
 fH:FnAt K mg "closed_weights" (top 49) ["band","many","wide","weights"] iW iX
 oC:Addr
 oE:Zv
 gF:FnAt K mg "steps_into" (top 50) ["line","desks"] oC oE
 jx:Addr
 oF:Zv
 gG:FnAt K mg "kept_desks" (top 51) ["sheet","many"] jx oF
 qF:Addr
 qG:Zv
 kL:FnAt K mg "step_down" (top 52) ["sheet"] qF qG
 zf:Addr
 zg:Zv
 tP:FnAt K mg "run_by" (top 53) ["weights","numbers","many"] zf zg
 oG:Addr
 oH:Zv
 jy:FnAt K mg "next_split" (top 54) ["sheet","many"] oG oH
 wj:Addr
 wk:Zv
 iY:FnAt K mg "plan_of" (top 55) ["band","many","wide"] wj wk
 jP:Addr
 jQ:Zv
 gj:FnAt K mg "blocks_behind" (top 57) ["band","wide"] jP jQ
 eX:Addr
 eY:Zv
 cV:FnAt K mg "steps_by_new_numbers" (top 58) ["line","kept","many"] eX eY
 oI:Addr
 oJ:Zv
 jz:FnAt K mg "check_data" (top 59) ["data","many"] oI oJ
 zh:Addr
 zi:Zv
 oK:FnAt K mg "walked" (top 60) ["lines","desk","data"] zh zi
 eZ:Addr
 iq:Zv
 jR:Addr
 jS:Zv
 kM:Addr
 kN:Zv
 kP:Addr
 kQ:Zv
 mC:Addr
 mD:Zv
 tQ:Addr
 tR:Zv
 kR:Addr
 kT:Zv
 kU:Addr
 kW:Zv
 qH:Addr
 qI:Zv
 ir:FnAt K mg "all_among" (top 64) ["text","signs"] qH qI
 qJ:Addr
 qK:Zv
 kX:FnAt K mg "are_signs" (top 65) ["thing"] qJ qK
 wm:Addr
 wo:Zv
 pQ:FnAt K mg "is_word" (top 66) ["thing","signs"] wm wo
 kY:Addr
 kZ:Zv
 hZ:FnAt K mg "check_barred" (top 67) ["barred","signs"] kY kZ
 lj:Addr
 lu:Zv
 f7:FnAt K mg "bears_barred" (top 68) ["row","barred"] lj lu
 jT:Addr
 jU:Zv
 gk:FnAt K mg "sorted_places" (top 69) ["barred"] jT jU
 mE:Addr
 mF:Zv
 iF:FnAt K mg "longest_end" (top 70) ["row","places"] mE mF
 oM:Addr
 oN:Zv
 jA:FnAt K mg "moves_from" (top 71) ["place","signs","barred","places"] oM oN
 oO:Addr
 oP:Zv
 jB:FnAt K mg "leads_into" (top 72) ["ends","lot"] oO oP
 jC:Addr
 oQ:Zv
 jD:FnAt K mg "live_among" (top 73) ["moves"] jC oQ
 gm:Addr
 jV:Zv
 i3:Addr
 i5:Zv
 iu:Addr
 iw:Zv
 mG:Addr
 mH:Zv
 qL:Addr
 qM:Zv
 tS:Addr
 tT:Zv
 lA:Addr
 lB:Zv
 qN:Addr
 qO:Zv
 eF:FnAt K mg "_law_here" (top 76) ["_law_script","_law_place_here"] qN qO
 mI:Addr
 mJ:Zv
 fS:FnAt K mg "_law_shaken" (top 77) ["_law_cell","_law_many"] mI mJ
 qP:Addr
 qQ:Zv
 lC:FnAt K mg "_law_band" (top 78) ["_law_script"] qP qQ
 qR:Addr
 qS:Zv
 lD:FnAt K mg "_law_rate" (top 79) ["_law_script","_law_signs"] qR qS
 qT:Addr
 qU:Zv
 lE:FnAt K mg "_law_told" (top 80) ["_law_signs","_law_words","_law_many","_law_wide"] qT qU
 qV:Addr
 qW:Zv
 lF:FnAt K mg "_law_good" (top 81) ["_law_row","_law_words"] qV qW
 lG:Addr
 lH:Zv
 i6:FnAt K mg "_law_written" (top 83) ["_law_told_here","_law_data"] lG lH
 ay:Addr
 rR:mg "Sheet"=some (.ref ay)
 aw:G3 K ay
 oR:Mk K ay fG
 aQ:Addr
 G9:mg "Plan"=some (.ref aQ)
 cD:IM K aQ
 Ch:Mk K aQ gi
 aj:Addr
 tU:mg "Writer"=some (.ref aj)
 au:DJ K aj
 pR:Mk K aj eZ
 aE:Addr
 Bc:mg "Band"=some (.ref aE)
 aK:IP K aE
 xo:Mk K aE gm
 cI:eN K ay "__init__" "Sheet.__init__" (inClass (top 34) 0) ["self","homes","weights","lines"] fG iV
 gn:eN K aQ "__init__" "Plan.__init__" (inClass (top 45) 0) ["self","weights","splits","kept","last"] gi jO
 gH:eN K aQ "sheet" "Plan.sheet" (inClass (top 45) 1) ["self"] oA oB
 da:eN K aj "__init__" "Writer.__init__" (inClass (top 61) 0) ["self","band","many","wide"] eZ iq
 dX:eN K aj "behind" "Writer.behind" (inClass (top 61) 1) ["self"] jR jS
 cJ:eN K aj "ahead" "Writer.ahead" (inClass (top 61) 2) ["self"] kM kN
 f9:eN K aj "start" "Writer.start" (inClass (top 61) 3) ["self"] kP kQ
 fT:eN K aj "lead" "Writer.lead" (inClass (top 61) 4) ["self"] mC mD
 tV:eN K aj "desks" "Writer.desks" (inClass (top 61) 5) ["self"] tQ tR
 fb:eN K aj "steps" "Writer.steps" (inClass (top 61) 7) ["self","desk"] kR kT
 bR:eN K aj "write" "Writer.write" (inClass (top 61) 8) ["self","data"] kU kW
 dY:eN K aE "__init__" "Band.__init__" (inClass (top 74) 0) ["self","signs","barred"] gm jV
 bK:eN K aE "check_place" "Band.check_place" (inClass (top 74) 2) ["self","place"] i3 i5
 df:eN K aE "check_live" "Band.check_live" (inClass (top 74) 3) ["self","place"] iu iw
 fU:eN K aE "places" "Band.places" (inClass (top 74) 5) ["self"] mG mH
 cM:eN K aE "live" "Band.live" (inClass (top 74) 6) ["self"] qL qM
 fI:eN K aE "led" "Band.led" (inClass (top 74) 8) ["self","place","sign"] tS tT
 fg:eN K aE "longest" "Band.longest" (inClass (top 74) 9) ["self"] lA lB
 cN:Addr
 qX:mg "BandError"=some (.ref cN)
 XT:D6 K cN "BandError"
 XB:EZ K cN
 eG:Addr
 gM:mg "NoSplit"=some (.ref eG)
 gN:cQ K eG cN "NoSplit"
 DK:F7 K eG
 fJ:waq K (.ref eG) "__init__"=some (some (.builtin "ValueError.__init__"))
 bW:Addr
 tW:mg "Scarce"=some (.ref bW)
 gb:cQ K bW cN "Scarce"
 Ga:F7 K bW
 dg:Addr
 fh:Zv
 oS:yj K "__init__" "Scarce.__init__" (inClass (top 9) 0) dg fh
 oU:Binds K fh ["self","length","rows"] []
 wq:waq K (.ref bW) "__init__"=some (some (.ref dg))
 wt:wef K (.ref dg)=true
 jW:waq K (.ref bW) "length"=some none
 mK:waq K (.ref bW) "rows"=some none
 nA:Addr
 xq:mg "Open"=some (.ref nA)
 tX:cQ K nA cN "Open"
 Le:F7 K nA
 xr:waq K (.ref nA) "__init__"=some (some (.builtin "ValueError.__init__"))
 lI:∃t,mg "MOST_BLOCKS"=some (.int 24 t)
 lJ:∃t,mg "MOST_WEIGHT"=some (.int 8 t)
 fq:∃t,mg "MOST_WEIGHT_IN_ALL"=some (.int 40 t)
 known:∃t,mg "KNOWN_SIGNS"=some (.str dJ t)
section
variable{P:ZH}{w:World}{K:Zh}{mg:Str->Option Value}{base:Heap}
theorem rm(L:Lk K mg):aM P w K mg base cW 1 L.kD L.kE ["line"] (Fx K):=by
 refine L.hO.F.dD (N:=["line"]) (λo A outer s H D Q E nd c h=>?_);obtain⟨v,p,rfl,t,hn,k⟩:=h;refine⟨_,(ag (az (eP rfl (av [] []) (av [] []) (by decide) (aJ (pv 0)) (λ_ _ _ _ _ _=>b5) (λ_ _ _ _ _ _=>(dj (a5 (pv 0) (a5 (pv 1) a9))))))),?_⟩;obtain⟨a,u,rfl,j,b,x⟩:=js t;have d:=b;rw[Zf]at d;refine⟨_,rfl,a,rfl,⟨_,j⟩,λl hl=>?_⟩;refine iT (prs:=p.map dM) (λ_=>true) (λq=>.tup [.at q.1,.at q.2]) (aH K a u) b (λi q e=>let ⟨r,y,B⟩:=x i q e;⟨r,y,ia.of B⟩) hl (ax (by omega)) (λm f=>f.seq j) (λq n C _ _ g=>g n (a8.refl _)) (λq n C e _ G g=>?_) (λm f r=>?_)
 ·obtain⟨z,I,rfl⟩:=Zq.mp e;exact⟨_,rfl,_,rfl,by show 2<=sizeLine;decide,λr c=>g _ _ (a8.upd c) (kr c z)⟩
 ·rw[wab.mpr (λ_ _=>rfl),Zw]at r;exact k _ m f r
theorem fi(L:Lk K mg):aM P w K mg base cW 2 L.fG L.iV ["self","homes","weights","lines"] (Fy K L.ay):=by
 have T:=L.T;refine L.cI.F.dD (N:=["self","homes","weights","lines"]) (λgA A outer s H vs Q E nd hr h=>?_);obtain⟨x,j,u,v,w,C,D,t,rfl,J,Y,Z,JB,n1,n2,n3,n4,k⟩:=h
 refine⟨_,(a7 (cO (pv 0) (bT dC (by rfl) T.list jK (a5 (pv 1) a9)) rfl)
  (a7 (cO (pv 0) (bT dC (by rfl) T.list jK (a5 (pv 2) a9)) rfl)
  (ag (cO (pv 0) (bY rfl (av [] []) (aJ (pv 3)) (λ_ _ _ _ _ _=>b5) (λ_ _ _ _ _ _=>(ao (rm L) L.hO (a5 (pv 0) a9)))) rfl)))),?_⟩
 obtain⟨a,rfl,ha⟩:=Fv Y;obtain⟨b,rfl,hb⟩:=hE Z;obtain⟨c,xs,rfl,hc,M⟩:=JB;have xl:xs.length=t.length:=by rw[M.len,Zf]
 have l:∀{d:Addr} {ys:List V} {H':Hp},aI K H d ys->(∀b o,H b=some o->b≠x->H' b=some o)->aI K H' d ys:=λhS kp=>(fP kp).seq (wX J hS);refine⟨_,rfl,a,_,rfl,.inl ha,λf B=>?_⟩;have m:x≠f:=af J B;refine⟨_,rfl,x,L.ay,j,[],rfl,by rw[ae m];exact J,L.aw.cl,L.aw.gE,(show 0 < 1000 by decide),?_⟩;rw[Jt];have W:∀d o,H d=some o->d≠x->(upd (upd H f (.lst (C.map V.str))) x (.ins L.ay j (qk f))) d=some o:=λd o e hd=>by rw[ae hd];exact a8.upd B _ _ e
 have x1:(upd (upd H f (.lst (C.map V.str))) x (.ins L.ay j (qk f))) x=some (.ins L.ay j (qk f)):=a6;have a1:(upd (upd H f (.lst (C.map V.str))) x (.ins L.ay j (qk f))) f=some (.lst (C.map V.str)):=by rw[ae m.symm,a6]
 generalize upd (upd H f (.lst (C.map V.str))) x (.ins L.ay j (qk f))=O at W x1 a1 ⊢;refine⟨_,rfl,b,_,rfl,.inl (l hb W),λg n=>?_⟩;have p:x≠g:=af x1 n;have Vu:f≠g:=af a1 n
 have QH:H g=none:=by
  cases q:H g with
  |none=>rfl
  |some o=>have:=W _ _ q p.symm;rw[n]at this;cases this
 refine⟨_,rfl,x,L.ay,j,qk f,rfl,by rw[ae p];exact x1,L.aw.cl,L.aw.cH,(show 1 < 1000 by decide),?_⟩;rw[Fw];have G:∀d o,H d=some o->d≠x->(upd (upd O g (.lst (D.map V.int))) x (.ins L.ay j (nY f g))) d=some o:=λd o e hd=>by rw[ae hd];exact a8.upd n _ _ (W _ _ e hd)
 have X:(upd (upd O g (.lst (D.map V.int))) x (.ins L.ay j (nY f g))) x=some (.ins L.ay j (nY f g)):=a6;have a2:(upd (upd O g (.lst (D.map V.int))) x (.ins L.ay j (nY f g))) f=some (.lst (C.map V.str)):=by rw[ae m.symm,ae Vu];exact a1
 have b2:(upd (upd O g (.lst (D.map V.int))) x (.ins L.ay j (nY f g))) g=some (.lst (D.map V.int)):=by rw[ae p.symm,a6]
 generalize upd (upd O g (.lst (D.map V.int))) x (.ins L.ay j (nY f g))=H2 at G X a2 b2 ⊢;have R:=b6.same (fP G) _ _ (b6.off J _ _ M);refine⟨_,rfl,c,rfl,⟨_,l (.inl hc) G⟩,λc' S=>?_⟩;refine sT (K:=K) (t.map bI) (aH K c xs) S (ax (by omega)) (by rw[Zf,xl]) (λH' s'=>s'.seq (l (.inl hc) G)) (λi y d U Q' hy hd I qq=>?_) (λU I r3=>?_)
 ·obtain⟨d',e',r⟩:=R.get i y hy;rw[hd]at e';cases e';rw[Zi]at hd
  cases e:t[i]? with
  |none=>rw[e]at hd;cases hd
  |some qs=>
   rw[e]at hd;cases hd;exact⟨_,rfl,y,qs,rfl,bh.same I _ _ r,n4 qs (ZA e),λz H4 s4 r4=>qq z H4 s4 r4⟩
 ·have Yb:x≠c':=af X S;refine⟨_,rfl,x,L.ay,j,nY f g,rfl,I _ _ X,L.aw.cl,L.aw.cp,(show 2 < 1000 by decide),?_⟩;rw[C4];have up:a8 (aF H U) (aF H (upd U x (.ins L.ay j (AG f g c')))):=bz J λd o e hd=>by rw[ae hd];exact e
  have old:a8 (aF H2 U) (aF H U):=λd o e=>by
   unfold aF at e ⊢
   cases q:H d with
   |none=>
    cases q2:H2 d with
    |none=>rw[q2]at e;exact e
    |some z=>rw[q2]at e;cases e
   |some z=>
    by_cases hd:d=x
    ·rw[hd,X]at e;cases e
    ·rw[G _ _ q hd]at e;cases e
  refine k f g c' _ a6 ?_ ?_ (bh.same (old.trans up) _ _ r3) λd o e hd=>by rw[ae hd];exact I _ _ (G _ _ e hd)
  ·exact nX ((bH B (by rw[ae m.symm];exact I _ _ a2)))
  ·exact iU ((bH QH (by rw[ae p.symm];exact I _ _ b2)))
theorem jX(L:Lk K mg):aM P w K mg base cW 1 L.kF L.kG ["number","things"] (Ir K):=by
 have T:=L.T;refine L.eV.F.dD (N:=["number","things"]) (λd A outer s H g Q E nd j h=>?_);obtain⟨i,a,b,rfl,f,k⟩:=h;refine⟨_,(ag (az (zN (ie Eh (pv 0) ak (aU _)) (zM (ie md (pv 0) (aB b7 (by rfl) T.len wa1 (a5 (pv 1) a9)) (aU _)))))),?_⟩
 by_cases c:0<=i
 ·have e:dU i b.length=decide (i < (b.length:Int)):=by unfold dU;rw[decide_eq_true c,wd6]
  rw[e]at k;exact⟨_,rfl,_,_,rfl,rfl,true,congrArg V.bl (decide_eq_true c),fu ⟨_,rfl,_,rfl,a,b,rfl,.inl f,_,_,rfl,rfl,k⟩⟩
 ·have e:dU i b.length=false:=by unfold dU;rw[decide_eq_false c,wcg]
  rw[e]at k;exact⟨_,rfl,_,_,rfl,rfl,false,congrArg V.bl (decide_eq_false c),cg k⟩
theorem mL(L:Lk K mg):aM P w K mg base (yy P w) 1 L.ot L.ou ["sheet","many","steps","weight"] (KP K L.ay L.eG):=by
 have T:=L.T;refine L.cy.F.D9 (N:=["sheet","many","steps","weight"]) (λW A outer s H vs Q E nd hr h=>?_);obtain⟨x,many,v,w,hs,c,X,b,rfl,S,Y,Z,t,m0,m1,k⟩:=h
 refine⟨_,(a7 (bP (aG vg (aB b7 (by rfl) T.len wa1 (a5 (pv 2) a9)) ak (aU _)) (ag (fz cx rfl L.gN L.fJ rfl L.gM (a5 dZ a9))) aR)
  (a7 (bP (aG md (pv 3) ak (aU _)) (ag (fz cx rfl L.gN L.fJ rfl L.gM (a5 dZ a9))) aR)
  (ag (bP (aG md (aB (kj rfl) (by rfl) T.sum D7 (a5 (eP rfl (av ["sheet"] [0]) (av ["sheet"] [0]) (by decide) (aJ (pv 2)) (λ_ _ _ _ _ _=>b5) (λ_ _ _ _ _ _=>(b8 (fY (K:=K) rfl) (lR (K:=K) rfl (pv 2) rfl) (pv 1) (λ_ _=>rfl)))) a9)) (aL j8 (pv 1) (pv 3)) (aU _)) (ag (fz cx rfl L.gN L.fJ rfl L.gM (a5 dZ a9))) aR)))),?_⟩
 obtain⟨dx,ah,J,cl,hx,rh,u,rl⟩:=id S;obtain⟨T9,eb,hb⟩:=hE u;cases eb;obtain⟨a,o,rfl,p,M⟩:=dH Y;have g:o.length=b.length:=by rw[M.1,Zf,Zf]
 have no:dP c many b w=false->∀y,a8 H y->E (.ref L.eG) none y:=λh=>by
  rcases k with⟨r,_⟩ |⟨_,i⟩
  ·rw[h]at r;cases r
  ·exact i
 by_cases B:b=[]
 ·subst B;have r0:o=[]:=waC g;subst r0;exact⟨_,rfl,a,_,rfl,.inl p,rfl,true,Fb _,fu ⟨rfl,no rfl H (a8.refl _)⟩⟩
 have Yc:o.length≠0:=by rw[g];exact λz=>B (waC z)
 have j:b.isEmpty=false:=by cases b with |nil=>exact absurd rfl B |cons _ _=>rfl
 refine⟨_,rfl,a,_,rfl,.inl p,rfl,false,congrArg V.bl (decide_eq_false λz=>by have:=V.int.inj z;rw[Zf]at this;omega),cg ?_⟩
 by_cases O:w < 1
 ·refine⟨_,rfl,_,_,rfl,rfl,true,congrArg V.bl (decide_eq_true O),fu ⟨rfl,no ?_ H (a8.refl _)⟩⟩;unfold dP;rw[decide_eq_false (show ¬1<=w by omega),wcg,wcT]
 refine⟨_,rfl,_,_,rfl,rfl,false,congrArg V.bl (decide_eq_false O),cg ?_⟩;refine⟨_,rfl,a,rfl,⟨_,p⟩,λlc C=>?_⟩;refine n9 (prs:=b.map dM) (λ_=>true) (λq=>match q.2 with |.int e=>.int (c.getD e.toNat 0) |_=>.non) (aH K a (o.map V.ref)) M C (ax (by omega)) (λy s'=>s'.seq p) (λq d R _ _ D=>D d (a8.refl _)) (λq d R hq _ l D=>?_) (λd l U=>?_)
 ·obtain⟨f,G,rfl⟩:=Zq.mp hq;have m:=t f G;have I:wD (c.map V.int) (f.2:Int)=some (.int (c.getD f.2 0)):=bx (by rw[Zi,Zg m,Zj,Zg m];rfl)
  have q2:R (.int (c.getD f.2 0)) d:=by
   have:=D d (a8.refl _);rwa[show (dM f).2=.int (f.2:Int) from rfl]at this
  exact⟨_,rfl,x,L.ay,dx,_,_,rfl,l _ _ hx,L.aw.cl,L.aw.cH,cf ah J cl,_,rfl,J,_,_,_,rfl,rfl,l.seq hb,I,q2⟩
 have e7:((b.map dM).filter λ_=>true).map (λq=>match q.2 with |.int e=>V.int (c.getD e.toNat 0) |_=>.non)=(b.map λq=>c.getD q.2 0).map V.int:=by
  rw[wab.mpr (λ_ _=>rfl),Zw,Zw];rfl
 rw[e7]at U;refine⟨lc,_,rfl,aI.of U,_,rfl,_,rfl,_,_,rfl,rfl,.inl ⟨by omega,by omega⟩,_,_,rfl,rfl,?_⟩
 by_cases n:aY c b < many * w
 ·refine⟨true,congrArg V.bl (decide_eq_true n),fu ⟨rfl,no ?_ d l⟩⟩;unfold dP;rw[decide_eq_false (show ¬many * w<=aY c b by omega),wcT,wcT]
 ·refine⟨false,congrArg V.bl (decide_eq_false n),cg ?_⟩;rcases k with⟨_,r⟩ |⟨i,_⟩
  ·exact r d l
  ·unfold dP at i;rw[j,decide_eq_true (show 1<=w by omega),decide_eq_true (show many * w<=aY c b by omega)]at i;cases i
theorem uM(L:Lk K mg):aM P w K mg base cW 1 L.ow L.oy ["line","desk","twin"] (Iu K):=by
 refine L.jw.F.dD (N:=["line","desk","twin","steps","word","end"]) (λgA A outer s H vs Q E nd u h=>?_);obtain⟨v,d,t,p,rfl,hL,JC,k⟩:=h
 refine⟨_,(a7 (ai (i:=3) (cj a9))
  (a7 (bf ZM rfl (aJ (pv 0)) (eL rfl (aS (aA (i:=4)) (aS (aA (i:=5)) d5))) (a7 (bp (iL wa6 wae wai cE (pv 3) (a5 (dj (a5 (pv 4) (a5 (pv 5) a9))) a9)))
  (ag (bP (aG vg (pv 5) (pv 1) (aU _)) (ag (bp (iL wa6 wae wai cE (pv 3) (a5 (dj (a5 (pv 4) (a5 (pv 2) a9))) a9)))) aR))))
  (ag (az (pv 3))))),?_⟩
 obtain⟨a,S,rfl,hS,hT⟩:=dH hL;have Z:S.length=p.length:=by rw[hT.1,Zf,Zf]
 refine⟨wa0 _,λb M=>?_⟩;have sb:a8 H (upd H b (.lst [])):=a8.upd M;have x:(upd H b (.lst [])) b=some (.lst []):=a6;generalize upd H b (.lst [])=B at sb x;have keep:∀{g:Hp},(∀c o,B c=some o->c≠b->g c=some o)->a8 H g:=λC c o e=>C _ _ (sb _ _ e) (af e M)
 refine⟨_,rfl,a,rfl,⟨_,sb.seq hS⟩,dh (K:=K) (a:=a) (xs:=S.map V.ref) (λj σ g=>∃(v4 v5:Option V) (as:List V),σ=[some (.ref a),some (.int (d:Int)),some (.int (t:Int)),some (.ref b),v4,v5]/\g b=some (.lst as)/\(∀c o,B c=some o->c≠b->g c=some o)/\b6 K (aF B g) ((eT d t (p.take j)).map jN) as)
  ⟨none,none,[],rfl,x,λc o e _=>e,rfl⟩ (λj σ g _ ⟨_,_,_,_,_,C,_⟩=>(keep C).seq hS) ?_ ?_⟩
 ·rintro j y σ g hy ⟨v4,v5,as,rfl,l,C,T⟩;have hj:j < S.length:=by have:=(Zn.mp hy).1;rwa[Zf]at this
  have U:j < p.length:=by omega
  rw[Zi,Zg hj]at hy;cases hy;have W:H S[j]=some (.tup [.str p[j].1,.int (p[j].2:Int)]):=hT.2 j S[j] (jL (dM p[j])) (Zg hj) (by rw[Zi,Zi,Zg U];rfl);have mR:p.take (j + 1)=p.take j++[p[j]]:=by rw[wa7,Zg U];rfl
  have Ta:as.length<=2 * j:=by
   rw[T.len,Zf];exact ZE (pJ d t _) (wdG 2 (by rw[ZG];omega))
  generalize p[j]=q at W mR;refine⟨S[j],_,rfl,ia.of (keep C _ _ W),rfl,_,_,rfl,_,_,rfl,rfl,?_⟩;refine⟨_,rfl,.inl ⟨rfl,_,aI.of l⟩,_,rfl,_,rfl,by show 2<=sizeLine;decide,λr u=>?_⟩;have I:∀n:Nat,n<=20000->n < sizeLine:=λn hn=>wap hn (by rw[wbe];decide);have OT:=a8.upd (o:=.tup [.str q.1,.int (q.2:Int)]) u _ _ l;refine⟨b,_,_,rfl,rfl,OT,I _ (by omega),?_⟩;have X:∀c o,(upd g r (.tup [.str q.1,.int (q.2:Int)])) c=some o->c≠b->(upd (upd g r (.tup [.str q.1,.int (q.2:Int)])) b (.lst (as++[.ref r]))) c=some o:=λc o e hc=>by rw[ae hc];exact e
  have D:∀c o,B c=some o->c≠b->(upd (upd g r (.tup [.str q.1,.int (q.2:Int)])) b (.lst (as++[.ref r]))) c=some o:=λc o e hc=>X _ _ (a8.upd u _ _ (C c o e hc)) hc
  have r0:B r=none:=by
   cases z:B r with
   |none=>rfl
   |some o=>
    by_cases hc:r=b
    ·rw[hc,l]at u;cases u
    ·rw[C _ _ z hc]at u;cases u
  have O:b6 K (aF B (upd (upd g r (.tup [.str q.1,.int (q.2:Int)])) b (.lst (as++[.ref r])))) ((eT d t (p.take j)).map jN++[jN q]) (as++[.ref r]):=by
   refine gK (b6.same ((gZ (a8.upd u)).trans (bz x X)) _ _ T) ?_;have R:r≠b:=λz=>by rw[z,l]at u;cases u
   exact⟨r,_,rfl,bH r0 (by rw[ae R,a6]),.str q.1,[.int (q.2:Int)],rfl,⟨rfl,rfl⟩,.int (q.2:Int),[],rfl,⟨rfl,rfl⟩,rfl⟩
  have m:(upd (upd g r (.tup [.str q.1,.int (q.2:Int)])) b (.lst (as++[.ref r]))) b=some (.lst (as++[.ref r])):=a6;generalize upd (upd g r (.tup [.str q.1,.int (q.2:Int)])) b (.lst (as++[.ref r]))=H4 at D O m
  by_cases G:q.2=d
  ·refine⟨_,rfl,_,rfl,rfl,true,congrArg V.bl (decide_eq_true (by rw[G])),fu ?_⟩;refine⟨_,rfl,.inl ⟨rfl,_,aI.of m⟩,_,rfl,_,rfl,by show 2<=sizeLine;decide,λJ f=>?_⟩;have JD:=a8.upd (o:=.tup [.str q.1,.int (t:Int)]) f _ _ m;refine⟨b,_,_,rfl,rfl,JD,I _ (by rw[Zm,wbF];omega),?_⟩;have Y:∀c o,(upd H4 J (.tup [.str q.1,.int (t:Int)])) c=some o->c≠b->(upd (upd H4 J (.tup [.str q.1,.int (t:Int)])) b (.lst (as++[.ref r]++[.ref J]))) c=some o:=λc o e hc=>by rw[ae hc];exact e
   have Vv:B J=none:=by
    cases z:B J with
    |none=>rfl
    |some o=>
     by_cases hc:J=b
     ·rw[hc,m]at f;cases f
     ·rw[D _ _ z hc]at f;cases f
   refine⟨_,_,_,rfl,a6,λc o e hc=>Y _ _ (a8.upd f _ _ (D c o e hc)) hc,?_⟩;rw[mR,sW,if_pos G,ZB];have em:([q,(q.1,t)]:List (Str×Nat)).map jN=[jN q]++[jN (q.1,t)]:=rfl;rw[em,<-waA];refine gK (b6.same ((gZ (a8.upd f)).trans (bz x Y)) _ _ O) ?_;have R:J≠b:=λz=>by rw[z,m]at f;cases f
   exact⟨J,_,rfl,bH Vv (by rw[ae R,a6]),.str q.1,[.int (t:Int)],rfl,⟨rfl,rfl⟩,.int (t:Int),[],rfl,⟨rfl,rfl⟩,rfl⟩
  ·refine⟨_,rfl,_,rfl,rfl,false,congrArg V.bl (decide_eq_false λz=>G (by have:=V.int.inj z;omega)),cg ?_⟩;refine⟨_,_,_,rfl,m,D,?_⟩;rw[mR,sW,if_neg G,ZB];exact O
 ·rintro σ g ⟨v4,v5,as,rfl,l,C,T⟩;rw[Zf,Z,ZU]at T;exact⟨_,rfl,k _ _ (keep C) ⟨b,as,rfl,.inl (bH M l),b6.same (dG sb) _ _ T⟩⟩
theorem Gb(L:Lk K mg):aM P w K mg base (yy P w) 4 L.Ce L.Cg ["sheet","many","desk","numbers","weight"] (Iv K L.ay L.eG):=by
 have T:=L.T;refine L.oz.F.D9 (N:=["sheet","many","desk","numbers","weight","line","chosen","others","rest","lines","weights","twin"]) (λgA A outer s H vs Q E nd hr h=>?_);obtain⟨x,a,many,B,w,ns,u,j,f,rfl,S,hA,JE,W,m0,m1,k⟩:=h
 refine⟨_,(a7 (bP (dN (cz (ao (jX L) L.eV (a5 (pv 2) (a5 (aO (pv 0) rfl) a9))))) (ag (fz cx rfl L.gN L.fJ rfl L.gM (a5 dZ a9))) aR)
  (a7 (ai (i:=5) (b8 bq (aO (pv 0) rfl) (pv 2) (λ_ _=>rfl)))
  (a7 (bP (dN (cz (aB (ym rfl) (by rfl) T.all MO (a5 (bY rfl (av ["line"] [5]) (aJ (pv 3)) (λ_ _ _ _ _ _=>b5) (λ_ _ _ _ _ _=>(ao (jX L) L.eV (a5 (pv 0) (a5 (pv 1) a9))))) a9)))) (ag (fz cx rfl L.gN L.fJ rfl L.gM (a5 dZ a9))) aR)
  (a7 (qm (i:=6) rfl (av ["numbers"] [3]) nd rfl rfl (av ["numbers"] [3]) (by decide) (lP (by rfl) T.enum (a5 (pv 5) a9)) (λ_ _ _ _ _ _=>fO (aG (gT (K:=K) rfl) (pv 0) (pv 2) rfl)) (λ_ _ _ _ _ _=>(pv 1)))
  (a7 (qm (i:=7) rfl (av ["numbers"] [3]) nd rfl rfl (av ["numbers"] [3]) (by decide) (lP (by rfl) T.enum (a5 (pv 5) a9)) (λ_ _ _ _ _ _=>fO (aG (uF (K:=K) rfl) (pv 0) (pv 2) rfl)) (λ_ _ _ _ _ _=>(pv 1)))
  (a7 (ai (i:=8) (aL pd (b8 bq (aO (pv 0) rfl) (pv 2) (λ_ _=>rfl)) (pv 4)))
  (a7 (bp (ja (mL L) (hr.mono (by decide)) rfl L.cy.g L.cy.F.kp L.cy.b .nil (vH cx) (a5 (pv 0) (a5 (pv 1) (a5 (pv 6) (a5 (pv 4) a9))))))
  (a7 (bp (ja (mL L) (hr.mono (by decide)) rfl L.cy.g L.cy.F.kp L.cy.b .nil (vH cx) (a5 (pv 0) (a5 (pv 1) (a5 (pv 7) (a5 (pv 8) a9))))))
  (a7 (ai (i:=9) (aL wY (aO (pv 0) rfl) (cj (a5 (pv 7) a9))))
  (a7 (p8 (pv 6) (Ec (pv 9) (pv 2) set_list))
  (a7 (ai (i:=10) (aL wY (aO (pv 0) rfl) (cj (a5 (pv 8) a9))))
  (a7 (p8 (pv 4) (Ec (pv 10) (pv 2) set_list))
  (a7 (ai (i:=11) (aB b7 (by rfl) T.len wa1 (a5 (aO (pv 0) rfl) a9)))
  (ag (az (jb L.oR (fi L) (hr.mono (by decide)) rfl L.rR L.cI.b .nil cG (a5 (aL wY (aO (pv 0) rfl) (cj (a5 (b8 bq (aO (pv 0) rfl) (pv 2) (λ_ _=>rfl)) a9))) (a5 (pv 10) (a5 (bY rfl (av ["desk","twin"] [2,11]) (aJ (pv 9)) (λ_ _ _ _ _ _=>b5) (λ_ _ _ _ _ _=>(ao (uM L) L.jw (a5 (pv 0) (a5 (pv 1) (a5 (pv 2) a9)))))) a9))))))))))))))))))),?_⟩
 refine d9 λR1 c1=>?_;obtain⟨dx,M,O,cl,hx,rh,GP,rl⟩:=id S;have hh:=x9 rh;have hw:=Iq GP;obtain⟨Nt,t,ec,hc,zH⟩:=id rl;cases ec;have xl:t.length=f.length:=by rw[zH.len,Zf]
 have hn:=W.n;have Af:=W.w;have AR:=W.l
 have no:d8 j f many B ns w=false->∀H',a8 H H'->E (.ref L.eG) none H':=λh=>by
  rcases k with⟨k1,_⟩ |⟨_,k2⟩
  ·rw[h]at k1;cases k1
  ·exact k2
 cases h1:dU B f.length with
 |false=>
  refine⟨_,rfl,_,rfl,x,L.ay,dx,_,_,rfl,hx,L.aw.cl,L.aw.cp,bD M O cl,B,cl,t,rfl,.inl hc,false,congrArg V.bl (by rw[xl];exact h1),fu ⟨rfl,no ?_ H (a8.refl _)⟩⟩;unfold d8;rw[h1,wcg]
 |true=>
 obtain⟨d,rfl,hd⟩:∃d:Nat,B=(d:Int)/\d < f.length:=by
  unfold dU at h1;rw[wb7]at h1;have a1:=of_decide_eq_true h1.1;have a2:=of_decide_eq_true h1.2;exact⟨B.toNat,by omega,by omega⟩
 refine⟨_,rfl,_,rfl,x,L.ay,dx,_,_,rfl,hx,L.aw.cl,L.aw.cp,bD M O cl,_,cl,t,rfl,.inl hc,true,congrArg V.bl (by rw[xl];exact h1),cg ?_⟩;refine c1 _ _ (d9 λR2 c2=>?_);rw[ZS]at k;have SY:d < t.length:=by omega
 have Tb:t[d]?=some t[d]:=Zg SY;obtain⟨dd,LO,rd⟩:=zH.get d _ Tb;have Nu:f[d]?=some f[d]:=Zg hd;rw[Zi,Nu]at LO;cases LO;have OD:f.getD d []=f[d]:=by rw[Zj,Nu];rfl
 have LQ:f[d]∈f:=ZV hd;have QI:=W.m _ LQ;have QJ:=W.e _ LQ
 have Tc:d8 j f many (d:Int) ns w=(ns.all (λi=>dU i f[d].length) && (dP j many (b0 ns f[d]) w && dP j many (aX ns f[d]) (j.getD d 0 - w))):=by
  unfold d8;rw[h1,wd6,ZS,OD]
 unfold hF at k;rw[OD]at k;rw[Tc]at k no;refine⟨_,rfl,x,L.ay,dx,_,_,rfl,hx,L.aw.cl,L.aw.cp,bD M O cl,_,rfl,cl,t,_,t[d],rfl,rfl,.inl hc,bx Tb,?_⟩;obtain⟨al,ys,el,R,JF⟩:=rd;rw[el];have yl:ys.length=f[d].length:=by rw[JF.len,Zf]
 generalize f[d]=p at Tc LQ QI QJ JF yl k no;refine c2 _ _ (d9 λR3 c3=>?_);refine⟨_,rfl,a,rfl,⟨_,hA⟩,λl1 QK=>?_⟩;refine comp_map (λv=>match v with |.int i=>V.bl (dU i ys.length) |_=>.non) (aH K a (ns.map V.int)) QK (by rw[Zf];exact ax (by omega)) (λH' s'=>s'.seq hA) (λz H2 Q' hz s2 U=>?_) (λH2 s2 h2=>?_)
 ·obtain⟨i,_,rfl⟩:=Zq.mp hz;exact⟨_,rfl,_,rfl,i,al,ys,rfl,s2.seq (.inl R),U H2 (a8.refl _)⟩
 have e2:(ns.map V.int).map (λv=>match v with |.int i=>V.bl (dU i ys.length) |_=>.non)=(ns.map λi=>dU i p.length).map V.bl:=by
  rw[Zw,Zw,yl];rfl
 rw[e2]at h2
 have Nv:((ns.map λi=>dU i p.length).all id)=ns.all (λi=>dU i p.length):=by
  rw[wek];rfl
 cases h3:ns.all (λi=>dU i p.length) with
 |false=>
  refine⟨l1,_,rfl,aI.of h2,false,congrArg V.bl (Nv.trans h3),fu ⟨rfl,no ?_ H2 s2⟩⟩;rw[h3,wcg]
 |true=>
 refine⟨l1,_,rfl,aI.of h2,true,congrArg V.bl (Nv.trans h3),cg ?_⟩;refine c3 _ _ (d9 λR4 c4=>?_);rw[h3,wd6]at k no;refine⟨_,rfl,al,ys,rfl,s2.seq (.inl R),λlc IQ=>?_⟩;refine vT (λi=>nK (.int (i:Nat)) (ns.map V.int)) (s2.seq (.inl R)) IQ (ax (by omega)) (λi y H3 Q' _ s3 U=>?_) (λi y H3 Q' _ s3 U=>⟨_,rfl,U H3 (a8.refl _)⟩) (λH3 s3 Td=>?_)
 ·exact⟨_,rfl,_,rfl,a,_,rfl,.inl ((s2.trans s3).seq hA),rfl,fE ns,_,rfl,U H3 (a8.refl _)⟩
 have Vw:(λi:Nat=>nK (.int (i:Nat)) (ns.map V.int))=λi:Nat=>decide ((i:Int)∈ns):=funext λi=>sV _ ns;rw[Vw]at Td;have Bd:=s2.trans s3;refine c4 _ _ (d9 λR5 c5=>?_);refine⟨_,rfl,al,ys,rfl,Bd.seq (.inl R),λlo MU=>?_⟩;refine vT (λi=>!nK (.int (i:Nat)) (ns.map V.int)) (Bd.seq (.inl R)) MU (ax (by omega)) (λi y H4 Q' _ s4 U=>?_) (λi y H4 Q' _ s4 U=>⟨_,rfl,U H4 (a8.refl _)⟩) (λH4 s4 Te=>?_)
 ·exact⟨_,rfl,_,rfl,a,_,rfl,.inl ((Bd.trans s4).seq hA),rfl,fE ns,_,rfl,U H4 (a8.refl _)⟩
 have QL:(λi:Nat=>!nK (.int (i:Nat)) (ns.map V.int))=λi:Nat=>!decide ((i:Int)∈ns):=funext λi=>congrArg (!·) (sV _ ns);rw[QL]at Te;have C:=Bd.trans s4;refine c5 _ _ (d9 λR6 c6=>?_);have Vx:=s4 _ _ Td;have rC:bh K H4 (bI (b0 ns p)) (.ref lc):=⟨lc,_,rfl,.inl Vx,yT _ (b6.same C _ _ JF)⟩;have rO:bh K H4 (bI (aX ns p)) (.ref lo):=⟨lo,_,rfl,.inl Te,yT _ (b6.same C _ _ JF)⟩;have Tf:(b0 ns p).length<=5000:=ZE (lV _ _ _) QI;have Vy:(aX ns p).length<=5000:=ZE (lV _ _ _) QI;have ce:∀q∈b0 ns p,q.2 < j.length:=λq hq=>by rw[Af];exact QJ q (gL hq)
 have oe:∀q∈aX ns p,q.2 < j.length:=λq hq=>by rw[Af];exact QJ q (gL hq)
 have Tg:d < j.length:=by omega
 have QM:wD (j.map V.int) (d:Int)=some (.int (j.getD d 0)):=bx (by rw[Zi,Zg Tg,Zj,Zg Tg];rfl);refine⟨_,rfl,x,L.ay,dx,_,_,rfl,C _ _ hx,L.aw.cl,L.aw.cH,cf M O cl,_,rfl,O,_,_,_,rfl,rfl,C.seq (.inl hw),QM,_,rfl,_,_,rfl,rfl,?_⟩;show eK 8 (V.int (j.getD d 0 - w)) _ _ _;refine c6 _ _ (d9 λR7 c7=>?_);have S4:=S.same C;refine⟨_,rfl,_,rfl,_,rfl,_,rfl,x,many,.ref lc,w,u,j,f,b0 ns p,rfl,S4,rC,by omega,ce,m0,m1,?_⟩
 cases h5:dP j many (b0 ns p) w with
 |false=>exact .inr ⟨rfl,λH5 s5=>no (by rw[h5,wcg]) H5 (C.trans s5)⟩
 |true=>
 refine .inl ⟨rfl,λH5 s5=>?_⟩;refine c7 _ _ (d9 λR8 c8=>?_);rw[h5,wd6]at k no;refine⟨_,rfl,_,rfl,_,rfl,_,rfl,x,many,.ref lo,j.getD d 0 - w,u,j,f,aX ns p,rfl,S4.same s5,bh.same s5 _ _ rO,by omega,oe,m0,m1,?_⟩
 cases h6:dP j many (aX ns p) (j.getD d 0 - w) with
 |false=>exact .inr ⟨rfl,λH6 s6=>no h6 H6 ((C.trans s5).trans s6)⟩
 |true=>
 refine .inl ⟨rfl,λH6 s6=>?_⟩;refine c8 _ _ ?_;obtain⟨_,kk⟩:True/\_:=⟨trivial,k⟩;rcases kk with⟨_,k⟩ |⟨k1,_⟩
 rotate_left
 ·rw[h6]at k1;cases k1
 have QN:=s5.trans s6;have Nw:=C.trans QN;have Vz:=bh.same QN _ _ rC;have VA:=bh.same QN _ _ rO;have big:∀n:Nat,n<=20000->n<=sizeLine:=λn hn=>ZE hn (by rw[wbe];decide);refine⟨_,rfl,x,L.ay,dx,_,_,rfl,Nw _ _ hx,L.aw.cl,L.aw.cp,bD M O cl,_,rfl,by show 1<=sizeLine;decide,λl7 Th=>?_⟩;refine⟨cl,l7,t,[.ref lo],rfl,rfl,nW (Nw.trans (a8.upd Th)) hc,.inl a6,big _ (by show t.length + 1<=_;omega),λX I=>?_⟩;have Ti:a8 H6 (upd H6 l7 (.lst [V.ref lo])):=a8.upd Th;generalize upd H6 l7 (.lst [V.ref lo])=Y at Ti I;have Yd:a8 Y (upd Y X (.lst (t++[V.ref lo]))):=a8.upd I
 have Tj:CF (t++[V.ref lo]).length (d:Int)=some d:=by
  have Z:(t++[V.ref lo]).length=t.length + 1:=by rw[Zm];rfl
  unfold CF;rw[Z,if_pos (by omega),if_pos (by omega),ZS]
 refine⟨_,rfl,_,rfl,_,rfl,X,_,_,d,rfl,rfl,a6,Tj,?_⟩;have OA:(upd (upd Y X (.lst (t++[V.ref lo]))) X (.lst ((t++[V.ref lo]).set d (V.ref lc)))) X=some (.lst ((t++[V.ref lo]).set d (V.ref lc))):=a6
 have OU:a8 H6 (upd (upd Y X (.lst (t++[V.ref lo]))) X (.lst ((t++[V.ref lo]).set d (V.ref lc)))):=λc o e=>by
  have J:=Ti _ _ e;rw[ae (af J I),ae (af J I)];exact J
 generalize upd (upd Y X (.lst (t++[V.ref lo]))) X (.lst ((t++[V.ref lo]).set d (V.ref lc)))=H8 at OA OU;have OV:=Nw.trans OU
 have VB:b6 K H8 (((f++[aX ns p]).set d (b0 ns p)).map bI) ((t++[V.ref lo]).set d (V.ref lc)):=by
  have r1:b6 K H8 (f.map bI++[bI (aX ns p)]) (t++[V.ref lo]):=gK (b6.same OV _ _ zH) (bh.same OU _ _ VA)
  have e:((f++[aX ns p]).set d (b0 ns p)).map bI=(f.map bI++[bI (aX ns p)]).set d (bI (b0 ns p)):=by
   rw[List.map_set,ZB];rfl
  rw[e];exact r1.set d (bh.same OU _ _ Vz)
 refine⟨_,rfl,x,L.ay,dx,_,_,rfl,OV _ _ hx,L.aw.cl,L.aw.cH,cf M O cl,_,rfl,by show 1<=sizeLine;decide,λl9 Tl=>?_⟩;refine⟨O,l9,_,[.int (j.getD d 0 - w)],rfl,rfl,nW (OV.trans (a8.upd Tl)) hw,.inl a6,big _ (by rw[Zf];show j.length + 1<=_;omega),λlw Nx=>?_⟩;have Tn:a8 H8 (upd H8 l9 (.lst [.int (j.getD d 0 - w)])):=a8.upd Tl;generalize upd H8 l9 (.lst [.int (j.getD d 0 - w)])=QO at Tn Nx;have QP:j.map V.int++[V.int (j.getD d 0 - w)]=(j++[j.getD d 0 - w]).map V.int:=by rw[ZB];rfl
 rw[QP]
 have QQ:CF ((j++[j.getD d 0 - w]).map V.int).length (d:Int)=some d:=by
  have Z:((j++[j.getD d 0 - w]).map V.int).length=j.length + 1:=by rw[Zf,Zm];rfl
  unfold CF;rw[Z,if_pos (by omega),if_pos (by omega),ZS]
 refine⟨_,rfl,_,rfl,_,rfl,lw,_,_,d,rfl,rfl,a6,QQ,?_⟩
 have QR:((j++[j.getD d 0 - w]).map V.int).set d (.int w)=(bV j d w).map V.int:=by
  unfold bV;rw[List.map_set]
 rw[QR];have To:(upd (upd QO lw (.lst ((j++[j.getD d 0 - w]).map V.int))) lw (.lst ((bV j d w).map V.int))) lw=some (.lst ((bV j d w).map V.int)):=a6
 have QS:a8 H8 (upd (upd QO lw (.lst ((j++[j.getD d 0 - w]).map V.int))) lw (.lst ((bV j d w).map V.int))):=λc o e=>by
  have J:=Tn _ _ e;rw[ae (af J Nx),ae (af J Nx)];exact J
 generalize upd (upd QO lw (.lst ((j++[j.getD d 0 - w]).map V.int))) lw (.lst ((bV j d w).map V.int))=H9 at To QS;have D:=OV.trans QS;refine⟨_,rfl,x,L.ay,dx,_,_,rfl,D _ _ hx,L.aw.cl,L.aw.cp,bD M O cl,cl,t,rfl,.inl (D.seq (.inl hc)),?_⟩;rw[xl];have Tp:d < u.length:=by omega
 have QT:wD (u.map V.str) (d:Int)=some (.str (u.getD d "")):=bx (by rw[Zi,Zg Tp,Zj,Zg Tp];rfl);refine⟨_,rfl,x,L.ay,dx,_,_,rfl,D _ _ hx,L.aw.cl,L.aw.gE,eC M O cl,_,rfl,x,L.ay,dx,_,_,rfl,D _ _ hx,L.aw.cl,L.aw.gE,eC M O cl,_,rfl,M,_,_,_,rfl,rfl,D.seq (.inl hh),QT,by show 1<=sizeLine;decide,λl10 Ny=>?_⟩;refine⟨M,l10,_,[.str (u.getD d "")],rfl,rfl,nW (D.trans (a8.upd Ny)) hh,.inl a6,big _ (by rw[Zf];show u.length + 1<=_;omega),λlh LR=>?_⟩;have Tq:a8 H9 (upd H9 l10 (.lst [.str (u.getD d "")])):=a8.upd Ny;generalize upd H9 l10 (.lst [.str (u.getD d "")])=Tr at Tq LR;have Nz:u.map V.str++[V.str (u.getD d "")]=(cT u d).map V.str:=by unfold cT;rw[ZB];rfl
 rw[Nz];have OW:=Tq.trans (a8.upd (o:=.lst ((cT u d).map V.str)) LR);have NA:(upd Tr lh (.lst ((cT u d).map V.str))) lh=some (.lst ((cT u d).map V.str)):=a6;generalize upd Tr lh (.lst ((cT u d).map V.str))=NF at OW NA;have JG:=QS.trans OW;have JH:=JG _ _ OA;have QU:=b6.same JG _ _ VB;have zl:((t++[V.ref lo]).set d (V.ref lc)).length=f.length + 1:=by rw[wbE,Zm,xl];rfl
 refine⟨_,rfl,_,rfl,X,rfl,⟨_,aI.of JH⟩,λlt KW=>?_⟩
 have NI:∀l∈(f++[aX ns p]).set d (b0 ns p),l.length<=5000:=λl hl=>by
  rcases wbO hl with z |z
  ·rcases ZL.mp z with z |z
   ·exact W.m l z
   ·rw[ZC.mp z];exact Vy
  ·rw[z];exact Tf
 refine sT (K:=K) ((((f++[aX ns p]).set d (b0 ns p)).map (eT d f.length)).map bI) (aH K X ((t++[V.ref lo]).set d (V.ref lc))) KW (big _ (by rw[zl];omega)) (by rw[Zf,Zf,wbE,Zm,zl];rfl) (λH' s'=>aI.of (s' _ _ JH)) (λi y dt IU Q' hy JI G U=>?_) (λIU G VC=>?_)
 ·obtain⟨d',J,r⟩:=QU.get i y hy;rw[Zi]at J JI;rw[Zi]at JI
  cases e:((f++[aX ns p]).set d (b0 ns p))[i]? with
  |none=>rw[e]at J;cases J
  |some l=>
   rw[e]at J JI;cases J;cases JI;exact⟨_,rfl,_,rfl,_,rfl,y,d,f.length,l,rfl,bh.same G _ _ r,NI l (ZA e),λz JK IV VD=>U z JK IV VD⟩
 intro y dy ny LU QV;have sm:a8 IU (upd (upd IU dy (.own y)) y (.ins L.ay dy [])):=cZ ny LU;have Gd:=D.trans OW;refine⟨y,dy,.ref lh,.ref lw,.ref lt,cT u d,bV j d w,((f++[aX ns p]).set d (b0 ns p)).map (eT d f.length),rfl,a6,nX (sm _ _ (G _ _ NA)),iU (sm _ _ (G _ _ (OW _ _ To))),bh.same ((bj _ _).trans sm) _ _ VC,?_,?_,?_,?_,λa' b' c' JK QW q1 q2 q3 QX=>⟨rfl,?_⟩⟩
 ·unfold cT;rw[Zm];show u.length + 1<=_;omega
 ·unfold bV;rw[wbE,Zm];show j.length + 1<=_;omega
 ·rw[Zf,wbE,Zm];show f.length + 1<=_;omega
 ·intro l hl;obtain⟨l',NK,rfl⟩:=Zq.mp hl;have:=pJ d f.length l';have:=NI l' NK;omega
 ·have IV:a8 IU JK:=λc o e=>QX _ _ (sm _ _ e) (af e ny);refine k y JK (Gd.trans (G.trans IV)) ?_;have QY:H y=none:=none_of (Gd.trans G) ny;have nw:=λ(dd:jM) (v:V) (r:bh K (aF _ JK) dd v)=>bh.same (dG ((Gd.trans G).trans sm)) dd v r;exact⟨dy,a',b',c',bH QY QW,nw _ _ q1,nw _ _ q2,nw _ _ q3⟩
theorem mM(L:Lk K mg):aM P w K mg base cW 1 L.oC L.oE ["line","desks"] (L5 K):=by
 refine L.gF.F.dD (N:=["line","desks"]) (λy A outer s H R Q E nd g h=>?_);obtain⟨v,b,f,j,rfl,B,C,hn,k⟩:=h;refine⟨_,(ag (az (eP rfl (av ["desks"] [1]) (av ["desks"] [1]) (by decide) (aJ (pv 0)) (λ_ _ _ _ _ _=>fO (aG (gT (K:=K) rfl) (pv 1) (pv 2) rfl)) (λ_ _ _ _ _ _=>(dj (a5 (pv 0) (a5 (pv 1) a9))))))),?_⟩;obtain⟨a,D,rfl,p,c,G⟩:=js B;have m:=c;rw[Zf]at m;refine⟨_,rfl,a,rfl,⟨_,p⟩,λl hl=>?_⟩
 refine iT (prs:=j.map dM) (λq=>nK q.2 ((nI f).map V.int)) (λq=>.tup [.at q.1,.at q.2]) (aH K a D) c (λi q d=>let ⟨r,I,J⟩:=G i q d;⟨r,I,ia.of J⟩) hl (ax (by omega)) (λt n=>n.seq p) (λq u M d x o=>by
  obtain⟨z,O,rfl⟩:=Zq.mp d
  exact⟨_,rfl,_,rfl,b,_,rfl,.inl (x.seq C),rfl,fE _,_,rfl,o u (a8.refl _)⟩) (λq u M d _ x o=>?_) (λt n r=>?_)
 ·obtain⟨z,O,rfl⟩:=Zq.mp d;exact⟨_,rfl,_,rfl,by show 2<=sizeLine;decide,λr g=>o _ _ (a8.upd g) (kr g z)⟩
 ·have e:((j.map dM).filter λq=>nK q.2 ((nI f).map V.int))=(cU f j).map dM:=by
   unfold cU;rw[wdy];refine congrArg _ (we6 λq _=>?_);exact FP q.2 f
  rw[e,Zw]at r;exact k _ t n r
theorem mN(L:Lk K mg):aM P w K mg base cW 2 L.jx L.oF ["sheet","many"] (L6 K L.ay):=by
 have T:=L.T;refine L.gG.F.dD (N:=["sheet","many","kept","left"]) (λG A outer s H vs Q E nd hr h=>?_);obtain⟨x,many,hs,ws,b,rfl,S,hn,hm,k⟩:=h;have I:(A.deeper (wcx "kept_desks" (aD (top 51)) s.heap.objs.size L.jx G)).units < wbT:=hr.wC
 refine⟨_,(a7 (ai (i:=2) (bT (Ao rfl) (by rfl) T.list jK (a5 (bT yC (by rfl) T.range HR (a5 (aB b7 (by rfl) T.len wa1 (a5 (aO (pv 0) rfl) a9)) a9)) a9)))
  (ag (iJ ZM (cz gO) (a7 (eh (i:=3) rfl (av ["sheet","kept","many"] [0,2,1]) nd rfl rfl (aJ (pv 2)) (λ_ _ _ _ _ _=>fO (aG Eh (aB (uG (K:=K) rfl) (by rfl) T.len wa1 (a5 (ao (mM L) L.gF (a5 (b8 (fY (K:=K) rfl) (lR (K:=K) rfl (pv 1) rfl) (pv 0) (λ_ _=>rfl)) (a5 (pv 2) a9))) a9)) (pv 3) (aU _))) (λ_ _ _ _ _ _=>(pv 0)))
  (a7 (bP (aG (ED I) (pv 3) (pv 2) (aU _)) (ag (az (pv 2))) aR)
  (ag (ai (i:=2) (pv 3)))))))),?_⟩
 obtain⟨dx,ah,bw,cl,hx,rh,GP,rl⟩:=id S;obtain⟨Nt,J,ec,hc,m⟩:=id rl;cases ec;have xl:J.length=b.length:=by rw[m.len,Zf]
 refine⟨_,rfl,x,L.ay,dx,_,_,rfl,hx,L.aw.cl,L.aw.cp,bD ah bw cl,cl,J,rfl,.inl (.inl hc),?_⟩;rw[xl];refine⟨_,rfl,λp hp=>?_⟩;refine⟨p,b.length,rfl,a6,ax (by omega),λl hl=>?_⟩;have s1:a8 H (upd H p (.rng 0 (b.length:Int))):=a8.upd hp;have fl:H l=none:=none_of s1 hl;have s2:=s1.trans (a8.upd (o:=.lst ((ZY b.length).map λi=>V.int (i:Nat))) hl);have h2:(upd (upd H p (.rng 0 (b.length:Int))) l (.lst ((ZY b.length).map λi=>V.int (i:Nat)))) l=some (.lst ((nI (ZY b.length)).map V.int)):=by rw[a6,z4]
 generalize upd (upd H p (.rng 0 (b.length:Int))) l (.lst ((ZY b.length).map λi=>V.int (i:Nat)))=H2 at s2 h2;refine⟨λq σ M=>∃(l:Addr) (c:List Nat) (v3:Option V),q=c.length/\σ=[some (.ref x),some (.int many),some (.ref l),v3]/\a8 H M/\H l=none/\M l=some (.lst ((nI c).map V.int))/\Above b many c,⟨_,l,_,none,rfl,rfl,s2,fl,h2,Above.start b many⟩,?_⟩;rintro q σ M ⟨l,c,v3,rfl,rfl,O,fl,r,t⟩;refine⟨true,rfl,fu ?_⟩;refine⟨λu C=>∃(g:Addr),u=[some (.ref x),some (.int many),some (.ref g),some (.ref g)]/\a8 H C/\H g=none/\C g=some (.lst ((nI (tf b many c)).map V.int))/\tf b many c≠c,?_,?_⟩
 ·rintro u C ⟨g,rfl,R,U,h',W⟩;exact⟨_,FN W,g,_,_,rfl,rfl,R,U,h',t.next⟩
 have X:∀d∈c,d < b.length:=λd hd=>wak.mp (t.sub.subset hd);have Ts:c.length<=1000:=by have:=t.sub.length_le;rw[wag]at this;omega
 refine⟨_,rfl,l,rfl,⟨_,aI.of r⟩,λg z=>?_⟩;refine cY (λv=>match v with |.int d=>decide (many<=((cU c (b.getD d.toNat [])).length:Int)) |_=>false) (λv=>v) (aH K l _) z (ax (by rw[Zf,bJ];omega)) (λC R=>aI.of (R _ _ r)) (λy D Q' hy j Y=>?_) (λy D Q' hy _ j Y=>⟨_,rfl,Y D (a8.refl _)⟩) (λD j Z=>?_)
 ·obtain⟨n,zI,rfl⟩:=pL hy;have JE:=X n zI;have hq:b[n]?=some (b.getD n []):=by rw[Zj,Zg JE];rfl
  obtain⟨v,Lf,rd⟩:=m.at (i:=n) (d:=bI (b.getD n [])) (by rw[Zi,hq];rfl);have e:=O.trans j;refine⟨_,rfl,x,L.ay,dx,_,_,rfl,e _ _ hx,L.aw.cl,L.aw.cp,bD ah bw cl,_,rfl,cl,J,_,_,rfl,rfl,e.seq (.inl hc),bx Lf,_,rfl,v,l,c,b.getD n [],rfl,bh.same e _ _ rd,aI.of (j _ _ r),hm _ (ZA hq),λy H5 s5 r5=>?_⟩;obtain⟨a,rs,rfl,hS,hT⟩:=dH r5;have Ge:rs.length=(cU c (b.getD n [])).length:=by rw[hT.1,Zf,Zf]
  refine⟨a,_,rfl,.inl ((bj _ _).seq hS),?_⟩;rw[Zf,Ge];exact⟨_,rfl,_,_,rfl,rfl,_,rfl,Y H5 s5⟩
 rw[wcQ,w4 (f:=λn=>decide (many<=((cU c (b.getD n [])).length:Int))) (λn=>rfl)]at Z;have e:=O.trans j;refine⟨_,rfl,_,rfl,g,l,_,_,rfl,rfl,aI.of Z,aI.of (j _ _ r),fE _,fE _,_,rfl,?_⟩;refine Ez (λB=>?_) (λB=>?_)
 ·rw[pK,decide_eq_true_eq]at B;exact⟨_,rfl,k l c D e fl (j _ _ r) ⟨t,t.stays B⟩⟩
 ·rw[pK,decide_eq_true_eq]at B;exact⟨_,rfl,g,rfl,e,none_of O z,Z,B⟩
theorem ro(L:Lk K mg):aM P w K mg base cW 1 L.kJ L.kK ["sheet","desk"] (DC K L.ay):=by
 have T:=L.T;refine L.hX.F.dD (N:=["sheet","desk","reached","waiting","line","word","end"]) (λgA A outer s H vs Q E nd n h=>?_);obtain⟨x,d,hs,ws,c,rfl,S,hd,he,yp,hn,k⟩:=h;have hu:=fo n
 refine⟨_,(a7 (ai (i:=2) dS)
  (a7 (ai (i:=3) (cj (a5 (pv 1) a9)))
  (a7 (iJ ZM (aG me (aB b7 (by rfl) T.len wa1 (a5 (pv 3) a9)) ak (aU _)) (a7 (ai (i:=4) (b8 bq (aO (pv 0) rfl) (Ep wa6 wfG PySem.F.type_list_pop Ka (pv 3)) (λ_ _=>rfl)))
  (ag (bf ZM rfl (aJ (pv 4)) (eL rfl (aS (aA (i:=5)) (aS (aA (i:=6)) d5))) (ag (bP (zL (vr hu (pv 6) (pv 2))) (a7 (dW hu (pv 2) (pv 6) gO rfl)
  (ag (bp (iL wa6 wae wai cE (pv 3) (a5 (pv 6) a9))))) aR))))))
  (ag (az (bT (mW rfl) (by rfl) T.list jK (a5 (pv 2) a9))))))),?_⟩
 obtain⟨dx,ah,bw,cl,hx,rh,GP,rl⟩:=id S;obtain⟨Nt,xs,ec,hc,zH⟩:=id rl;cases ec;have xl:xs.length=c.length:=by rw[zH.len,Zf]
 refine λrd QZ=>?_;refine⟨_,rfl,by show 1<=sizeLine;decide,λwl Af=>?_⟩;have M:rd≠wl:=af a6 Af;have s0:a8 H (upd (upd H rd (.dK [])) wl (.lst [.int (d:Int)])):=(a8.upd QZ).trans (a8.upd Af);have Tu:(upd (upd H rd (.dK [])) wl (.lst [.int (d:Int)])) rd=some (.dK (dB [])):=by rw[ae M,a6];rfl
 have Tv:(upd (upd H rd (.dK [])) wl (.lst [.int (d:Int)])) wl=some (.lst ((nI [d]).map V.int)):=a6;have Tw:H wl=none:=none_of (a8.upd QZ) Af;generalize upd (upd H rd (.dK [])) wl (.lst [.int (d:Int)])=H0 at s0 Tu Tv
 refine⟨λq σ X=>∃(f Y:List Nat) (v4 B v6:Option V),q=2 * (c.length - f.length) + Y.length/\σ=[some (.ref x),some (.int (d:Int)),some (.ref rd),some (.ref wl),v4,B,v6]/\a8 H X/\X rd=some (.dK (dB f))/\X wl=some (.lst ((nI Y).map V.int))/\f.Nodup/\(∀r∈f,r < c.length)/\(∀w∈Y,w < c.length)/\(∀r∈f,r∉Y->∀q∈c.getD r [],q.2∈f)/\(d∉Y->∀q∈c.getD d [],q.2∈f)/\Y.length<=f.length + 1,
  ⟨_,[],[d],none,none,none,rfl,rfl,s0,Tu,Tv,wau,λr h=>absurd h waW,λw h=>by rw[ZC.mp h];exact hd,λr h=>absurd h waW,λh=>absurd (ZC.mpr rfl) h,Zr _⟩,?_⟩
 rintro q σ X ⟨f,Y,v4,B,v6,rfl,rfl,s3,OT,O,nd,R9,Tx,Z,OX,R⟩;have Ge:=ku nd R9
 by_cases Tz:Y=[]
 ·subst Tz;refine⟨_,rfl,wl,_,rfl,.inl (aI.of O),_,_,rfl,rfl,false,rfl,cg ?_⟩;refine⟨_,rfl,rd,_,rfl,OT,λl hl=>?_⟩;rw[IA];refine k l f _ (s3.trans (a8.upd hl)) (none_of s3 hl) a6 ⟨λr n=>Z r n waW,R9,λz=>?_,nd⟩
  cases e:c.getD d [] with
  |nil=>exact yp e
  |cons q qs=>
   have:=OX waW q (by rw[e];exact Zy ..);rw[z]at this;cases this
 obtain⟨z,t,rfl,hz,Gf⟩:=IB Tz;refine⟨_,rfl,wl,_,rfl,.inl (aI.of O),_,_,rfl,rfl,true,congrArg V.bl (decide_eq_true (by rw[Zf,bJ,Zm];show (0:Int) < ((_ + 1:Nat):Int);omega)),fu ?_⟩;have VE:z < c.length:=Tx z (wa5 _ (ZC.mpr rfl));have TB:c[z]?=some (c.getD z []):=by rw[Zj,Zg VE];rfl
 have Ra:∀q∈c.getD z [],q.2 < c.length:=he _ (ZA TB);obtain⟨v,Lf,VF⟩:=zH.at (i:=z) (d:=bI (c.getD z [])) (by rw[Zi,TB];rfl);obtain⟨a,rr,rfl,hS,hT⟩:=dH VF;have TC:rr.length=(c.getD z []).length:=by rw[hT.1,Zf,Zf]
 refine⟨λσ' H'=>∃(ad:List Nat) (B v6:Option V),σ'=[some (.ref x),some (.int (d:Int)),some (.ref rd),some (.ref wl),some (.ref a),B,v6]/\a8 H H'/\H' rd=some (.dK (dB (f++ad)))/\H' wl=some (.lst ((nI (t++ad)).map V.int))/\(f++ad).Nodup/\(∀r∈f++ad,r < c.length)/\(∀q∈c.getD z [],q.2∈f++ad),?_,?_⟩
 ·rintro σ' H' ⟨ad,B,v6,rfl,s',Rb,VG,TF,FC,j⟩;have NK:=ku TF FC;rw[Zm]at NK;refine⟨_,?_,f++ad,t++ad,_,B,v6,rfl,rfl,s',Rb,VG,TF,FC,λw hw=>?_,λr n U q J=>?_,λU q J=>?_,?_⟩
  ·rw[Zm,Zm,Zm];show _ < 2 * (c.length - f.length) + (t.length + 1);omega
  ·rcases ZL.mp hw with hw |hw
   ·exact Tx w (wan _ hw)
   ·exact FC w (wa5 _ hw)
  ·rcases ZL.mp n with n |n
   ·by_cases C:r=z
    ·rw[C]at J;exact j q J
    ·refine wan _ (Z r n (λm=>?_) q J);rcases ZL.mp m with m |m
     ·exact U (wan _ m)
     ·exact C (ZC.mp m)
   ·exact absurd (wa5 _ n) U
  ·by_cases C:d=z
   ·rw[C]at J;exact j q J
   ·refine wan _ (OX (λm=>?_) q J);rcases ZL.mp m with m |m
    ·exact U (wan _ m)
    ·exact C (ZC.mp m)
  ·rw[Zm]at R;rw[Zm,Zm];have:t.length + 1<=f.length + 1:=R;omega
 refine⟨_,rfl,x,L.ay,dx,_,_,rfl,s3 _ _ hx,L.aw.cl,L.aw.cp,bD ah bw cl,_,rfl,.inl ⟨rfl,_,aI.of O⟩,wl,_,_,rfl,rfl,O,hz,?_⟩;rw[Gf];have s4:a8 H (upd X wl (.lst ((nI t).map V.int))):=λb o e=>by rw[ae (af e Tw)];exact s3 _ _ e
 have JD:(upd X wl (.lst ((nI t).map V.int))) rd=some (.dK (dB f)):=by rw[ae M];exact OT
 have NM:(upd X wl (.lst ((nI t).map V.int))) wl=some (.lst ((nI t).map V.int)):=a6;generalize upd X wl (.lst ((nI t).map V.int))=H4 at s4 JD NM;refine⟨cl,xs,_,_,rfl,rfl,s4.seq (.inl hc),bx Lf,?_⟩;refine⟨_,rfl,a,rfl,⟨_,s4.seq hS⟩,dh (K:=K) (a:=a) (xs:=rr.map V.ref) (λi σ H5=>∃(ad:List Nat) (B v6:Option V),σ=[some (.ref x),some (.int (d:Int)),some (.ref rd),some (.ref wl),some (.ref a),B,v6]/\a8 H H5/\H5 rd=some (.dK (dB (f++ad)))/\H5 wl=some (.lst ((nI (t++ad)).map V.int))/\(f++ad).Nodup/\(∀r∈f++ad,r < c.length)/\(∀q∈(c.getD z []).take i,q.2∈f++ad)) ⟨[],_,_,rfl,s4,by rw[waf];exact JD,by rw[waf];exact NM,by rw[waf];exact nd,by rw[waf];exact R9,λq J=>by rw[wf8]at J;cases J⟩ (λi σ H5 _ ⟨_,_,_,_,s5,_⟩=>s5.seq hS) ?_ ?_⟩
 ·rintro i y σ H5 hy ⟨ad,B,v6,rfl,s5,D,W,G,I,j⟩;have hi:i < rr.length:=by have:=(Zn.mp hy).1;rwa[Zf]at this
  have Rc:i < (c.getD z []).length:=by omega
  rw[Zi,Zg hi]at hy;cases hy;have Lg:H rr[i]=some (.tup [.str (c.getD z [])[i].1,.int ((c.getD z [])[i].2:Int)]):=hT.2 i rr[i] (jL (dM (c.getD z [])[i])) (Zg hi) (by rw[Zi,Zi,Zg Rc];rfl);have NN:(c.getD z []).take (i + 1)=(c.getD z []).take i++[(c.getD z [])[i]]:=by rw[wa7,Zg Rc];rfl
  have JC:=Ra _ (ZV Rc);generalize (c.getD z [])[i]=q at Lg NN JC;have VH:=ku G I;refine⟨rr[i],_,rfl,ia.of (s5 _ _ Lg),rfl,_,_,rfl,_,_,rfl,rfl,?_⟩;have g:=dQ.k (k:=(wao (q.2:Int):Key)) D;rw[B4]at g
  by_cases m:q.2∈f++ad
  ·rw[if_pos m]at g;refine⟨_,rfl,_,rfl,rd,_,rfl,g,false,rfl,cg ?_⟩;refine⟨ad,_,_,rfl,s5,D,W,G,I,λp u=>?_⟩;rw[NN]at u;rcases ZL.mp u with u |u
   ·exact j p u
   ·rw[ZC.mp u];exact m
  ·rw[if_neg m]at g;refine⟨_,rfl,_,rfl,rd,_,rfl,g,true,rfl,fu ?_⟩;refine⟨_,rfl,_,rfl,rd,_,rfl,jd.k (k:=wao (q.2:Int)) D (bB (by unfold dB;rw[Zf];omega)),?_⟩;rw[La m];have TH:(upd H5 rd (.dK (dB (f++ad++[q.2])))) wl=some (.lst ((nI (t++ad)).map V.int)):=by rw[ae M.symm];exact W
   refine⟨_,rfl,.inl ⟨rfl,_,aI.of TH⟩,_,rfl,wl,_,_,rfl,rfl,TH,?_,?_⟩
   ·rw[Zm]at R VH;rw[Zf,bJ,Zm];have:t.length + 1<=f.length + 1:=R;exact bB (by omega)
   refine⟨ad++[q.2],_,_,rfl,λb o e=>by rw[ae (af e Tw),ae (af e QZ)];exact s5 _ _ e,by rw[ae M,a6,waA],by rw[a6,<-waA,lX (t++ad),ZB];rfl,?_,λr n=>?_,λp u=>?_⟩
   ·rw[<-waA];refine wbr.mpr ⟨G,by simp,λa ha b hb e=>?_⟩;rw[ZC.mp hb]at e;rw[e]at ha;exact m ha
   ·rw[<-waA]at n;rcases ZL.mp n with n |n
    ·exact I r n
    ·rw[ZC.mp n];exact JC
   ·rw[<-waA];rw[NN]at u;rcases ZL.mp u with u |u
    ·exact wan _ (j p u)
    ·rw[ZC.mp u];exact wa5 _ (ZC.mpr rfl)
 ·rintro σ H5 ⟨ad,B,v6,rfl,s5,D,W,G,I,j⟩;rw[Zf,TC,ZU]at j;exact⟨ad,B,v6,rfl,s5,D,W,G,I,j⟩
end
end K41
namespace L2
open PySem PySem.Spec PyProof.Rows PySem.W
open Builtin Builtin.ObjectAttr
section
variable{prog:ZH}{w:World}{A:Around}{E:Value->Shared->Prop}{s:Shared}{K:Zh}{x dx C CB f:Addr}{mA:Str->Option Value}{name:Str}{v:Value}{R:wc4->Shared->Prop}
theorem DL{Q:Unit->Shared->Prop}(X:K.In s.heap)(hx:s.heap.get? x=some (rK C d t))(hd:s.heap.Ns1 d mA)(hw:wcE mA ns)(hl:ns.length<=100)(hc:clsIn K C=some cd)(hm:cd.mro=.ref C :: n6 CB)(hh:cd.hasDict=true)(ha:findIn K (.ref C) name=some none)
 (hs:findIn K (.ref C) "__setattr__"=some (some (.builtin "object.__setattr__")))
 (h:∀h' tk,(∀b,b≠d->h'.get? b=s.heap.get? b)->h'.Ns1 d (λy=>if y=name then some v else mA y)->Q () {s with heap:=h',toks:=tk}) :
 wpAny (model prog w) A (setAttr (.ref x) name v) Q E s:=by
 obtain⟨od,es,ep,e1,_⟩:=id hd;have J:InstAt s.heap x (rK C d t) C (some od):=⟨hx,rfl,rfl,e1⟩;refine wdZ X J hs (vF (s:={s with toks:=s.toks + 1}) X J hc hm ha ?_);unfold storeInOwnDict;refine Zk (ZN ?_);rw[if_neg (by simp)];unfold ownDictForStores instanceDict;refine Zk (Zk (wf1 hx ?_));dsimp only;refine Zk (wdN (s:={s with toks:=s.toks + 1}) (wcV X hc) ?_);rw[hh];simp only[wfr,wb8,if_false];refine ZN ?_;show wpAny _ _ (storeInDict d (.str name s.toks) name v) _ _ _;unfold storeInDict newKeyGuard;refine Zk (ZN (Zk (wfD hd λh' zI Kp=>?_)));obtain⟨oD,Ve,Vf,Ql,SJ,SK⟩:=zI.count (weD name v hw);refine Zk (weg Ql (by grind [weh,ZE,wbe]) ?_)
 wp_walk
 exact h h' _ (λb hb=>Kp.2 b hb) zI
end
section
variable{X:Cx}{CB:Addr}{o value:Expr}{ta tv:TE}{name:Str}{pos pos':Pos}
theorem DM{fs:List (Str×V)}{g:Str->Option Value}(r:∀f,iz (fs.lookup f) (g f)):wcE g (fs.map (·.1)):=by grind [iz,wcE,Zy,Zt]
theorem zj(h:fs.lookup name=none)(f:Str):(fs++[(name,y)]).lookup f=if f=name then some y else fs.lookup f:=by
 grind
def Lh(K:Zh)(CB:Addr)(ta tv:TE)(name:Str):TS:=λD σ H=>tv σ H λy H1=>ta σ H1 λz H2=>∃x C nm d fs,z=.ref x/\H2 x=some (XD x C d)/\H2 d=some (.xd fs)/\fs.length<=50/\cQ K C CB nm/\findIn K (.ref C) name=some none/\fs.lookup name=none/\D.nx σ (upd H2 d (.xd (fs++[(name,y)])))
theorem Gg(ha:PE X o ta)(J:PE X value tv)(hs:wbd value (some (.Attribute o name pos')) pos.line X.env=pure false):PS X (.Assign [.Attribute o name pos'] value pos) (Lh X.K CB ta tv name):=by
 intro c s σ H D I h;refine wbU (bS (J c s σ H _ I h) λu F ⟨y,G,L,M,q⟩=>bS (ha c F σ G _ L q) λO E P=>?_) hs;obtain⟨z,i,g,Q,x,C,R,d,fs,S,T,hd,hl,U,hn,V,W⟩:=P;subst S;obtain rfl:O=ZD x:=Q;obtain⟨⟨t,Y⟩,_⟩:=g.aZ x _ T;obtain⟨mA,ns,r⟩:=g.aZ d _ hd;obtain⟨Z,N,bs,sn,sub,ab,m,dd,k0,k1,k2,k3,k5,lk⟩:=U.lk;refine DL (CB:=CB) g.gy Y ns (DM r) (by rw[Zf];omega) (cd:={name:=R,bases:=bs,mro:=.ref C :: n6 CB,ns:=N,qualname:=Z,hasDict:=true,slotNames:=sn,subclasses:=sub,abstract:=ab,collection:=m,hasDel:=false}) (by unfold clsIn;rw[lk]) rfl rfl hn U.sa λp tk k j=>⟨σ,_,?_,W⟩;obtain⟨o',_,_,eo,_⟩:=id j;have nx:∀{b:Addr} {o:HO},i b=some o->(∀fs,o≠.xd fs)->b≠d:=λe n z=>by rw[z,hd]at e;exact n _ (Zx e).symm
 have A:∀{b:Addr},i b=none->b≠d:=λe z=>by rw[z,hd]at e;cases e
 have un:Un (q8 X.stack) [] i (upd i d (.xd (fs++[(name,y)]))) E.heap p:=by
  refine⟨λb o q n _ _=>by rw[k b (A n)];exact q,λb o q n _ _=>⟨o.slots,by rw[k b (A n)];exact q⟩,λb o q n _=>?_,λb o q _=>?_,λb vs q=>?_,λb o v q=>?_,λb ps q=>?_⟩
  ·rw[ae (A n)];exact n
  ·by_cases z:b=d
   ·rw[z];exact⟨_,eo⟩
   ·exact⟨o,by rw[k b z];exact q⟩
  ·rw[ae (nx q λψ z=>by cases z)];exact q
  ·rw[ae (nx q λψ z=>by cases z)];exact q
  ·exact⟨#[],by rw[ae (nx q λψ z=>by cases z),q];simp⟩
 have aZ:j4 X.prog X.w (upd i d (.xd (fs++[(name,y)]))) p:=λa o e=>by
  by_cases z:a=d
  ·subst z;rw[a6]at e;cases e;refine⟨_,j,λf=>?_⟩;rw[zj V]
   by_cases e:f=name
   ·rw[if_pos e,if_pos e];exact M
   ·rw[if_neg e,if_neg e];exact r f
  ·rw[ae z]at e;refine(g.aZ a o e).rS (λb u l q=>?_) (λb q=>?_) λb vs q=>?_
   ·rw[k b ?_]
    ·exact q
    ·rintro rfl;rcases l with rfl |l
     ·exact z rfl
     ·rw[hd]at l;cases l
   ·rw[ae (λB=>by rw[B,hd]at q;cases q)];exact q
   ·rw[ae (λB=>by rw[B,hd]at q;cases q)];exact q
 exact g.vf (s':={E with heap:=p,toks:=tk}) rfl un aZ g.bare λb z=>absurd z (by simp)
end
end L2
namespace Sx
open PySem L2 Bs
def JL(v:V):Prop:=∃i:Int,v=.int i/\i.natAbs.log2 < 1920
inductive Rf(C:Addr)(n1 n2:Str)(dD VI:V->Prop)(vs:List V)(H:Hp)(Q:VK)(eA:XK):Prop
 |mk (x u v) (_:vs=[.ref x,u,v]) (_:dD u) (_:VI v) (_:H x=some (XN x C)) (_:∀d,H d=none->Q .non (upd (upd H d (.xd [(n1,u),(n2,v)])) x (XD x C d)))
end Sx
namespace Bs
open PySem L2 Sx
theorem fj{a b:Str}{m n:Nat}(g:a.length<=m)(j:b.length<=n):(a++b).length<=m + n:=by
 rw[len_app];exact Nat.add_le_add g j
theorem Be{m j N:Nat}{many wide:Int}{g:Str}{l ss:List Str}(o:fA m many wide)(b:(j:Int)<=24)(c:gB g l ss N "" < many ^ j):(gB g l ss N "").natAbs.log2 < 1920:=by
 have f:0<=gB g l ss N "":=KI N "";obtain⟨k,e⟩:∃k:Nat,many=k:=⟨many.toNat,by have:=o.a;omega⟩;have d:k<=8:=by have:=o.b;omega
 rw[e,<-wcD]at c;have h:k ^ j<=8 ^ 24:=ZE (Nat.pow_le_pow_left d j) (wfm (by decide) (by omega))
 have i:(gB g l ss N "").natAbs < 2 ^ 72:=by
  grind
 have p:=Nat.log2_lt (n:=(gB g l ss N "").natAbs) (k:=72)
 by_cases z:(gB g l ss N "").natAbs=0
 ·rw[z];decide
 ·grind
end Bs
namespace L2
open PySem PySem.Spec PyProof.Rows Sx
section
variable{X:Cx}
theorem DN{K:Zh}(J:X.K=K):Jg X "list.index" (λx xs H Q=>∃l g k i,x=.ref l/\xs=[.int k]/\aI K H l (wcd V.int g)/\g.length<=1000/\g[i]?=some k/\(∀j:Nat,j < i->g[j]?≠some k)/\Q (.int (i:Nat)) H):=by
 subst J;intro B s σ H x xs v Y Q I G L h;obtain⟨l,g,k,i,rfl,rfl,M,N,hi,o,q⟩:=h;cases G;obtain⟨u,rfl,O,rfl⟩:=L.one;obtain⟨a,C,pl,Z⟩:=I.list M;obtain⟨⟨cls,P,data,sl⟩,D,hc,n,hd⟩:=pl.isList;simp only at hc hd;subst hc hd;have d:=C.length;rw[Zf]at d;have R:i < g.length:=(Zn.mp hi).1
 have b:∀m (c:m < a.length),∃t,a[m]=.int (g[m]'(by omega)) t:=λm c=>by
  obtain⟨w,E,S⟩:=C.get (i:=m) (x:=.int (g[m]'(by omega))) (by rw[Zi,Zg (by omega)];rfl);rw[Zg c]at E;obtain⟨t,rfl⟩:=S;exact⟨t,Zx E⟩
 refine wdr wbW ⟨_,D,rfl⟩ wen (web _ _)
  (weo l a.toArray n P sl (.int k O) (λw=>match w with |.int z _=>z == k |_=>false) i (by simp;omega) (by omega) ?_ ?_) ⟨D,λy T=>?_,?_⟩
 ·obtain⟨t,e⟩:=b i (by omega);have U:g[i]=k:=(Zn.mp hi).2;simp only[wcs];rw[e,U];simp
 ·intro m c p;have r:m < a.length:=by simpa using c
  obtain⟨t,e⟩:=b m r;simp only[wcs];rw[e];have f:=o m p;rw[Zg (by omega)]at f;simp only[beq_eq_false_iff_ne,ne_eq];exact λz=>f (by rw[z])
 ·have A:y∈a:=by simpa using T
  obtain⟨m,c,rfl⟩:=wb4 A;obtain⟨t,e⟩:=b m c;rw[e];exact wf2 _ _ _ _
 ·exact⟨.int (i:Nat),H,I.tok _,⟨_,rfl⟩,q⟩
end
end L2
namespace Bs
open PySem L2 Sx
noncomputable def iy(ks:List Nat)(m:Nat)(qs:List (Str×Nat)):List (Str×Nat):=((cU ks qs).take m).map λq=>(q.1,ks.idxOf q.2)
noncomputable def eJ(lns:List (List (Str×Nat)))(ks:List Nat)(m:Nat):List (List (Str×Nat)):=ks.map λd=>iy ks m (lns.getD d [])
noncomputable def jY(wl:List (List (Str×Nat)))(s:Str×Nat)(t:Nat):Str×Nat:=(s.1++((wl.getD s.2 []).getD t ("",0)).1,((wl.getD s.2 []).getD t ("",0)).2)
noncomputable def aW(wl:List (List (Str×Nat)))(d:Nat)(ts:List Nat):Str×Nat:=ts.foldl (jY wl) ("",d)
structure Gh(many:Int)(n:Nat)(wl:List (List (Str×Nat))):Prop where
 ne:wl≠[]
 ln:∀l∈wl,(l.length:Int)=many
 e:∀l∈wl,∀q∈l,q.2 < wl.length
 wd:∀l∈wl,∀q∈l,q.1.length=n
theorem pT(wl:List (List (Str×Nat)))(d:Nat)(ts:List Nat)(t:Nat):aW wl d (ts++[t])=jY wl (aW wl d ts) t:=by
 grind [aW]
theorem fK{wl:List (List (Str×Nat))}{d:Nat}(h:d < wl.length):wl[d]?=some (wl.getD d []):=by
 grind
theorem wu{l:List (Str×Nat)}{t:Nat}(h:t < l.length):l[t]?=some (l.getD t ("",0)):=by
 grind
theorem Ci{many:Int}{n:Nat}{wl:List (List (Str×Nat))}(W:Gh many n wl):∀(ts:List Nat) (s:Str×Nat),s.2 < wl.length->(∀t∈ts,(t:Int) < many)->(ts.foldl (jY wl) s).2 < wl.length/\(ts.foldl (jY wl) s).1.length=s.1.length + n * ts.length
 |[],s,h,_=>⟨h,rfl⟩
 |t :: ts,s,h,c=>by
  have i:=c t (Zy ..);have hl:=ZA (fK h);have f:=W.ln _ hl;have d:=ZA (wu (l:=wl.getD s.2 []) (t:=t) (by omega));obtain⟨a,b⟩:=Ci W ts (jY wl s t) (W.e _ hl ((wl.getD s.2 []).getD t ("",0)) d) λx g=>c x (Zt _ g);refine⟨a,?_⟩;rw[wdq,b];show (s.1++_).length + _=_;rw[len_app,W.wd _ hl _ d,ZZ,Nat.mul_add,Nat.mul_one];omega
theorem oV{many:Int}{n:Nat}{wl:List (List (Str×Nat))}(W:Gh many n wl){d:Nat}(hd:d < wl.length){ts:List Nat}(g:∀t∈ts,(t:Int) < many):(aW wl d ts).2 < wl.length/\(aW wl d ts).1.length=n * ts.length:=by
 obtain⟨a,b⟩:=Ci W ts ("",d) hd g;refine⟨a,b.trans ?_⟩;show 0 + _=_;omega
theorem C6.word(h:C6 (aP g o ss ls n) hs lns)(hl:lns.length=hs.length)(j:∀p∈hs,p∈ss)(r:("":Str)∈ss):∀l∈lns,∀q∈l,q.1.length=n:=by
 intro l d q f;obtain⟨i,hi,e⟩:=wb4 d;have a:i < hs.length:=by omega
 have b:0 < gC hs[i] (q.1,q.2) hs lns:=by
  have k:hs[i]?=some hs[i]:=Zg a;have m:lns[i]?=some l:=by rw[Zg hi,e]
  have:=o1 (z:=(q.1,q.2)) k m;have hc:0 < l.count (q.1,q.2):=wdO.mpr f;omega
 rw[h hs[i] q.1 q.2]at b
 by_cases c:q.2 < hs.length/\hs[i]∈hs/\(q.1,hs.getD q.2 "")∈aP g o ss ls n hs[i]
 ·exact(sM r (j _ (ZV a)) n _ (ZO.mp c.2.2).1).2
 ·rw[if_neg c]at b;omega
theorem NP{many:Int}{n:Nat}{lns:List (List (Str×Nat))}{g:List Nat}(h:nh lns many g)(j:g≠[])(r:0<=many)(o:∀l∈lns,∀q∈l,q.1.length=n):Gh many n (eJ lns g many.toNat):=by
 refine⟨λz=>j (wfz.mp z),λl hl=>?_,λl hl q a=>?_,λl hl q a=>?_⟩
 ·obtain⟨d,hd,rfl⟩:=Zq.mp hl;have:=(h.st d hd).2;unfold iy;rw[Zf,ZG];omega
 ·obtain⟨d,hd,rfl⟩:=Zq.mp hl;unfold iy at a;obtain⟨p,b,rfl⟩:=Zq.mp a;have c:=of_decide_eq_true (ZO.mp ((waz _ _).subset b)).2;unfold eJ;rw[Zf];exact wcR.mpr c
 ·obtain⟨d,hd,rfl⟩:=Zq.mp hl;unfold iy at a;obtain⟨p,b,rfl⟩:=Zq.mp a;have e:=(ZO.mp ((waz _ _).subset b)).1;exact o _ (ZA (fK (h.st d hd).1)) p e
theorem tY:∀{hs:List Nat} {j:Nat} (h:j < hs.length),hs.idxOf hs[j]<=j
 |[],j,h=>absurd h (wcB _)
 |a :: hs,0,h=>by
  show (a :: hs).idxOf a<=0;rw[wfl];exact Zr 0
 |a :: hs,j + 1,h=>by
  have b:j < hs.length:=by simpa using h
  show (a :: hs).idxOf hs[j]<=j + 1;rw[wgs];have:=tY b
  cases(a == hs[j]) with
  |true=>grind
  |false=>grind
theorem IW(h:k∈g):(nI g)[g.idxOf k]?=some (k:Int)/\∀j:Nat,j < g.idxOf k->(nI g)[j]?≠some (k:Int):=by
 have hl:g.idxOf k < g.length:=wcR.mpr h;unfold nI;refine⟨by grind,λj c e=>?_⟩;have a:j < g.length:=by omega
 rw[Zi,Zg a]at e;have b:g[j]=k:=by grind
 have:=tY a;rw[b]at this;omega
end Bs
namespace Sx
open PySem L2 Bs
inductive IX(K:Zh)(vs:List V)(H:Hp)(Q:VK)(eA:XK):Prop
 |mk (v b many ks qs) (_:vs=[v,.ref b,.int many]) (_:bh K H (bI qs) v) (_:aI K H b ((nI ks).map V.int)) (_:ks.length<=1000) (_:qs.length<=10000) (_:0<=many) (_:∀y H',a8 H H'->bh K (aF H H') (bI (iy ks many.toNat qs)) y->Q y H')
inductive Gi(K:Zh)(vs:List V)(H:Hp)(Q:VK)(eA:XK):Prop
 |mk (v:V) (d:Nat) (a:Addr) (many:Int) (n:Nat) (wl:List (List (Str×Nat))) (ts:List Nat) (_:vs=[v,.int (d:Int),.ref a]) (_:bh K H (jr wl) v) (_:aI K H a ((nI ts).map V.int)) (_:Gh many n wl) (_:d < wl.length) (_:(∀t∈ts,(t:Int) < many)) (_:ts.length<=100000) (_:n<=10) (_:∀p H',a8 H H'->H' p=some (.tup [.str (aW wl d ts).1,.int ((aW wl d ts).2:Int)])->Q (.ref p) H')
structure Gj(bw:List Str)(M:Int):Prop where
 u:∀w∈bw,(w.length:Int)<=M
 a:M=0/\bw=[]\/∃w∈bw,(w.length:Int)=M
structure Cj(bw:List Str)(n:Nat)(b:Nat):Prop where
 le:b<=1000
 is:∃M:Int,Gj bw M/\(b:Int)=((if 0 > M - 1 then 0 else M - 1) + (n:Int) - 1) / (n:Int)
inductive IY(C:Addr)(vs:List V)(H:Hp)(Q:VK)(eA:XK):Prop
 |mk (x g bw ss ls) (_:vs=[.ref x]) (_:aT C H x g bw ss ls) (_:bw.length<=1000) (_:(∀w∈bw,w.length<=1000)) (_:∀(M:Int) (H':Hp),a8 H H'->Gj bw M->Q (.int M) H')
inductive Gk(C:Addr)(vs:List V)(H:Hp)(Q:VK)(eA:XK):Prop
 |mk (x:Addr) (n:Nat) (g:Str) (bw ss ls:List Str) (_:vs=[.ref x,.int (n:Int)]) (_:aT C H x g bw ss ls) (_:1<=n) (_:n<=10) (_:(∀w∈bw,w.length<=900)) (_:bw.length<=1000) (_:∀(b:Nat) (H':Hp),a8 H H'->Cj bw n b->Q (.int (b:Int)) H')
end Sx
namespace K41
open PySem L2 Bs Sx
section
variable{P:ZH}{w:World}{K:Zh}{mg:Str->Option Value}{base:Heap}
theorem iZ(L:Lk K mg):aM P w K mg base cW 2 L.eX L.eY ["line","kept","many"] (IX K):=by
 refine L.cV.F.dD (N:=["line","kept","many"]) (λW A outer s H vs Q E nd t h=>?_);obtain⟨v,b,many,c,g,rfl,X,S,u,x,m0,k⟩:=h;refine⟨_,(ag (az (eP rfl (av ["kept"] [1]) (av ["kept"] [1]) (by decide) (aJ (cu eM (ao (mM L) L.gF (a5 (pv 0) (a5 (pv 1) a9))) fN (cn (pv 2)))) (λ_ _ _ _ _ _=>b5) (λ_ _ _ _ _ _=>(dj (a5 (pv 0) (a5 (Ft (K:=K) rfl wa6 wbW wev (DN (K:=K) rfl) (pv 2) (a5 (pv 1) a9)) a9))))))),?_⟩;have B:many=((many.toNat:Nat):Int):=by omega
 refine⟨_,rfl,_,rfl,v,b,c,g,rfl,X,S,x,λy C D Y=>?_⟩;obtain⟨a,f,rfl,Z,T⟩:=dH (bh.same (bj _ _) _ _ Y);have Ge:f.length=(cU c g).length:=by rw[T.1,Zf,Zf]
 have Vs:=FL c g;refine⟨_,rfl,((many.toNat:Nat):Int),congrArg V.int B,a,_,rfl,Z,λm G=>?_⟩;rw[BU,<-wc0];have n:=a8.upd (H:=C) (o:=.lst ((f.take many.toNat).map V.ref)) G;have I:(upd C m (.lst ((f.take many.toNat).map V.ref))) m=some (.lst ((f.take many.toNat).map V.ref)):=a6;generalize upd C m (.lst ((f.take many.toNat).map V.ref))=H2 at n I;refine⟨m,rfl,⟨_,aI.of I⟩,λl hl=>?_⟩;refine iT (prs:=((cU c g).take many.toNat).map dM) (λ_=>true) (λq=>match q.2 with |.int e=>.tup [.at q.1,.at (.int (c.idxOf e.toNat:Int))] |_=>.at .non) (aH K m _) (by grind) (λi q j=>?_) hl (ax (by grind)) (λU J=>aI.of (J _ _ I)) (λq M Q' _ _ O=>O M (a8.refl _)) (λq M Q' j _ s3 O=>?_) (λU J r=>?_)
 ·rw[Zi]at j
  have hi:i < ((cU c g).take many.toNat).length:=by
   cases e:((cU c g).take many.toNat)[i]? with
   |none=>rw[e]at j;cases j
   |some z=>exact(Zn.mp e).1
  have d:i < many.toNat/\i < f.length:=by rw[ZG]at hi;omega
  rw[wcG d.1,Zg (by omega)]at j;cases j;refine⟨f[i],by rw[Zi,wcG d.1,Zg d.2];rfl,ia.of (n _ _ ?_)⟩;exact T.2 i f[i] (jL (dM (cU c g)[i])) (Zg d.2) (by rw[Zi,Zi,Zg (by omega)];rfl)
 ·obtain⟨z,hz,rfl⟩:=Zq.mp j;have R:=of_decide_eq_true (ZO.mp ((waz _ _).subset hz)).2;have p:aI K M b ((nI c).map V.int):=((D.trans n).trans s3).seq S;obtain⟨i1,i2⟩:=IW R;refine⟨_,rfl,_,rfl,.inl ⟨rfl,_,p⟩,_,rfl,b,nI c,(z.2:Int),c.idxOf z.2,rfl,rfl,p,by rw[bJ];exact u,i1,i2,by show 2<=sizeLine;decide,λr t=>?_⟩;exact O _ _ (a8.upd t) (kr t (z.1,c.idxOf z.2))
 ·rw[wab.mpr (λ_ _=>rfl),Zw]at r;refine k _ U ((D.trans n).trans J) (bh.same (dG (D.trans n)) _ _ ?_);unfold iy bI;rw[Zw];exact r
theorem wx(L:Lk K mg):aM P w K mg base cW 1 L.zh L.zi ["lines","desk","data"] (Gi K):=by
 refine L.oK.F.dD (N:=["lines","desk","data","row","thing","step"]) (λU A outer s H vs Q E nd hr h=>?_);obtain⟨v,d,a,many,n,wl,ts,rfl,X,S,W,hd,m,Y,hn,k⟩:=h
 refine⟨_,(a7 (ai (i:=3) dZ)
  (a7 (bf ZM rfl (aJ (pv 2)) (aA (i:=4)) (a7 (ai (i:=5) (b8 bq (b8 bq (pv 0) (pv 1) (λ_ _=>rfl)) (pv 4) (λ_ _=>rfl)))
  (a7 (rW (i:=3) nd rfl (wcJ rfl) (b8 gg (pv 5) ak (λ_ _=>rfl)) Ie)
  (ag (ai (i:=1) (b8 gg (pv 5) ak (λ_ _=>rfl)))))))
  (ag (az (dj (a5 (pv 3) (a5 (pv 1) a9))))))),?_⟩
 obtain⟨cl,xs,rfl,hc,z⟩:=id X;refine⟨_,rfl,a,rfl,⟨_,S⟩,dh (K:=K) (a:=a) (xs:=(nI ts).map V.int) (λi σ u=>∃(v4 B:Option V),σ=[some (.ref cl),some (.int ((aW wl d (ts.take i)).2:Int)),some (.ref a),some (.str (aW wl d (ts.take i)).1),v4,B]/\a8 H u) ⟨none,none,rfl,a8.refl _⟩ (λi σ u _ ⟨_,_,_,c⟩=>c.seq S) ?_ ?_⟩
 ·rintro i y σ u C ⟨v4,B,rfl,c⟩;have hi:i < ts.length:=by have:=(Zn.mp C).1;rwa[Zf,bJ]at this
  have g:ts[i]?=some ts[i]:=Zg hi;rw[xh g]at C;cases C;have D:=m _ (ZV hi);have mR:ts.take (i + 1)=ts.take i++[ts[i]]:=by rw[wa7,g];rfl
  generalize ts[i]=t at g D mR;obtain⟨Z,w2⟩:=oV W hd (ts:=ts.take i) λx hx=>m x ((waz _ _).subset hx);have e:=pT wl d (ts.take i) t;rw[<-mR]at e;have G:=fK Z;have IZ:=W.ln _ (ZA G);have I:=W.wd _ (ZA G);have J:jY wl (aW wl d (ts.take i)) t=((aW wl d (ts.take i)).1++((wl.getD (aW wl d (ts.take i)).2 []).getD t ("",0)).1,((wl.getD (aW wl d (ts.take i)).2 []).getD t ("",0)).2):=rfl;rw[J]at e;generalize aW wl d (ts.take i)=M at *;obtain⟨v,O,rd⟩:=z.at (i:=M.2) (d:=bI (wl.getD M.2 [])) (by rw[Zi,G];rfl);generalize wl.getD M.2 []=f at *;obtain⟨b,j,rfl,hS,T⟩:=dH rd;have Ge:j.length=f.length:=by rw[T.1,Zf,Zf]
  have l:t < f.length:=by omega
  have o:t < j.length:=by omega
  have r:H j[t]=some (.tup [.str f[t].1,.int (f[t].2:Int)]):=T.2 t j[t] (jL (dM f[t])) (Zg o) (by rw[Zi,Zi,Zg l];rfl);have eq:f.getD t ("",0)=f[t]:=by rw[Zj,Zg l];rfl
  have R:=I _ (ZV l);rw[eq]at e;generalize f[t]=q at *;refine⟨_,rfl,_,rfl,cl,xs,_,_,rfl,rfl,c.seq (.inl hc),bx O,_,rfl,b,_,_,_,rfl,rfl,c.seq hS,bx (v:=.ref j[t]) (by rw[Zi,Zg o];rfl),?_⟩;refine⟨_,rfl,_,rfl,j[t],_,_,_,rfl,rfl,ia.of (c _ _ r),rfl,_,_,rfl,rfl,ax ?_,?_⟩
  ·rw[w2,R,ZG];have h1:n * min i ts.length<=10 * 99999:=wbR hn (by omega);omega
  refine⟨_,rfl,j[t],_,_,_,rfl,rfl,ia.of (c _ _ r),rfl,?_⟩;rw[e];exact⟨_,_,rfl,c⟩
 ·rintro σ u ⟨v4,B,rfl,c⟩;rw[Zf,bJ,ZU];refine⟨_,rfl,_,rfl,by show 2<=sizeLine;decide,λp hp=>?_⟩;exact k p _ (c.trans (a8.upd hp)) a6
theorem rp(L:Lk K mg):aM P w K mg base cW 1 L.lA L.lB ["self"] (IY L.aE):=by
 have T:=L.T;refine L.fg.F.dD (N:=["self"]) (λp A outer s H S Q E nd U h=>?_);obtain⟨x,g,e,W,ls,rfl,B,r,f,k⟩:=h;refine⟨_,(ag (az (Io rfl (by rfl) T.max (a5 (bY rfl (av [] []) (aJ (aO (pv 0) rfl)) (λ_ _ _ _ _ _=>b5) (λ_ _ _ _ _ _=>(aB bX (by rfl) T.len wa1 (a5 (pv 0) a9)))) a9) ak))),?_⟩;obtain⟨t,b,d,q,X,u,m,i,Y,Z,h6⟩:=id B.ex;refine⟨_,rfl,x,L.aE,t,_,_,rfl,u,L.aK.cl,L.aK.za,yD g b d q,b,rfl,⟨_,aI.of m⟩,λC j=>?_⟩;refine cY (λ_=>true) (λv=>match v with |.str z=>.int (z.length:Int) |_=>.non) (aH K b _) j (ax (by rw[Zf];omega)) (λH' D=>aI.of (D _ _ m)) (λy a G n c l=>l a (a8.refl _)) (λy a G n _ c l=>?_) (λa c i=>?_)
 ·obtain⟨w,hw,rfl⟩:=Zq.mp n;exact⟨_,rfl,w,rfl,ax (by have:=f w hw;omega),l a (a8.refl _)⟩
 have I:((e.map V.str).filter λ_=>true).map (λv=>match v with |.str z=>V.int (z.length:Int) |_=>.non)=(e.map λw=>(w.length:Int)).map V.int:=by
  rw[wab.mpr (λ_ _=>rfl),Zw,Zw];rfl
 rw[I]at i;refine⟨C,_,0,rfl,rfl,aI.of i,λhn=>?_,λM J O=>?_⟩
 ·have o:e=[]:=wfz.mp hn;exact k 0 a c ⟨(λw hw=>by rw[o]at hw;cases hw),.inl ⟨rfl,o⟩⟩
 ·obtain⟨w,hw,rfl⟩:=Zq.mp J;exact k _ a c ⟨λz R=>O _ (Zq.mpr ⟨z,R,rfl⟩),.inr ⟨w,hw,rfl⟩⟩
theorem pU(L:Lk K mg):aM P w K mg base cW 2 L.jP L.jQ ["band","wide"] (Gk L.aE):=by
 have T:=L.T;refine L.gj.F.dD (N:=["band","wide","signs"]) (λj A outer s H G Q E nd l h=>?_);obtain⟨x,n,g,o,p,ls,rfl,B,I,r,c,e,k⟩:=h
 refine⟨_,(a7 (ai (i:=2) (aB (Cy rfl) (by rfl) T.max Fa (a5 (aL pd (dk (pv 0) L.aK.cl L.fg.m (rp L) (l.mono (by decide)) L.fg.b .nil cG) ak) (a5 ak a9))))
  (ag (az (aL nH (aL pd (aL gf (pv 2) (pv 1)) ak) (pv 1))))),?_⟩
 obtain⟨t,b,d,q,J,u,O,R,S,U,V⟩:=id B.ex;refine⟨_,rfl,x,t,_,rfl,u,GL g b d q (by decide+kernel) (by decide+kernel) (by decide+kernel) (by decide+kernel),x,g,o,p,ls,rfl,B,e,(λw hw=>by have:=c w hw;omega),λM v y f=>?_⟩;refine⟨_,_,rfl,rfl,_,_,rfl,?_⟩
 have z:0<=M/\M<=900:=by
  rcases f.a with⟨h,_⟩ |⟨w,hw,h⟩
  ·omega
  ·have:=c w hw;omega
 have C:0<=((if 0 > M - 1 then 0 else M - 1) + (n:Int) - 1) / (n:Int):=wgq (by split <;> omega) (by omega)
 have D:((if 0 > M - 1 then 0 else M - 1) + (n:Int) - 1) / (n:Int)<=1000:=by
  refine wcf (Int.ediv_le_self _ (by split <;> omega)) (by split <;> omega)
 refine⟨_,rfl,_,rfl,_,_,rfl,rfl,_,_,rfl,rfl,_,rfl,_,_,rfl,rfl,⟨by omega,by omega⟩,?_⟩;have:=k (((if 0 > M - 1 then 0 else M - 1) + (n:Int) - 1) / (n:Int)).toNat v y ⟨by omega,M,f,by omega⟩;rwa[show ((((if 0 > M - 1 then 0 else M - 1) + (n:Int) - 1) / (n:Int)).toNat:Int)=((if 0 > M - 1 then 0 else M - 1) + (n:Int) - 1) / (n:Int) by omega]at this
theorem oW(L:Lk K mg):aM P w K mg base cW 1 L.qH L.qI ["text","signs"] Hy:=by
 have T:=L.T;refine L.ir.F.dD (N:=["text","signs"]) (λf A outer s H n Q E nd o h=>?_);obtain⟨a,b,rfl,hl,k⟩:=h;refine⟨_,(ag (az (aB (ym rfl) (by rfl) T.all MO (a5 (bY rfl (av ["signs"] [1]) (wJ (pv 0)) (λ_ _ _ _ _ _=>b5) (λ_ _ _ _ _ _=>(ie pe (pv 0) (pv 1) rfl))) a9)))),?_⟩;refine⟨_,rfl,a,rfl,λl e=>comp_map (MN b) (nL a) e (by unfold dO;rw[Zf];exact ax (ZE (wdo (aV a)) (by omega))) (λ_ _=>trivial) (λx g p i _ q=>?_) (λj m d=>?_)⟩
 ·obtain⟨c,_,rfl⟩:=Zq.mp i;exact⟨_,rfl,_,rfl,_,_,rfl,rfl,q g (a8.refl _)⟩
 ·rw[CV]at d;refine⟨l,_,rfl,aI.of d,?_⟩;have:=k j m;rw[wek];exact this
theorem jZ(L:Lk K mg):aM P w K mg base cW 1 L.lj L.lu ["row","barred"] (HA K):=by
 have T:=L.T;refine L.f7.F.dD (N:=["row","barred"]) (λi A outer s H o Q E nd p h=>?_);obtain⟨r,a,j,rfl,f,hl,k⟩:=h;refine⟨_,(ag (az (aB (su rfl) (by rfl) T.any Ki (a5 (bY rfl (av ["row"] [0]) (aJ (pv 1)) (λ_ _ _ _ _ _=>b5) (λ_ _ _ _ _ _=>(ie pe (pv 0) (pv 1) rfl))) a9)))),?_⟩;refine⟨_,rfl,a,rfl,⟨_,f⟩,λl d=>comp_map (MN r) (aH K a (j.map V.str)) d (by rw[Zf];exact ax (by omega)) (λg e=>e.seq f) (λx m t n _ q=>?_) (λg e b=>?_)⟩
 ·obtain⟨c,_,rfl⟩:=Zq.mp n;exact⟨_,rfl,_,rfl,_,_,rfl,rfl,q m (a8.refl _)⟩
 ·rw[yt]at b;refine⟨l,_,rfl,aI.of b,?_⟩;have:=k g e;rw[wdw];exact this
theorem xt(L:Lk K mg):aM P w K mg base cW 2 L.qJ L.qK ["thing"] MP:=by
 have T:=L.T;refine L.kX.F.dD (N:=["thing"]) (λd A outer s H l Q E nd m h=>?_);obtain⟨x,rfl,S,k⟩:=h;have a:x.length<=sizeLine:=ax (by have:=S.hi;omega);obtain⟨f,b⟩:=L.known
 refine⟨_,(a7 (bP (PW.pt (gP (dN (cz (aB cL (by rfl) T.JA yv (a5 (pv 0) (a5 (ic (v:=.ty "str") (by rfl) T.str EJ rfl) a9))))) (gP (aG md (aB bX (by rfl) T.len wa1 (a5 (pv 0) a9)) ak (aU _)) (j5 (aG me (aB bX (by rfl) T.len wa1 (a5 (pv 0) a9)) ak (aU _)))))) (ag (az gO)) aR)
  (ag (az (zN (ie vg (aB yr (by rfl) T.len wa1 (a5 (bT (yq rfl) (by rfl) T.set Qf (a5 (pv 0) a9)) a9)) (aB bX (by rfl) T.len wa1 (a5 (pv 0) a9)) (aU _)) (zM (ao (oW L) L.ir (a5 (pv 0) (a5 (rF (v:=.str dJ) (by rfl) b ⟨f,rfl⟩) a9)))))))),?_⟩
 refine⟨_,rfl,_,_,_,true,rfl,gQ.str x,rfl,true,rfl,?_⟩;refine cg ?_;refine⟨_,rfl,x,rfl,a,_,_,rfl,rfl,_,rfl,?_⟩;refine EH (by have:=S.lo;simp;omega) ?_;refine⟨_,rfl,x,rfl,a,_,_,rfl,rfl,_,rfl,?_⟩;refine EH (by have:=S.hi;simp;omega) ?_;refine⟨_,rfl,x,rfl,?_,λp g=>?_⟩
 ·have:=S.hi;show x.length + 1 < wcL;unfold wcL;omega
 refine⟨p,_,rfl,a6,_,rfl,x,rfl,a,rfl,?_⟩;refine⟨_,rfl,?_⟩;refine Qe (by rw[yu S.nd];simp) ?_;refine⟨_,rfl,x,dJ,rfl,by have:=S.hi;omega,λi j=>?_⟩;have e:((ch x).all λc=>decide (c∈ch dJ))=true:=wa4.mpr λc hc=>decide_eq_true (S.sub c hc);rw[e];exact k i ((a8.upd g).trans j)
theorem Bg(L:Lk K mg):aM P w K mg base cW 2 L.wm L.wo ["thing","signs"] MQ:=by
 have T:=L.T;refine L.pQ.F.dD (N:=["thing","signs"]) (λb A outer s H i Q E nd j h=>?_);obtain⟨x,g,rfl,S,k⟩:=h;have a:x.length<=sizeLine:=ax (by have:=S.hi;omega)
 refine⟨_,(a7 (bP (PW.pt (gP (dN (cz (aB cL (by rfl) T.JA yv (a5 (pv 0) (a5 (ic (v:=.ty "str") (by rfl) T.str EJ rfl) a9))))) (gP (aG md (aB bX (by rfl) T.len wa1 (a5 (pv 0) a9)) ak (aU _)) (j5 (aG me (aB bX (by rfl) T.len wa1 (a5 (pv 0) a9)) ak (aU _)))))) (ag (az gO)) aR)
  (ag (az (ao (oW L) L.ir (a5 (pv 0) (a5 (pv 1) a9)))))),?_⟩
 refine⟨_,rfl,_,_,_,true,rfl,gQ.str x,rfl,true,rfl,?_⟩;refine cg ?_;refine⟨_,rfl,x,rfl,a,_,_,rfl,rfl,_,rfl,?_⟩;refine EH (by have:=S.lo;simp;omega) ?_;refine⟨_,rfl,x,rfl,a,_,_,rfl,rfl,_,rfl,?_⟩;refine EH (by have:=S.hi;simp;omega) ?_;refine⟨_,rfl,_,rfl,x,g,rfl,by have:=S.hi;omega,λd f=>?_⟩;have e:((ch x).all λc=>decide (c∈ch g))=true:=wa4.mpr λc hc=>decide_eq_true (S.sub c hc);rw[e];exact k d f
theorem rq(L:Lk K mg):aM P w K mg base cW 3 L.kY L.kZ ["barred","signs"] (HB K):=by
 have T:=L.T;refine L.hZ.F.dD (N:=["barred","signs","number","thing"]) (λj A outer s H q Q E nd r h=>?_);obtain⟨a,g,d,rfl,c,hl,hw,k⟩:=h
 refine⟨_,(a7 (bP (aG me (aB b7 (by rfl) T.len wa1 (a5 (pv 0) a9)) ak (aU _)) eu aR)
  (ag (bf ZM rfl (lP (by rfl) T.enum (a5 (pv 0) a9)) (eL rfl (aS (aA (i:=2)) (aS (aA (i:=3)) d5))) (ag (bP (dN (cz (ao (Bg L) L.pQ (a5 (pv 3) (a5 (pv 1) a9))))) eu aR))))),?_⟩
 refine⟨_,rfl,a,_,rfl,.inl c,_,_,rfl,rfl,_,rfl,?_⟩;refine EH (by grind) ?_;refine⟨_,rfl,a,_,rfl,c,nM (K:=K) (a:=a) (xs:=d.map V.str) (λi σ b=>a8 H b/\∃e f,σ=[some (.ref a),some (.str g),e,f]) ⟨a8.refl _,none,none,rfl⟩ (λi σ b _ p=>p.1.seq c) ?_ (λσ b p=>k b p.1)⟩;rintro i x σ b T u ⟨l,e,f,rfl⟩ m
 obtain⟨t,rfl,n⟩:∃t,x=.str t/\t∈d:=by
  grind
 refine⟨T,_,rfl,ia.of a6,rfl,_,_,rfl,_,_,rfl,rfl,?_⟩;refine⟨_,rfl,_,rfl,t,g,rfl,hw t n,λv o=>⟨true,rfl,?_⟩⟩;refine cg ?_;exact⟨(l.trans (a8.upd m)).trans o,_,_,rfl⟩
theorem pV(L:Lk K mg):aM P w K mg base cW 2 L.jT L.jU ["barred"] (EL K):=by
 have T:=L.T;refine L.gk.F.dD (N:=["barred","found","word","length","beginning"]) (λM A outer s H vs Q E nd O h=>?_);obtain⟨a,ws,rfl,y,hl,hw,k⟩:=h;have R:=fo O
 refine⟨_,(a7 (ai (i:=1) (BH (yh dZ gO BG) rfl rfl (by simp) (by decide)))
  (a7 (bf ZM rfl (aJ (pv 0)) (aA (i:=2)) (ag (bf ZM rfl (p9 rfl T.range (a5 ak (a5 (aB bX (by rfl) T.len wa1 (a5 (pv 2) a9)) a9))) (aA (i:=3)) (a7 (ai (i:=4) (cu A4 (pv 2) fN (cn (pv 3))))
  (ag (bP (dN (cz (ao (jZ L) L.f7 (a5 (pv 4) (a5 (pv 0) a9))))) (ag (dW R (pv 1) (pv 4) gO rfl)) aR))))))
  (ag (az (aB (wL rfl) (by rfl) T.sorted Hx (a5 (pv 1) a9)))))),?_⟩
 intro d hd;refine⟨a6,[((ZQ "":Key),V.bl true)],rfl,by decide,?_⟩
 have G:a8 H (upd (upd H d (.dK [])) d (.dK (je [] [((ZQ "":Key),V.bl true)]))):=by
  rw[Bx];exact a8.upd hd
 refine⟨_,rfl,a,rfl,⟨_,G.seq y⟩,dh (K:=K) (a:=a) (xs:=ws.map V.str) (λi σ m=>∃B c v4,σ=[some (.ref a),some (.ref d),B,c,v4]/\a8 H m/\m d=some (.dK (jJ (bU ws "" (ws.take i)))))
  ⟨none,none,none,rfl,G,a6⟩ (λi σ m _ ⟨_,_,_,_,f,_⟩=>f.seq y) ?_ ?_⟩
 ·rintro i x σ m g ⟨B,c,v4,rfl,f,t⟩;have hi:i < ws.length:=by have:=(Zn.mp g).1;rwa[Zf]at this
  obtain⟨wd,p,rfl⟩:∃wd,ws[i]?=some wd/\x=.str wd:=by
   rw[Zi]at g
   cases e:ws[i]? with
   |none=>rw[e]at g;cases g
   |some z=>rw[e]at g;exact⟨z,rfl,(Zx g).symm⟩
  have S:wd∈ws:=ZA p;have U:=hw wd S;have W:ws.take (i + 1)=ws.take i++[wd]:=by rw[wa7,p];rfl
  have X:(bU ws "" (ws.take i)).length<=30:=by
   have:=lQ (ws:=ws) (e:="") (us:=ws.take i) λv Y=>hw v (wfn Y);rw[ZG]at this;omega
  refine⟨_,rfl,wd,rfl,ax (by omega),1,_,rfl,⟨by decide,by decide,by omega,by omega⟩,?_⟩;have Z:((wd.length:Int) - 1).toNat=wd.length - 1:=by omega
  refine dA (lo:=1) (n:=((wd.length:Int) - 1).toNat) (λj σ u=>∃c v4,σ=[some (.ref a),some (.ref d),some (.str wd),c,v4]/\a8 H u/\u d=some (.dK (jJ (upTo ws wd (bU ws "" (ws.take i)) j))))
   ⟨c,v4,rfl,f,t⟩ ?_ ?_
  ·rintro j σ u hj ⟨c,v4,rfl,q,C⟩;have ec:(1 + (j:Int))=((1 + j:Nat):Int):=by omega
   refine⟨_,rfl,_,rfl,_,rfl,wd,rfl,ax (by omega),?_⟩;rw[ec];have LV:=sA ws wd (bU ws "" (ws.take i)) j;refine⟨_,rfl,_,rfl,cC wd (1 + j),a,ws,rfl,q.seq y,by omega,λH4 D=>⟨_,rfl,?_⟩⟩;have I:=D _ _ C
   cases J:bears ws (cC wd (1 + j)) with
   |true=>
    refine cg ?_;refine⟨_,_,rfl,q.trans D,?_⟩;rw[I,fv];unfold pq;rw[if_pos J]
   |false=>
    refine fu ?_;refine⟨_,rfl,_,rfl,d,_,rfl,jd.k (k:=ZQ (cC wd (1 + j))) I (by rw[CY];exact bB (by omega)),?_⟩;refine⟨_,_,rfl,λb o e=>?_,?_⟩
    ·rw[ae (af e hd)];exact D _ _ (q _ _ e)
    ·rw[a6,CW,fv];unfold pq;rw[if_neg (by rw[J];exact ZF)]
  ·rintro σ u ⟨c,v4,rfl,q,C⟩;refine⟨_,c,v4,rfl,q,?_⟩;rw[C,W,A6,Z];rfl
 ·rintro σ m ⟨B,c,v4,rfl,f,t⟩;rw[Zf,ZU]at t;have Ts:=lQ (ws:=ws) (e:="") (us:=ws) hw;refine⟨_,rfl,d,_,_,rfl,t,Ab _,by omega,λl ss r hp hs=>?_⟩;exact k l ss _ (f.trans (a8.upd r)) (f.free r) a6 hp hs
theorem tZ(L:Lk K mg):aM P w K mg base cW 1 L.mE L.mF ["row","places"] (Kj K):=by
 refine L.iF.F.dD (N:=["row","places","cut"]) (λq A outer s H x Q E nd y h=>?_);obtain⟨r,a,ps,rfl,t,u,hl,k⟩:=h
 refine⟨_,(a7 (ai (i:=2) ak)
  (a7 (iJ ZM (aG jc (cu A4 (pv 0) (cn (pv 2)) fN) (pv 1) rfl) (ag (rW (i:=2) nd rfl (wcJ rfl) ak Ee)))
  (ag (az (cu A4 (pv 0) (cn (pv 2)) fN))))),?_⟩
 refine⟨λm σ c=>∃n:Nat,n<=r.length/\m=r.length - n/\σ=[some (.str r),some (.ref a),some (.int (n:Int))]/\a8 H c/\∀j,j < n->fZ r j∉ps,⟨r.length,0,wa0 _,rfl,rfl,a8.refl _,λj d=>absurd d (wcB j)⟩,?_⟩;rintro m σ c ⟨n,hn,rfl,rfl,f,o⟩;refine⟨_,rfl,_,rfl,_,rfl,r,rfl,ax (by omega),_,rfl,a,_,rfl,.inl (f.seq t),rfl,ez ps,_,rfl,?_⟩;rw[if_pos rfl,iN]
 by_cases h:fZ r n∈ps
 ·have e:decide (wb9 r (some (n:Int)) none∈ps)=true:=decide_eq_true h;rw[e];refine cg ?_;refine⟨_,rfl,_,rfl,_,rfl,r,rfl,ax (by omega),?_⟩;have:=k c f;unfold lend at this;rw[yw h o hn]at this;exact this
 ·have e:decide (wb9 r (some (n:Int)) none∈ps)=false:=decide_eq_false h;rw[e];refine fu ?_
  have g:n < r.length:=by
   rcases wdQ hn with z |z
   ·exact z
   ·subst z;rw[pw]at h;exact absurd u h
  refine⟨λb p=>∃l:Nat,l=n + 1/\b=[some (.str r),some (.ref a),some (.int (l:Int))]/\a8 H p,?_,?_⟩
  ·rintro b p ⟨l,rfl,rfl,v⟩;refine⟨r.length - (n + 1),by omega,n + 1,g,rfl,rfl,v,λj d=>?_⟩;rcases wdQ (Nat.le_of_lt_succ d) with z |z
   ·exact o j z
   ·rw[z];exact h
  ·exact⟨_,rfl,_,_,rfl,rfl,n + 1,rfl,rfl,f⟩
theorem uN(L:Lk K mg):aM P w K mg base cW 2 L.oM L.oN ["place","signs","barred","places"] (HC K):=by
 refine L.jA.F.dD (N:=["place","signs","barred","places","moves","sign","row"]) (λR A outer s H vs Q E nd S h=>?_);obtain⟨p,g,a,b,l,ps,rfl,T,U,V,W,X,B,C,k⟩:=h;have Y:=fo S
 refine⟨_,(a7 (ai (i:=4) dS)
  (a7 (bf ZM rfl (wJ (pv 1)) (aA (i:=5)) (a7 (ai (i:=6) (aL j9 (pv 0) (pv 5)))
  (ag (dW Y (pv 4) (pv 5) (y6 (cz (ao (jZ L) L.f7 (a5 (pv 6) (a5 (pv 2) a9)))) iA (ao (tZ L) L.iF (a5 (pv 6) (a5 (pv 3) a9)))) rfl))))
  (ag (az (pv 4))))),?_⟩
 intro d hd
 refine⟨_,rfl,g,rfl,mU (nL g) (λi σ f=>∃r v6,σ=[some (.str p),some (.str g),some (.ref a),some (.ref b),some (.ref d),r,v6]/\a8 H f/\f d=some (.dK (((ch g).take i).map λc=>((ZQ (⟨#[c]⟩:Str):Key),uv l ps p c))))
  ⟨none,none,rfl,a8.upd hd,a6⟩ (λ_ _ _ _ _=>trivial) ?_ ?_⟩
 ·rintro i x σ f m ⟨r,v6,rfl,t,y⟩
  obtain⟨c,hc,rfl⟩:∃c,(ch g)[i]?=some c/\x=.str ⟨#[c]⟩:=by
   unfold dO at m;rw[Zi]at m
   cases e:(ch g)[i]? with
   |none=>rw[show g.cps.toList[i]?=none from e]at m;cases m
   |some z=>rw[show g.cps.toList[i]?=some z from e]at m;exact⟨z,rfl,(Zx m).symm⟩
  have hi:i < (ch g).length:=(Zn.mp hc).1;have J:=aV g;have Z:(p++(⟨#[c]⟩:Str)).length=p.length + 1:=by rw[<-aV,aN,Zm,aV];rfl
  refine⟨_,rfl,_,rfl,p,⟨#[c]⟩,rfl,rfl,ax (by show p.length + 1<=_;omega),?_⟩
  have fin:∀u,a8 f u->Jj (GW 4) (GW 5) (λ_ D Q5=>Q5 (uv l ps p c) D) {nx:=λσ f=>∃r v6,σ=[some (.str p),some (.str g),some (.ref a),some (.ref b),some (.ref d),r,v6]/\a8 H f/\f d=some (.dK (((ch g).take (i + 1)).map λc=>((ZQ (⟨#[c]⟩:Str):Key),uv l ps p c))),rt:=Q}
   [some (.str p),some (.str g),some (.ref a),some (.ref b),some (.ref d),some (.str ⟨#[c]⟩),some (.str (p++⟨#[c]⟩))] u:=by
   intro u n;have h4:=n _ _ y;refine⟨_,rfl,_,rfl,d,_,rfl,jd.k (k:=ZQ (⟨#[c]⟩:Str)) h4 (by rw[Zf,ZG];exact bB (by omega)),?_⟩;refine⟨_,_,rfl,λb o e=>?_,?_⟩
   ·rw[ae (af e hd)];exact n _ _ (t _ _ e)
   ·rw[a6,cF]
    ·have:(ch g).take (i + 1)=(ch g).take i++[c]:=by rw[wa7,hc];rfl
     rw[this,ZB];rfl
    ·cases q:bu (((ch g).take i).map λc=>((ZQ (⟨#[c]⟩:Str):Key),uv l ps p c)) (ZQ (⟨#[c]⟩:Str):Key) with
     |none=>rfl
     |some v=>
      have:=rJ q;rw[Zw]at this;obtain⟨G,I,e⟩:=Zq.mp this;have e':(⟨#[G]⟩:Str)=⟨#[c]⟩:=wcb e
      have:G=c:=by
       have:=congrArg ch e';simpa [ch] using this
      subst this;obtain⟨j,hj,M⟩:=wcq.mp I;rw[we4]at M;rw[ZG]at hj;have e1:(ch g)[i]=G:=(Zn.mp hc).2;have:=(wcl B).mp (M.trans e1.symm);omega
  refine⟨_,rfl,_,rfl,_,a,l,rfl,t.seq T,C,λu n=>⟨_,rfl,?_⟩⟩
  cases O:bears l (p++⟨#[c]⟩) with
  |true=>
   refine fu ?_;have:=fin u n;unfold uv at this;rw[if_pos O]at this;unfold uv;exact this
  |false=>
   refine cg ?_;refine⟨_,rfl,_,rfl,_,b,ps,rfl,(t.trans n).seq U,V,by omega,λD s5=>?_⟩;have:=fin D (n.trans s5);unfold uv at this;rw[if_neg (by rw[O];exact ZF)]at this;unfold uv;exact this
 ·rintro σ f ⟨r,v6,rfl,t,y⟩;have e:(dO g).length=(ch g).length:=by unfold dO;rw[Zf]
  rw[e,ZU]at y;exact⟨_,rfl,k d f t hd y⟩
theorem uO(L:Lk K mg):aM P w K mg base cW 1 L.oO L.oP ["ends","lot"] (HD K):=by
 have T:=L.T;refine L.jB.F.dD (N:=["ends","lot"]) (λm A outer s H v Q E nd y h=>?_);obtain⟨a,b,d,ls,rfl,i,n,o,p,hl,k⟩:=h;refine⟨_,(ag (az (aB (su rfl) (by rfl) T.any Ki (a5 (bY rfl (av ["lot"] [1]) (aJ (pv 0)) (λ_ _ _ _ _ _=>b5) (λ_ _ _ _ _ _=>(ie (gT (K:=K) rfl) (pv 0) (pv 1) rfl))) a9)))),?_⟩;refine⟨_,rfl,a,rfl,⟨_,i⟩,λl f=>comp_map (MR ls) (aH K a d) f (ax (by omega)) (λj g=>g.seq i) (λx r z t u q=>?_) (λj g c=>?_)⟩
 ·exact⟨_,rfl,_,rfl,b,ls,rfl,.inl (u.seq n),wa4.mp o x t,p,q r (a8.refl _)⟩
 ·have e:d.map (MR ls)=(d.map λe=>nK e ls).map V.bl:=by rw[Zw];rfl
  rw[e]at c;refine⟨l,_,rfl,aI.of c,?_⟩;have:=k j g;rw[wdw];exact this
theorem uP(L:Lk K mg):aM P w K mg base cW 2 L.jC L.oQ ["moves"] (Kl K):=by
 have T:=L.T;refine L.jD.F.dD (N:=["moves","lot","left"]) (λY A outer s H vs Q E nd hr h=>?_);obtain⟨d,Z,o,rfl,hd,hl,hm,hf,VJ,k⟩:=h;have hu:=fo hr;have NQ:(A.deeper (wcx "live_among" (aD (top 73)) s.heap.objs.size L.jC Y)).units < wbT:=hr.wC
 refine⟨_,(a7 (ai (i:=1) (bT (mW rfl) (by rfl) T.list jK (a5 (pv 0) a9)))
  (ag (iJ ZM (cz gO) (a7 (eh (i:=2) rfl (av ["moves","lot"] [0,1]) nd rfl rfl (aJ (pv 1)) (λ_ _ _ _ _ _=>fO (cz (ao (uO L) L.jB (a5 (bT (A3 rfl) (by rfl) T.list jK (a5 (BP (K:=K) rfl wew wcK weq vA (d7 hu (pv 1) (pv 0) (λ_ _=>rfl))) a9)) (a5 (pv 2) a9))))) (λ_ _ _ _ _ _=>(pv 0)))
  (a7 (bP (aG (ED NQ) (pv 2) (pv 1) (aU _)) (ag (az (pv 1))) aR)
  (ag (ai (i:=1) (pv 2)))))))),?_⟩
 refine⟨_,rfl,d,_,rfl,hd,λl0 u=>?_⟩
 refine⟨λm σ H2=>∃(l:Addr) (ls:List Str) (v:Option V),m=ls.length/\σ=[some (.ref d),some (.ref l),v]/\a8 H H2/\H l=none/\H2 l=some (.lst (ls.map V.str))/\ls.Sublist (Z.map (·.1)) /\
  ∀b:List Str,(∀k∈b,k∈Z.map (·.1)/\kh (o k) b=true)->∀k∈b,k∈ls,
  ⟨_,l0,Z.map (·.1),none,rfl,rfl,a8.upd u,u,by rw[a6,gU],we5 _,λb h k r=>(h k r).1⟩,?_⟩
 rintro m σ H2 ⟨l,ls,v,rfl,rfl,U,IZ,W,f,c⟩;refine⟨true,rfl,fu ?_⟩;have AR:ls.length<=1000:=by have:=f.length_le;rw[Zf]at this;omega
 let p:V->Bool:=λx=>match x with
  |.str k=>kh (o k) ls
  |_=>false
 let g:List Str:=ls.filter λk=>kh (o k) ls
 have y:(ls.map V.str).filter p=g.map V.str:=by
  rw[wdy];rfl
 refine⟨λB t=>∃(C:Addr) (v:Option V),B=[some (.ref d),some (.ref C),v]/\a8 H t/\H C=none/\t C=some (.lst (g.map V.str))/\g.length < ls.length,?_,?_⟩
 ·rintro B t ⟨C,v,rfl,n,zI,D,KW⟩;refine⟨g.length,KW,C,g,v,rfl,rfl,n,zI,D,(wcw).trans f,λb h k r=>?_⟩;have VL:=c b h k r;exact ZO.mpr ⟨VL,Ad (c b h) (h k r).2⟩
 ·refine⟨_,rfl,l,rfl,⟨_,aI.of W⟩,λl2 G=>cY p (λx=>x) (aH K l (ls.map V.str)) G (by rw[Zf];exact ax (by omega)) (λt n=>n.seq (aI.of W)) (λx I Q' hx s3 q=>?_) (λx I Q' hx _ s3 q=>⟨_,rfl,q I (a8.refl _)⟩) (λt n D=>?_)⟩
  ·obtain⟨X,VM,rfl⟩:=Zq.mp hx;obtain⟨a,ha,J⟩:=iO (f.subset VM);have M:a8 H I:=U.trans s3;have OX:=M _ _ hd;have j:=M _ _ (hm _ ha);refine⟨_,rfl,_,rfl,d,.ref a,rfl,?_,?_⟩
   ·have:=dQ.k (k:=(ZQ X:Key)) OX;rw[J]at this;exact this
   refine⟨.inr (.inr (.inl ⟨rfl,.inl ⟨_,j⟩⟩)),a,_,rfl,rfl,j,λvw O=>?_⟩;refine⟨vw,a,_,rfl,a6,by rw[ae (af j O)];exact j,λl3 Ht=>?_⟩;have s4:a8 I (upd (upd I vw (kg vw a)) l3 (.lst ((o X).map (·.2)))):=(a8.upd O).trans (a8.upd Ht);refine⟨_,rfl,l3,l,_,_,rfl,aI.of a6,aI.of (s4 _ _ (s3 _ _ W)),hf X,ez ls,by rw[Zf];exact VJ X,λH5 s5=>⟨_,rfl,?_⟩⟩;exact q H5 (s4.trans s5)
  ·rw[wcQ,y]at D;have R:=n _ _ W;refine⟨_,rfl,_,rfl,l2,l,_,_,rfl,rfl,aI.of D,aI.of R,ez _,ez _,_,rfl,?_⟩;rw[vD];have S:H l2=none:=U.free G
   by_cases e:g=ls
   ·rw[decide_eq_true e];refine fu ?_;refine⟨_,rfl,k l ls t (U.trans n) IZ R ⟨f,λkk r=>?_,c⟩⟩;have:=e ▸ r;exact(ZO.mp this).2
   ·rw[decide_eq_false e];refine cg ?_;refine⟨_,rfl,l2,_,rfl,U.trans n,S,D,?_⟩;rcases wdQ (wat (λk=>kh (o k) ls) ls) with z |z
    ·exact z
    ·exact absurd ((wcw (p:=λk=>kh (o k) ls)).eq_of_length z) e
theorem j2(L:Lk K mg):aM P w K mg base cW 4 L.gm L.jV ["self","signs","barred"] (Ko K L.aE):=by
 have T:=L.T;refine L.dY.F.dD (N:=["self","signs","barred","places","place"]) (λgA A outer s H vs Q E nd hr h=>?_);obtain⟨x,u,g,a,ws,rfl,hx,hS,sg,hl,hw,k⟩:=h;have Z:∀w∈ws,w.length<=5:=λw h=>(hw w h).hi;have hu:=fo hr
 refine⟨_,(a7 (bP (dN (cz (ao (xt L) L.kX (a5 (pv 1) a9)))) eu aR)
  (a7 (bp (ao (rq L) L.hZ (a5 (pv 2) (a5 (pv 1) a9))))
  (a7 (cO (pv 0) (pv 1) rfl)
  (a7 (cO (pv 0) (bT dC (by rfl) T.list jK (a5 (pv 2) a9)) rfl)
  (a7 (cO (pv 0) dS rfl)
  (a7 (ai (i:=3) (ao (pV L) L.gk (a5 (pv 2) a9)))
  (a7 (bf ZM rfl (aJ (pv 3)) (aA (i:=4)) (ag (dW hu (aO (pv 0) rfl) (pv 4) (ao (uN L) L.jA (a5 (pv 4) (a5 (pv 1) (a5 (pv 2) (a5 (pv 3) a9))))) rfl)))
  (ag (cO (pv 0) (ao (uP L) L.jD (a5 (aO (pv 0) rfl) a9)) rfl))))))))),?_⟩
 refine⟨_,rfl,g,rfl,sg,λH1 s1=>⟨true,rfl,cg ?_⟩⟩;refine⟨_,rfl,_,rfl,a,g,ws,rfl,s1.seq hS,hl,hw,λH2 s2=>?_⟩;have G:a8 H H2:=s1.trans s2;have VN:=G _ _ hx;refine⟨_,rfl,_,rfl,x,L.aE,u,_,rfl,VN,L.aK.cl,L.aK.rQ,by decide,?_⟩;rw[Kn];have NR:∀(o:HO) b ob,H b=some ob->b≠x->(upd H2 x o) b=some ob:=λo b ob e hb=>by rw[ae hb];exact G _ _ e
 have I:∀{H':Hp} (h:∀b o,H b=some o->b≠x->H' b=some o),aI K H' a (ws.map V.str):=λ{H'} h=>by
  have TK:∀o,H a=some o->(∀fs,o≠.ins L.aE u fs)->a≠x:=λo e ne z=>by
   subst z;rw[hx]at e;exact ne [] (Zx e).symm
  rcases hS with(e |⟨o,e⟩) |e
  ·exact .inl (.inl (h _ _ e (TK _ e (λ_ z=>by cases z))))
  ·exact .inl (.inr ⟨o,h _ _ e (TK _ e (λ_ z=>by cases z))⟩)
  ·exact .inr e
 refine⟨_,rfl,a,_,rfl,.inl (I (NR _)),λb hb=>?_⟩;have B:x≠b:=af a6 hb;have Rg:H2 b=none:=by rw[ae B.symm]at hb;exact hb
 refine⟨_,rfl,x,L.aE,u,OB g,rfl,by rw[ae B,a6],L.aK.cl,L.aK.za,(show 1 < 1000 by decide),?_⟩;rw[put2];intro d hd;have t:x≠d:=af a6 hd
 have NS:b≠d:=by
  intro z;subst z;rw[ae B.symm,a6]at hd;cases hd
 have J:H2 d=none:=by rw[ae t.symm,ae NS.symm,ae t.symm]at hd;exact hd
 refine⟨_,rfl,x,L.aE,u,LJ g b,rfl,by rw[ae t,a6],L.aK.cl,L.aK.lZ,(show 2 < 1000 by decide),?_⟩;rw[put3];generalize M:upd (upd (upd (upd (upd H2 x (.ins L.aE u (OB g))) b (.lst (ws.map V.str))) x (.ins L.aE u (LJ g b))) d (.dK [])) x (.ins L.aE u (Km g b d))=H3;have x3:H3 x=some (.ins L.aE u (Km g b d)):=by rw[<-M,a6]
 have d3:H3 d=some (.dK []):=by rw[<-M,ae t.symm,a6]
 have b3:H3 b=some (.lst (ws.map V.str)):=by rw[<-M,ae B.symm,ae NS,ae B.symm,a6]
 have k3:∀c o,H c=some o->c≠x->H3 c=some o:=λc o e hc=>by
  have e2:=G _ _ e;rw[<-M,ae hc,ae (af e2 J),ae hc,ae (af e2 Rg),ae hc];exact e2
 clear M;refine⟨_,rfl,a,ws,rfl,I k3,hl,Z,λl n H4 s4 S h4 hp VO=>?_⟩;have Qk:n.Nodup:=hp.nodup_iff.mpr (qe ws);have zJ:n.length<=25:=by have:=lQ (ws:=ws) (e:="") (us:=ws) Z;rw[hp.length_eq];omega
 have NT:∀p∈n,p.length<=5:=λp Bh=>D3 Z p (hp.mem_iff.mp Bh);have Rh:("":Str)∈n:=hp.mem_iff.mpr (cw ws);have OY:l≠d:=λz=>by rw[z,d3]at S;cases S
 have Ye:l≠x:=λz=>by rw[z,x3]at S;cases S
 refine⟨_,rfl,l,rfl,⟨_,aI.of h4⟩,dh (K:=K) (a:=l) (xs:=n.map V.str) (λi σ U=>∃v4 C,σ=[some (.ref x),some (.str g),some (.ref a),some (.ref l),v4]/\U d=some (.dK (bC C))/\C.map (·.1)=n.take i/\(∀m∈C,U m.2=some (.dK (rowOf g ws n m.1)))/\(∀m∈C,H4 m.2=none)/\(∀c o,H4 c=some o->c≠d->U c=some o))
  ⟨none,[],rfl,s4 _ _ d3,rfl,λm v=>(nomatch v),λm v=>(nomatch v),λc o e _=>e⟩ (λi σ U _ ⟨_,_,_,_,_,_,_,O⟩=>aI.of (O _ _ h4 OY)) ?_ ?_⟩
 ·rintro i y σ U hy ⟨v4,C,rfl,D,r,f,MT,O⟩
  obtain⟨p,W,rfl⟩:∃p,n[i]?=some p/\y=.str p:=by
   rw[Zi]at hy
   cases e:n[i]? with
   |none=>rw[e]at hy;cases hy
   |some z=>rw[e]at hy;exact⟨z,rfl,(Zx hy).symm⟩
  have hi:i < n.length:=(Zn.mp W).1;have Bh:p∈n:=ZA W
  have k5:∀c o,H c=some o->c≠x->U c=some o:=λc o e hc=>O _ _ (s4 _ _ (k3 c o e hc)) (λz=>by
   subst z;have:=G _ _ e
   rw[J]at this;cases this)
  have x5:U x=some (.ins L.aE u (Km g b d)):=O _ _ (s4 _ _ x3) t;refine⟨_,rfl,_,rfl,_,rfl,_,rfl,p,g,a,l,ws,n,rfl,I k5,aI.of (O _ _ h4 OY),Rh,by have:=NT p Bh;omega,by have:=sg.hi;omega,sg.nd,by omega,λe H6 R X h6=>?_⟩;have d6:=R _ _ D
  have Gm:p∉C.map (·.1):=by
   rw[r];intro v;obtain⟨j,hj,ej⟩:=wcq.mp v;rw[we4]at ej;rw[ZG]at hj;have e1:n[i]=p:=(Zn.mp W).2;have:=(wcl Qk).mp (ej.trans e1.symm);omega
  have Y:C.length<=25:=by have:=congrArg wcu r;rw[Zf,ZG]at this;omega
  refine⟨_,rfl,x,L.aE,u,_,_,rfl,R _ _ x5,L.aK.cl,L.aK.lZ,ki g b d,_,rfl,d,_,rfl,jd.k (k:=ZQ p) d6 (by unfold bC;rw[Zf];exact bB (by omega)),?_⟩;have LW:e≠d:=λz=>by rw[z,D]at X;cases X
  have e4:H4 e=none:=by
   cases q:H4 e with
   |none=>rfl
   |some o=>
    have:=O _ _ q LW;rw[this]at X;cases X
  refine⟨_,C++[(p,e)],rfl,?_,?_,?_,?_,?_⟩
  ·rw[a6,cF _ (jg Gm)];unfold bC;rw[ZB];rfl
  ·rw[ZB,r];have:n.take (i + 1)=n.take i++[p]:=by rw[wa7,W];rfl
   rw[this];rfl
  ·intro m v;rcases ZL.mp v with z |z
   ·have nm:m.2≠d:=λq=>by
     have:=f m z;rw[q,D]at this;have:=MT m z;rw[q]at this;rw[s4 _ _ d3]at this;cases this
    rw[ae nm];exact R _ _ (f m z)
   ·have:m=(p,e):=by simpa using z
    subst this;rw[ae LW];exact h6
  ·intro m v;rcases ZL.mp v with z |z
   ·exact MT m z
   ·have:m=(p,e):=by simpa using z
    subst this;exact e4
  ·intro c o hc TL;rw[ae TL];exact R _ _ (O c o hc TL)
 ·rintro σ U ⟨v4,C,rfl,D,r,f,MT,O⟩;rw[Zf,ZU]at r;have x5:U x=some (.ins L.aE u (Km g b d)):=O _ _ (s4 _ _ x3) t;have Y:C.length<=1000:=by have:=congrArg wcu r;rw[Zf]at this;omega
  refine⟨_,rfl,x,L.aE,u,_,_,rfl,x5,L.aK.cl,L.aK.lZ,ki g b d,d,C,rowOf g ws n,rfl,D,Y,f,λkx=>Ac g ws n kx,λkx=>by rw[CZ];have:=sg.hi;omega,λq ls H6 R hq h6 lv=>?_⟩;refine⟨_,rfl,x,L.aE,u,_,rfl,R _ _ x5,L.aK.cl,L.aK.pN,(show 3 < 1000 by decide),?_⟩;rw[D2];have Ri:q≠x:=λz=>by rw[z,x5]at hq;cases hq
  have VP:∀m∈C,m.2≠x:=λm v z=>by
   have:=f m v;rw[z,x5]at this;cases this
  refine k n ls _ ⟨⟨u,b,d,q,C,a6,?_,?_,r,λm v=>?_,?_⟩,hp,VO,r ▸ lv⟩ λc o e hc=>?_
  ·rw[ae B.symm];exact R _ _ (O _ _ (s4 _ _ b3) NS)
  ·rw[ae t.symm];exact R _ _ D
  ·rw[ae (VP m v)];exact R _ _ (f m v)
  ·rw[ae Ri];exact h6
  ·rw[ae hc]
   exact R _ _ (O _ _ (s4 _ _ (k3 c o e hc)) (λz=>by
    subst z;have:=G _ _ e
    rw[J]at this;cases this))
theorem u0(L:Lk K mg):aM P w K mg base cW 1 L.mG L.mH ["self"] (EV L.aE):=by
 have T:=L.T;refine L.fU.F.dD (N:=["self"]) (λa A outer s H j Q E nd m h=>?_);obtain⟨x,g,n,o,ls,rfl,B,k⟩:=h;obtain⟨⟨c,b,d,q,p,e,r,f,i,t,u⟩,_,_,_⟩:=B;refine⟨_,(ag (az (bT (mW rfl) (by rfl) T.list jK (a5 (aO (pv 0) rfl) a9)))),?_⟩;refine⟨_,rfl,x,L.aE,c,_,_,rfl,e,L.aK.cl,L.aK.lZ,n0 g b d q,d,_,rfl,f,λl hl=>?_⟩;rw[gU,i];exact k l _ (a8.upd hl) hl a6
theorem jE(L:Lk K mg):aM P w K mg base cW 1 L.qL L.qM ["self"] (HF L.aE):=by
 have T:=L.T;refine L.cM.F.dD (N:=["self"]) (λa A outer s H i Q E nd j h=>?_);obtain⟨x,g,m,n,ls,rfl,B,k⟩:=h;obtain⟨⟨c,b,d,q,o,e,p,r,t,u,f⟩,_,_,_⟩:=B;refine⟨_,(ag (az (bT dC (by rfl) T.list jK (a5 (aO (pv 0) rfl) a9)))),?_⟩;refine⟨_,rfl,x,L.aE,c,_,_,rfl,e,L.aK.cl,L.aK.pN,vE g b d q,q,_,rfl,.inl (aI.of f),λl hl=>?_⟩;exact k l _ (a8.upd hl) hl a6
theorem gx(L:Lk K mg):aM P w K mg base cW 1 L.i3 L.i5 ["self","place"] (Qg L.aE):=by
 have T:=L.T;refine L.bK.F.dD (N:=["self","place"]) (λc A outer s H r Q E nd e h=>?_);obtain⟨x,p,g,t,u,ls,rfl,B,f,k⟩:=h;obtain⟨⟨i,b,d,q,mv,j,y,l,m,z,C⟩,_,_,_⟩:=B;obtain⟨a,ha,n⟩:=iO (mv:=mv) (k:=p) (by rw[m];exact f);have o:=fo e;refine⟨_,(ag (bP (PW.pt (gP (dN (cz (aB cL (by rfl) T.JA yv (a5 (pv 1) (a5 (ic (v:=.ty "str") (by rfl) T.str EJ rfl) a9))))) (j5 (zL (vr o (pv 1) (aO (pv 0) rfl)))))) eu aR)),?_⟩;refine⟨_,rfl,_,_,_,true,rfl,gQ.str p,rfl,true,rfl,cg ?_⟩;refine⟨_,rfl,_,rfl,x,L.aE,i,_,_,rfl,j,L.aK.cl,L.aK.lZ,n0 g b d q,d,_,rfl,dQ.k (k:=(ZQ p:Key)) l,_,rfl,?_⟩;rw[n];exact cg k
theorem qY(L:Lk K mg):aM P w K mg base cW 2 L.tS L.tT ["self","place","sign"] (MS L.aE):=by
 refine L.fI.F.dD (N:=["self","place","sign"]) (λr A outer s H D Q E nd e h=>?_);obtain⟨x,p,c,g,t,u,ls,rfl,B,f,hc,k⟩:=h;obtain⟨⟨i,b,d,q,mv,j,G,v,y,z,I⟩,_,_,_⟩:=id B;obtain⟨a,ha,C⟩:=iO (mv:=mv) (k:=p) (by rw[y];exact f);have l:=fo e
 refine⟨_,(a7 (bp (gz (pv 0) L.aK.cl L.bK.m (gx L) (e.mono (by decide)) L.bK.b .nil cG (a5 (pv 1) a9)))
  (ag (az (d7 l (d7 l (aO (pv 0) rfl) (pv 1) (λ_ _=>rfl)) (pv 2) (λ_ _=>rfl))))),?_⟩
 refine⟨_,rfl,x,i,_,rfl,j,GL _ _ _ _ (by decide+kernel) (by decide+kernel) (by decide+kernel) (by decide+kernel),_,rfl,x,p,g,t,u,ls,rfl,B,f,?_⟩;have n:=dQ.k (k:=(ZQ p:Key)) v;rw[C]at n;have o:=dQ.k (k:=(ZQ (⟨#[c]⟩:Str):Key)) (z _ ha);rw[HE hc]at o;exact⟨_,rfl,x,L.aE,i,_,_,rfl,j,L.aK.cl,L.aK.lZ,n0 g b d q,_,rfl,d,_,rfl,n,_,rfl,a,_,rfl,o,k⟩
theorem xu(L:Lk K mg):aM P w K mg base cW 3 L.qy L.qz ["band","place"] (Av L.aE):=by
 refine L.kz.F.dD (N:=["band","place","ends"]) (λM A outer s H Z Q E nd O h=>?_);obtain⟨x,p,g,C,D,ls,rfl,B,R,S,k⟩:=h
 refine⟨_,(a7 (eh (i:=2) rfl (av ["band","place"] [0,1]) nd rfl rfl (wJ (aO (pv 0) rfl)) (λ_ _ _ _ _ _=>b5) (λ_ _ _ _ _ _=>(gz (pv 1) L.aK.cl L.fI.m (qY L) (O.mono (by decide)) L.fI.b .nil cG (a5 (pv 2) (a5 (pv 0) a9)))))
  (ag (az (bY rfl (av [] []) (aJ (pv 2)) (λ_ _ _ _ _ _=>fO (aG wA (pv 0) iA (aU _))) (λ_ _ _ _ _ _=>(pv 0)))))),?_⟩
 obtain⟨⟨T,b,d,q,mv,U,h2,h3,h4,h5,h6⟩,pm,_,_⟩:=id B;refine⟨_,rfl,x,L.aE,T,_,_,rfl,U,L.aK.cl,L.aK.rQ,n8 g b d q,g,rfl,λl hl=>?_⟩;refine comp_map (T5 C D p) (nL g) hl (by rw[Ah];exact ax (by omega)) (λ_ _=>trivial) (λz G I V o e=>?_) (λG o a=>?_)
 ·obtain⟨c,hc,rfl⟩:=Zq.mp V;have J:=B.same o;obtain⟨⟨r,_,_,_,_,t,_⟩,_⟩:=id J;exact⟨_,rfl,x,r,_,rfl,t,GL _ _ _ _ (by decide+kernel) (by decide+kernel) (by decide+kernel) (by decide+kernel),_,rfl,_,rfl,x,p,c,g,C,D,ls,rfl,J,R,hc,e G (a8.refl _)⟩
 ·rw[Dd]at a;refine⟨_,rfl,l,rfl,⟨_,aI.of a⟩,λW f=>?_⟩;refine cY Ar (λv=>v) (aH K l _) f (by rw[Zf,aV];exact ax (by omega)) (λH' X=>aI.of (X _ _ a)) (λy j I Y u e=>⟨_,rfl,rfl,_,rfl,e j (a8.refl _)⟩) (λy j I Y _ u e=>⟨_,rfl,e j (a8.refl _)⟩) (λj u n=>?_);rw[wcQ,yE]at n;exact k W j (o.trans u) (none_of o f) n
theorem zk(L:Lk K mg):aM P w K mg base cW 4 L.tL L.tM ["band"] (De L.aE):=by
 refine L.nr.F.dD (N:=["band","ends","place"]) (λgA A outer s H vs Q E nd hr h=>?_);obtain⟨x,g,W,G,ls,rfl,B,X,zJ,k⟩:=h;have hu:=fo hr
 refine⟨_,(a7 (ai (i:=1) dS)
  (a7 (bf ZM rfl (aJ (dk (pv 0) L.aK.cl L.fU.m (u0 L) (hr.mono (by decide)) L.fU.b .nil cG)) (aA (i:=2)) (ag (dW hu (pv 1) (pv 2) (ao (xu L) L.kz (a5 (pv 0) (a5 (pv 2) a9))) rfl)))
  (ag (az (pv 1))))),?_⟩
 refine λn r=>?_;have S:a8 H (upd H n (.dK [])):=a8.upd r;have B0:=B.same S;obtain⟨⟨dx,b,d,q,mv,h1,h2,h3,h4,h5,h6⟩,pm,_,_⟩:=id B0;refine⟨_,rfl,x,dx,_,rfl,h1,GL _ _ _ _ (by decide+kernel) (by decide+kernel) (by decide+kernel) (by decide+kernel),x,g,W,G,ls,rfl,B0,λY T I f1 J=>?_⟩;have Z:Y≠n:=λz=>by rw[z,a6]at f1;cases f1
 have nd:=B.nd
 refine⟨Y,rfl,⟨_,aI.of J⟩,dh (K:=K) (a:=Y) (xs:=G.map V.str) (λi σ U=>∃v2 l,σ=[some (.ref x),some (.ref n),v2]/\U n=some (.dK (bC l))/\l.map (·.1)=G.take i/\(∀m∈l,U m.2=some (.lst ((eO g W G m.1).map V.str)))/\(∀m∈l,T m.2=none)/\(∀c o,T c=some o->c≠n->U c=some o))
  ⟨none,[],rfl,I _ _ a6,rfl,λm t=>(nomatch t),λm t=>(nomatch t),λc o e _=>e⟩ (λi σ U _ ⟨_,_,_,_,_,_,_,D⟩=>aI.of (D _ _ J Z)) ?_ ?_⟩
 ·rintro i y σ H5 hy ⟨v2,l,rfl,u,f,j,v,D⟩;obtain⟨p,NU,rfl,hi,Bh,mR⟩:=g7 hy;have Rj:a8 H H5:=λc o e=>D _ _ (I _ _ (S _ _ e)) (af e r);refine⟨_,rfl,_,rfl,x,p,g,W,G,ls,rfl,B.same Rj,Bh,X,λe H6 s6 C VQ=>?_⟩;have d6:=s6 _ _ u;have M:p∉l.map (·.1):=by rw[f];exact gX nd NU
  have Rk:l.length<=900:=by have:=congrArg wcu f;rw[Zf,ZG]at this;omega
  refine⟨_,rfl,_,rfl,n,_,rfl,jd.k (k:=ZQ p) d6 (by unfold bC;rw[Zf];exact bB (by omega)),?_⟩;have O:e≠n:=λz=>by rw[z,u]at C;cases C
  have e1:T e=none:=by
   cases q:T e with
   |none=>rfl
   |some o=>
    have:=D _ _ q O;rw[this]at C;cases C
  refine⟨_,l++[(p,e)],rfl,?_,?_,?_,?_,?_⟩
  ·rw[a6,cF _ (jg M)];unfold bC;rw[ZB];rfl
  ·rw[ZB,f,mR];rfl
  ·intro m t;rcases ZL.mp t with z |z
   ·have nm:m.2≠n:=λq=>by
     have:=v m z;rw[q,I _ _ a6]at this;cases this
    rw[ae nm];exact s6 _ _ (j m z)
   ·have:m=(p,e):=by simpa using z
    subst this;rw[ae O];exact VQ
  ·intro m t;rcases ZL.mp t with z |z
   ·exact v m z
   ·have:m=(p,e):=by simpa using z
    subst this;exact e1
  ·intro c o hc R;rw[ae R];exact s6 _ _ (D c o hc R)
 ·rintro σ H5 ⟨v2,l,rfl,u,f,j,v,D⟩;rw[Zf,ZU]at f;exact⟨_,rfl,k n l H5 (λc o e=>D _ _ (I _ _ (S _ _ e)) (af e r)) r u f j λm t=>none_of S (none_of I (v m t))⟩
theorem k4(L:Lk K mg):aM P w K mg base cW 5 L.kA L.kB ["band","length"] (HV L.aE):=by
 have T:=L.T;refine L.eU.F.dD (N:=["band","length","ends","counts","place","table","step","longer"]) (λgA A outer s H vs Q E nd hr h=>?_);obtain⟨x,n,g,I,r,ls,rfl,B,Ck,zJ,Yg,Yh,k⟩:=h;have hu:=fo hr
 refine⟨_,(a7 (ai (i:=2) (ao (zk L) L.nr (a5 (pv 0) a9)))
  (a7 (ai (i:=3) dS)
  (a7 (bf ZM rfl (rM (pv 2)) (aA (i:=4)) (ag (dW hu (pv 3) (pv 4) ak rfl)))
  (a7 (ai (i:=5) (cj (a5 (pv 3) a9)))
  (a7 (bf ZM rfl (du rfl T.range (a5 (pv 1) a9)) (aA (i:=6)) (a7 (ai (i:=7) dS)
  (a7 (bf ZM rfl (rM (pv 2)) (aA (i:=4)) (ag (dW hu (pv 7) (pv 4) (aB (kj rfl) (by rfl) T.sum D7 (a5 (bY rfl (av ["counts"] [3]) (aJ (d7 hu (pv 2) (pv 4) (λ_ _=>rfl))) (λ_ _ _ _ _ _=>b5) (λ_ _ _ _ _ _=>(d7 hu (pv 1) (pv 0) (λ_ _=>rfl)))) a9)) rfl)))
  (a7 (bp (iL wa6 wae wai cE (pv 5) (a5 (pv 7) a9)))
  (ag (ai (i:=3) (pv 7)))))))
  (ag (az (pv 5)))))))),?_⟩
 have nd:=B.nd;have he:("":Str)∈r:=B.pm.mem_iff.mpr (cw I);refine⟨_,rfl,x,g,I,r,ls,rfl,B,Ck,zJ,λd l H1 s1 Rl h1 ek er ef=>?_⟩;refine λq C=>?_;have Rm:d≠q:=af h1 C;have M:((bC l).map λkv=>kV kv.1)=r.map V.str:=by rw[gU,ek]
 have VR:∀m∈l,m.2≠d:=λm u z=>by have:=er m u;rw[z,h1]at this;cases this
 refine⟨_,rfl,d,_,rfl,.inl ⟨(a8.upd C) _ _ h1,λo=>?_⟩⟩;have J:=iR d o (bC l);rw[M]at J;have W:(upd (upd H1 q (.dK [])) d (.frz o (.dK (bC l)))) q=some (.dK []):=by rw[ae (waB Rm),a6]
 have X:(upd (upd H1 q (.dK [])) d (.frz o (.dK (bC l)))) d=some (.frz o (.dK (bC l))):=a6
 have sz:a8 H (upd (upd H1 q (.dK [])) d (.frz o (.dK (bC l)))):=λc v e=>by
  rw[ae (af e Rl)];exact a8.upd C _ _ (s1 _ _ e)
 have Y:∀m∈l,(upd (upd H1 q (.dK [])) d (.frz o (.dK (bC l)))) m.2=some (.lst ((eO g I r m.1).map V.str)):=λm u=>by
  rw[ae (VR m u)];exact a8.upd C _ _ (er m u)
 have f0:H q=none:=none_of s1 C;generalize upd (upd H1 q (.dK [])) d (.frz o (.dK (bC l)))=Hz at W X sz Y;have Rn:∀m∈l,m.2≠q:=λm u z=>by have:=Y m u;rw[z,W]at this;cases this
 refine mU J (λi σ H3=>∃v4,σ=[some (.ref x),some (.int n),some (.ref d),some (.ref q),v4,none,none,none]/\H3 q=some (.dK (pB (λp=>.int (gB g I r 0 p)) (r.take i)))/\∀c v,Hz c=some v->c≠q->H3 c=some v) ⟨none,rfl,W,λc v e _=>e⟩ (λi σ H3 _ ⟨_,_,_,b⟩=>b _ _ X Rm) ?_ ?_
 ·rintro i y σ H3 hy ⟨v4,rfl,h3,b⟩;obtain⟨p,NU,rfl,hi,Bh,mR⟩:=g7 hy;refine⟨_,rfl,_,rfl,q,_,rfl,jd.k (k:=ZQ p) h3 (by rw[yF,ZG];exact bB (by omega)),?_⟩;refine⟨_,rfl,?_,λc v e hc=>by rw[ae hc];exact b c v e hc⟩;rw[a6,cF _ (vM _ (gX nd NU)),mR,vN];rfl
 rintro σ H3 ⟨v4,rfl,h3,b⟩;rw[Zf,ZU]at h3;have s3:a8 H H3:=λc v e=>b _ _ (sz _ _ e) (af e f0);have Ro:=b _ _ X Rm;have OZ:∀m∈l,H3 m.2=some (.lst ((eO g I r m.1).map V.str)):=λm u=>b _ _ (Y m u) (Rn m u);clear b W X sz Y J C h1 er;refine⟨_,rfl,by show 1<=sizeLine;decide,λlt D=>?_⟩;have flt:H lt=none:=none_of s3 D
 refine⟨_,rfl,n,rfl,by omega,by omega,dA (lo:=0) (n:=n.toNat) (λi σ O=>∃(Z:List Addr) (dc:Addr) (v4 v6 v7:Option V),σ=[some (.ref x),some (.int n),some (.ref d),some (.ref dc),v4,some (.ref lt),v6,v7]/\Z.length=i + 1/\Z[i]?=some dc/\O lt=some (.lst (Z.map V.ref))/\(∀j t,Z[j]?=some t->O t=some (.dK (KA g I r j)))/\O d=some (.frz o (.dK (bC l)))/\(∀m∈l,O m.2=some (.lst ((eO g I r m.1).map V.str)))/\a8 H O)
  ⟨[q],q,_,none,none,rfl,rfl,rfl,a6,?_,a8.upd D _ _ Ro,λm u=>a8.upd D _ _ (OZ m u),s3.trans (a8.upd D)⟩ ?_ ?_⟩
 ·intro j t U
  cases j with
  |zero=>
   obtain rfl:q=t:=Zx U;exact a8.upd D _ _ h3
  |succ j=>simp at U
 ·rintro i σ O hi ⟨Z,dc,v4,v6,v7,rfl,R,TN,Rp,P0,G,JD,s4⟩;refine λdl Gf=>?_;have sd:a8 O (upd O dl (.dK [])):=a8.upd Gf;have PR:=P0 i dc TN;have J:=iR d o (bC l);rw[M]at J;have Yi:d≠dl:=af G Gf;refine⟨_,rfl,d,_,rfl,.inr ⟨o,sd _ _ G,?_⟩⟩;refine mU J (λj σ H5=>∃v4,σ=[some (.ref x),some (.int n),some (.ref d),some (.ref dc),v4,some (.ref lt),some (.int (0 + (i:Int))),some (.ref dl)]/\H5 dl=some (.dK (pB (λp=>.int (gB g I r (i + 1) p)) (r.take j)))/\∀c v,O c=some v->H5 c=some v) ⟨_,rfl,a6,λc v e=>sd _ _ e⟩ (λj σ H5 _ ⟨_,_,_,b⟩=>b _ _ G) ?_ ?_
  ·rintro j y σ H5 hy ⟨v4,rfl,h5,b⟩;obtain⟨p,LX,rfl,hj,Bh,mR⟩:=g7 hy;obtain⟨a,ha,hv⟩:=iO (mv:=l) (k:=p) (by rw[ek];exact Bh);have e1:=dQ.f (k:=(ZQ p:Key)) (b _ _ G);rw[hv]at e1;have TQ:=b _ _ (JD _ ha);have Rq:=b _ _ PR;have el:=As g I r p;refine⟨_,rfl,_,rfl,d,_,rfl,e1,a,rfl,⟨_,aI.of TQ⟩,λlm VS=>?_⟩;refine comp_map (HU (gB g I r i)) (aH K a ((eO g I r p).map V.str)) VS (by rw[Zf];exact ax (by omega)) (λH' s'=>aI.of (s' _ _ TQ)) (λz H6 Q' hz s6 qq=>?_) (λH6 s6 h6=>?_)
   ·obtain⟨t,U,rfl⟩:=Zq.mp hz;have e2:=dQ.k (k:=(ZQ t:Key)) (s6 _ _ Rq);rw[sG _ (Au he U)]at e2;exact⟨_,rfl,_,rfl,dc,_,rfl,e2,qq H6 (a8.refl _)⟩
   ·rw[pC]at h6;refine⟨lm,_,rfl,aI.of h6,?_⟩;have VU:=s6 _ _ h5;refine⟨_,rfl,_,rfl,dl,_,rfl,jd.k (k:=ZQ p) VU (by rw[yF,ZG];exact bB (by omega)),?_⟩;refine⟨_,rfl,?_,λc v e=>by rw[ae (af e Gf)];exact s6 _ _ (b c v e)⟩;rw[a6,cF _ (vM _ (gX nd LX)),mR,vN];rfl
  rintro σ H5 ⟨Yj,rfl,h5,b⟩;rw[Zf,ZU]at h5;have S:=b _ _ Rp;refine⟨_,rfl,.inl ⟨rfl,_,aI.of S⟩,_,rfl,lt,_,_,rfl,rfl,S,by rw[Zf];exact wap (m:=200000) (by omega) (by rw[wbe];decide),?_⟩;have VW:∀t,H5 t=some (.dK (KA g I r (i + 1)))->t≠lt:=λt e z=>by rw[z,S]at e;cases e
  refine⟨_,rfl,Z++[dl],dl,_,_,_,rfl,by rw[Zm,R];rfl,by rw[ZW (by omega),R,wbg];rfl,by rw[a6,ZB];rfl,?_,?_,?_,?_⟩
  ·intro j t U
   by_cases hj:j < Z.length
   ·rw[ZX hj]at U;have e:=b _ _ (P0 j t U);rw[ae (λz=>by rw[z,S]at e;cases e)];exact e
   ·have VX:j=i + 1:=by
     have:=(Zn.mp U).1;rw[Zm,wbF]at this;omega
    subst VX;rw[ZW (by omega),R,wbg]at U;obtain rfl:dl=t:=Zx U;rw[ae (VW _ h5)];exact h5
  ·have e:=b _ _ G;rw[ae (λz=>by rw[z,S]at e;cases e)];exact e
  ·intro m u;have e:=b _ _ (JD m u)
   by_cases z:m.2=lt
   ·exfalso;have f:=OZ m u;rw[z,D]at f;cases f
   ·rw[ae z];exact e
  ·exact λc v e=>by rw[ae (af e flt)];exact b _ _ (s4 _ _ e)
 ·rintro σ O ⟨Z,dc,v4,v6,v7,rfl,R,TN,Rp,P0,G,JD,s4⟩;exact⟨_,rfl,k lt Z O s4 flt Rp R P0⟩
theorem uQ(L:Lk K mg):aM P w K mg base cW 6 L.oj L.om ["band","place","length"] (Fp L.aE):=by
 refine L.ju.F.dD (N:=["band","place","length"]) (λG A outer s H W Q E nd u h=>?_);obtain⟨x,p,n,g,v,y,ls,rfl,B,C,e,f,i,j,k⟩:=h;have I:=fo u
 refine⟨_,(a7 (bp (gz (pv 0) L.aK.cl L.bK.m (gx L) (u.mono (by decide)) L.bK.b .nil cG (a5 (pv 1) a9)))
  (ag (az (d7 I (b8 bq (ao (k4 L) L.eU (a5 (pv 0) (a5 (pv 2) a9))) (Mo K5 ak) (λ_ _=>rfl)) (pv 1) (λ_ _=>rfl))))),?_⟩
 obtain⟨⟨J,b,d,q,X,M,Y,Z,h4,h5,h6⟩,_,_,_⟩:=id B;refine⟨_,rfl,x,J,_,rfl,M,GL _ _ _ _ (by decide+kernel) (by decide+kernel) (by decide+kernel) (by decide+kernel),_,rfl,x,p,g,v,y,ls,rfl,B,C,?_⟩;refine⟨_,rfl,_,rfl,x,n,g,v,y,ls,rfl,B,e,f,i,j,λl o O R f1 hl a S=>?_⟩;obtain⟨c,t,rfl⟩:∃l t,o=l++[t]:=⟨o.dropLast,o.getLast (by intro z;rw[z]at a;simp at a),(wch _).symm⟩;have T:wD ((c++[t]).map V.ref) (-1)=some (.ref t):=by rw[ZB];exact El _ _
 have r:c.length=n.toNat:=by rw[Zm,wbF]at a;omega
 have U:=S n.toNat t (by rw[ZW (by omega),r,wbg];rfl);have D:=dQ.k (k:=(ZQ p:Key)) U;rw[sG _ C]at D;exact⟨_,rfl,l,_,-1,_,rfl,rfl,aI.of hl,T,_,rfl,t,_,rfl,D,k O R⟩
theorem Gn(L:Lk K mg):aM P w K mg base cW 7 L.Cb L.Cd ["band","length"] (HW L.aE):=by
 refine L.xn.F.dD (N:=["band","length"]) (λi A outer s H l Q E nd m h=>?_);obtain⟨x,n,g,e,f,ls,rfl,B,a,b,c,d,k⟩:=h;refine⟨_,(ag (az (ao (uQ L) L.ju (a5 (pv 0) (a5 dZ (a5 (pv 1) a9)))))),?_⟩;have j:("":Str)∈f:=B.pm.mem_iff.mpr (cw e);exact⟨_,rfl,_,rfl,x,"",n,g,e,f,ls,rfl,B,j,a,b,c,d,k⟩
theorem lK(L:Lk K mg):aM P w K mg base cW 1 L.tH L.tI ["thing"] Ff:=by
 have T:=L.T;refine L.hH.F.dD (N:=["thing"]) (λa A outer s H b Q E nd c h=>?_);obtain⟨i,rfl,k⟩:=h;refine⟨_,(ag (az (zN (aB cL (by rfl) T.JA yv (a5 (pv 0) (a5 (ic (v:=.ty "int") (by rfl) T.int Qs rfl) a9))) (zM (E9 (aB cL (by rfl) T.JA yv (a5 (pv 0) (a5 (ic (v:=.ty "bool") (by rfl) T.bool N2 rfl) a9)))))))),?_⟩;refine⟨_,rfl,_,_,_,true,rfl,gQ.int i,rfl,true,rfl,fu ?_⟩;exact⟨_,rfl,_,_,_,false,rfl,gQ.int i,rfl,false,rfl,k⟩
theorem zm(L:Lk K mg):aM P w K mg base cW 1 L.tJ L.tK ["band","wide"] (Df L.aE):=by
 have T:=L.T;refine L.nq.F.dD (N:=["band","wide","rows","step"]) (λf A outer s H r Q E nd t h=>?_);obtain⟨x,n,g,u,v,ls,rfl,B,j,l,m,k⟩:=h
 refine⟨_,(a7 (ai (i:=2) ak)
  (a7 (bf ZM rfl (du rfl T.range (a5 (pv 1) a9)) (aA (i:=3)) (ag (rW (i:=2) nd rfl (wcJ rfl) (aB bX (by rfl) T.len wa1 (a5 (aO (pv 0) rfl) a9)) Fe)))
  (ag (az (pv 2))))),?_⟩
 obtain⟨⟨o,b,d,q,y,p,z,C,D,G,I⟩,_,_,_⟩:=id B;refine⟨_,rfl,n,rfl,by omega,by omega,dA (lo:=0) (n:=n.toNat) (λi σ a=>a=H/\∃c,σ=[some (.ref x),some (.int n),some (.int ((g.length:Int) ^ i)),c]) ⟨rfl,none,rfl⟩ ?_ ?_⟩
 ·rintro i σ a hi ⟨e,c,rfl⟩;rw[e];refine⟨_,rfl,_,rfl,x,L.aE,o,_,_,rfl,p,L.aK.cl,L.aK.rQ,n8 g b d q,g,rfl,ax (by omega),_,_,rfl,rfl,.inr ⟨by omega,by omega⟩,rfl,some (.int (0 + (i:Int))),?_⟩;rw[wer];rfl
 ·rintro σ a ⟨e,c,rfl⟩;rw[e];exact⟨_,rfl,k⟩
theorem Bi(L:Lk K mg):aM P w K mg base cW 2 L.w9 L.we ["band","many","wide"] (yG L.aE):=by
 refine L.pO.F.dD (N:=["band","many","wide"]) (λc A outer s H i Q E nd j h=>?_);obtain⟨x,many,wide,g,d,e,ls,rfl,B,a,b,k⟩:=h
 refine⟨_,(a7 (bP (PW.pt (gP (dN (cz (ao (lK L) L.hH (a5 (pv 1) a9)))) (gP (aG md (pv 1) ak (aU _)) (j5 (aG me (pv 1) ak (aU _)))))) (ag (az gO)) aR)
  (a7 (bP (PW.pt (gP (dN (cz (ao (lK L) L.hH (a5 (pv 2) a9)))) (gP (aG md (pv 2) ak (aU _)) (j5 (aG me (pv 2) ak (aU _)))))) (ag (az gO)) aR)
  (ag (az (ie Mr (ao (zm L) L.nq (a5 (pv 0) (a5 (pv 2) a9))) ak (aU _)))))),?_⟩
 obtain⟨ha,l,hc,hd,f⟩:=id b;refine⟨_,rfl,many,rfl,true,rfl,cg ?_⟩;refine⟨_,rfl,_,_,rfl,rfl,false,congrArg V.bl (decide_eq_false (by omega)),cg ?_⟩;refine⟨_,rfl,_,_,rfl,rfl,false,congrArg V.bl (decide_eq_false (by omega)),cg ?_⟩;refine⟨_,rfl,wide,rfl,true,rfl,cg ?_⟩;refine⟨_,rfl,_,_,rfl,rfl,false,congrArg V.bl (decide_eq_false (by omega)),cg ?_⟩;refine⟨_,rfl,_,_,rfl,rfl,false,congrArg V.bl (decide_eq_false (by omega)),cg ?_⟩;refine⟨_,rfl,_,rfl,x,wide,g,d,e,ls,rfl,B,a,by omega,by omega,_,_,rfl,rfl,?_⟩;show Q (V.bl (decide ((g.length:Int) ^ wide.toNat<=64))) H;rw[decide_eq_true f];exact k
theorem fV(L:Lk K mg):aM P w K mg base cW 3 L.oh L.oi ["band","many","wide"] (yG L.aE):=by
 refine L.dI.F.dD (N:=["band","many","wide"]) (λc A outer s H f Q E nd i h=>?_);obtain⟨x,many,wide,g,d,e,ls,rfl,B,a,b,k⟩:=h
 refine⟨_,(a7 (bP (dN (cz (ao (Bi L) L.pO (a5 (pv 0) (a5 (pv 1) (a5 (pv 2) a9)))))) eu aR)
  (ag (az gO))),?_⟩
 exact⟨_,rfl,_,rfl,_,rfl,x,many,wide,g,d,e,ls,rfl,B,a,b,true,rfl,cg k⟩
theorem DP(L:Lk K mg):aM P w K mg base cW 6 L.zb L.zc ["band","many","wide","most"] (Dp L.aE):=by
 have T:=L.T;refine L.tO.F.dD (N:=["band","many","wide","most","table","rows_of_data","length"]) (λgA A outer s H vs Q E nd hr h=>?_);obtain⟨x,many,wide,most,g,m,o,ls,rfl,B,r,G,t,TR,VY,Z⟩:=h;have k1:∀k:Nat,1<=k->(k:Int)<=most->gB g m o (k * wide.toNat) "" < many ^ k->(∀j:Nat,1<=j->j < k->¬gB g m o (j * wide.toNat) "" < many ^ j)->∀f,a8 H f->Q (.int (k:Nat)) f:=λk a b c d f I=>Z _ f I (.some k a b c d);have k2:(∀j:Nat,1<=j->(j:Int)<=most->¬gB g m o (j * wide.toNat) "" < many ^ j)->∀f,a8 H f->Q .non f:=λa f I=>Z _ f I (.none a);have hu:=fo hr
 refine⟨_,(a7 (bp (ao (fV L) L.dI (a5 (pv 0) (a5 (pv 1) (a5 (pv 2) a9)))))
  (a7 (ai (i:=4) (ao (k4 L) L.eU (a5 (pv 0) (a5 (aL j8 (pv 3) (pv 2)) a9))))
  (a7 (ai (i:=5) ak)
  (a7 (bf ZM rfl (p9 rfl T.range (a5 ak (a5 (aL gf (pv 3) ak) a9))) (aA (i:=6)) (a7 (rW (i:=5) nd rfl (wcJ rfl) (pv 1) Fe)
  (ag (bP (aG md (d7 hu (b8 bq (pv 4) (aL j8 (pv 6) (pv 2)) (λ_ _=>rfl)) dZ (λ_ _=>rfl)) (pv 5) (aU _)) (ag (az (pv 6))) aR))))
  (ag (az iA)))))),?_⟩
 have he:("":Str)∈o:=B.pm.mem_iff.mpr (cw m);obtain⟨ha,hb,hc,hd,_⟩:=id t;obtain⟨e,u⟩:∃w:Nat,wide=(w:Int):=⟨wide.toNat,by omega⟩;obtain⟨v,J⟩:∃w:Nat,most=(w:Int):=⟨most.toNat,by omega⟩;have p:most * wide=((v * e:Nat):Int):=by rw[u,J,wdz]
 have Yk:v * e<=600:=by
  have q:v<=100:=by omega
  have h2:e<=6:=by omega
  exact ZE (wbR q h2) (by decide)
 have ew:wide.toNat=e:=by omega
 rw[ew]at k1 k2;refine⟨_,rfl,_,rfl,_,rfl,x,many,wide,g,m,o,ls,rfl,B,r,t,?_⟩;refine⟨_,rfl,_,rfl,_,rfl,_,_,rfl,rfl,.inl ⟨by omega,by omega⟩,x,most * wide,g,m,o,ls,rfl,B,r,G,by rw[p];omega,by rw[p];omega,λl M O s1 f1 hl R ht=>?_⟩;rw[p,ZS]at R;refine⟨_,rfl,_,_,rfl,rfl,1,most + 1,rfl,⟨by omega,by omega,by omega,by omega⟩,dA (lo:=1) (n:=(most + 1 - 1).toNat) (λi σ S=>S=O/\(∃v6,σ=[some (.ref x),some (.int many),some (.int wide),some (.int most),some (.ref l),some (.int (many ^ i)),v6])/\∀j:Nat,1<=j->j<=i->¬gB g m o (j * e) "" < many ^ j) ⟨rfl,⟨none,by rw[Int.pow_zero];rfl⟩,λj q h2=>by omega⟩ ?_ ?_⟩
 ·rintro i σ S hi ⟨U,⟨v6,rfl⟩,lo⟩;rw[U];have W:i + 1<=v:=by omega
  have Tj:(i + 1) * e<=v * e:=wcr _ W;have y:(i + 1) * e < M.length:=by omega
  have e1:(M.map V.ref)[(i + 1) * e]?=some (.ref M[(i + 1) * e]):=by rw[Zi,Zg y];rfl
  have C:=bx e1;have ei:((((i + 1) * e:Nat)):Int)=(1 + (i:Int)) * wide:=by rw[u,wdz,wcC,Int.add_comm];rfl
  rw[ei]at C;have X:=ht _ _ (Zg y);have e3:=dQ.k (k:=(ZQ "":Key)) X;rw[sG _ he]at e3;refine⟨_,rfl,_,rfl,_,_,rfl,rfl,.inr ⟨by omega,by omega⟩,?_⟩;refine⟨_,rfl,_,rfl,_,rfl,_,_,rfl,rfl,.inr ⟨by omega,by omega⟩,l,_,_,_,rfl,rfl,aI.of hl,C,_,_,rfl,e3,_,rfl,_,_,rfl,rfl,_,rfl,?_⟩;refine Ez (λq=>?_) (λq=>⟨rfl,⟨_,by rw[wer];rfl⟩,λj D q2=>?_⟩)
  ·have Y:=of_decide_eq_true q;have:=k1 (i + 1) (by omega) (by omega) (by rw[wer];exact Y) (λj D q2=>lo j D (by omega)) O s1;rw[show (((i + 1:Nat):Nat):Int)=1 + (i:Int) by omega]at this;exact⟨_,rfl,this⟩
  ·by_cases hj:j<=i
   ·exact lo j D hj
   ·obtain rfl:j=i + 1:=by omega
    rw[wer];exact λz=>q (decide_eq_true z)
 ·rintro σ S ⟨U,⟨v6,rfl⟩,lo⟩;rw[U];exact k2 (λj D q2=>lo j D (by omega)) O s1
theorem nB(L:Lk K mg):aM P w K mg base cW 1 L.iu L.iw ["self","place"] (Qy L.aE):=by
 have T:=L.T;refine L.df.F.dD (N:=["self","place"]) (λa A outer s H l Q E nd m h=>?_);obtain⟨x,p,g,n,o,ls,rfl,B,c,k⟩:=h;obtain⟨⟨f,b,d,q,r,i,t,u,y,z,j⟩,_,_,_⟩:=B;refine⟨_,(ag (bP (PW.pt (gP (dN (cz (aB cL (by rfl) T.JA yv (a5 (pv 1) (a5 (ic (v:=.ty "str") (by rfl) T.str EJ rfl) a9))))) (j5 (aG jc (pv 1) (aO (pv 0) rfl) rfl)))) eu aR)),?_⟩;refine⟨_,rfl,_,_,_,true,rfl,gQ.str p,rfl,true,rfl,cg ?_⟩;refine⟨_,rfl,_,rfl,x,L.aE,f,_,_,rfl,i,L.aK.cl,L.aK.pN,vE g b d q,q,_,rfl,.inl (aI.of j),rfl,ez _,?_⟩;have e:nK (.str p) (ls.map V.str)=true:=by rw[iN];exact decide_eq_true c
 refine⟨false,?_,cg k⟩;show V.bl (!nK (.str p) (ls.map V.str))=V.bl false;rw[e];rfl
theorem u3(L:Lk K mg):aM P w K mg base cW 3 L.mr L.mw ["band","rows"] (Fi L.aE):=by
 refine L.iE.F.dD (N:=["band","rows","longer","word","place","sign","end"]) (λgA A outer s H vs Q E nd hr h=>?_);obtain⟨x,l,rs,u,g,v,n,ls,rfl,B,R,hq,JC,Ck,k⟩:=h
 refine⟨_,(a7 (ai (i:=2) (cj a9))
  (a7 (bf ZM rfl (aJ (pv 1)) (eL rfl (aS (aA (i:=3)) (aS (aA (i:=4)) d5))) (ag (bf ZM rfl (wJ (aO (pv 0) rfl)) (aA (i:=5)) (a7 (ai (i:=6) (gz (pv 0) L.aK.cl L.fI.m (qY L) (hr.mono (by decide)) L.fI.b .nil cG (a5 (pv 4) (a5 (pv 5) a9))))
  (ag (bP (aG wA (pv 6) iA (aU _)) (ag (bp (iL wa6 wae wai cE (pv 2) (a5 (dj (a5 (aL j9 (pv 3) (pv 5)) (a5 (pv 6) a9))) a9)))) aR))))))
  (ag (az (pv 2))))),?_⟩
 refine⟨wa0 _,λz C=>?_⟩;have s0:a8 H (upd H z (.lst [])):=a8.upd C;refine⟨_,rfl,l,rfl,⟨_,aI.of (s0 _ _ R.l)⟩,dh (K:=K) (a:=l) (xs:=rs.map V.ref) (λi σ S=>∃(v3 v4 D v6:Option V) (f:List Addr),σ=[some (.ref x),some (.ref l),some (.ref z),v3,v4,D,v6]/\a8 H S/\cS S z f (eQ g v n (u.take i))) ⟨none,none,none,none,[],rfl,s0,⟨a6,ck.nil _⟩⟩ (λi σ S _ ⟨_,_,_,_,_,_,G,_⟩=>aI.of (G _ _ R.l)) ?_ ?_⟩
 ·rintro i y σ S I ⟨v3,v4,D,v6,f,rfl,G,R2⟩;rw[Zi]at I
  obtain⟨r,T,rfl⟩:∃r,rs[i]?=some r/\y=.ref r:=by
   cases q:rs[i]? with
   |none=>rw[q]at I;cases I
   |some r=>rw[q]at I;exact⟨r,rfl,(Zx I).symm⟩
  have U:i < u.length:=by have:=(Zn.mp T).1;rw[R.len]at this;exact this
  have W:u[i]?=some u[i]:=Zg U;obtain⟨X,Y⟩:=hq u[i] (ZV U);have hT:=R.t.2 i r (qh u[i]) T (by rw[Zi,W];rfl);have mR:u.take (i + 1)=u.take i++[u[i]]:=by rw[wa7,W];rfl
  have J:eQ g v n (u.take (i + 1))=eQ g v n (u.take i)++pD g v n u[i]:=by
   unfold eQ;rw[mR,wfy];simp
  have LY:(eQ g v n (u.take i)).length<=1000:=by
   have h1:=qg g v n (u.take i);have h2:(u.take i).length<=100:=by rw[ZG];omega
   exact ZE h1 (wbR h2 Ck)
  generalize u[i]=q at X Y hT J;obtain⟨w,p⟩:=q;generalize eQ g v n (u.take i)=M at R2 J LY;refine⟨r,_,rfl,ia.of (G _ _ hT),rfl,_,_,rfl,_,_,rfl,rfl,?_⟩;have B2:=B.same G;obtain⟨⟨dx,b,d,qq,mv,h1,h2,h3,h4,h5,h6⟩,pm,_,_⟩:=id B2;refine⟨_,rfl,x,L.aE,dx,_,_,rfl,h1,L.aK.cl,L.aK.rQ,n8 g b d qq,g,rfl,mU (nL g) (λj σ Z=>∃(D v6:Option V) (f:List Addr),σ=[some (.ref x),some (.ref l),some (.ref z),some (.str w),some (.str p),D,v6]/\a8 H Z/\cS Z z f (M++((ch g).take j).filterMap λc=>if bears v (p++⟨#[c]⟩)=true then none else some (w++⟨#[c]⟩,lend n (p++⟨#[c]⟩)))) ⟨_,_,f,rfl,G,by rw[wf8,List.filterMap_nil,waf];exact R2⟩ (λ_ _ _ _ _=>trivial) ?_ ?_⟩
  ·rintro j y σ Z I ⟨D,v6,f,rfl,s3,R3⟩;obtain⟨c,Yl,rfl,hj,VZ,NN⟩:=D4 I;have B3:=B.same s3;obtain⟨⟨W2,_,_,_,_,W3,_⟩,_⟩:=id B3;refine⟨_,rfl,x,W2,_,rfl,W3,GL _ _ _ _ (by decide+kernel) (by decide+kernel) (by decide+kernel) (by decide+kernel),_,rfl,_,rfl,x,p,c,g,v,n,ls,rfl,B3,X,VZ,?_⟩
   have Rr:(M++((ch g).take j).filterMap λc=>if bears v (p++⟨#[c]⟩)=true then none else some (w++(⟨#[c]⟩:Str),lend n (p++(⟨#[c]⟩:Str)))).length<=1010:=by
    have:=wcP (λc=>if bears v (p++⟨#[c]⟩)=true then none else some (w++(⟨#[c]⟩:Str),lend n (p++(⟨#[c]⟩:Str)))) ((ch g).take j);rw[ZG,aV]at this;rw[Zm];omega
   refine⟨_,rfl,rfl,_,rfl,?_⟩;rw[NN,wf9,<-waA];generalize (M++((ch g).take j).filterMap λc=>if bears v (p++⟨#[c]⟩)=true then none else some (w++(⟨#[c]⟩:Str),lend n (p++(⟨#[c]⟩:Str))))=M2 at R3 Rr
   cases hb:bears v (p++⟨#[c]⟩) with
   |true=>
    have e:uv v n p c=.non:=by unfold uv;rw[hb];rfl
    rw[e];refine cg ⟨_,_,f,rfl,s3,?_⟩
    have e2:([c].filterMap λc=>if bears v (p++⟨#[c]⟩)=true then none else some (w++(⟨#[c]⟩:Str),lend n (p++(⟨#[c]⟩:Str))))=[]:=by
     rw[waw,hb];rfl
    rw[e2,waf];exact R3
   |false=>
    have e:uv v n p c=.str (lend n (p++⟨#[c]⟩)):=by unfold uv;rw[hb];rfl
    rw[e]
    have e2:([c].filterMap λc=>if bears v (p++⟨#[c]⟩)=true then none else some (w++(⟨#[c]⟩:Str),lend n (p++(⟨#[c]⟩:Str))))=[(w++⟨#[c]⟩,lend n (p++⟨#[c]⟩))]:=by
     rw[waw,hb];rfl
    rw[e2];have Ge:=R3.len;have W4:w.length<=100:=Y;refine fu ⟨_,rfl,.inl ⟨rfl,_,aI.of R3.l⟩,_,rfl,_,rfl,_,_,rfl,rfl,ax (by show w.length + 1<=_;omega),_,rfl,by show 2<=sizeLine;decide,λr' O=>?_⟩;refine⟨z,_,_,rfl,rfl,a8.upd O _ _ R3.l,by rw[Zf,Ge];exact wap Rr (by rw[wbe];decide),?_⟩;have key:=R3.push O (w++⟨#[c]⟩,lend n (p++⟨#[c]⟩))
    have sk:a8 H (upd (upd Z r' (.tup [.str (w++⟨#[c]⟩),.str (lend n (p++⟨#[c]⟩))])) z (.lst (f.map V.ref++[.ref r']))):=λa o ea=>by
     rw[ae (af ea C)];exact a8.upd O _ _ (s3 _ _ ea)
    unfold qh at key;generalize lend n (p++⟨#[c]⟩)=le at key sk ⊢;refine⟨some (.str ⟨#[c]⟩),some (.str le),f++[r'],?_,?_,?_⟩
    ·rfl
    ·exact sk
    ·exact key
  ·rintro σ Z ⟨D,v6,f,rfl,s3,R3⟩;refine⟨_,_,_,_,f,rfl,s3,?_⟩;have:(dO g).length=(ch g).length:=by unfold dO;rw[Zf]
   rw[this,ZU]at R3;rw[J];exact R3
 ·rintro σ S ⟨v3,v4,D,v6,f,rfl,G,R2⟩;rw[Zf,R.len,ZU]at R2;exact⟨_,rfl,k z f S G C R2⟩
theorem lL(L:Lk K mg):aM P w K mg base cW 4 L.mx L.my ["band","place","wide"] (Fj L.aE):=by
 have T:=L.T;refine L.fQ.F.dD (N:=["band","place","wide","rows","step","live"]) (λgA A outer s H vs Q E nd D h=>?_);obtain⟨x,p,n,g,c,a,ls,rfl,B,hp,o,hn,Cm,R,k⟩:=h
 refine⟨_,(a7 (bp (gz (pv 0) L.aK.cl L.df.m (nB L) (D.mono (by decide)) L.df.b .nil cG (a5 (pv 1) a9)))
  (a7 (ai (i:=3) (cj (a5 (dj (a5 dZ (a5 (pv 1) a9))) a9)))
  (a7 (bf ZM rfl (du rfl T.range (a5 (pv 2) a9)) (aA (i:=4)) (ag (ai (i:=3) (ao (u3 L) L.iE (a5 (pv 0) (a5 (pv 3) a9))))))
  (a7 (ai (i:=5) (dk (pv 0) L.aK.cl L.cM.m (jE L) (D.mono (by decide)) L.cM.b .nil cG))
  (ag (az (eP rfl (av ["live"] [5]) (av ["live"] [5]) (by decide) (aJ (pv 3)) (λ_ _ _ _ _ _=>fO (aG (gT (K:=K) rfl) (pv 1) (pv 2) rfl)) (λ_ _ _ _ _ _=>(dj (a5 (pv 0) (a5 (pv 1) a9))))))))))),?_⟩
 have he:("":Str)∈a:=B.pm.mem_iff.mpr (cw c);have S:p∈a:=B.lv.sub.subset hp;obtain⟨⟨dx,b,d,q,mv,u,G,h3,h4,h5,h6⟩,pm,_,_⟩:=id B;refine⟨_,rfl,x,dx,_,rfl,u,GL _ _ _ _ (by decide+kernel) (by decide+kernel) (by decide+kernel) (by decide+kernel),_,rfl,x,p,g,c,a,ls,rfl,B,hp,?_⟩;refine⟨_,rfl,by show 2<=sizeLine;decide,λf U=>⟨by show 1<=sizeLine;decide,λI v=>?_⟩⟩
 have R0:cS (upd (upd H f (.tup [.str "",.str p])) I (.lst [.ref f])) I [f] (sL g c a p 0):=by
  refine⟨a6,rfl,λi r xs u G=>?_⟩
  match i,u,G with
  |0,u,G=>
   cases u;cases G;exact a8.upd v _ _ a6
 have s0:a8 H (upd (upd H f (.tup [.str "",.str p])) I (.lst [.ref f])):=(a8.upd U).trans (a8.upd v);refine⟨_,rfl,(n:Int),rfl,by omega,by omega,?_⟩;rw[ZS];refine dA (lo:=0) (n:=n) (λi σ J=>∃(l:Addr) (y:List Addr) (v4:Option V),σ=[some (.ref x),some (.str p),some (.int (n:Int)),some (.ref l),v4,none]/\a8 H J/\cS J l y (sL g c a p i)) ⟨I,[f],none,rfl,s0,R0⟩ ?_ ?_
 ·rintro i σ J hi ⟨l,y,v4,rfl,j,R2⟩;have e:(sL g c a p i).length<=100:=ZE (nT g c a p i) (ZE (wfm (by omega) (by omega)) o);refine⟨_,rfl,_,rfl,x,l,y,_,g,c,a,ls,rfl,B.same j,R2,λr D=>?_,e,R,λl' W H3 z f3 R3=>⟨l',W,_,rfl,j.trans z,R3⟩⟩;obtain⟨a1,a2⟩:=sM he S i r D;exact⟨a1,by omega⟩
 ·rintro σ J ⟨l,y,v4,rfl,j,R2⟩;have B2:=B.same j;obtain⟨⟨X,_,_,_,_,Y,_⟩,_⟩:=id B2;refine⟨_,rfl,x,X,_,rfl,Y,GL _ _ _ _ (by decide+kernel) (by decide+kernel) (by decide+kernel) (by decide+kernel),x,g,c,a,ls,rfl,B2,λlv H3 z f3 Z=>?_⟩;have R3:=R2.same z;have e:(sL g c a p n).length<=100:=ZE (nT g c a p n) o;have Ge:=R3.len;refine⟨_,rfl,l,rfl,⟨_,aI.of R3.l⟩,λlr C=>?_⟩;refine Dk (prs:=(sL g c a p n).map nU) (λq=>nK q.2 (ls.map V.str)) jL (aH K l (y.map V.ref)) (by rw[BX];exact R3.t) C (ax (by omega)) (λH' s'=>aI.of (s' _ _ R3.l)) (λqv M Q' hq O qq=>?_) (λqv M Q' hq _ O qq=>?_) (λys M O W5 t4=>?_)
  ·obtain⟨q',_,rfl⟩:=Zq.mp hq;exact⟨_,rfl,_,rfl,lv,_,rfl,.inl (aI.of (O _ _ Z)),rfl,ez _,_,rfl,qq M (a8.refl _)⟩
  ·exact⟨_,rfl,_,rfl,by show 2<=sizeLine;decide,λr' Rb=>qq r' _ (a8.upd Rb) a6⟩
  ·rw[yO]at t4;exact k lr ys M ((j.trans z).trans O) (none_of (j.trans z) C) ⟨W5,t4⟩
theorem uR(L:Lk K mg):aM P w K mg base cW 5 L.oo L.oq ["band","wide"] (yP L.aE):=by
 refine L.jv.F.dD (N:=["band","wide","ends","place"]) (λgA A outer s H vs Q E nd hr h=>?_);obtain⟨x,n,g,J,M,ls,rfl,B,GQ,hn,Cm,Ck,zJ,k⟩:=h;have hu:=fo hr
 refine⟨_,(a7 (ai (i:=2) dS)
  (a7 (bf ZM rfl (aJ (dk (pv 0) L.aK.cl L.cM.m (jE L) (hr.mono (by decide)) L.cM.b .nil cG)) (aA (i:=3)) (ag (dW hu (pv 2) (pv 3) (eP rfl (av [] []) (av [] []) (by decide) (aJ (ao (lL L) L.fQ (a5 (pv 0) (a5 (pv 3) (a5 (pv 1) a9))))) (λ_ _ _ _ _ _=>b5) (λ_ _ _ _ _ _=>(pv 1))) rfl)))
  (ag (az (pv 2))))),?_⟩
 refine λu v=>?_;have Y:a8 H (upd H u (.dK [])):=a8.upd v;have B0:=B.same Y;obtain⟨⟨dx,b,d,q,mv,h1,h2,h3,h4,h5,h6⟩,pm,_,_⟩:=id B0;refine⟨_,rfl,x,dx,_,rfl,h1,GL _ _ _ _ (by decide+kernel) (by decide+kernel) (by decide+kernel) (by decide+kernel),x,g,J,M,ls,rfl,B0,λlp Z S f1 T=>?_⟩;have OY:lp≠u:=λz=>by rw[z,a6]at f1;cases f1
 have nd:ls.Nodup:=B.nd.sublist B.lv.sub;have AR:ls.length<=900:=ZE B.lv.sub.length_le zJ
 refine⟨lp,rfl,⟨_,aI.of T⟩,dh (K:=K) (a:=lp) (xs:=ls.map V.str) (λi σ H2=>∃v3 r,σ=[some (.ref x),some (.int (n:Int)),some (.ref u),v3]/\H2 u=some (.dK (bC r))/\r.map (·.1)=ls.take i/\(∀m∈r,H2 m.2=some (.lst (((aP g J M ls n m.1).map (·.2)).map V.str)))/\(∀m∈r,Z m.2=none)/\(∀c o,Z c=some o->c≠u->H2 c=some o))
  ⟨none,[],rfl,S _ _ a6,rfl,λm C=>(nomatch C),λm C=>(nomatch C),λc o e _=>e⟩ (λi σ H2 _ ⟨_,_,_,_,_,_,_,O⟩=>aI.of (O _ _ T OY)) ?_ ?_⟩
 ·rintro i y σ H5 hy ⟨v3,r,rfl,D,f,j,G,O⟩;obtain⟨p,NU,rfl,hi,Bh,mR⟩:=g7 hy;have Rj:a8 H H5:=λc o e=>O _ _ (S _ _ (Y _ _ e)) (af e v);refine⟨_,rfl,_,rfl,_,rfl,x,p,n,g,J,M,ls,rfl,B.same Rj,Bh,GQ,hn,Cm,Ck,λlb rs H6 s6 f6 R6=>?_⟩;have P4:=fB g J M ls n p;have Ge:=R6.len;refine⟨lb,rfl,⟨_,aI.of R6.l⟩,λe he=>?_⟩;refine n9 (prs:=(aP g J M ls n p).map nU) (λ_=>true) (λq=>q.2) (aH K lb (rs.map V.ref)) (by rw[BX];exact R6.t) he (ax (by omega)) (λH' s'=>aI.of (s' _ _ R6.l)) (λq H7 Q' _ _ qq=>qq H7 (a8.refl _)) (λq H7 Q' _ _ _ qq=>⟨_,rfl,qq H7 (a8.refl _)⟩) (λH7 s7 h7=>?_)
  have e7:(((aP g J M ls n p).map nU).filter λ_=>true).map (λq=>q.2)=((aP g J M ls n p).map (·.2)).map V.str:=by
   rw[wab.mpr (λ_ _=>rfl),Zw,Zw];rfl
  rw[e7]at h7;have R:=s6.trans s7;have d6:=R _ _ D;have I:H5 e=none:=none_of s6 he;have U:p∉r.map (·.1):=by rw[f];exact gX nd NU
  have Rk:r.length<=900:=by have:=congrArg wcu f;rw[Zf,ZG]at this;omega
  refine⟨_,rfl,_,rfl,u,_,rfl,jd.k (k:=ZQ p) d6 (by unfold bC;rw[Zf];exact bB (by omega)),?_⟩;have W:e≠u:=λz=>by rw[z,D]at I;cases I
  have e1:Z e=none:=by
   cases q:Z e with
   |none=>rfl
   |some o=>
    have:=O _ _ q W;rw[this]at I;cases I
  refine⟨_,r++[(p,e)],rfl,?_,?_,?_,?_,?_⟩
  ·rw[a6,cF _ (jg U)];unfold bC;rw[ZB];rfl
  ·rw[ZB,f,mR];rfl
  ·intro m C;rcases ZL.mp C with z |z
   ·have nm:m.2≠u:=λq=>by
     have:=G m z;rw[q,S _ _ a6]at this;cases this
    rw[ae nm];exact R _ _ (j m z)
   ·have:m=(p,e):=by simpa using z
    subst this;rw[ae W];exact h7
  ·intro m C;rcases ZL.mp C with z |z
   ·exact G m z
   ·have:m=(p,e):=by simpa using z
    subst this;exact e1
  ·intro c o hc X;rw[ae X];exact R _ _ (O c o hc X)
 ·rintro σ H5 ⟨v3,r,rfl,D,f,j,G,O⟩;rw[Zf,ZU]at f;exact⟨_,rfl,k u r H5 (λc o e=>O _ _ (S _ _ (Y _ _ e)) (af e v)) v D f j λm C=>none_of Y (none_of S (G m C))⟩
theorem xx(L:Lk K mg):aM P w K mg base cW 1 L.qA L.qE ["places","weights"] (Fl K):=by
 have T:=L.T;refine L.kC.F.dD (N:=["places","weights"]) (λj A outer s H y Q E nd n h=>?_);obtain⟨l,d,o,m,f,rfl,g,p,hd,hw,k⟩:=h;have q:=fo n;refine⟨_,(ag (az (aB (kj rfl) (by rfl) T.sum D7 (a5 (bY rfl (av ["weights"] [1]) (aJ (pv 0)) (λ_ _ _ _ _ _=>b5) (λ_ _ _ _ _ _=>(d7 q (pv 1) (pv 0) (λ_ _=>rfl)))) a9)))),?_⟩;refine⟨_,rfl,l,rfl,⟨_,g⟩,λr a=>?_⟩;refine comp_map (HU f) (aH K l (o.map V.str)) a (by rw[Zf];exact ax (by omega)) (λB t=>t.seq g) (λz b C u c v=>?_) (λb c i=>?_)
 ·obtain⟨e,x,rfl⟩:=Zq.mp u;have g3:=dQ.rd (k:=(ZQ e:Key)) (hd.same c);rw[dF,hw e x]at g3;exact⟨_,rfl,_,rfl,d,_,rfl,g3,v b (a8.refl _)⟩
 ·rw[pC]at i;exact⟨r,_,rfl,aI.of i,k b c⟩
theorem Bj(L:Lk K mg):aM P w K mg base cW 2 L.wg L.wh ["ends","many","weights"] Dn:=by
 have T:=L.T;refine L.pP.F.dD (N:=["ends","many","weights","lower","place"]) (λX A outer s H vs Q E nd Y h=>?_);obtain⟨z,C,many,n,o,O,f,g,r,t,ls,rfl,l,R,Z,GQ,nd,AR,Ym,W6,D,k⟩:=h;have G:=fo Y
 refine⟨_,(a7 (ai (i:=3) dS)
  (a7 (bf ZM rfl (rM (pv 0)) (aA (i:=4)) (ag (dW G (pv 3) (pv 4) (aB (vh rfl) (by rfl) T.min Kz (a5 (d7 G (pv 2) (pv 4) (λ_ _=>rfl)) (a5 (aL nH (ao (xx L) L.kC (a5 (d7 G (pv 0) (pv 4) (λ_ _=>rfl)) (a5 (pv 2) a9))) (pv 1)) a9))) rfl)))
  (ag (az (pv 3))))),?_⟩
 refine λdl m=>?_;have S:a8 H (upd H dl (.dK [])):=a8.upd m;have J:=iR z o (bC O);rw[gU,R]at J;refine⟨_,rfl,z,_,rfl,.inr ⟨o,S _ _ l,?_⟩⟩;refine mU J (λj σ u=>∃(v4:Option V),σ=[some (.ref z),some (.int many),some (.ref C),some (.ref dl),v4]/\u dl=some (.dK (bc (c9 (kq g r t ls many n f) (ls.take j))))/\a8 H u) ⟨none,rfl,a6,S⟩ (λj σ u _ ⟨_,_,_,b⟩=>b _ _ l) ?_ ?_
 ·rintro j y σ u hy ⟨v4,rfl,B,b⟩;obtain⟨p,I,rfl,hj,v,mR⟩:=g7 hy;have d:=D.same b;have g3:=dQ.rd (k:=(ZQ p:Key)) d;rw[dF,jn f ls p v]at g3;obtain⟨a,ha,hv⟩:=iO (mv:=O) (k:=p) (by rw[R];exact v);have U:=dQ.f (k:=(ZQ p:Key)) (b _ _ l);rw[hv]at U;have M:=b _ _ (Z _ ha);have P4:=fB g r t ls n p;refine⟨_,rfl,_,rfl,C,_,rfl,g3,_,rfl,_,rfl,z,_,rfl,U,_,rfl,a,C,(aP g r t ls n p).map (·.2),_,f,rfl,aI.of M,by rw[Zf];omega,d,λe he=>?_,λH4 W=>?_⟩
  ·obtain⟨q,hq,rfl⟩:=Zq.mp he;exact jn f ls _ (cR hq)
  have eb:(((aP g r t ls n p).map (·.2)).map f).sum=gv g r t ls n f p:=by unfold gv;rw[Zw];rfl
  refine⟨_,rfl,_,_,rfl,rfl,⟨by omega,by omega⟩,_,_,rfl,?_⟩;have h4:=W _ _ B;have x:p∉(c9 (kq g r t ls many n f) (ls.take j)).map (·.1):=by rw[pF];exact gX nd I
  refine⟨_,rfl,_,rfl,dl,_,rfl,jd.k (k:=ZQ p) h4 (by rw[iS];unfold c9;rw[Zf,ZG];exact bB (by omega)),?_⟩;refine⟨_,rfl,?_,λc oc e=>?_⟩
  ·rw[a6,pE x,eb,mR];unfold c9;rw[ZB];rfl
  ·rw[ae (af e m)];exact W _ _ (b _ _ e)
 ·rintro σ u ⟨v4,rfl,B,b⟩;rw[Zf,ZU]at B;exact⟨_,rfl,k dl u b m B⟩
theorem zo(L:Lk K mg):aM P w K mg base cW 6 L.nu L.tN ["band","many","wide","most"] (Ib L.aE):=by
 refine L.nv.F.dD (N:=["band","many","wide","most","ends","weights","place","lower"]) (λgA A outer s H vs Q E nd hr h=>?_);obtain⟨x,many,n,most,g,v,C,ls,rfl,B,Cm,W,X,Y,TR,k⟩:=h;have hu:=fo hr;have NQ:(A.deeper (wcx "greatest" (aD (top 30)) s.heap.objs.size L.nu gA)).units < wbT:=hr.wC
 refine⟨_,(a7 (bp (ao (fV L) L.dI (a5 (pv 0) (a5 (pv 1) (a5 (pv 2) a9)))))
  (a7 (ai (i:=4) (ao (uR L) L.jv (a5 (pv 0) (a5 (pv 2) a9))))
  (a7 (ai (i:=5) dS)
  (a7 (bf ZM rfl (yN (pv 4)) (aA (i:=6)) (ag (dW hu (pv 5) (pv 6) (pv 3) rfl)))
  (ag (iJ ZM (cz gO) (a7 (ai (i:=7) (ao (Bj L) L.pP (a5 (pv 4) (a5 (pv 1) (a5 (pv 5) a9)))))
  (a7 (bP (aG (KH NQ) (pv 7) (pv 5) (aU _)) (ag (az (pv 5))) aR)
  (ag (ai (i:=5) (pv 7))))))))))),?_⟩
 obtain⟨Z,rb,rc,rd,re⟩:=id Y
 have GQ:g.length ^ n<=64:=by
  rw[ZS]at re;have:((g.length ^ n:Nat):Int)<=64:=by rw[wcD];exact re
  omega
 have nd:ls.Nodup:=B.nd.sublist B.lv.sub;have AR:ls.length<=900:=ZE B.lv.sub.length_le X;refine⟨_,rfl,_,rfl,_,rfl,x,many,n,g,v,C,ls,rfl,B,W,Y,?_⟩;refine⟨_,rfl,_,rfl,x,n,g,v,C,ls,rfl,B,by omega,by omega,Cm,W,X,λd I H1 s1 Rl h1 ek er ef=>?_⟩;have W8:∀q∈I,q.2≠d:=λq hq z=>by have:=er q hq;rw[z,h1]at this;cases this
 refine λa b=>?_;have M:d≠a:=af h1 b;have TU:(upd H1 a (.dK [])) d=some (.dK (bC I)):=a8.upd b _ _ h1;refine⟨_,rfl,d,_,rfl,.inl TU,λo H2 h2 l=>?_⟩;have O:H2 a=some (.dK []):=by rw[l a (waB M),a6]
 have s2:a8 H H2:=λc R e=>by
  rw[l c (af e Rl)];exact a8.upd b _ _ (s1 _ _ e)
 have S:∀m∈I,H2 m.2=some (.lst (((aP g v C ls n m.1).map (·.2)).map V.str)):=λm r=>by
  rw[l _ (W8 m r)];exact a8.upd b _ _ (er m r)
 have t:H a=none:=none_of s1 b;have J:=iR d o (bC I);rw[gU,ek]at J;refine mU J (λj σ u=>∃(v6:Option V),σ=[some (.ref x),some (.int many),some (.int (n:Int)),some (.int most),some (.ref d),some (.ref a),v6,none]/\u a=some (.dK (bc (c9 (λ_=>most) (ls.take j))))/\∀c R,H2 c=some R->c≠a->u c=some R) ⟨none,rfl,O,λc R e _=>e⟩ (λj σ u _ ⟨_,_,_,D⟩=>D _ _ h2 M) ?_ ?_
 ·rintro j y σ u hy ⟨v6,rfl,h3,D⟩;obtain⟨p,LX,rfl,hj,Bh,mR⟩:=g7 hy;have Gm:p∉(c9 (λ_=>most) (ls.take j)).map (·.1):=by rw[pF];exact gX nd LX
  refine⟨_,rfl,_,rfl,_,rfl,a,_,rfl,jd.k (k:=ZQ p) h3 (by rw[iS];unfold c9;rw[Zf,ZG];exact bB (by omega)),?_⟩;refine⟨_,rfl,?_,λc R e hc=>by rw[ae hc];exact D c R e hc⟩;rw[a6,pE Gm,mR];unfold c9;rw[ZB];rfl
 rintro σ u ⟨v6,rfl,h3,D⟩;rw[Zf,ZU]at h3;have Ro:=D _ _ h2 M;have s3:a8 H u:=λc R e=>D _ _ (s2 _ _ e) (af e t);have J0:∀m∈I,m.2≠a:=λm r z=>by have:=S m r;rw[z,O]at this;cases this
 have OZ:∀m∈I,u m.2=some (.lst (((aP g v C ls n m.1).map (·.2)).map V.str)):=λm r=>D _ _ (S m r) (J0 m r);clear D h2 O S er h1 l TU J b
 refine⟨λq σ H4=>∃(a:Addr) (f:Str->Int) (v6 v7:Option V),q=(ls.map λp=>(f p).toNat).sum/\σ=[some (.ref x),some (.int many),some (.int (n:Int)),some (.int most),some (.ref d),some (.ref a),v6,v7]/\a8 u H4/\H a=none/\H4 a=some (.dK (bc (c9 f ls)))/\(∀p∈ls,0<=f p)/\(∀p∈ls,f p<=most)/\(∀h:Str->Int,(∀p∈ls,h p<=most)->E2 g v C ls many n h->∀p∈ls,h p<=f p),
  ⟨_,a,λ_=>most,v6,none,rfl,rfl,a8.refl _,t,h3,λ_ _=>TR,λ_ _=>wcv _,λh hh _ p hp=>hh p hp⟩,?_⟩
 rintro q σ H4 ⟨a,f,v6,v7,rfl,rfl,s4,t,h4,T,TV,TX⟩;refine⟨true,rfl,fu ?_⟩;refine⟨λσ' H'=>∃(dl:Addr) (v6 v7:Option V),σ'=[some (.ref x),some (.int many),some (.int (n:Int)),some (.int most),some (.ref d),some (.ref dl),v6,v7]/\a8 u H'/\H dl=none/\H' dl=some (.dK (bc (c9 (kq g v C ls many n f) ls)))/\¬∀p∈ls,kq g v C ls many n f p=f p,?_,?_⟩
 ·rintro σ' H' ⟨dl,v6,v7,rfl,s',U,h',yp⟩;exact⟨_,KJ Z T yp,dl,_,_,_,rfl,rfl,s',U,h',Fo Z T,λp hp=>wcf (Fn many n f p) (TV p hp),λh hh G=>Dm Z G (TX h hh G)⟩
 ·refine⟨_,rfl,_,rfl,_,rfl,d,a,many,n,o,I,f,g,v,C,ls,rfl,s4 _ _ Ro,ek,λm r=>s4 _ _ (OZ m r),by omega,nd,AR,Z,rb,.inl h4,λdl H5 s5 U h5=>?_⟩;have TY:=s5 _ _ h4;refine⟨_,rfl,_,rfl,dl,a,_,_,rfl,rfl,.inl h5,.inl TY,sN _,sN _,_,rfl,?_⟩;refine Ez (λhe=>?_) (λhe=>?_)
  ·have e:=Jp.mp he;exact⟨_,rfl,k a f H5 ((s3.trans s4).trans s5) t TY ⟨T,TV,Ia Z e,TX⟩⟩
  ·exact⟨_,rfl,dl,_,_,rfl,s4.trans s5,none_of s3 (none_of s4 U),h5,λe=>he (Jp.mpr e)⟩
theorem lM(L:Lk K mg):aM P w K mg base cW 5 L.mz L.mB ["band","many","wide","weights"] (Im K L.aE L.ay):=by
 refine L.fR.F.dD (N:=["band","many","wide","weights","homes","lines","place","blocks"]) (λgA A outer s H vs Q E nd hr h=>?_);obtain⟨x,d,many,n,m,f,g,u,C,ls,rfl,B,Cm,Ck,zJ,E3,hd,hw,k⟩:=h;have hu:=fo hr
 refine⟨_,(a7 (bp (ao (fV L) L.dI (a5 (pv 0) (a5 (pv 1) (a5 (pv 2) a9)))))
  (a7 (ai (i:=4) (bY rfl (av ["weights"] [3]) (aJ (dk (pv 0) L.aK.cl L.cM.m (jE L) (hr.mono (by decide)) L.cM.b .nil cG)) (λ_ _ _ _ _ _=>fO (aG me (d7 hu (pv 1) (pv 0) (λ_ _=>rfl)) ak (aU _))) (λ_ _ _ _ _ _=>(pv 0))))
  (a7 (ai (i:=5) (cj a9))
  (a7 (bf ZM rfl (aJ (pv 4)) (aA (i:=6)) (a7 (ai (i:=7) (ao (lL L) L.fQ (a5 (pv 0) (a5 (pv 6) (a5 (pv 2) a9)))))
  (ag (bp (iL wa6 wae wai cE (pv 5) (a5 (eP rfl (av ["homes"] [4]) (av ["homes"] [4]) (by decide) (aJ (pv 7)) (λ_ _ _ _ _ _=>fO (aG (gT (K:=K) rfl) (pv 1) (pv 2) rfl)) (λ_ _ _ _ _ _=>(dj (a5 (pv 0) (a5 (Ft (K:=K) rfl wa6 wbW wev (Dq (K:=K) rfl) (pv 2) (a5 (pv 1) a9)) a9))))) a9))))))
  (ag (az (jb L.oR (fi L) (hr.mono (by decide)) rfl L.rR L.cI.b .nil cG (a5 (pv 4) (a5 (bY rfl (av ["weights"] [3]) (aJ (pv 4)) (λ_ _ _ _ _ _=>b5) (λ_ _ _ _ _ _=>(d7 hu (pv 1) (pv 0) (λ_ _=>rfl)))) (a5 (pv 5) a9)))))))))),?_⟩
 obtain⟨ra,rb,rc,rd,re⟩:=id E3
 have GQ:g.length ^ n<=64:=by
  rw[ZS]at re;have:((g.length ^ n:Nat):Int)<=64:=by rw[wcD];exact re
  omega
 have AR:ls.length<=900:=ZE B.lv.sub.length_le zJ;refine⟨_,rfl,_,rfl,_,rfl,x,many,n,g,u,C,ls,rfl,B,Ck,E3,?_⟩;obtain⟨⟨dx,b,d0,q,mv,h1,h2,h3,h4,h5,h6⟩,pm,_,_⟩:=id B;refine⟨_,rfl,x,dx,_,rfl,h1,GL _ _ _ _ (by decide+kernel) (by decide+kernel) (by decide+kernel) (by decide+kernel),x,g,u,C,ls,rfl,B,λlv H1 s1 f1 hv=>?_⟩;refine⟨lv,rfl,⟨_,aI.of hv⟩,λT LR=>?_⟩;refine cY (λv=>match v with |.str p=>decide (0 < f p) |_=>false) (λv=>v) (aH K lv (ls.map V.str)) LR (by rw[Zf];exact ax (by omega)) (λH' s'=>aI.of (s' _ _ hv)) (λz M Q' hz s2 Y=>?_) (λz M Q' hz _ s2 Y=>⟨_,rfl,Y M (a8.refl _)⟩) (λM s2 hh=>?_)
 ·obtain⟨p,hp,rfl⟩:=Zq.mp hz;have g3:=dQ.rd (k:=(ZQ p:Key)) (hd.same (s1.trans s2));rw[dF,hw p hp]at g3;have q2:Q' (decide (0 < f p)) M:=Y M (a8.refl _);exact⟨_,rfl,_,rfl,d,_,rfl,g3,_,_,rfl,rfl,_,rfl,q2⟩
 have Wa:((ls.map V.str).filter (λv=>match v with |.str p=>decide (0 < f p) |_=>false)).map (λv=>v)=(aq ls f).map V.str:=by
  rw[wcQ,wdy];rfl
 rw[Wa]at hh;have TZ:(aq ls f).length<=900:=ZE (wat _ _) AR;have NV:∀p∈aq ls f,p∈ls:=λp hp=>(ZO.mp hp).1;have LZ:=s1.trans s2;refine⟨wa0 _,λD G=>?_⟩;have sb:a8 M (upd M D (.lst [])):=a8.upd G;have Z:(upd M D (.lst [])) D=some (.lst []):=a6;generalize upd M D (.lst [])=Hb at sb Z;have Wb:T≠D:=af hh G
 refine⟨_,rfl,T,rfl,⟨_,aI.of (sb _ _ hh)⟩,dh (K:=K) (a:=T) (xs:=(aq ls f).map V.str) (λj σ H3=>∃(v6 v7:Option V) (as:List V),σ=[some (.ref x),some (.int many),some (.int (n:Int)),some (.ref d),some (.ref T),some (.ref D),v6,v7]/\H3 D=some (.lst as)/\(∀c o,Hb c=some o->c≠D->H3 c=some o)/\b6 K (aF Hb H3) (((aq ls f).take j).map λp=>bI (fD g u C ls n (aq ls f) p)) as)
  ⟨none,none,[],rfl,Z,λc o e _=>e,rfl⟩ (λj σ H3 _ ⟨_,_,_,_,_,kk,_⟩=>aI.of (kk _ _ (sb _ _ hh) Wb)) ?_ ?_⟩
 ·rintro j y σ H3 hy ⟨v6,v7,as,rfl,Rt,kk,hR⟩;obtain⟨p,LX,rfl,hj,Bh,mR⟩:=g7 hy;have O:a8 M H3:=λc o e=>kk _ _ (sb _ _ e) (af e G);have B3:=B.same (LZ.trans O);refine⟨_,rfl,_,rfl,_,rfl,x,p,n,g,u,C,ls,rfl,B3,NV p Bh,by omega,by omega,Cm,Ck,λlb rb U I f4 R4=>?_⟩;have J:=I _ _ Rt;have P4:=fB g u C ls n p
  have Ta:as.length=j:=by
   rw[hR.len,Zf,ZG];omega
  refine⟨_,rfl,.inl ⟨rfl,_,aI.of J⟩,_,rfl,lb,rfl,⟨_,aI.of R4.l⟩,λlc IQ=>?_⟩;have R:U T=some (.lst ((aq ls f).map V.str)):=I _ _ (O _ _ hh);refine iT (prs:=(aP g u C ls n p).map nU) (λq=>nK q.2 ((aq ls f).map V.str)) (λq=>.tup [.at q.1,.at (.int (match q.2 with |.str e=>((aq ls f).idxOf e:Nat) |_=>0))]) (aH K lb (rb.map V.ref)) (by rw[Zf,Zf,R4.len]) (λi q W=>?_) IQ (by rw[Zf,R4.len];exact ax (by omega)) (λH' s'=>aI.of (s' _ _ R4.l)) (λq S Q' W X Y=>?_) (λq S Q' W Wc X Y=>?_) (λS X r5=>?_)
  ·have hi:i < rb.length:=by have:=(Zn.mp W).1;rw[Zf,<-R4.len]at this;exact this
   rw[Zi]at W
   cases e:(aP g u C ls n p)[i]? with
   |none=>rw[e]at W;cases W
   |some z=>
    rw[e]at W;cases W;refine⟨rb[i],by rw[Zi,Zg hi];rfl,ia.of (R4.t.2 i rb[i] (qh z) (Zg hi) (by rw[Zi,e];rfl))⟩
  ·obtain⟨z,hz,rfl⟩:=Zq.mp W;exact⟨_,rfl,_,rfl,T,_,rfl,.inl (aI.of (X _ _ R)),rfl,ez _,_,rfl,Y S (a8.refl _)⟩
  ·obtain⟨z,hz,rfl⟩:=Zq.mp W
   have hm:z.2∈aq ls f:=by
    have:nK (.str z.2) ((aq ls f).map V.str)=true:=Wc;rw[iN]at this;exact of_decide_eq_true this
   obtain⟨i1,i2⟩:=pH hm;refine⟨_,rfl,_,rfl,.inl ⟨rfl,_,aI.of (X _ _ R)⟩,_,rfl,T,aq ls f,z.2,(aq ls f).idxOf z.2,rfl,rfl,aI.of (X _ _ R),by omega,i1,i2,by show 2<=sizeLine;decide,λr hr=>?_⟩;exact Y _ _ (a8.upd hr) (kr hr (z.1,(aq ls f).idxOf z.2))
  have el:((((aP g u C ls n p).map nU).filter λq=>nK q.2 ((aq ls f).map V.str)).map λq=>jM.tup [.at q.1,.at (.int (match q.2 with |.str e=>((aq ls f).idxOf e:Nat) |_=>0))])=(fD g u C ls n (aq ls f) p).map jN:=by
   unfold fD;rw[wdy,Zw,Zw]
   have ep:((λq:V×V=>nK q.2 ((aq ls f).map V.str)) ∘ nU)=λq:Str×Str=>decide (q.2∈aq ls f):=by
    funext q;exact iN q.2 _
   rw[ep];rfl
  rw[el]at r5;refine⟨D,_,_,rfl,rfl,X _ _ J,by rw[Ta];exact wap (show j<=900 by omega) (by rw[wbe];decide),?_⟩;have U0:=I.trans X;have U1:=X _ _ J;have kp:∀c o,S c=some o->c≠D->(upd S D (.lst (as++[.ref lc]))) c=some o:=λc o e hc=>by rw[ae hc];exact e
  refine⟨_,_,as++[.ref lc],rfl,a6,λc o e hc=>kp _ _ (U0 _ _ (kk c o e hc)) hc,?_⟩;rw[mR,ZB];refine gK (b6.same ((gZ U0).trans (bz Z kp)) _ _ hR) ?_
  have old:a8 (aF U S) (aF Hb S):=λc o e=>by
   unfold aF at e ⊢
   cases q:Hb c with
   |none=>
    cases q2:U c with
    |none=>rw[q2]at e;exact e
    |some z=>rw[q2]at e;cases e
   |some z=>
    by_cases hc:c=D
    ·rw[hc,J]at e;cases e
    ·rw[I _ _ (kk _ _ q hc)]at e;cases e
  exact bh.same (old.trans (bz Z kp)) _ _ r5
 ·rintro σ H3 ⟨v6,v7,as,rfl,Rt,kk,hR⟩;rw[Zf,ZU]at hR;have O:a8 M H3:=λc o e=>kk _ _ (sb _ _ e) (af e G);have Bd:=LZ.trans O;have Ru:=O _ _ hh;refine⟨_,rfl,_,rfl,T,rfl,⟨_,aI.of Ru⟩,λlw Nx=>?_⟩;refine comp_map (HU f) (aH K T ((aq ls f).map V.str)) Nx (by rw[Zf];exact ax (by omega)) (λH' s'=>aI.of (s' _ _ Ru)) (λz U Q' hz I Y=>?_) (λU I NM=>?_)
  ·obtain⟨p,hp,rfl⟩:=Zq.mp hz;have g3:=dQ.rd (k:=(ZQ p:Key)) (hd.same (Bd.trans I));rw[dF,hw p (NV p hp)]at g3;exact⟨_,rfl,_,rfl,d,_,rfl,g3,Y U (a8.refl _)⟩
  rw[pC]at NM;have J:=I _ _ Rt;have Wd:=I _ _ Ru;refine⟨_,rfl,λy dy ny LU QV=>?_⟩;have sm:a8 U (upd (upd U dy (.own y)) y (.ins L.ay dy [])):=cZ ny LU;refine⟨y,dy,.ref T,.ref lw,.ref D,aq ls f,(aq ls f).map f,bA g u C ls n (aq ls f),rfl,a6,nX (sm _ _ Wd),iU (sm _ _ NM),?_,by omega,by rw[Zf];omega,by unfold bA;rw[Zf];omega,?_,λa' b' c' S Rv r1 r2 r3 We=>⟨rfl,?_⟩⟩
  ·have Wf:b6 K U ((aq ls f).map λp=>bI (fD g u C ls n (aq ls f) p)) as:=b6.same ((bj _ _).trans I) _ _ hR;refine⟨D,as,rfl,.inl (sm _ _ J),?_⟩
   have e:(bA g u C ls n (aq ls f)).map bI=(aq ls f).map λp=>bI (fD g u C ls n (aq ls f) p):=by
    unfold bA;rw[Zw];rfl
   rw[e];exact b6.same sm _ _ Wf
  ·intro l hl;obtain⟨p,_,rfl⟩:=Zq.mp hl;have:=AH g u C ls n (aq ls f) p;omega
  ·have X:a8 U S:=λc o e=>We _ _ (sm _ _ e) (af e ny);refine k y S (Bd.trans (I.trans X)) ?_;have QY:H y=none:=none_of (Bd.trans I) ny;have nw:=λ(d:jM) (v:V) (r:bh K (aF _ S) d v)=>bh.same (dG ((Bd.trans I).trans sm)) d v r;exact⟨dy,a',b',c',bH QY Rv,nw _ _ r1,nw _ _ r2,nw _ _ r3⟩
theorem xA(L:Lk K mg):aM P w K mg base cW 1 L.qF L.qG ["sheet"] (L7 K L.ay):=by
 have T:=L.T;refine L.kL.F.dD (N:=["sheet","heaviest","desk","line","number","step"]) (λgA A outer s H vs Q E nd hr h=>?_);obtain⟨x,hs,g,b,rfl,S,Af,he,yp,hex,k⟩:=h
 refine⟨_,(a7 (ai (i:=1) (aB (Dg rfl) (by rfl) T.max Fa (a5 (aO (pv 0) rfl) a9)))
  (a7 (bf ZM rfl (lP (by rfl) T.enum (a5 (aO (pv 0) rfl) a9)) (eL rfl (aS (aA (i:=2)) (aS (aA (i:=3)) d5))) (ag (bf ZM rfl (lP (by rfl) T.enum (a5 (pv 3) a9)) (eL rfl (aS (aA (i:=4)) (aS (aA (i:=5)) d5))) (ag (bP (PW.pt (JZ (aG vg (b8 bq (aO (pv 0) rfl) (pv 2) (λ_ _=>rfl)) (pv 1) (aU _)) (GX (aG md (b8 bq (aO (pv 0) rfl) (b8 gg (pv 5) ak (λ_ _=>rfl)) (λ_ _=>rfl)) (pv 1) (aU _))))) (ag (az (dj (a5 (pv 2) (a5 (pv 4) a9))))) aR)))))
  (ag (az iA)))),?_⟩
 obtain⟨dx,ah,C,cl,hx,rh,GP,rl⟩:=id S;obtain⟨T9,eb,hb⟩:=hE GP;cases eb;obtain⟨Nt,xs,ec,hc,U⟩:=id rl;cases ec;have xl:xs.length=b.length:=by rw[U.len,Zf]
 refine⟨_,rfl,x,L.ay,dx,_,_,rfl,hx,L.aw.cl,L.aw.cH,cf ah C cl,C,g,rfl,hb,yp,λM hM hT=>?_⟩;have W:∀n:Nat,n < g.length->wD (g.map V.int) (n:Int)=some (.int (g.getD n 0)):=λn hn=>bx (by rw[Zi,Zg hn,Zj,Zg hn];rfl);refine⟨_,rfl,x,L.ay,dx,_,_,rfl,hx,L.aw.cl,L.aw.cp,bD ah C cl,cl,xs,rfl,.inl hc,nM (K:=K) (a:=cl) (xs:=xs) (λi σ X=>a8 H X/\(∃v2 v3 v4 R,σ=[some (.ref x),some (.int M),v2,v3,v4,R])/\∀d f c q,Down g b M d f c q->i<=d) ⟨a8.refl _,⟨none,none,none,none,rfl⟩,λ_ _ _ _ _=>wa0 _⟩ (λi σ X _ p=>p.1.seq (.inl hc)) ?_ (λσ X p=>?_)⟩
 ·rintro d y σ X T hy ⟨s2,⟨v2,v3,v4,R,rfl⟩,G⟩ Wg;have hd:d < xs.length:=(Zn.mp hy).1;have Gf:d < b.length:=by omega
  have Y:b[d]?=some (b.getD d []):=by rw[Zj,Zg Gf];rfl
  obtain⟨v,Z,rd⟩:=U.at (i:=d) (d:=bI (b.getD d [])) (by rw[Zi,Y];rfl);rw[hy]at Z;cases Z;obtain⟨a,B,rfl,hS,NW⟩:=dH rd;have TC:B.length=(b.getD d []).length:=by rw[NW.1,Zf,Zf]
  have Ra:∀q∈b.getD d [],q.2 < g.length:=he _ (ZA Y);have s3:=s2.trans (a8.upd (o:=.tup [.int (d:Nat),.ref a]) Wg);refine⟨T,_,rfl,ia.of a6,rfl,_,_,rfl,_,_,rfl,rfl,?_⟩;generalize upd X T (.tup [.int (d:Nat),.ref a])=H3 at s3;refine⟨_,rfl,a,_,rfl,s3.seq hS,nM (K:=K) (a:=a) (xs:=B.map V.ref) (λi σ H4=>a8 H H4/\(∃v4 R,σ=[some (.ref x),some (.int M),some (.int (d:Int)),some (.ref a),v4,R])/\∀f c q,Down g b M d f c q->i<=f) ⟨s3,⟨_,_,rfl⟩,λ_ _ _ _=>wa0 _⟩ (λi σ H4 _ p=>p.1.seq hS) ?_ (λσ H4 p=>?_)⟩
  ·rintro i y σ H4 T2 I ⟨s4,⟨v4,R,rfl⟩,j⟩ Wh;have hi:i < B.length:=by have:=(Zn.mp I).1;rwa[Zf]at this
   have J:i < (b.getD d []).length:=by omega
   rw[Zi,Zg hi]at I;cases I;have Lg:H B[i]=some (.tup [.str (b.getD d [])[i].1,.int ((b.getD d [])[i].2:Int)]):=NW.2 i B[i] (jL (dM (b.getD d [])[i])) (Zg hi) (by rw[Zi,Zi,Zg J];rfl);have O:(b.getD d [])[i]?=some (b.getD d [])[i]:=Zg J;have JC:=Ra _ (ZV J);generalize (b.getD d [])[i]=q at Lg O JC;have m:=s4.trans (a8.upd (o:=.tup [.int (i:Nat),.ref B[i]]) Wh);refine⟨T2,_,rfl,ia.of a6,rfl,_,_,rfl,_,_,rfl,rfl,?_⟩;generalize upd H4 T2 (.tup [.int (i:Nat),.ref B[i]])=H5 at m
   have U2:(¬∃c q,Down g b M d i c q)->∀f c q,Down g b M d f c q->i + 1<=f:=λhn f c q hD=>by
    have:=j f c q hD
    by_cases e:f=i
    ·subst e;exact absurd ⟨c,q,hD⟩ hn
    ·omega
   refine⟨_,rfl,x,L.ay,dx,_,_,rfl,m _ _ hx,L.aw.cl,L.aw.cH,cf ah C cl,_,rfl,C,_,_,_,rfl,rfl,m.seq hb,W d (by omega),_,rfl,?_⟩
   by_cases r:g.getD d 0=M
   ·refine⟨rfl,true,congrArg V.bl (decide_eq_true (by rw[r])),fu ?_⟩;refine⟨_,rfl,x,L.ay,dx,_,_,rfl,m _ _ hx,L.aw.cl,L.aw.cH,cf ah C cl,_,rfl,B[i],_,_,_,rfl,rfl,ia.of (m _ _ Lg),rfl,C,_,_,_,rfl,rfl,m.seq hb,W q.2 JC,_,rfl,_,_,rfl,rfl,?_⟩
    by_cases u:g.getD q.2 0 < M
    ·refine⟨true,congrArg V.bl (decide_eq_true u),fu ?_⟩;refine⟨_,rfl,_,rfl,by show 2<=sizeLine;decide,λt ht=>?_⟩;exact k t M d i _ q _ (m.trans (a8.upd ht)) a6 ⟨hM,hT,Y,O,r,u⟩
    ·refine⟨false,congrArg V.bl (decide_eq_false u),cg ?_⟩;refine⟨m,⟨_,_,rfl⟩,U2 ?_⟩;rintro⟨c,q',D⟩;have e1:=D.l;rw[Y]at e1;cases e1;have e2:=D.s;rw[O]at e2;cases e2;exact u D.lt
   ·refine⟨rfl,false,congrArg V.bl (decide_eq_false λz=>r (V.int.inj z)),cg ?_⟩;refine cg ⟨m,⟨_,_,rfl⟩,U2 ?_⟩;rintro⟨c,q',D⟩;exact r D.e
  ·obtain⟨s4,⟨v4,R,rfl⟩,j⟩:=p;refine⟨s4,⟨_,_,_,_,rfl⟩,λd' f c q D=>?_⟩;have:=G d' f c q D
   by_cases e:d'=d
   ·subst e;have:=j f c q D;have e1:=D.l;rw[Y]at e1;cases e1;have:=(Zn.mp D.s).1;rw[Zf]at *;omega
   ·omega
 ·obtain⟨s2,_,G⟩:=p;obtain⟨d,i,c,q,D⟩:=hex M hM hT;have:=G d i c q D;have:=(Zn.mp D.l).1;omega
theorem DQ(L:Lk K mg):aM P w K mg base cW 1 L.zf L.zg ["weights","numbers","many"] (Nq K):=by
 have T:=L.T;refine L.tP.F.dD (N:=["weights","numbers","many","taken_at","total","taken","number"]) (λgA A outer s H vs Q E nd hr h=>?_);obtain⟨a,b,many,wl,d,rfl,hA,I,m1,m2,J,M,k⟩:=h;have O:=fo hr
 refine⟨_,(a7 (ai (i:=3) (BH (yh ak ak BG) rfl rfl (by simp) (by decide)))
  (a7 (ai (i:=4) ak)
  (a7 (bf ZM rfl (FH (by rfl) T.enum (a5 (pv 1) a9)) (eL rfl (aS (aA (i:=5)) (aS (aA (i:=6)) d5))) (a7 (rW (i:=4) nd rfl (wcJ rfl) (b8 bq (pv 0) (pv 6) (λ_ _=>rfl)) Ee)
  (a7 (bP (zL (Kb O (aL d2 (pv 4) (pv 2)) (pv 3))) (ag (az (cu eM (pv 1) (cn (d7 O (pv 3) (aL d2 (pv 4) (pv 2)) (λ_ _=>rfl))) (cn (pv 5))))) aR)
  (ag (dW O (pv 3) (aL d2 (pv 4) (pv 2)) (pv 5) rfl)))))
  (ag (az (cj a9)))))),?_⟩
 have l:(0:Int) < many:=by omega
 refine λg m=>⟨a6,[((wao 0:Key),V.int 0)],rfl,by decide,?_⟩;have R:a8 H (upd (upd H g (.dK [])) g (.dK (je [] [((wao 0:Key),V.int 0)]))):=λc o e=>by rw[ae (af e m),ae (af e m)];exact e
 have X:(upd (upd H g (.dK [])) g (.dK (je [] [((wao 0:Key),V.int 0)]))) g=some (.dK (dR many (jt wl d) 1)):=by
  rw[a6];refine congrArg (λz=>some (HO.dK z)) ?_;show [((wao 0:Key),V.int 0)]=[((wao (0 % many):Key),V.int 0)];rw[Int.zero_emod]
 generalize upd (upd H g (.dK [])) g (.dK (je [] [((wao 0:Key),V.int 0)]))=H0 at R X;refine⟨_,rfl,b,_,rfl,R.seq I,Dw (K:=K) (a:=b) (xs:=(nI d).map V.int) (λj σ q=>a8 H q/\(∃S v6,σ=[some (.ref a),some (.ref b),some (.int many),some (.ref g),some (.int (jt wl d j)),S,v6])/\q g=some (.dK (dR many (jt wl d) (j + 1)))/\∀i k,i < k->k<=j->jt wl d i % many≠jt wl d k % many) ⟨R,⟨none,none,rfl⟩,X,λi k Y C=>by omega⟩ (λi σ q _ p=>p.1.seq I) ?_ (λσ q p=>?_)⟩
 ·rintro j y σ q T U ⟨Z,⟨S,v6,rfl⟩,C,f⟩ hT;have hj:j < d.length:=by have:=(Zn.mp U).1;rwa[Zf,bJ]at this
  have r:d[j]?=some d[j]:=Zg hj;rw[xh r]at U;cases U;have t:=M _ (ZV hj);have x:=DE (wl:=wl) r;generalize d[j]=n at r t x;have u:=Z.trans (a8.upd (o:=.tup [.int ((j + 1:Nat):Int),.int (n:Int)]) hT);have D:(upd q T (.tup [.int ((j + 1:Nat):Int),.int (n:Int)])) g=some (.dK (dR many (jt wl d) (j + 1))):=a8.upd hT _ _ C;refine⟨T,_,rfl,ia.of a6,rfl,_,_,rfl,_,_,rfl,rfl,?_⟩;generalize upd q T (.tup [.int ((j + 1:Nat):Int),.int (n:Int)])=H3 at u D;refine⟨_,rfl,_,rfl,_,rfl,a,_,_,_,rfl,rfl,u.seq hA,bx (v:=.int (wl.getD n 0)) (by rw[Zi,Zg t,Zj,Zg t];rfl),_,_,rfl,rfl,?_⟩;dsimp only;rw[<-x];refine⟨_,rfl,_,rfl,_,_,rfl,rfl,l,_,rfl,g,_,rfl,dQ.k (k:=(wao (jt wl d (j + 1) % many):Key)) D,?_⟩;rcases FU many (jt wl d) (j + 1) (jt wl d (j + 1) % many) with⟨G,B⟩ |⟨i,hi,W,G⟩
  ·rw[G];refine⟨false,rfl,cg ?_⟩;refine⟨_,rfl,_,rfl,_,rfl,_,rfl,_,_,rfl,rfl,l,g,_,rfl,jd.k (k:=wao (jt wl d (j + 1) % many)) D (by rw[Lc];exact bB (by omega)),?_⟩;rw[Lb G];refine⟨λc o e=>by rw[ae (af e m)];exact u _ _ e,⟨_,_,rfl⟩,a6,λi k Y C=>?_⟩
   by_cases e:k=j + 1
   ·subst e;exact B i (by omega)
   ·exact f i k Y (by omega)
  ·have hg:=dQ.k (k:=(wao (jt wl d (j + 1) % many):Key)) D;rw[G]at hg ⊢;refine⟨true,rfl,fu ?_⟩;refine⟨_,rfl,_,rfl,_,rfl,_,rfl,_,_,rfl,rfl,l,g,_,rfl,hg,_,rfl,_,rfl,_,rfl,b,_,rfl,u.seq I,λp hp=>?_⟩;rw[FV _ (by omega) (by rw[bJ];omega),o7,IC];exact k p i (j + 1) _ (u.trans (a8.upd hp)) (none_of u hp) (by omega) (by omega) (FT (by omega) W) a6
 ·obtain⟨Z,⟨S,v6,rfl⟩,C,f⟩:=p;rw[Zf,bJ]at f;exact absurd (B5 l J f) id
theorem uS(L:Lk K mg):aM P w K mg base cW 2 L.oG L.oH ["sheet","many"] (L8 K L.ay):=by
 have T:=L.T;refine L.jy.F.dD (N:=["sheet","many","found","desk","weights","others","numbers"]) (λgA A outer s H vs Q E nd hr h=>?_);obtain⟨x,many,hs,c,u,rfl,S,B,hK,yp,hn,hm,m1,m2,k⟩:=h
 refine⟨_,(a7 (ai (i:=2) (ao (xA L) L.kL (a5 (pv 0) a9)))
  (a7 (ai (i:=3) (b8 gg (pv 2) ak (λ_ _=>rfl)))
  (a7 (ai (i:=4) (eP rfl (av ["sheet"] [0]) (av ["sheet"] [0]) (by decide) (aJ (b8 bq (aO (pv 0) rfl) (pv 3) (λ_ _=>rfl))) (λ_ _ _ _ _ _=>b5) (λ_ _ _ _ _ _=>(b8 (fY (K:=K) rfl) (lR (K:=K) rfl (pv 2) rfl) (pv 1) (λ_ _=>rfl)))))
  (a7 (eh (i:=5) rfl (av ["found"] [2]) nd rfl rfl (du rfl T.range (a5 (aB b7 (by rfl) T.len wa1 (a5 (pv 4) a9)) a9)) (λ_ _ _ _ _ _=>fO (aG Eg (pv 0) (b8 (IG (K:=K) rfl) (pv 1) ak (λ_ _=>rfl)) (aU _))) (λ_ _ _ _ _ _=>(pv 0)))
  (a7 (ai (i:=6) (ao (DQ L) L.tP (a5 (pv 4) (a5 (aL zY (cj (a5 (b8 gg (pv 2) ak (λ_ _=>rfl)) a9)) (cu eM (pv 5) fN (cn (aL pd (pv 1) ak)))) (a5 (pv 1) a9)))))
  (ag (az (dj (a5 (pv 3) (a5 (pv 6) (a5 (aL nH (aB (kj rfl) (by rfl) T.sum D7 (a5 (bY rfl (av ["weights"] [4]) (aJ (pv 6)) (λ_ _ _ _ _ _=>b5) (λ_ _ _ _ _ _=>(b8 (fY (K:=K) rfl) (pv 1) (pv 0) (λ_ _=>rfl)))) a9)) (pv 1)) a9))))))))))),?_⟩
 obtain⟨dx,ah,bw,cl,hx,rh,GP,rl⟩:=id S;obtain⟨T9,eb,hb⟩:=hE GP;cases eb;obtain⟨Nt,xs,ec,hc,zH⟩:=id rl;cases ec;have O:=B.w;have AR:=B.l;have xl:xs.length=u.length:=by rw[zH.len,Zf]
 have Wi:c≠[]:=λz=>yp (waC (by rw[<-O,z];rfl));refine⟨_,rfl,x,hs,c,u,rfl,S,by omega,λl hl q hq=>by rw[O];exact B.e l hl q hq,Wi,λh hh ht=>?_,λt h d i b q H1 R ht D=>?_⟩
 ·obtain⟨d,i,b,q,e1,e2,e3,e4⟩:=yZ B hK hh ht m1;exact⟨d,i,b,q,hh,ht,e1,e2,e3,e4⟩
 have hd:d < u.length:=(Zn.mp D.l).1;have hi:i < b.length:=(Zn.mp D.s).1;have LQ:b∈u:=ZA D.l;have JC:=hm b LQ;have U3:=w5 B D;have hT:=ia.of (K:=K) ht;refine⟨_,rfl,t,_,_,_,rfl,rfl,hT,rfl,?_⟩;obtain⟨v,Lf,rd⟩:=zH.at (i:=d) (d:=bI b) (by rw[Zi,D.l];rfl);obtain⟨a,rs,rfl,hS,NW⟩:=dH rd;have Ge:rs.length=b.length:=by rw[NW.1,Zf,Zf]
 refine⟨_,rfl,x,L.ay,dx,_,_,rfl,R _ _ hx,L.aw.cl,L.aw.cp,bD ah bw cl,_,rfl,cl,xs,_,_,rfl,rfl,R.seq (.inl hc),bx Lf,a,rfl,⟨_,R.seq hS⟩,λlc IQ=>?_⟩;refine n9 (prs:=b.map dM) (λ_=>true) (λq=>match q.2 with |.int e=>.int (c.getD e.toNat 0) |_=>.non) (aH K a (rs.map V.ref)) (NW.same R) IQ (ax (by omega)) (λH' s'=>(R.trans s').seq hS) (λq H7 Q' _ _ m=>m H7 (a8.refl _)) (λq H7 Q' hq _ s7 m=>?_) (λH7 s7 h7=>?_)
 ·obtain⟨U,Wj,rfl⟩:=Zq.mp hq;have C:U.2 < c.length:=by rw[O];exact B.e b LQ U Wj
  have Wk:wD (c.map V.int) (U.2:Int)=some (.int (c.getD U.2 0)):=bx (by rw[Zi,Zg C,Zj,Zg C];rfl)
  have q2:Q' (.int (c.getD U.2 0)) H7:=by
   have:=m H7 (a8.refl _);rwa[show (dM U).2=.int (U.2:Int) from rfl]at this
  have G:=R.trans s7;exact⟨_,rfl,x,L.ay,dx,_,_,rfl,G _ _ hx,L.aw.cl,L.aw.cH,cf ah bw cl,_,rfl,bw,_,_,_,rfl,rfl,G.seq hb,Wk,q2⟩
 have e7:((b.map dM).filter λ_=>true).map (λq=>match q.2 with |.int e=>V.int (c.getD e.toNat 0) |_=>.non)=(b.map λq=>c.getD q.2 0).map V.int:=by
  rw[wab.mpr (λ_ _=>rfl),Zw,Zw];rfl
 rw[e7]at h7;have G:=R.trans s7;have U4:=s7.Il hT;have g:(b.map λq=>c.getD q.2 0).length=b.length:=Zf _;refine⟨_,rfl,lc,_,rfl,.inl (aI.of h7),_,rfl,by omega,by rw[Zf,g];omega,λlo MU=>?_⟩;have en:((((b.map λq=>c.getD q.2 0).map V.int).length:Nat):Int).toNat=b.length:=by rw[Zf,g,ZS]
 rw[en];refine cY (λv=>!decide (v=.int (i:Int))) (λv=>v) (mS 0 b.length) MU (ax (by rw[Zf,wag];omega)) (λ_ _=>waP) (λy I Q' hy W m=>?_) (λy I Q' hy _ W m=>⟨_,rfl,m I (a8.refl _)⟩) (λI W h8=>?_)
 ·obtain⟨n,zI,rfl⟩:=Zq.mp hy;exact⟨_,rfl,_,rfl,t,_,_,_,rfl,rfl,W.Il U4,rfl,rfl,_,rfl,m I (a8.refl _)⟩
 have e8:(((ZY b.length).map λi:Nat=>V.int (0 + (i:Nat))).filter λv=>!decide (v=.int (i:Int)))=(nI (restOf b.length i)).map V.int:=by
  have e9:((ZY b.length).map λi:Nat=>V.int (0 + (i:Nat)))=(nI (ZY b.length)).map V.int:=by
   rw[<-z4];exact wac λn _=>by rw[wdA]
  rw[e9,w4 (f:=λn=>decide (n≠i)) λn=>?_]
  ·rfl
  ·by_cases z:n=i
   ·subst z;simp
   ·have:¬V.int (n:Int)=V.int (i:Int):=λy=>z (by have:=V.int.inj y;omega);rw[decide_eq_false this,decide_eq_true z];rfl
 rw[wcQ,e8]at h8;have U5:=G.trans W;have Wl:=W.Il U4;have U6:=W _ _ h7;refine⟨_,rfl,_,rfl,t,_,_,_,rfl,rfl,Wl,rfl,by show 1<=sizeLine;decide,λl1 QK=>?_⟩;have s9:=a8.upd (H:=I) (o:=.lst [V.int (i:Int)]) QK;have h9:(upd I l1 (.lst [V.int (i:Int)])) l1=some (.lst [V.int (i:Int)]):=a6;generalize upd I l1 (.lst [V.int (i:Int)])=H9 at s9 h9;have Wm:many - 1=(((many - 1).toNat:Nat):Int):=by omega
 refine⟨_,rfl,_,rfl,_,_,rfl,rfl,(((many - 1).toNat:Nat):Int),congrArg V.int Wm,lo,_,rfl,aI.of (s9 _ _ h8),λl2 Rw=>?_⟩;rw[BU,<-wc0,o7];have X:=a8.upd (H:=H9) (o:=.lst ((nI ((restOf b.length i).take (many - 1).toNat)).map V.int)) Rw;have Li:(upd H9 l2 (.lst ((nI ((restOf b.length i).take (many - 1).toNat)).map V.int))) l2=some (.lst ((nI ((restOf b.length i).take (many - 1).toNat)).map V.int)):=a6;generalize upd H9 l2 (.lst ((nI ((restOf b.length i).take (many - 1).toNat)).map V.int))=Y at X Li;have JE:=z6 (k:=(many - 1).toNat) hi (by omega);refine⟨l1,l2,_,_,rfl,rfl,X _ _ h9,Li,ax ?_,λl3 Ht=>?_⟩
 ·rw[Zf,bJ,ZG];show 1 + _<=_;omega
 rw[show [V.int (i:Int)]++(nI ((restOf b.length i).take (many - 1).toNat)).map V.int=(nI (numsOf b.length i (many - 1).toNat)).map V.int from rfl];have Lj:=a8.upd (H:=Y) (o:=.lst ((nI (numsOf b.length i (many - 1).toNat)).map V.int)) Ht;have NX:(upd Y l3 (.lst ((nI (numsOf b.length i (many - 1).toNat)).map V.int))) l3=some (.lst ((nI (numsOf b.length i (many - 1).toNat)).map V.int)):=a6;generalize upd Y l3 (.lst ((nI (numsOf b.length i (many - 1).toNat)).map V.int))=IU at Lj NX;have j:=(s9.trans X).trans Lj;refine⟨_,rfl,lc,l3,many,b.map λq=>c.getD q.2 0,numsOf b.length i (many - 1).toNat,rfl,aI.of (j _ _ U6),aI.of NX,m1,m2,by rw[JE];omega,λn hn=>by rw[g];exact xi hi n hn,λl i' j' JK IV Rx Wn hj hz p=>?_⟩;have aZ:=IE B m1 D Wn hj hz;have C:∀n∈((numsOf b.length i (many - 1).toNat).take j').drop i',n < b.length:=λn hn=>xi hi n (((wfX _ _).trans (waz _ _)).subset hn)
 have IZ:(((numsOf b.length i (many - 1).toNat).take j').drop i').length<=1000:=by
  rw[waV,ZG];omega
 generalize ((numsOf b.length i (many - 1).toNat).take j').drop i'=ns at *;have J:=U5.trans (j.trans IV);have Wo:=IV _ _ (j _ _ U6);refine⟨_,rfl,_,rfl,_,rfl,l,rfl,⟨_,aI.of p⟩,λls Wq=>?_⟩;refine cY (λ_=>true) (λv=>match v with |.int n=>.int ((b.map λq=>c.getD q.2 0).getD n.toNat 0) |_=>.non) (aH K l _) Wq (ax (by rw[Zf,bJ];omega)) (λH' s'=>aI.of (s' _ _ p)) (λy I Q' hy W m=>m I (a8.refl _)) (λy NY Q' hy _ r m=>?_) (λNY r JM=>?_)
 ·obtain⟨n,zI,rfl⟩:=pL hy;have M:n < (b.map λq=>c.getD q.2 0).length:=by rw[g];exact C n zI
  exact⟨_,rfl,_,rfl,lc,_,_,_,rfl,rfl,aI.of (r _ _ Wo),bx (v:=.int ((b.map λq=>c.getD q.2 0).getD n 0)) (by rw[Zi,Zg M,Zj,Zg M];rfl),m NY (a8.refl _)⟩
 have Wr:(((nI ns).map V.int).filter λ_=>true).map (λv=>match v with |.int n=>V.int ((b.map λq=>c.getD q.2 0).getD n.toNat 0) |_=>.non)=(ns.map λn=>(b.map λq=>c.getD q.2 0).getD n 0).map V.int:=by
  rw[wab.mpr (λ_ _=>rfl)];unfold nI;rw[Zw,Zw,Zw];rfl
 rw[Wr]at JM;refine⟨ls,_,rfl,aI.of JM,_,rfl,_,_,rfl,rfl,⟨by omega,by omega⟩,by show 3<=sizeLine;decide,λt' Z=>?_⟩;exact k t' l d ns _ _ (J.trans (r.trans (a8.upd Z))) (none_of (U5.trans j) Rx) (none_of (J.trans r) Z) a6 (a8.upd Z _ _ (r _ _ p)) aZ (by omega) IZ
theorem iG(L:Lk K mg):aM P w K mg base (yy P w) 7 L.eD L.eE ["band","many","wide"] (FW L.aE L.nA):=by
 have T:=L.T;refine L.bo.F.D9 (N:=["band","many","wide","most","weights","in_all"]) (λY A outer s H vs Q E nd hr h=>?_);obtain⟨x,many,n,g,O,R,ls,rfl,B,r,t,u,y,k,S⟩:=h
 refine⟨_,(a7 (bf wfY rfl (p9 rfl T.range (a5 ak (a5 (aL gf (rF (v:=.int 8) (by rfl) L.lJ.choose_spec ⟨_,rfl⟩) ak) a9))) (aA (i:=3)) (a7 (ai (i:=4) (ao (zo L) L.nv (a5 (pv 0) (a5 (pv 1) (a5 (pv 2) (a5 (pv 3) a9))))))
  (a7 (ai (i:=5) (aB (Ds rfl) (by rfl) T.sum D7 (a5 (BP (K:=K) rfl wew wcK weq vA (pv 4)) a9)))
  (a7 (bP (aG me (pv 5) (rF (v:=.int 40) (by rfl) L.fq.choose_spec ⟨_,rfl⟩) (aU _)) (ag (fz cx rfl L.tX L.xr rfl L.xq (a5 dZ a9))) aR)
  (ag (bP (aG me (pv 5) ak (aU _)) (ag (az (pv 4))) aR))))))
  (ag (fz cx rfl L.tX L.xr rfl L.xq (a5 dZ a9)))),?_⟩
 refine⟨_,_,rfl,rfl,1,9,rfl,by decide,?_⟩;refine dA (lo:=1) (n:=8) (λi σ q=>∃z v4 C:Option V,σ=[some (.ref x),some (.int many),some (.int (n:Int)),z,v4,C]/\a8 H q/\∀(m:Int) (h:Str->Int),1<=m->m < 1 + (i:Int)->gw g O R ls many n m h->(ls.map h).sum=0) ⟨none,none,none,rfl,a8.refl _,λm h U Z=>by omega⟩ ?_ ?_
 ·rintro i σ q hi ⟨z,v4,C,rfl,j,l⟩;refine⟨_,rfl,_,rfl,_,rfl,_,rfl,x,many,n,1 + (i:Int),g,O,R,ls,rfl,B.same j,r,t,u,y,by omega,λd f W s3 fd D G=>?_⟩;refine⟨_,rfl,.inr (.inr (.inl ⟨rfl,.inl ⟨_,D⟩⟩)),d,_,rfl,rfl,D,λv hv=>?_⟩;have I:=a8.upd (o:=kg v d) hv;have J:=I _ _ D;have p:(upd W v (kg v d)) v=some (kg v d):=a6;generalize upd W v (kg v d)=X at I J p;have a:=j.trans (s3.trans I);refine⟨v,d,_,ls.map f,rfl,p,J,B9 f ls,?_⟩
  by_cases b:(40:Int) < (ls.map f).sum
  ·refine⟨_,rfl,_,_,rfl,rfl,true,congrArg V.bl (decide_eq_true b),fu ⟨rfl,?_⟩⟩;exact S ⟨1 + (i:Int),by omega,by omega,l,.inr ⟨f,G,b⟩⟩ X a
  refine⟨_,rfl,_,_,rfl,rfl,false,congrArg V.bl (decide_eq_false b),cg ?_⟩
  by_cases M:(0:Int) < (ls.map f).sum
  ·refine⟨_,rfl,_,_,rfl,rfl,true,congrArg V.bl (decide_eq_true M),fu ⟨_,rfl,?_⟩⟩;exact k d f X a (none_of j fd) J ⟨⟨1 + (i:Int),by omega,by omega,G,l⟩,M,by omega⟩
  ·refine⟨_,rfl,_,_,rfl,rfl,false,congrArg V.bl (decide_eq_false M),cg ?_⟩;refine⟨_,_,_,rfl,a,λm h U Z c=>?_⟩
   by_cases e:m=1 + (i:Int)
   ·subst e;have:=w6 G c;have:=sO c.nn;omega
   ·exact l m h U (by omega) c
 ·rintro σ q ⟨z,v4,C,rfl,j,l⟩;exact⟨rfl,S ⟨9,by decide,by decide,l,.inl rfl⟩ q j⟩
theorem oX(L:Lk K mg):aM P w K mg base cW 6 L.iW L.iX ["band","many","wide","weights"] (FX L.aE):=by
 have T:=L.T;refine L.fH.F.dD (N:=["band","many","wide","weights","sheet","lots","homes","closed","place"]) (λgA A outer s H vs Q E nd hr h=>?_);obtain⟨x,d,many,n,f,g,ws,ss,ls,rfl,B,JB,NZ,Cm,Ck,zJ,E3,hd,D,Y,U7,k⟩:=h;have hu:=fo hr
 refine⟨_,(a7 (ai (i:=4) (ao (lM L) L.fR (a5 (pv 0) (a5 (pv 1) (a5 (pv 2) (a5 (pv 3) a9))))))
  (a7 (eh (i:=5) rfl (av ["sheet"] [4]) nd rfl rfl (du rfl T.range (a5 (aB b7 (by rfl) T.len wa1 (a5 (aO (pv 4) rfl) a9)) a9)) (λ_ _ _ _ _ _=>b5) (λ_ _ _ _ _ _=>(ao (ro L) L.hX (a5 (pv 1) (a5 (pv 0) a9)))))
  (a7 (eh (i:=6) rfl (av ["sheet"] [4]) nd rfl rfl (aJ (Iz rfl (by rfl) T.min (by rfl) T.len (a5 (pv 5) a9))) (λ_ _ _ _ _ _=>b5) (λ_ _ _ _ _ _=>(b8 (fY (K:=K) rfl) (lR (K:=K) rfl (pv 1) rfl) (pv 0) (λ_ _=>rfl))))
  (a7 (ai (i:=7) dS)
  (a7 (bf ZM rfl (yN (pv 3)) (aA (i:=8)) (ag (dW hu (pv 7) (pv 8) (y6 (aG vn (pv 8) (pv 6) rfl) (d7 hu (pv 3) (pv 8) (λ_ _=>rfl)) ak) rfl)))
  (ag (az (pv 7)))))))),?_⟩
 have nd:ls.Nodup:=B.nd.sublist B.lv.sub;have AR:ls.length<=900:=ZE B.lv.sub.length_le zJ;refine⟨_,rfl,_,rfl,_,rfl,_,rfl,x,d,many,n,c9 f ls,f,g,ws,ss,ls,rfl,B,Cm,Ck,zJ,E3,.inl hd,jn f ls,λy H1 s1 S1=>?_⟩;have S:=S1.same (bj _ _);have hB:=ip.first (g:=g) (ws:=ws) (ss:=ss) (n:=n) (many:=many) D Y;have TZ:(aq ls f).length<=ls.length:=wat _ _;have I:=hB.l;have Yn:(1:Int)<=many:=by have:=E3.a;omega
 generalize U8:aq ls f=m at S hB TZ I;generalize Ry:bA g ws ss ls n m=G at S hB I
 have Rz:m≠[]:=λz=>by
  have h1:=vV D;rw[U8,z]at h1;have:(0:Int)=(ls.map f).sum:=h1;omega
 have LY:0 < m.length:=wcy.mpr Rz
 have RA:∀i,i < G.length->G.getD i []≠[]:=λi hi z=>by
  have U:G[i]?=some (G.getD i []):=by rw[Zj,Zg hi];rfl
  have h1:=hB.b i _ U;rw[z]at h1;have h2:many * (m.map f).getD i 0<=0:=h1;have hw:=hB.w;have h3:=hB.p _ (getD_mem (ws:=m.map f) (i:=i) (by omega));have:=Int.mul_pos (show 0 < many by omega) (show 0 < (m.map f).getD i 0 by omega);omega
 obtain⟨dx,ah,bw,cl,hx,rh,GP,rl⟩:=id S;have hh:=x9 rh;refine⟨_,rfl,y,L.ay,dx,_,_,rfl,hx,L.aw.cl,L.aw.gE,eC ah bw cl,ah,_,rfl,.inl (.inl hh),_,rfl,by omega,by rw[Zf];omega,λll RB=>?_⟩;have en:(((m.map V.str).length:Nat):Int).toNat=m.length:=by rw[Zf,ZS]
 rw[en];refine yS (λi v H'=>∃q r,v=.ref q/\q≠ll/\H' q=some (.lst ((nI r).map V.int))/\Reach G r) (λi v Ha Hb ys h hl kp=>?_) (mS 0 m.length) RB (ax (by rw[Zf,wag];omega)) (λ_ _=>waP) (λi v H3 ys Q' hv s3 Ht qq=>?_) (λys H3 s3 h3 JF hR=>?_)
 ·obtain⟨q,r,rfl,U,Ws,W⟩:=h;exact⟨q,r,rfl,U,kp _ _ Ws U,W⟩
 ·have hi:i < m.length:=by have:=(Zn.mp hv).1;rwa[Zf,wag]at this
  rw[Zi,List.getElem?_range hi]at hv
  have hv:v=.int (i:Int):=by
   rw[<-Zx hv];show V.int (0 + (i:Int))=_;rw[wdA]
  subst hv;refine⟨_,rfl,_,rfl,y,i,m,_,G,rfl,S.same s3,by omega,λl hl q U=>by rw[I];exact hB.e l hl q U,RA i (by omega),by omega,λl r H' s' fl NK t=>?_⟩;exact qq _ H' s' ⟨l,r,rfl,(λz=>by rw[z,Ht]at fl;cases fl),NK,t⟩
 obtain⟨ps,rfl,P5⟩:=IH (ys:=ys) (R:=λq=>∃r,H3 q=some (.lst ((nI r).map V.int))/\Reach G r) λv hv=>by
  obtain⟨i,hi,e⟩:=wb4 hv;obtain⟨q,r,e1,_,e2,e3⟩:=hR i v (by rw[Zg hi,e]);exact⟨q,e1,r,e2,e3⟩
 have LK:ps≠[]:=λz=>by
  rw[Zf,Zf,wag,z]at JF;have:0=m.length:=JF;omega
 refine⟨_,rfl,ll,ps,rfl,aI.of h3,LK,λq U=>by obtain⟨r,e,_⟩:=P5 q U;exact⟨_,aI.of e⟩,λq U=>?_⟩;obtain⟨r,W,t⟩:=P5 q U;have Ge:=ku t.nd t.lt;refine⟨q,rfl,⟨_,aI.of W⟩,λlh LR=>?_⟩;refine cY (λ_=>true) (λv=>match v with |.int d=>.str (m.getD d.toNat "") |_=>.non) (aH K q _) LR (ax (by rw[Zf,bJ];omega)) (λH' s'=>aI.of (s' _ _ W)) (λv H8 Q' hy s8 qq=>qq H8 (a8.refl _)) (λv H4 Q' hy _ s4 qq=>?_) (λH4 s4 h4=>?_)
 ·obtain⟨n',zI,rfl⟩:=pL hy;have Z:n' < m.length:=by rw[<-I];exact t.lt n' zI
  have X:=s3.trans s4;exact⟨_,rfl,y,L.ay,dx,_,_,rfl,X _ _ hx,L.aw.cl,L.aw.gE,eC ah bw cl,_,rfl,ah,_,_,_,rfl,rfl,X.seq (.inl hh),bx (v:=.str (m.getD n' "")) (by rw[Zi,Zg Z,Zj,Zg Z];rfl),qq H4 (a8.refl _)⟩
 have e4:(((nI r).map V.int).filter λ_=>true).map (λv=>match v with |.int d=>V.str (m.getD d.toNat "") |_=>.non)=(r.map λd=>m.getD d "").map V.str:=by
  rw[wab.mpr (λ_ _=>rfl)];unfold nI;rw[Zw,Zw,Zw];rfl
 rw[e4]at h4;have X:=s3.trans s4;refine λdl C=>?_;have M:=s1.trans X;have LW:d≠dl:=af (M _ _ hd) C;have JI:(upd H4 dl (.dK [])) d=some (.dK (bc (c9 f ls))):=a8.upd C _ _ (M _ _ hd);refine⟨_,rfl,d,_,rfl,.inl JI,λo H5 h5 Ln=>?_⟩;have U1:H5 dl=some (.dK []):=by rw[Ln dl (waB LW),a6]
 have Wt:lh≠d:=λz=>by rw[z]at h4;rw[M _ _ hd]at h4;cases h4
 have Wu:H5 lh=some (.lst ((r.map λd=>m.getD d "").map V.str)):=by rw[Ln lh Wt];exact a8.upd C _ _ h4
 have k5:∀c O,H c=some O->c≠d->H5 c=some O:=λc O e hc=>by rw[Ln c hc];exact a8.upd C _ _ (M _ _ e)
 have RC:H dl=none:=none_of M C;have RD:dl≠lh:=λz=>by rw[z]at C;rw[h4]at C;cases C
 have J:=iR d o (bc (c9 f ls));rw[show ((bc (c9 f ls)).map λkv=>kV kv.1)=ls.map V.str by unfold bc c9;rw[Zw,Zw];rfl]at J;refine mU J (λj σ H6=>∃(v8:Option V),σ=[some (.ref x),some (.int many),some (.int (n:Int)),some (.ref d),some (.ref y),some (.ref ll),some (.ref lh),some (.ref dl),v8]/\H6 dl=some (.dK (bc (c9 (cB (r.map λd=>m.getD d "") f) (ls.take j))))/\∀c O,H5 c=some O->c≠dl->H6 c=some O) ⟨none,rfl,U1,λc O e _=>e⟩ (λj σ H6 _ ⟨_,_,_,kk⟩=>kk _ _ h5 LW) ?_ ?_
 ·rintro j v σ H6 hy ⟨v8,rfl,h6,kk⟩;obtain⟨p,LX,rfl,hj,Bh,mR⟩:=g7 hy;have Gm:p∉(c9 (cB (r.map λd=>m.getD d "") f) (ls.take j)).map (·.1):=by rw[pF];exact gX nd LX
  have put:∀u,u=cB (r.map λd=>m.getD d "") f p->putK (bc (c9 (cB (r.map λd=>m.getD d "") f) (ls.take j))) (ZQ p:Key) (.int u)=bc (c9 (cB (r.map λd=>m.getD d "") f) (ls.take (j + 1))):=λu Wv=>by
   rw[pE Gm,mR,Wv];unfold c9;rw[ZB];rfl
  have hlen:(bc (c9 (cB (r.map λd=>m.getD d "") f) (ls.take j))).length < sizeLine:=by rw[iS];unfold c9;rw[Zf,ZG];exact bB (by omega)
  have g6:=dQ.f (k:=(ZQ p:Key)) (kk _ _ h5 LW);rw[dF,jn f ls p Bh]at g6;refine⟨_,rfl,_,rfl,lh,_,rfl,.inl (aI.of (kk _ _ Wu (waB RD))),rfl,ez _,decide (p∈r.map λd=>m.getD d ""),congrArg V.bl (iN p _),?_⟩
  by_cases hp:p∈r.map λd=>m.getD d ""
  ·rw[decide_eq_true hp];refine fu ⟨_,rfl,_,rfl,d,_,rfl,g6,_,rfl,_,rfl,dl,_,rfl,jd.k (k:=ZQ p) h6 hlen,?_⟩;exact⟨_,rfl,by rw[a6,put (f p) (by unfold cB;rw[if_pos hp])],λc O e hc=>by rw[ae hc];exact kk c O e hc⟩
  ·rw[decide_eq_false hp];refine cg ⟨_,rfl,_,rfl,dl,_,rfl,jd.k (k:=ZQ p) h6 hlen,?_⟩;exact⟨_,rfl,by rw[a6,put 0 (by unfold cB;rw[if_neg hp])],λc O e hc=>by rw[ae hc];exact kk c O e hc⟩
 rintro σ H6 ⟨v8,rfl,h6,kk⟩;rw[Zf,ZU]at h6;subst U8;subst Ry;exact⟨_,rfl,k dl _ H6 (λc o e hc=>kk _ _ (k5 c o e hc) (af e RC)) RC h6 (tD D) (DB D Y t) (DA D (λd hd=>by rw[<-I];exact t.lt d hd) t.ne) (z0 D) (Dz D)⟩
theorem nC(L:Lk K mg):aM P w K mg base cW 1 L.dg L.fh ["self","length","rows"] (Rf L.bW "length" "rows" JL JL):=by
 refine L.oS.dD (N:=["self","length","rows"]) (λn A outer s H o Q E nd p h=>?_);obtain⟨x,u,v,rfl,⟨i,rfl,a⟩,⟨j,rfl,b⟩,l,k⟩:=h
 refine⟨_,(a7 (bp (F0 rfl L.qX L.XB (a5 (pv 0) (a5 (HL (Ak (F4 (pv 1) (Ak (F4 (pv 2) (Ak Ku)))))) a9))))
  (a7 (HJ (CB:=L.cN) (pv 0) (pv 1) rfl)
  (ag (Gg (CB:=L.cN) (pv 0) (pv 2) rfl)))),?_⟩
 have f:=wdB a;have m:=wdB b;refine⟨_,rfl,ax ?_,_,rfl,.inl ⟨i,rfl,a,ax ?_,ax ?_,_,rfl,.inl ⟨j,rfl,b,ax ?_,ax ?_,ax ?_,x,L.bW,_,_,rfl,l,L.gb,?_⟩⟩⟩
 ·exact ZE (show _<=1000 by decide+kernel) (by decide)
 ·exact ZE (fj (show _<=1000 by decide+kernel) f) (by decide)
 ·exact ZE (fj (fj (show _<=1000 by decide+kernel) f) (show _<=1000 by decide+kernel)) (by decide)
 ·exact ZE (fj (fj (fj (show _<=1000 by decide+kernel) f) (show _<=1000 by decide+kernel)) m) (by decide)
 ·exact ZE (fj (fj (fj (fj (show _<=1000 by decide+kernel) f) (show _<=1000 by decide+kernel)) m) (show _<=1000 by decide+kernel)) (by decide)
 ·exact ZE (fj (fj (fj (fj (show _<=1000 by decide+kernel) f) (show _<=1000 by decide+kernel)) m) (show _<=1000 by decide+kernel)) (by decide)
 refine⟨_,rfl,_,rfl,x,L.bW,_,rfl,l,L.gb,L.jW,λd hd=>?_⟩;have g:d≠x:=λz=>by rw[z,l]at hd;cases hd
 refine⟨_,rfl,_,rfl,x,L.bW,_,d,[("length",.int i)],rfl,a6,by rw[ae g,a6],by show 1<=50;decide,L.gb,L.mK,by rw[wcn,show (("rows":Str) == "length")=false by decide+kernel];rfl,?_⟩
 have e:upd (upd (upd H d (.xd [(("length":Str),V.int i)])) x (XD x L.bW d)) d (.xd ([(("length":Str),V.int i)]++[(("rows":Str),V.int j)]))=upd (upd H d (.xd [(("length":Str),V.int i),(("rows":Str),V.int j)])) x (XD x L.bW d):=by
  funext c
  by_cases a:c=d
  ·subst a;rw[a6,ae g,a6];rfl
  ·rw[ae a]
   by_cases b:c=x
   ·subst b;rw[a6,a6]
   ·rw[ae b,ae b,ae a,ae a]
 rw[e];exact k d hd
theorem mc(L:Lk K mg):aM P w K mg base (yy P w) 8 L.hU L.hV ["band","many","wide"] (IL L.aE L.bW):=by
 refine L.cm.F.D9 (N:=["band","many","wide","length"]) (λG A outer s H V Q E nd I h=>?_);obtain⟨x,many,n,g,p,q,ls,rfl,B,l,m,f,k,J⟩:=h
 refine⟨_,(a7 (ai (i:=3) (ao (DP L) L.tO (a5 (pv 0) (a5 (pv 1) (a5 (pv 2) (a5 (rF (v:=.int 24) (by rfl) L.lI.choose_spec ⟨_,rfl⟩) a9))))))
  (ag (bP (aG wA (pv 3) iA (aU _)) (ag (F1 cx rfl L.gb L.wq L.wt (nC L) (I.mono (by decide)) L.oU rfl L.tW (a5 (pv 3) (a5 (ao (Gn L) L.xn (a5 (pv 0) (a5 (aL j8 (pv 3) (pv 2)) a9))) a9)))) aR))),?_⟩
 refine⟨_,rfl,_,rfl,_,rfl,x,many,(n:Int),24,g,p,q,ls,rfl,B,l,m,f,by decide,by decide,λv M o r=>?_⟩;rw[ZS]at r;have t:=r
 cases r with
 |none a=>exact⟨_,rfl,rfl,false,rfl,cg (k (λj z O=>a j z O) M o)⟩
 |some j a b c d=>
  refine⟨_,rfl,rfl,true,rfl,fu ?_⟩
  have R:(j:Int) * (n:Int)<=100000:=by
   have z:(j:Int) * (n:Int)<=24 * 6:=Int.mul_le_mul b f.d (by omega) (by omega);omega
  have u:0<=(j:Int) * (n:Int):=Int.mul_nonneg (by omega) (by omega);have S:((j:Int) * (n:Int)).toNat=j * n:=by rw[<-wdz,ZS]
  refine⟨_,rfl,_,rfl,_,rfl,_,rfl,_,_,rfl,rfl,?_,x,(j:Int) * (n:Int),g,p,q,ls,rfl,B.same o,l,m,u,R,λW C=>?_⟩
  ·exact .inl ⟨by omega,by omega⟩
  rw[S];refine⟨by show 2<=sizeLine;decide,λe T=>⟨e,_,_,rfl,⟨_,rfl,?_⟩,⟨_,rfl,?_⟩,a6,λy hd=>⟨rfl,.inr ⟨y,a6,?_⟩⟩⟩⟩
  ·have:=Nat.log2_le_self ((j:Nat):Int).natAbs;omega
  ·exact Be f b c
  obtain⟨X,D,U⟩:=Ap (o2:=.xd [("length",.int (j:Nat)),("rows",.int (gB g p q (j * n) ""))]) (o3:=XD e L.bW y) T hd;rw[U];exact J j y _ t ((o.trans C).trans (a8.upd D)) (none_of (o.trans C) D) a6
theorem k6(L:Lk K mg):aM P w K mg base cW 4 L.kH L.kI ["sheet"] (G1 K L.ay):=by
 refine L.eW.F.dD (N:=["sheet"]) (λC A outer s H vs Q E nd D h=>?_);obtain⟨x,G,I,l,rfl,S,J,M,O,R,k⟩:=h;refine⟨_,(ag (az (jb L.oR (fi L) (D.mono (by decide)) rfl L.rR L.cI.b .nil cG (a5 (aO (pv 0) rfl) (a5 (aO (pv 0) rfl) (a5 (aO (pv 0) rfl) a9)))))),?_⟩;obtain⟨m,g,i,cl,n,T,p,U⟩:=id S;refine⟨_,rfl,x,L.ay,m,_,_,rfl,n,L.aw.cl,L.aw.gE,eC g i cl,_,rfl,x,L.ay,m,_,_,rfl,n,L.aw.cl,L.aw.cH,cf g i cl,_,rfl,x,L.ay,m,_,_,rfl,n,L.aw.cl,L.aw.cp,bD g i cl,?_⟩;intro y j q t W;have sm:a8 H (upd (upd H j (.own y)) y (.ins L.ay j [])):=cZ q t;refine⟨y,j,.ref g,.ref i,.ref cl,G,I,l,rfl,a6,bh.same sm _ _ T,bh.same sm _ _ p,bh.same sm _ _ U,J,M,O,R,λX Y Z a d q1 q2 q3 f=>⟨rfl,?_⟩⟩;have u:a8 H a:=λc o e=>f _ _ (sm _ _ e) (af e q);have z:=λ(B:jM) (v:V) (r:bh K (aF _ a) B v)=>bh.same (dG sm) B v r;exact k y a u ⟨j,X,Y,Z,bH q d,z _ _ q1,z _ _ q2,z _ _ q3⟩
theorem pW(L:Lk K mg):aM P w K mg base cW 5 L.gi L.jO ["self","weights","splits","kept","last"] (IK K L.aQ L.ay):=by
 have T:=L.T;refine L.gn.F.dD (N:=["self","weights","splits","kept","last"]) (λgA A outer s H vs Q E nd hr h=>?_);obtain⟨x,f,d,z,u,v,m,p,X,hs,ws,Y,rfl,D,hd,Ww,Wx,S,n1,n2,n3,n4,n5,k⟩:=h
 refine⟨_,(a7 (cO (pv 0) (bT AD (by rfl) T.dict N1 (a5 (pv 1) a9)) rfl)
  (a7 (cO (pv 0) (FK rfl (av [] []) (av [] []) (av [] []) ⟨by decide,by decide,by decide⟩ (aJ (pv 2)) (λ_ _ _ _ _ _=>b5) (λ_ _ _ _ _ _=>(dj (a5 (pv 0) (a5 (bT (uL (K:=K) rfl) (by rfl) T.list jK (a5 (pv 1) a9)) (a5 (pv 2) a9)))))) rfl)
  (a7 (cO (pv 0) (bT dC (by rfl) T.list jK (a5 (pv 3) a9)) rfl)
  (ag (cO (pv 0) (ao (k6 L) L.eW (a5 (pv 4) a9)) rfl))))),?_⟩
 obtain⟨c,rfl,hc⟩:=hE Wx;obtain⟨b,xs,rfl,hb,Z⟩:=Ww;have xl:xs.length=p.length:=by rw[Z.len,Zf]
 have G:∀{d:Addr} {ys:List V} {H':Hp},aI K H d ys->(∀b o,H b=some o->b≠x->H' b=some o)->aI K H' d ys:=λhS kp=>(fP kp).seq (wX D hS);refine⟨_,rfl,d,_,rfl,hd,λa I=>?_⟩;have B:x≠a:=af D I;refine⟨_,rfl,x,L.aQ,f,[],rfl,by rw[ae B];exact D,L.cD.cl,L.cD.cH,(show 0 < 1000 by decide),?_⟩;rw[Nr];have k1:∀d o,H d=some o->d≠x->(upd (upd H a (.dK (bc m))) x (.ins L.aQ f (qw a))) d=some o:=λd o e hd=>by rw[ae hd];exact a8.upd I _ _ e
 have x1:(upd (upd H a (.dK (bc m))) x (.ins L.aQ f (qw a))) x=some (.ins L.aQ f (qw a)):=a6;have a1:(upd (upd H a (.dK (bc m))) x (.ins L.aQ f (qw a))) a=some (.dK (bc m)):=by rw[ae B.symm,a6]
 generalize upd (upd H a (.dK (bc m))) x (.ins L.aQ f (qw a))=H1 at k1 x1 a1 ⊢;have RE:=b6.same (fP k1) _ _ (b6.off D _ _ Z);have U9:aI K H1 b xs:=G (.inl hb) k1;refine⟨_,rfl,b,rfl,⟨_,U9⟩,λg FC=>?_⟩;refine FY (K:=K) (p.map xj) (aH K b xs) FC (ax (by omega)) (by rw[Zf,xl]) (λH' s'=>s'.seq U9) (λi v dd n hv l U=>?_) (λn U r3=>?_)
 ·obtain⟨d',e',r⟩:=RE.get i v hv;rw[l]at e';cases e';rw[Zi]at l
  cases e:p[i]? with
  |none=>rw[e]at l;cases l
  |some sp=>
   rw[e]at l;cases l;obtain⟨r0,ys,rfl,hT,h2⟩:=r;obtain⟨v1,Yo,rfl,⟨rfl,_⟩,h3⟩:=h2;obtain⟨v2,Wy,rfl,r2,h4⟩:=h3;obtain⟨v3,Wz,rfl,⟨rfl,_⟩,h5⟩:=h4;cases(show Wz=[] from h5);obtain⟨l2,rfl,Rw⟩:=hE r2;refine⟨r0,_,_,_,rfl,ia.of (U _ _ hT),λQ' qq=>?_⟩;refine⟨_,rfl,_,rfl,l2,_,rfl,.inl (U.seq Rw),λl3 J=>?_⟩;refine⟨_,rfl,by show 3<=sizeLine;decide,λt ht=>?_⟩;have s4:a8 (upd n l3 (.lst ((nI sp.2.1).map V.int))) (upd (upd n l3 (.lst ((nI sp.2.1).map V.int))) t (.tup [.int (sp.1:Int),.ref l3,.int sp.2.2])):=a8.upd ht;refine qq _ _ ((a8.upd J).trans s4) ?_;exact Ca (d:=sp.1) (ns:=sp.2.1) (w:=sp.2.2) (bH (none_of (a8.upd J) ht) a6) (bH J (s4 _ _ a6))
 have Yp:x≠g:=af x1 FC;have x3:=U _ _ x1;have a3:=U _ _ a1;refine⟨_,rfl,x,L.aQ,f,qw a,rfl,x3,L.cD.cl,L.cD.z9,(show 1 < 1000 by decide),?_⟩;rw[Jz];have k3:∀d o,H d=some o->d≠x->(upd n x (.ins L.aQ f (o9 a g))) d=some o:=λd o e hd=>by rw[ae hd];exact U _ _ (k1 _ _ e hd)
 have x4:(upd n x (.ins L.aQ f (o9 a g))) x=some (.ins L.aQ f (o9 a g)):=a6;have a4:(upd n x (.ins L.aQ f (o9 a g))) a=some (.dK (bc m)):=by rw[ae B.symm];exact a3
 have old:a8 (aF H1 n) (aF H n):=λd o e=>by
  unfold aF at e ⊢
  cases q:H d with
  |none=>
   cases M:H1 d with
   |none=>rw[M]at e;exact e
   |some z=>rw[M]at e;cases e
  |some z=>
   by_cases hd:d=x
   ·rw[hd,x1]at e;cases e
   ·rw[k1 _ _ q hd]at e;cases e
 have r4:bh K (aF H (upd n x (.ins L.aQ f (o9 a g)))) (.lst (p.map xj)) (.ref g):=bh.same (old.trans (bz D λd o e hd=>by rw[ae hd];exact e)) _ _ r3;generalize upd n x (.ins L.aQ f (o9 a g))=W at k3 x4 a4 r4 ⊢;refine⟨_,rfl,c,_,rfl,.inl (G hc k3),λj O=>?_⟩;have C:x≠j:=af x4 O
 have WC:H j=none:=by
  cases q:H j with
  |none=>rfl
  |some o=>have:=k3 _ _ q C.symm;rw[O]at this;cases this
 refine⟨_,rfl,x,L.aQ,f,o9 a g,rfl,by rw[ae C];exact x4,L.cD.cl,L.cD.G4,(show 2 < 1000 by decide),?_⟩;rw[FZ];have s5:∀d o,W d=some o->d≠x->(upd (upd W j (.lst ((nI X).map V.int))) x (.ins L.aQ f (qx a g j))) d=some o:=λd o e hd=>by rw[ae hd];exact a8.upd O _ _ e
 have x5:(upd (upd W j (.lst ((nI X).map V.int))) x (.ins L.aQ f (qx a g j))) x=some (.ins L.aQ f (qx a g j)):=a6;have c5:(upd (upd W j (.lst ((nI X).map V.int))) x (.ins L.aQ f (qx a g j))) j=some (.lst ((nI X).map V.int)):=by rw[ae C.symm,a6]
 generalize upd (upd W j (.lst ((nI X).map V.int))) x (.ins L.aQ f (qx a g j))=H5 at s5 x5 c5 ⊢;have k5:∀d o,H d=some o->d≠x->H5 d=some o:=λd o e hd=>s5 _ _ (k3 _ _ e hd) hd
 have S5:bM K L.ay H5 z hs ws Y:=by
  obtain⟨dz,ah,bw,cl,hz,rh,GP,rl⟩:=id S;have WD:z≠x:=λq=>by rw[q,D]at hz;have:=Zx hz;injection this with _ _ M;cases M
  have go:=λ(dd:jM) (v:V) (r:bh K H dd v)=>bh.same (fP k5) dd v (bh.off D dd v r);exact⟨dz,ah,bw,cl,k5 _ _ hz WD,go _ _ rh,go _ _ GP,go _ _ rl⟩
 refine⟨_,rfl,z,hs,ws,Y,rfl,S5,n1,n2,n3,n4,λy R s6 S6=>?_⟩;refine⟨_,rfl,x,L.aQ,f,qx a g j,rfl,s6 _ _ x5,L.cD.cl,L.cD.G5,(show 3 < 1000 by decide),?_⟩;rw[C8];have up:∀{Ha:Hp},(∀d o,Ha d=some o->d≠x->(upd R x (.ins L.aQ f (tE a g j y))) d=some o)->a8 (aF H Ha) (aF H (upd R x (.ins L.aQ f (tE a g j y)))):=λh=>bz D h;have u6:∀d o,R d=some o->d≠x->(upd R x (.ins L.aQ f (tE a g j y))) d=some o:=λd o e hd=>by rw[ae hd];exact e
 have u4:∀d o,W d=some o->d≠x->(upd R x (.ins L.aQ f (tE a g j y))) d=some o:=λd o e hd=>u6 _ _ (s6 _ _ (s5 _ _ e hd)) hd
 have RF:a8 (aF H5 R) (aF H R):=λd o e=>by
  unfold aF at e ⊢
  cases q:H d with
  |none=>
   cases M:H5 d with
   |none=>rw[M]at e;exact e
   |some z=>rw[M]at e;cases e
  |some z=>
   by_cases hd:d=x
   ·rw[hd,x5]at e;cases e
   ·rw[k5 _ _ q hd]at e;cases e
 exact k a g j y _ a6 I (u4 _ _ a4 B.symm) (bh.same (up u4) _ _ r4) (iU (bH WC (u6 _ _ (s6 _ _ c5) C.symm))) (S6.same (RF.trans (up u6))) λd o e hd=>u6 _ _ (s6 _ _ (k5 _ _ e hd)) hd
theorem uT(L:Lk K mg):aM P w K mg base cW 5 L.oA L.oB ["self"] (DI K L.aQ L.ay):=by
 refine L.gH.F.dD (N:=["self"]) (λe A outer s H v Q E nd B h=>?_);obtain⟨x,m,f,C,g,i,d,rfl,⟨j,a,b,c,z,l,ha,D,hc,S⟩,n,o,p,q,k⟩:=h;refine⟨_,(ag (az (ao (k6 L) L.eW (a5 (aO (pv 0) rfl) a9)))),?_⟩;exact⟨_,rfl,x,L.aQ,j,_,_,rfl,l,L.cD.cl,L.cD.G5,Ba a b c z,z,g,i,d,rfl,S,n,o,p,q,λy r t u=>k y r t u⟩
theorem Bk(L:Lk K mg):aM P w K mg base (yy P w) 9 L.wj L.wk ["band","many","wide"] (G2 K L.aE L.aQ L.ay L.bW L.nA):=by
 have T:=L.T;refine L.iY.F.D9 (N:=["band","many","wide","weights","sheet","splits","kept","part"]) (λgA A outer s H vs Q E nd hr h=>?_);obtain⟨x,many,n,g,U,W,ls,rfl,B,JB,NZ,Cm,J,X,D,k,kS,kO⟩:=h
 refine⟨_,(a7 (bp (ao (fV L) L.dI (a5 (pv 0) (a5 (pv 1) (a5 (pv 2) a9)))))
  (a7 (bp (ja (mc L) (hr.mono (by decide)) rfl L.cm.g L.cm.F.kp L.cm.b .nil (vH cx) (a5 (pv 0) (a5 (pv 1) (a5 (pv 2) a9)))))
  (a7 (ai (i:=3) (ao (oX L) L.fH (a5 (pv 0) (a5 (pv 1) (a5 (pv 2) (a5 (ja (iG L) (hr.mono (by decide)) rfl L.bo.g L.bo.F.kp L.bo.b .nil (vH cx) (a5 (pv 0) (a5 (pv 1) (a5 (pv 2) a9)))) a9))))))
  (a7 (ai (i:=4) (ao (lM L) L.fR (a5 (pv 0) (a5 (pv 1) (a5 (pv 2) (a5 (pv 3) a9))))))
  (a7 (ai (i:=5) (cj a9))
  (a7 (ai (i:=6) (ao (mN L) L.gG (a5 (pv 4) (a5 (pv 1) a9))))
  (a7 (iJ wfY (aG vg (aB b7 (by rfl) T.len wa1 (a5 (pv 6) a9)) ak (aU _)) (a7 (ai (i:=7) (ao (uS L) L.jy (a5 (pv 4) (a5 (pv 1) a9))))
  (a7 (ai (i:=4) (ja (Gb L) (hr.mono (by decide)) rfl L.oz.g L.oz.F.kp L.oz.b .nil (vH cx) (a5 (pv 4) (a5 (pv 1) (a5 (b8 gg (pv 7) ak (λ_ _=>rfl)) (a5 (b8 gg (pv 7) ak (λ_ _=>rfl)) (a5 (b8 gg (pv 7) ak (λ_ _=>rfl)) a9)))))))
  (a7 (bp (iL wa6 wae wai cE (pv 5) (a5 (pv 7) a9)))
  (ag (ai (i:=6) (ao (mN L) L.gG (a5 (pv 4) (a5 (pv 1) a9)))))))))
  (ag (az (jb L.Ch (pW L) (hr.mono (by decide)) rfl L.G9 L.gn.b .nil cG (a5 (pv 3) (a5 (pv 5) (a5 (pv 6) (a5 (pv 4) a9)))))))))))))),?_⟩
 obtain⟨ra,rb,rc,rd,re⟩:=id D
 have GQ:g.length ^ n<=64:=by
  rw[ZS]at re;have:((g.length ^ n:Nat):Int)<=64:=by rw[wcD];exact re
  omega
 have nd:ls.Nodup:=B.nd.sublist B.lv.sub;refine⟨_,rfl,_,rfl,_,rfl,x,many,n,g,U,W,ls,rfl,B,J,D,?_⟩;refine⟨_,rfl,_,rfl,_,rfl,x,many,n,g,U,W,ls,rfl,B,J,X,D,λM0 H1 s1=>?_,kS⟩;refine⟨_,rfl,_,rfl,_,rfl,_,rfl,_,rfl,_,rfl,x,many,n,g,U,W,ls,rfl,B.same s1,Cm,J,X,D,λd f0 H2 s2 fd h2 hL=>?_,λWG H2 s2=>kO M0 WG H2 (s1.trans s2)⟩;obtain⟨most,VY,W6,hG,_⟩:=id hL.gr;refine⟨x,d,many,n,f0,g,U,W,ls,rfl,B.same (s1.trans s2),JB,NZ,Cm,J,X,D,h2,hG.nn,hG.fit,hL.ps,λdl f H3 k3 RC h3 Ua Dt P5 hle RG=>?_⟩;have s3:a8 H H3:=λc o e=>k3 c o (s2 _ _ (s1 _ _ e)) (af (s1 _ _ e) fd);have Y:(ls.map f).sum<=40:=wcf RG hL.le;refine⟨_,rfl,_,rfl,_,rfl,_,rfl,x,dl,many,n,c9 f ls,f,g,U,W,ls,rfl,B.same s3,Cm,J,X,D,.inl h3,jn f ls,λy H4 s4 S4=>?_⟩;have S4:=S4.same (bj _ _);have L0:fF g U W ls many n f [] _ _ _:=fF.start NZ B.pm JB (λp hp=>B.lv.sub.subset hp) nd Ua Dt;refine⟨wa0 _,λb hb=>?_⟩;have s5:a8 H4 (upd H4 b (.lst [])):=a8.upd hb;have h5:(upd H4 b (.lst [])) b=some (.lst []):=a6;have o5:a8 H4 (eS (upd H4 b (.lst [])) b):=G0 s5 hb;generalize upd H4 b (.lst [])=H5 at s5 h5 o5;have W0:=L0.whole Y GQ;generalize aq ls f=v at S4 L0 W0;generalize v.map f=C at S4 L0 W0;generalize bA g U W ls n v=a at S4 L0 W0;have IZ:a.length<=1000:=by rw[W0.l];exact W0.n
 refine⟨_,rfl,_,rfl,y,many,v,C,a,rfl,S4.same s5,IZ,λl hl=>by have:=W0.m l hl;omega,λu G H6 s6 I Z hK=>?_⟩;have RH:u≠b:=λz=>by rw[z,h5]at I;cases I
 refine⟨λq σ M=>∃(y u:Addr) (v:List Str) (C:List Int) (a:List (List (Str×Nat))) (j:List z7) (r:List V) (G:List Nat) (v7:Option V),q=40 - v.length/\σ=[some (.ref x),some (.int many),some (.int (n:Int)),some (.ref dl),some (.ref y),some (.ref b),some (.ref u),v7]/\a8 H M/\M dl=some (.dK (bc (c9 f ls)))/\bM K L.ay (eS M b) y v C a/\fF g U W ls many n f j v C a/\M b=some (.lst r)/\b6 K (eS M b) (j.map xj) r/\u≠b/\M u=some (.lst ((nI G).map V.int))/\nh a many G,
  ⟨_,y,u,v,C,a,[],[],G,none,rfl,rfl,s3.trans (s4.trans (s5.trans s6)),s6 _ _ (s5 _ _ (s4 _ _ h3)),S4.same (o5.trans (oa s6)),L0,s6 _ _ h5,rfl,RH,Z,hK⟩,?_⟩
 clear hK Z RH I s6 IZ W0 L0 o5 h5 s5 S4;have QH:H b=none:=none_of (s3.trans s4) hb;have NS:dl≠b:=af (s4 _ _ h3) hb;rintro q σ M ⟨y,u,v,C,a,j,r,G,v7,rfl,rfl,s7,Ub,S7,O,P6,r7,RH,RJ,hK⟩;have W7:=O.whole Y GQ;have hlen:=O.len;have Af:=O.b.w;have IZ:a.length<=1000:=by rw[W7.l];exact W7.n
 have JF:r.length=j.length:=by rw[r7.len,Zf]
 have WH:=O.sl
 by_cases RK:G=[]
 ·subst RK
  have yp:v≠[]:=λz=>by
   have h1:=O.sm;rw[z]at Af;rw[waC Af]at h1;have:(0:Int)=(ls.map f).sum:=h1;omega
  refine⟨_,rfl,u,_,rfl,.inl (aI.of RJ),rfl,true,Fb _,fu ?_⟩;refine⟨λσ' H'=>∃(y u:Addr) (R:List Str) (C:List Int) (a:List (List (Str×Nat))) (j:List z7) (r:List V) (G:List Nat) (v7:Option V),R.length=v.length + 1/\σ'=[some (.ref x),some (.int many),some (.int (n:Int)),some (.ref dl),some (.ref y),some (.ref b),some (.ref u),v7]/\a8 H H'/\H' dl=some (.dK (bc (c9 f ls)))/\bM K L.ay (eS H' b) y R C a/\fF g U W ls many n f j R C a/\H' b=some (.lst r)/\b6 K (eS H' b) (j.map xj) r/\u≠b/\H' u=some (.lst ((nI G).map V.int))/\nh a many G,?_,?_⟩
  ·rintro σ' H' ⟨y,u,R,C,a,j,r,G,v7,e1,rfl,s',JI,S',L',FC,r',WK,GO,RL⟩;have:=L'.len;exact⟨_,by omega,y,u,R,C,a,j,r,G,v7,rfl,rfl,s',JI,S',L',FC,r',WK,GO,RL⟩
  refine⟨_,rfl,_,rfl,y,many,v,C,a,rfl,S7.same tF,O.b,hK,yp,by omega,λl hl=>by have:=W7.m l hl;omega,by omega,by omega,λt l d ns w H8 s8 fl ft Uc Ud ok Gf JE=>?_⟩;have hT:=ia.of (K:=K) Uc;have S8:=(S7.same tF).same s8;refine⟨_,rfl,_,rfl,_,rfl,t,_,_,_,rfl,rfl,hT,rfl,_,rfl,t,_,_,_,rfl,rfl,hT,rfl,_,rfl,t,_,_,_,rfl,rfl,hT,rfl,y,l,many,(d:Int),w,nI ns,v,C,a,rfl,S8,aI.of Ud,by rw[bJ];omega,W7,by omega,by omega,.inl ⟨ok,λy' H9 s9 S9=>?_⟩⟩;rw[ZS]at S9;have Ue:=s8 _ _ P6;have Ug:=s9 _ _ Ue;have L9:=O.step ok;have W9:=L9.whole Y GQ;have RM:(hF a d (nI ns)).length<=1000:=by rw[W9.l];exact W9.n
  have WL:l≠b:=λz=>by rw[z,P6]at fl;cases fl
  have WM:t≠b:=λz=>by rw[z,P6]at ft;cases ft
  have r9:b6 K (eS H9 b) ((j++[(d,ns,w)]).map xj) (r++[.ref t]):=by
   rw[ZB];exact gK (b6.same (oa (s8.trans s9)) _ _ r7) (Ca (fC (s9 _ _ Uc) WM) (fC (s9 _ _ Ud) WL))
  have P8:bM K L.ay (eS H9 b) y' _ _ _:=S9.same (C9 Ue);refine⟨_,rfl,.inl ⟨rfl,_,aI.of Ug⟩,_,rfl,b,_,_,rfl,rfl,Ug,bB (by omega),?_⟩;have eo:eS (upd H9 b (.lst (r++[.ref t]))) b=eS H9 b:=IJ;rw[<-eo]at r9 P8;have E4:a8 H (upd H9 b (.lst (r++[.ref t]))):=λc o e=>by rw[ae (af e QH)];exact s9 _ _ (s8 _ _ (s7 _ _ e))
  have Uh:(upd H9 b (.lst (r++[.ref t]))) dl=some (.dK (bc (c9 f ls))):=by rw[ae NS];exact s9 _ _ (s8 _ _ Ub)
  have RN:(upd H9 b (.lst (r++[.ref t]))) b=some (.lst (r++[.ref t])):=a6;generalize upd H9 b (.lst (r++[.ref t]))=NF at E4 Uh RN r9 P8;refine⟨_,rfl,_,rfl,y',many,_,_,_,rfl,P8.same tF,RM,λl hl=>by have:=W9.m l hl;omega,λWN RO IU S I Z RL=>?_⟩;refine⟨y',WN,_,_,_,j++[(d,ns,w)],r++[.ref t],RO,_,?_,rfl,E4.trans S,S _ _ Uh,P8.same (oa S),L9,S _ _ RN,b6.same (oa S) _ _ r9,(λz=>by rw[z,RN]at I;cases I),Z,RL⟩;unfold cT;rw[Zm];rfl
 ·refine⟨_,rfl,u,_,rfl,.inl (aI.of RJ),rfl,false,congrArg V.bl (decide_eq_false λz=>RK (waC (by have:=V.int.inj z;rw[Zf,bJ]at this;omega))),cg ?_⟩;refine⟨_,rfl,_,rfl,_,rfl,_,rfl,?_⟩;intro z dz nz WO Yq;have sm:a8 M (upd (upd M dz (.own z)) z (.ins L.aQ dz [])):=cZ nz WO;refine⟨z,dz,dl,y,.ref b,.ref u,c9 f ls,j,G,v,C,a,rfl,a6,.inl (sm _ _ Ub),⟨b,r,rfl,.inl (sm _ _ P6),b6.same (tF.trans sm) _ _ r7⟩,iU (sm _ _ RJ),(S7.same tF).same sm,by omega,by omega,by omega,λl hl=>by have:=W7.m l hl;omega,by omega,λa' b' c' y' H8 h8 fa WQ r8 WR S8 WT=>⟨rfl,?_⟩⟩;have s8:a8 M H8:=λc o e=>WT _ _ (sm _ _ e) (af e nz);have nw:a8 (aF (upd (upd M dz (.own z)) z (.ins L.aQ dz [])) H8) (aF H H8):=dG (s7.trans sm);refine k M0 z f0 f j G v C a H8 (s7.trans s8) ⟨dz,a',b',c',y',bH (none_of s7 nz) h8,bH (none_of (s7.trans sm) fa) WQ,bh.same nw _ _ r8,bh.same nw _ _ WR,S8.same nw⟩ hL hle ⟨Ua,λp hp=>?_,Dt,P5,Y,O.rn,O.b,O.cv,by omega,hK,RK,by omega,O.sb⟩;have h1:=hle p hp;have h2:=hG.le p hp;omega
end
end K41
namespace Bs
open PySem L2 Sx
theorem eI:∀{fs:List (Str×V)},n∉fs.map (·.1)->cq n v fs=fs++[(n,v)]
 |[],_=>rfl
 |(a,u) :: fs,h=>by
  have b:¬a=n:=λz=>h (by grind);show (if a=n then _ else _)=_;rw[if_neg b,eI (fs:=fs) λz=>h (by grind)];rfl
theorem fk:∀{fs:List (Str×V)},n∉fs.map (·.1)->(fs++(n,v) :: g).lookup n=some v:=by grind [weL,Zy,Zt]
theorem u5:∀{fs:List (Str×V)},n∉fs.map (·.1)->fs.lookup n=none:=by grind [Zy,Zt]
noncomputable def M1(p:Addr):List (Str×V):=[("scheme",.ref p)]
noncomputable def M3(p b:Addr):List (Str×V):=[("scheme",.ref p),("band",.ref b)]
noncomputable def M4(p b:Addr)(many:Int):List (Str×V):=[("scheme",.ref p),("band",.ref b),("many",.int many)]
noncomputable def Lp(p b:Addr)(many wide:Int):List (Str×V):=[("scheme",.ref p),("band",.ref b),("many",.int many),("wide",.int wide)]
noncomputable def JN(p b:Addr)(many wide:Int)(h:Addr):List (Str×V):=[("scheme",.ref p),("band",.ref b),("many",.int many),("wide",.int wide),("homes",.ref h)]
noncomputable def Go(p b:Addr)(many wide:Int)(h l:Addr):List (Str×V):=[("scheme",.ref p),("band",.ref b),("many",.int many),("wide",.int wide),("homes",.ref h),("lines",.ref l)]
noncomputable def M5(p b:Addr)(many wide:Int)(h l:Addr)(o:Str):List (Str×V):=[("scheme",.ref p),("band",.ref b),("many",.int many),("wide",.int wide),("homes",.ref h),("lines",.ref l),("opening",.str o)]
noncomputable def oY(p b:Addr)(many wide:Int)(h l:Addr)(o:Str)(i:Int):List (Str×V):=[("scheme",.ref p),("band",.ref b),("many",.int many),("wide",.int wide),("homes",.ref h),("lines",.ref l),("opening",.str o),("first",.int i)]
section
variable(p b h l:Addr)(many wide i:Int)(o:Str)
theorem O0:cq "scheme" (.ref p) []=M1 p:=rfl
theorem O1:cq "band" (.ref b) (M1 p)=M3 p b:=eI (by show ("band":Str)∉[("scheme":Str)];decide+kernel)
theorem O2:cq "many" (.int many) (M3 p b)=M4 p b many:=eI (by show ("many":Str)∉[("scheme":Str),"band"];decide+kernel)
theorem O3:cq "wide" (.int wide) (M4 p b many)=Lp p b many wide:=eI (by show ("wide":Str)∉[("scheme":Str),"band","many"];decide+kernel)
theorem O4:cq "homes" (.ref h) (Lp p b many wide)=JN p b many wide h:=eI (by show ("homes":Str)∉[("scheme":Str),"band","many","wide"];decide+kernel)
theorem O5:cq "lines" (.ref l) (JN p b many wide h)=Go p b many wide h l:=eI (by show ("lines":Str)∉[("scheme":Str),"band","many","wide","homes"];decide+kernel)
theorem O6:cq "opening" (.str o) (Go p b many wide h l)=M5 p b many wide h l o:=eI (by show ("opening":Str)∉[("scheme":Str),"band","many","wide","homes","lines"];decide+kernel)
theorem O7:cq "first" (.int i) (M5 p b many wide h l o)=oY p b many wide h l o i:=eI (by show ("first":Str)∉[("scheme":Str),"band","many","wide","homes","lines","opening"];decide+kernel)
theorem oZ:(Lp p b many wide).lookup ("scheme":Str)=some (.ref p):=fk (fs:=[]) (by decide+kernel)
theorem Bl:(Go p b many wide h l).lookup ("band":Str)=some (.ref b):=fk (fs:=M1 p) (by show ("band":Str)∉[("scheme":Str)];decide+kernel)
theorem Bm:(Go p b many wide h l).lookup ("wide":Str)=some (.int wide):=fk (fs:=M4 p b many) (by show ("wide":Str)∉[("scheme":Str),"band","many"];decide+kernel)
theorem zp:(Go p b many wide h l).lookup ("lines":Str)=some (.ref l):=fk (fs:=JN p b many wide h) (by show ("lines":Str)∉[("scheme":Str),"band","many","wide","homes"];decide+kernel)
theorem xB:(Go p b many wide h l).lookup ("behind":Str)=none:=u5 (by show ("behind":Str)∉[("scheme":Str),"band","many","wide","homes","lines"];decide+kernel)
theorem xC:(oY p b many wide h l o i).lookup ("scheme":Str)=some (.ref p):=fk (fs:=[]) (by decide+kernel)
theorem Bn:(oY p b many wide h l o i).lookup ("many":Str)=some (.int many):=fk (fs:=M3 p b) (by show ("many":Str)∉[("scheme":Str),"band"];decide+kernel)
theorem qZ:(oY p b many wide h l o i).lookup ("lines":Str)=some (.ref l):=fk (fs:=JN p b many wide h) (by show ("lines":Str)∉[("scheme":Str),"band","many","wide","homes"];decide+kernel)
theorem mO:(oY p b many wide h l o i).lookup ("opening":Str)=some (.str o):=fk (fs:=Go p b many wide h l) (by show ("opening":Str)∉[("scheme":Str),"band","many","wide","homes","lines"];decide+kernel)
theorem rg:(oY p b many wide h l o i).lookup ("first":Str)=some (.int i):=fk (fs:=M5 p b many wide h l o) (by show ("first":Str)∉[("scheme":Str),"band","many","wide","homes","lines","opening"];decide+kernel)
theorem gd(hn:n∉[("scheme":Str),"band","many","wide","homes","lines","opening","first"]):(oY p b many wide h l o i).lookup n=none:=u5 hn
end
structure lN(K:Zh)(C CP CS:Addr)(H:Hp)(x xb:Addr)(many:Int)(n:Nat)(m:List (Str×Int))(nF:List z7)(ks:List Nat)(hs:List Str)(ws:List Int)(lns:List (List (Str×Nat)))(b:Nat):Prop where
 ex:∃dx p a l,H x=some (.ins C dx (oY p xb many (n:Int) a l (aW (eJ lns ks many.toNat) 0 (Zu b 0)).1 ((aW (eJ lns ks many.toNat) 0 (Zu b 0)).2:Int)))/\nk K CP CS H p m nF ks hs ws lns/\bh K H (qj (ks.map λd=>hs.getD d "")) (.ref a)/\bh K H (jr (eJ lns ks many.toNat)) (.ref l)
theorem lN.same(h:lN K C j o H x r many n m g I hs ws lns b)(s:a8 H J):lN K C j o J x r many n m g I hs ws lns b:=by
 obtain⟨c,p,a,l,d,e,f,i⟩:=h;exact⟨c,p,a,l,s _ _ d,e.same s,bh.same s _ _ f,bh.same s _ _ i⟩
end Bs
namespace Sx
open PySem L2 Bs
inductive Lq(C CB:Addr)(vs:List V)(H:Hp)(Q:VK)(eA:XK):Prop
 |mk (x xb dx:Addr) (fs:List (Str×V)) (n:Nat) (g:Str) (bw ss ls:List Str) (_:vs=[.ref x]) (_:H x=some (.ins C dx fs)) (_:fs.lookup ("band":Str)=some (.ref xb)) (_:fs.lookup ("wide":Str)=some (.int (n:Int))) (_:aT CB H xb g bw ss ls) (_:1<=n) (_:n<=10) (_:(∀w∈bw,w.length<=900)) (_:bw.length<=1000) (_:∀(b:Nat) (H':Hp),a8 H H'->Cj bw n b->Q (.int (b:Int)) H')
inductive DR(K:Zh)(C CB CP CS CX CO:Addr)(vs:List V)(H:Hp)(Q:VK)(E:XK):Prop
 |mk (x dx xb:Addr) (many:Int) (n:Nat) (g:Str) (bw ss ls:List Str) (_:vs=[.ref x,.ref xb,.int many,.int (n:Int)]) (_:H x=some (.ins C dx [])) (_:aT CB H xb g bw ss ls) (_:(∀w∈bw,1<=w.length/\w.length<=900)) (_:bw.length<=1000) (_:("":Str)∈ss) (_:(ch g).Nodup) (_:2<=g.length) (_:g.length<=10) (_:ss.length<=900) (_:fA g.length many n) (_:(z8 g bw ss many n->∀(p a l:Addr) (f0 f:Str->Int) (nF:List z7) (ks:List Nat) (hs:List Str) (ws:List Int) (lns:List (List (Str×Nat))) (b:Nat) (H':Hp),(∀c o,H c=some o->c≠x->H' c=some o)->H' x=some (.ins C dx (oY p xb many (n:Int) a l (aW (eJ lns ks many.toNat) 0 (Zu b 0)).1 ((aW (eJ lns ks many.toNat) 0 (Zu b 0)).2:Int)))->nk K CP CS (aF H H') p (c9 f ls) nF ks hs ws lns->bh K (aF H H') (qj (ks.map λd=>hs.getD d "")) (.ref a)->bh K (aF H H') (jr (eJ lns ks many.toNat)) (.ref l)->lY g bw ss ls many n f0->(∀p∈ls,f p<=f0 p)->ky g bw ss ls many n f nF ks hs ws lns->Gh many n (eJ lns ks many.toNat)->Cj bw n b->Q .non H')) (_:QG CX g bw ss many n H E) (_:(z8 g bw ss many n->o8 g bw ss ls many n->∀H',a8 H H'->E (.ref CO) none H'))
end Sx
namespace Bs
open PySem L2 Sx
theorem Gp(B:aT C H j g I ss ls)(J:H x=some (.ins T U fs))(hn:j≠x):aT C (eS H x) j g I ss ls:=by
 obtain⟨⟨f,b,d,q,t,u,h,i,v,k,r⟩,p,o,l⟩:=B;have ne:∀{c:Addr} {o:HO},H c=some o->(∀a b e,o≠.ins a b e)->c≠x:=λe n z=>by grind
 exact⟨⟨f,b,d,q,t,fC u hn,fC h (ne h λ_ _ _ z=>by cases z),fC i (ne i λ_ _ _ z=>by cases z),v,λm s=>fC (k m s) (ne (k m s) λ_ _ _ z=>by cases z),fC r (ne r λ_ _ _ z=>by cases z)⟩,p,o,l⟩
theorem p0:∀b:Nat,(Zu b [V.int 0]).flatten=(nI (Zu b 0)).map V.int
 |0=>rfl
 |b + 1=>by
  rw[wbv,wbq,p0 b,wbv];rfl
theorem Bo(h:∀c o,H c=some o->∃g,j c=some g):a8 (aF j l) (aF H l):=by grind [a8,aF]
end Bs
namespace K41
open PySem L2 Bs Sx
section
variable{P:ZH}{w:World}{K:Zh}{mg:Str->Option Value}{base:Heap}
theorem pX(L:Lk K mg):aM P w K mg base cW 3 L.jR L.jS ["self"] (Lq L.aj L.aE):=by
 refine L.dX.F.dD (N:=["self"]) (λf A outer s H q Q E nd r h=>?_);obtain⟨x,i,d,fs,n,g,j,l,ls,rfl,e,m,o,B,p,a,b,c,k⟩:=h;refine⟨_,(ag (az (ao (pU L) L.gj (a5 (aO (pv 0) rfl) (a5 (aO (pv 0) rfl) a9))))),?_⟩;exact⟨_,rfl,x,L.aj,d,_,_,rfl,e,L.au.cl,L.au.G6,m,_,rfl,x,L.aj,d,_,_,rfl,e,L.au.cl,L.au.G8,o,i,n,g,j,l,ls,rfl,B,p,a,b,c,k⟩
theorem i7(L:Lk K mg):aM P w K mg base (yy P w) 10 L.eZ L.iq ["self","band","many","wide"] (DR K L.aj L.aE L.aQ L.ay L.bW L.nA):=by
 refine L.da.F.D9 (N:=["self","band","many","wide","sheet","kept","found"]) (λgA A outer s H vs Q E nd hr h=>?_);obtain⟨x,a,j,many,n,g,bw,ss,ls,rfl,hx,B,JB,P4,RP,NZ,Cm,Ck,zJ,E3,k,kS,kO⟩:=h
 refine⟨_,(a7 (cO (pv 0) (ja (Bk L) (hr.mono (by decide)) rfl L.iY.g L.iY.F.kp L.iY.b .nil (vH cx) (a5 (pv 1) (a5 (pv 2) (a5 (pv 3) a9)))) rfl)
  (a7 (cO (pv 0) (pv 1) rfl)
  (a7 (cO (pv 0) (pv 2) rfl)
  (a7 (cO (pv 0) (pv 3) rfl)
  (a7 (ai (i:=4) (dk (aO (pv 0) rfl) L.cD.cl L.gH.m (uT L) (hr.mono (by decide)) L.gH.b .nil cG))
  (a7 (ai (i:=5) (aO (aO (pv 0) rfl) rfl))
  (a7 (cO (pv 0) (bY rfl (av ["sheet"] [4]) (aJ (pv 5)) (λ_ _ _ _ _ _=>b5) (λ_ _ _ _ _ _=>(b8 (fY (K:=K) rfl) (lR (K:=K) rfl (pv 1) rfl) (pv 0) (λ_ _=>rfl)))) rfl)
  (a7 (cO (pv 0) (bY rfl (av ["sheet","kept","many"] [4,5,2]) (aJ (pv 5)) (λ_ _ _ _ _ _=>b5) (λ_ _ _ _ _ _=>(ao (iZ L) L.cV (a5 (b8 (fY (K:=K) rfl) (lR (K:=K) rfl (pv 1) rfl) (pv 0) (λ_ _=>rfl)) (a5 (pv 2) (a5 (pv 3) a9)))))) rfl)
  (a7 (ai (i:=6) (ao (wx L) L.oK (a5 (aO (pv 0) rfl) (a5 ak (a5 (aL zZ (cj (a5 ak a9)) (dk (pv 0) L.au.cl L.dX.m (pX L) (hr.mono (by decide)) L.dX.b .nil cG)) a9)))))
  (a7 (cO (pv 0) (b8 gg (pv 6) ak (λ_ _=>rfl)) rfl)
  (ag (cO (pv 0) (b8 gg (pv 6) ak (λ_ _=>rfl)) rfl)))))))))))),?_⟩
 obtain⟨ra,rb,rc,rd,re⟩:=id E3
 have WU:j≠x:=λz=>by
  obtain⟨Yr,b,d,q,mv,h1,_⟩:=id B.ex;rw[z,hx]at h1;have:=Zx h1;injection this with _ _ q2
  cases q2
 refine⟨_,rfl,_,rfl,_,rfl,j,many,n,g,bw,ss,ls,rfl,B,λw hw=>(JB w hw).1,NZ,Cm,Ck,zJ,E3,λM0 p f0 f nF D T ws u H1 s1 P1 hL hle G=>?_,kS,kO⟩;have W0:=NP (n:=n) G.ko G.ne (show 0<=many by omega) (G.cv.word G.b.l (λq M=>B.lv.sub.subset (G.sb q M)) RP);have Ys:=P1.same (bj _ _);have WV:=G.ln;have Yt:=G.b.w;have Q7:=G.b.l
 have GQ:g.length ^ n<=64:=by
  rw[ZS]at re;have:((g.length ^ n:Nat):Int)<=64:=by rw[wcD];exact re
  omega
 have NI:∀l∈u,l.length<=10000:=λl hm=>by
  have h1:=G.cv.line G.b.l (b:=64) (λp=>ZE (fB g bw ss ls n p) GQ) l hm;have h2:64 * T.length<=64 * 40:=wdG _ (by omega);omega
 have Ts:D.length<=40:=by have:=G.ko.ab.sub.length_le;rw[wag]at this;omega
 have Ui:∀d∈D,d < u.length:=λd hd=>(G.ko.st d hd).1;refine⟨_,rfl,x,L.aj,a,[],rfl,s1 _ _ hx,L.au.cl,L.au.og,(show 0 < 1000 by decide),?_⟩;rw[O0];refine⟨_,rfl,_,rfl,x,L.aj,a,_,rfl,a6,L.au.cl,L.au.G6,(show 1 < 1000 by decide),?_⟩;rw[O1];refine⟨_,rfl,_,rfl,x,L.aj,a,_,rfl,a6,L.au.cl,L.au.G7,(show 2 < 1000 by decide),?_⟩;rw[O2];refine⟨_,rfl,_,rfl,x,L.aj,a,_,rfl,a6,L.au.cl,L.au.G8,(show 3 < 1000 by decide),?_⟩;rw[O3];have x2:(upd (upd (upd (upd H1 x (.ins L.aj a (M1 p))) x (.ins L.aj a (M3 p j))) x (.ins L.aj a (M4 p j many))) x (.ins L.aj a (Lp p j many (n:Int)))) x=some (.ins L.aj a (Lp p j many (n:Int))):=a6;have k2:∀c o,H1 c=some o->c≠x->(upd (upd (upd (upd H1 x (.ins L.aj a (M1 p))) x (.ins L.aj a (M3 p j))) x (.ins L.aj a (M4 p j many))) x (.ins L.aj a (Lp p j many (n:Int)))) c=some o:=λc o e hc=>by rw[ae hc,ae hc,ae hc,ae hc];exact e
 generalize upd (upd (upd (upd H1 x (.ins L.aj a (M1 p))) x (.ins L.aj a (M3 p j))) x (.ins L.aj a (M4 p j many))) x (.ins L.aj a (Lp p j many (n:Int)))=H2 at x2 k2;have RQ:∀c o,H c=some o->c≠x->H2 c=some o:=λc o e hc=>k2 c o (s1 _ _ e) hc;have n2:a8 (aF H H1) (aF H H2):=bz hx k2;have P2:=P1.same (n2.trans (bj _ _));obtain⟨dp,wa,wb,U,wz,O8,_,_,WW,_⟩:=id P2;refine⟨_,rfl,x,L.aj,a,_,_,rfl,x2,L.au.cl,L.au.og,oZ p j many n,p,dp,_,rfl,O8,u5 (by show ("sheet":Str)∉[("weights":Str),"splits","kept","last"];decide+kernel),p,c9 f ls,nF,D,T,ws,u,rfl,P2,by omega,by omega,by omega,NI,λy H3 s3 S3=>?_⟩;have x3:=s3 _ _ x2;refine⟨_,rfl,x,L.aj,a,_,_,rfl,x3,L.au.cl,L.au.og,oZ p j many n,p,L.aQ,dp,_,_,rfl,s3 _ _ O8,L.cD.cl,L.cD.G4,Bb wa wb U wz,?_⟩
 have RT:aI K H3 U ((nI D).map V.int):=by
  obtain⟨c',e,h⟩:=hE (bh.same s3 _ _ WW);cases e;exact h
 have WX:=S3.same (bj _ _);obtain⟨dy,ah,Uj,cl,hy,rh,Yu,rl⟩:=id WX;have hh:=x9 rh;obtain⟨Nt,xs,ec,hc,zH⟩:=id rl;cases ec;refine⟨_,rfl,U,rfl,⟨_,RT⟩,λr RU=>?_⟩;refine cY (λ_=>true) (λv=>match v with |.int d=>.str (T.getD d.toNat "") |_=>.non) (aH K U _) RU (ax (by rw[Zf,bJ];omega)) (λH' s'=>s'.seq RT) (λv H8 Q' hy s8 qq=>qq H8 (a8.refl _)) (λv H4 Q' hv _ O qq=>?_) (λH4 O h4=>?_)
 ·obtain⟨n',zI,rfl⟩:=pL hv;have W:n' < T.length:=by rw[<-Q7];exact Ui n' zI
  exact⟨_,rfl,y,L.ay,dy,_,_,rfl,O _ _ hy,L.aw.cl,L.aw.gE,eC ah Uj cl,_,rfl,ah,_,_,_,rfl,rfl,O.seq (.inl hh),bx (v:=.str (T.getD n' "")) (by rw[Zi,Zg W,Zj,Zg W];rfl),qq H4 (a8.refl _)⟩
 have e4:(((nI D).map V.int).filter λ_=>true).map (λv=>match v with |.int d=>V.str (T.getD d.toNat "") |_=>.non)=(D.map λd=>T.getD d "").map V.str:=by
  rw[wab.mpr (λ_ _=>rfl)];unfold nI;rw[Zw,Zw,Zw];rfl
 rw[e4]at h4;have X:r≠x:=waB (af x3 RU);refine⟨_,rfl,x,L.aj,a,_,rfl,O _ _ x3,L.au.cl,L.au.gE,(show 4 < 1000 by decide),?_⟩;rw[O4];have x5:(upd H4 x (.ins L.aj a (JN p j many (n:Int) r))) x=some (.ins L.aj a (JN p j many (n:Int) r)):=a6;have k5:∀c o,H4 c=some o->c≠x->(upd H4 x (.ins L.aj a (JN p j many (n:Int) r))) c=some o:=λc o e hc=>by rw[ae hc];exact e
 generalize upd H4 x (.ins L.aj a (JN p j many (n:Int) r))=H5 at x5 k5;have x4:=O _ _ x3
 have WY:y≠x:=λz=>by
  obtain⟨_,_,_,_,h,_⟩:=id S3;rw[z]at h;unfold aF at h;rw[x2]at h;cases h
 have Ln:aI K H5 U ((nI D).map V.int):=(fP k5).seq (wX x4 (O.seq RT));have Rv:=k5 _ _ (O _ _ hy) WY;have WZ:bh K H5 (jr u) (.ref cl):=bh.same (fP k5) _ _ (bh.off x4 _ _ (bh.same O _ _ rl));obtain⟨Tf,X0,X1,X2,RV⟩:=id WZ;cases X1;refine⟨_,rfl,U,rfl,⟨_,Ln⟩,λC AR=>?_⟩;refine sT (K:=K) ((eJ u D many.toNat).map bI) (aH K U _) AR (ax (by rw[Zf,bJ];omega)) (by unfold eJ;rw[Zf,Zf,Zf,bJ]) (λH' s'=>s'.seq Ln) (λi v dd H6 Q' hv LO Y qq=>?_) (λH6 Y r6=>?_)
 ·have hi:i < D.length:=by have:=(Zn.mp hv).1;rwa[Zf,bJ]at this
  rw[xh (Zg hi)]at hv;cases hv;unfold eJ at LO;rw[Zi,Zi,Zg hi]at LO;cases LO;have Gf:=Ui _ (ZV hi);generalize D[i]=d at qq Gf;have M:=fK Gf;obtain⟨v',Lf,X3⟩:=RV.at (i:=d) (d:=bI (u.getD d [])) (by rw[Zi,M];rfl);exact⟨_,rfl,y,L.ay,dy,_,_,rfl,Y _ _ Rv,L.aw.cl,L.aw.cp,bD ah Uj cl,_,rfl,cl,X0,_,_,rfl,rfl,Y.seq (.inl X2),bx Lf,_,rfl,_,rfl,v',U,many,D,u.getD d [],rfl,bh.same Y _ _ X3,Y.seq Ln,by omega,NI _ (ZA M),by omega,λz R s7 r7=>qq z R s7 r7⟩
 have x6:=Y _ _ x5;refine⟨_,rfl,x,L.aj,a,_,rfl,x6,L.au.cl,L.au.cp,(show 5 < 1000 by decide),?_⟩;rw[O5];have x7:(upd H6 x (.ins L.aj a (Go p j many (n:Int) r C))) x=some (.ins L.aj a (Go p j many (n:Int) r C)):=a6;have k7:∀c o,H6 c=some o->c≠x->(upd H6 x (.ins L.aj a (Go p j many (n:Int) r C))) c=some o:=λc o e hc=>by rw[ae hc];exact e
 generalize upd H6 x (.ins L.aj a (Go p j many (n:Int) r C))=R at x7 k7;have Uk:∀c o,H c=some o->c≠x->H5 c=some o:=λc o e hc=>k5 _ _ (O _ _ (s3 _ _ (RQ c o e hc))) hc;have X4:∀c o,H c=some o->c≠x->R c=some o:=λc o e hc=>k7 _ _ (Y _ _ (Uk c o e hc)) hc;have r7:bh K R (jr (eJ u D many.toNat)) (.ref C):=bh.same ((C9 x5).trans (fP k7)) _ _ r6;have B7:aT L.aE R j g bw ss ls:=(Gp B hx WU).same (fP X4);refine⟨_,rfl,x,L.aj,a,_,_,rfl,x7,L.au.cl,L.au.cp,zp p j r C many n,by show 1<=sizeLine;decide,λl0 LY=>?_⟩;have s8:=a8.upd (H:=R) (o:=.lst [V.int 0]) LY;have h8:(upd R l0 (.lst [V.int 0])) l0=some (.lst [V.int 0]):=a6;generalize upd R l0 (.lst [V.int 0])=H8 at s8 h8;have x8:=s8 _ _ x7;refine⟨_,rfl,x,a,_,rfl,x8,xB p j r C many n,x,j,a,_,n,g,bw,ss,ls,rfl,x8,Bl p j r C many n,Bm p j r C many n,B7.same s8,by omega,by omega,λw hw=>(JB w hw).2,P4,λb H9 s9 hb=>?_⟩;have Ul:=hb.le;refine⟨l0,(b:Int),[V.int 0],rfl,rfl,s9 _ _ h8,by omega,by omega,ax (by show 1 * ((b:Int)).toNat<=_;omega),λpr O9=>?_⟩;rw[ZS,p0];have E4:=a8.upd (H:=H9) (o:=.lst ((nI (Zu b 0)).map V.int)) O9;have Li:(upd H9 pr (.lst ((nI (Zu b 0)).map V.int))) pr=some (.lst ((nI (Zu b 0)).map V.int)):=a6;generalize upd H9 pr (.lst ((nI (Zu b 0)).map V.int))=NF at E4 Li;have Z:=s8.trans (s9.trans E4);refine⟨.ref C,0,pr,many,n,eJ u D many.toNat,Zu b 0,rfl,bh.same Z _ _ r7,aI.of Li,W0,wcy.mpr W0.ne,λt ht=>by rw[(wca.mp ht).2];omega,by rw[war];omega,by omega,λq S Lj M=>?_⟩;have Oa:=Z.trans Lj;have Um:=Oa _ _ x7;have Ri:q≠x:=λz=>by rw[z,Um]at M;cases M
 generalize X5:aW (eJ u D many.toNat) 0 (Zu b 0)=I at M;refine⟨_,rfl,q,_,_,_,rfl,rfl,ia.of M,rfl,_,rfl,x,L.aj,a,_,rfl,Um,L.au.cl,L.au.pM,(show 6 < 1000 by decide),?_⟩;rw[O6];refine⟨_,rfl,q,_,_,_,rfl,rfl,ia.of (by rw[ae Ri];exact M),rfl,_,rfl,x,L.aj,a,_,rfl,a6,L.au.cl,L.au.xm,(show 7 < 1000 by decide),?_⟩;rw[O7];have RW:(upd (upd S x (.ins L.aj a (M5 p j many (n:Int) r C I.1))) x (.ins L.aj a (oY p j many (n:Int) r C I.1 (I.2:Int)))) x=some (.ins L.aj a (oY p j many (n:Int) r C I.1 (I.2:Int))):=a6;have Uo:∀c o,S c=some o->c≠x->(upd (upd S x (.ins L.aj a (M5 p j many (n:Int) r C I.1))) x (.ins L.aj a (oY p j many (n:Int) r C I.1 (I.2:Int)))) c=some o:=λc o e hc=>by rw[ae hc,ae hc];exact e
 generalize upd (upd S x (.ins L.aj a (M5 p j many (n:Int) r C I.1))) x (.ins L.aj a (oY p j many (n:Int) r C I.1 (I.2:Int)))=J at RW Uo;have Ob:∀c o,R c=some o->c≠x->J c=some o:=λc o e hc=>Uo _ _ (Oa _ _ e) hc;have RX:∀c o,H5 c=some o->c≠x->J c=some o:=λc o e hc=>Ob _ _ (k7 _ _ (Y _ _ e) hc) hc;have Oc:∀c o,H4 c=some o->c≠x->J c=some o:=λc o e hc=>RX _ _ (k5 _ _ e hc) hc;have Od:∀c o,H2 c=some o->c≠x->J c=some o:=λc o e hc=>Oc _ _ (O _ _ (s3 _ _ e)) hc
 have fla:H r=none:=by
  cases e:H r with
  |none=>rfl
  |some o=>have:=s3 _ _ (RQ r o e X);rw[RU]at this;cases this
 have m5:∀c o,H c=some o->∃o',H5 c=some o':=λc o e=>by
  by_cases z:c=x
  ·rw[z];exact⟨_,x5⟩
  ·exact⟨o,Uk c o e z⟩
 rw[<-X5]at RW;refine k M0 p r C f0 f nF D T ws u b J (λc o e hc=>Od _ _ (RQ c o e hc) hc) RW (P1.same (n2.trans (bz hx Od))) (nX (bH fla (Oc _ _ h4 X))) (bh.same ((Bo m5).trans (bz hx λc o e hc=>Ob _ _ (k7 _ _ e hc) hc)) _ _ r6) hL hle G W0 hb
end
end K41
namespace L2
open PySem PySem.Spec PyProof.Rows Sx
section
variable{X:Cx}{e:Expr}{es:List Expr}{te:TE}{t:TJ}{pos:Pos}
end
end L2
namespace Sx
open PySem L2 Bs
noncomputable def J1(wl:List (List (Str×Nat)))(b c:Nat)(ts:List Nat):Str:=(aW wl 0 (Zu b 0)).1++(aW wl (aW wl 0 (Zu b 0)).2 (ts++Zu c 0)).1
end Sx
namespace L2
open PySem PySem.Spec PyProof.Rows
section
variable{M:Model}{A:Around}{E:Value->Shared->Prop}{e C C1 CB:Addr}{nm q:Str}{N:Addr}{bs:List Value}{hdct:Bool}{sn:List Str}{sub:List Value}{ab:Bool}{col:Option Bool}{dd:Option Addr}{k0 k1 k2 k3 k5:Option Value}
 {E1 q':Str} {N':Addr} {X6:List Value} {Oe:Bool} {X7:List Str} {RY:List Value} {X8:Bool} {RZ:Option Bool} {X9:Option Addr} {Xa Xb Xc Xd Xe:Option Value}
theorem xD{h:Heap}{g:Array wcj}{d:Drawn}{t:Nat}{os:wb5}{r:Obj}{Q:Bool->Shared->Prop}(j:h.get? C1=some (waJ E1 q' C1 N' X6 (n6 CB) Oe X7 RY X8 RZ X9 Xa Xb Xc Xd Xe "ValueError.__new__"))
 (I:h.get? C=some (waJ nm q C N bs (n6 CB) hdct sn sub ab col dd k0 k1 k2 k3 k5 "ValueError.__new__"))
 (J:h.get? e=some r) (l:r.cls=.ref C) (o:C1≠C) (p:C1≠CB) (T:Q false ⟨h,g,d,t,os⟩) :
 wpAny M A (wfk (.ref e) (.ref C1)) Q E ⟨h,g,d,t,os⟩:=by
 have a:(ZD C1 :: n6 CB).contains (.type "BaseException")=true:=by simp[wfM,n6]
 have b:(ZD C :: n6 CB).contains (.ref C1)=false:=by simp[wfM,n6,o,p]
 have f:=tc_notTuple;unfold wfk
 repeat (first |(with_reducible refine wal J ?_;rw[l]) |with_reducible refine wal j ?_ |with_reducible refine wal I ?_ |(with_reducible refine wb3 I ?_;rw[b]) |(with_reducible refine wb3 j ?_;rw[a]) |wp_step)
 exact T
end
def Of(C1 C2:Addr)(tb:Jn)(i:Nat):TS:=λD σ H=>tb (λσ' cv od H'=>(cv=.ref C1\/cv=.ref C2)/\D.nx (σ'.set i (some .non)) H') D σ H
section
variable{X:Cx}{CB C1 C2:Addr}{Nb P9 x nm E1:Str}{body:List Stmt}{tb:Jn}{i jj jk:Nat}{p1 p2 p3 p4 Kx q1 q2 q3 q4 S0 pos:Pos}
theorem J4(l:X.stack=X.env :: X.outer/\X.env.frame=some X.env.locals)(g:N0 X body tb)(hg:Gl X Nb)(hm:X.mg Nb=some (.ref C1))(Xf:Gl X P9)(Qj:X.mg P9=some (.ref C2))(U:cQ X.K C1 CB nm)(U':cQ X.K C2 CB E1)(yp:C1≠C2)(Up:C1≠CB)(hN:X.N.Nodup)(hi:X.N[i]?=some x)
 (hx:Loc X.env.scope x) (J:(Nb == ("__debug__":Str))=false:=by decide) (T:(P9 == ("__debug__":Str))=false:=by decide)
 (hf:X.fn x=true\/X.env.scope.names.lookup x=some .local:=by first |exact .inl rfl |exact .inr rfl |assumption) (Q8:wbd (.Constant .none jj p3) (some (.Name x p2)) p4.line X.env=pure false:=by rfl) (S2:wbd (.Constant .none jk q3) (some (.Name x q2)) q4.line X.env=pure false:=by rfl) :
 PS X (.Try body [.ExceptHandler (some (.Name Nb p1)) none [.Assign [.Name x p2] (.Constant .none jj p3) p4] Kx,.ExceptHandler (some (.Name P9 q1)) none [.Assign [.Name x q2] (.Constant .none jk q3) q4] S0] [] [] pos) (Of C1 C2 tb i):=by
 intro a s σ H D I h;refine wpAny_Try_except (wad (g a s σ H D _ I h) (λf s1 q=>?_) λV s1 q=>?_)
 ·cases f with
  |next=>exact wbm q
  |ret v=>exact q
  |brk=>exact q
  |cont=>exact q
 obtain⟨r,H0,G,d,e,C',od,m,rfl,k,bare,un,aZ,F,c,hD⟩:=q;have I1:Inv X a r m s1:=d.vf k un aZ bare λb z=>absurd z (by simp);have Y:(X.env :: X.outer).filterMap (·.frame)=q8 X.stack:=by rw[l.1];rfl
 have t:=I1.rE
 have L:G.heap.objs.size<=s1.heap.objs.size:=wga λz=>by
  obtain⟨Z,_,vs,sl,he,_⟩:=F;exact absurd (ZI (wap Z (Zz he)) (wed z)) (wax _)
 refine yx (lo:=G.heap.objs.size) (H:=m) (base:=X.base) (outer:=X.outer) (by rw[<-l.1];exact d.ok.frames) (by rw[<-l.1];exact I1.stack) l.2 L (λb g=>aZ.fresh g) F λW F2 p=>?_;rw[Y]at p;obtain⟨M,n,J2⟩:=d.Al k bare un aZ p t;have u:=J2 s1.toks;obtain⟨qC,NC,Yv,Yw,Xg,Yx,Xh,Yy,c0,c1,c2,c3,c5,O⟩:=U.lk;obtain⟨qD,ND,Yz,YB,Xi,YC,Xj,YD,e0,e1,e2,e3,e5,P⟩:=U'.lk;obtain⟨Wy,YF,w,_⟩:=id F2.ob;rcases c with c |c
 ·cases c;refine wdH (wdi (fM (X:=X.marked e) (u.marked (e:=e)) hg hm ?_ J)) (by intro z;cases z);refine qi (u.gy _ _ O) w rfl ?_;refine weW ?_;refine sE F2 λQ F3 R=>?_;have A:D5 G.heap.objs.size m (q8 X.stack) W Q:=⟨λb o q g _=>R b o q g,λb o q g=>⟨o.slots,R b o q (.inl ?_)⟩⟩
  rotate_left
  ·have:∃o,G.heap.get? b=some o:=by
    obtain⟨_,o,B,_⟩:=d.stack.mem g;exact⟨o,B⟩
   obtain⟨o,B⟩:=this;exact Zz B
  obtain⟨Xk,S,J3⟩:=d.Al (s1:={s1 with heap:=W}) k bare M n A t;have I3:=J3 s1.toks;have V:=iA (X:=(X.marked e).DZ) (j:=jj) (pos:=p3) a {s1 with heap:=Q} r m (λv C=>v=.non/\C=m) ((I3.marked (e:=e)).m6 _) ⟨rfl,rfl⟩;refine wbS (wcU (Kv (bS V λv s5 ⟨y,H5,E,r5,ey,eH⟩=>?_)) Q8);subst ey;subst eH;have E:=(E.ee).unmarked d.ok;refine iI E hN hi hx r5 (λs6 I6=>wbm ?_) hf;exact⟨_,_,I6,hD⟩
 ·cases c;refine wdH (wdi (fM (X:=X.marked e) (u.marked (e:=e)) hg hm ?_ J)) (by intro z;cases z);refine xD (u.gy _ _ O) (u.gy _ _ P) w rfl yp Up ?_;refine wdH (wdi (fM (X:=X.marked e) (u.marked (e:=e)) Xf Qj ?_ T)) (by intro z;cases z);refine qi (u.gy _ _ P) w rfl ?_;refine weW ?_;refine sE F2 λQ F3 R=>?_;have A:D5 G.heap.objs.size m (q8 X.stack) W Q:=⟨λb o q g _=>R b o q g,λb o q g=>⟨o.slots,R b o q (.inl ?_)⟩⟩
  rotate_left
  ·have:∃o,G.heap.get? b=some o:=by
    obtain⟨_,o,B,_⟩:=d.stack.mem g;exact⟨o,B⟩
   obtain⟨o,B⟩:=this;exact Zz B
  obtain⟨Xk,S,J3⟩:=d.Al (s1:={s1 with heap:=W}) k bare M n A t;have I3:=J3 s1.toks;have V:=iA (X:=(X.marked e).DZ) (j:=jk) (pos:=q3) a {s1 with heap:=Q} r m (λv C=>v=.non/\C=m) ((I3.marked (e:=e)).m6 _) ⟨rfl,rfl⟩;refine wbS (wcU (Kv (bS V λv s5 ⟨y,H5,E,r5,ey,eH⟩=>?_)) S2);subst ey;subst eH;have E:=(E.ee).unmarked d.ok;refine iI E hN hi hx r5 (λs6 I6=>wbm ?_) hf;exact⟨_,_,I6,hD⟩
end
end L2
namespace Bs
open PySem L2 Sx
structure xE(K:Zh)(C CB CP CS:Addr)(H:Hp)(x:Addr)(g:Str)(bw:List Str)(many:Int)(n:Nat):Prop where
 ex:∃(xb:Addr) (ss ls:List Str) (f0 f:Str->Int) (nF:List z7) (ks:List Nat) (hs:List Str) (ws:List Int) (lns:List (List (Str×Nat))) (b:Nat),aT CB H xb g bw ss ls/\lN K C CP CS H x xb many n (c9 f ls) nF ks hs ws lns b/\z8 g bw ss many n/\lY g bw ss ls many n f0/\(∀p∈ls,f p<=f0 p)/\ky g bw ss ls many n f nF ks hs ws lns/\Gh many n (eJ lns ks many.toNat)/\Cj bw n b
theorem xE.same(h:xE K C CB j l H x g o many n)(s:a8 H p):xE K C CB j l p x g o many n:=by
 obtain⟨d,e,ls,i,f,a,k,m,q,c,b,r,t,u⟩:=h;exact⟨d,e,ls,i,f,a,k,m,q,c,b,r.same s,t.same s,u⟩
end Bs
namespace Sx
open PySem L2 Bs
inductive J5(K:Zh)(C CB CP CS:Addr)(vs:List V)(H:Hp)(Q:VK)(eA:XK):Prop
 |mk (g:Str) (a:Addr) (many:Int) (n:Nat) (bw:List Str) (_:vs=[.str g,.ref a,.int many,.int (n:Int)]) (_:aI K H a (bw.map V.str)) (_:vC g) (_:bw.length<=6) (_:(∀w∈bw,wR g w)) (_:fA g.length many n) (_:∀(v:V) (H':Hp),a8 H H'->(v=.non\/∃x,v=.ref x/\xE K C CB CP CS H' x g bw many n)->Q v H')
end Sx
namespace K41
open PySem L2 Bs Sx
section
variable{P:ZH}{w:World}{K:Zh}{mg:Str->Option Value}{base:Heap}
theorem xF(L:Lk K mg):aM P w K mg base cW 12 L.qT L.qU ["_law_signs","_law_words","_law_many","_law_wide"] (J5 K L.aj L.aE L.aQ L.ay):=by
 refine L.lE.F.dD (N:=["_law_signs","_law_words","_law_many","_law_wide","_law_told_here"]) (λZ A outer s H vs Q E nd V h=>?_);obtain⟨g,a,many,n,y,rfl,hA,q,m,d,z,k⟩:=h
 refine⟨_,(a7 (ai (i:=4) iA)
  (a7 (J4 ⟨rfl,rfl⟩ (F6 (HM (i:=4) nd rfl (wcJ rfl) (F5 L.pR (i7 L) (V.mono (by decide)) rfl L.tU L.da.b (a5 (jb L.xo (j2 L) (V.mono (by decide)) rfl L.Bc L.dY.b .nil cG (a5 (pv 0) (a5 (pv 1) a9))) (a5 (pv 2) (a5 (pv 3) a9)))))) rfl L.tW rfl L.xq L.gb L.tX (L.gb.ne L.tX (by decide+kernel)) (L.gb.neT L.XT (by decide+kernel)) nd (i:=4) rfl (wcJ rfl))
  (ag (az (pv 4))))),?_⟩
 have g2:=q.lo;have g4:=q.hi;have w1:∀w∈y,1<=w.length/\w.length<=900:=λw h=>⟨(d w h).lo,by have:=(d w h).hi;omega⟩;refine⟨_,rfl,_,rfl,λB C l j W=>?_⟩;refine⟨B,C,g,a,y,rfl,a6,(cZ l j).seq hA,q,m,d,λr ls t u D=>⟨rfl,?_⟩⟩;have G:a8 H t:=λb o e=>D b o (cZ l j _ _ e) (af e l);have zJ:r.length<=25:=u.few m d;have I:("":Str)∈r:=u.pm.mem_iff.mpr ((iC _).mpr (.inl rfl));refine⟨_,rfl,_,rfl,λx v nx J YG=>?_⟩;have sm:a8 t (upd (upd t v (.own x)) x (.ins L.aj v [])):=cZ nx J;refine⟨x,v,B,many,n,g,y,r,ls,rfl,a6,u.same sm,w1,by omega,I,q.nd,g2,by omega,by omega,z,λM p la ll f0 f O ks hs ws R b X k2 x2 P2 r2 l2 hL S hP W0 hB=>⟨rfl,?_⟩,?_,?_⟩
 ·have Y:a8 t X:=λc o e=>k2 _ _ (sm _ _ e) (af e nx);refine⟨_,rfl,k _ X (G.trans Y) (.inr ⟨x,rfl,B,r,ls,f0,f,O,ks,hs,ws,R,b,u.same Y,⟨v,p,la,ll,x2,P2.same (bj _ _),bh.same (bj _ _) _ _ r2,bh.same (bj _ _) _ _ l2⟩,M,hL,S,hP,W0,hB⟩)⟩
 ·exact λk' d' T _ U _ _=>⟨.inl rfl,_,rfl,k .non T (G.trans (sm.trans U)) (.inl rfl)⟩
 ·exact λ_ _ T U=>⟨.inr rfl,_,rfl,k .non T (G.trans (sm.trans U)) (.inl rfl)⟩
inductive Gq(vs:List V)(H:Hp)(Q:VK)(eA:XK):Prop
 |mk (a ts many) (_:vs=[.ref a,.int many]) (_:H a=some (.lst ((nI ts).map V.int))) (_:(∀t∈ts,(t:Int) < many)) (_:∀H',a8 H H'->Q .non H')
theorem uU(L:Lk K mg):aM P w K mg base cW 2 L.oI L.oJ ["data","many"] Gq:=by
 have T:=L.T;refine L.jz.F.dD (N:=["data","many","number","thing"]) (λg A outer s H t Q E nd u h=>?_);obtain⟨a,j,many,rfl,ha,c,k⟩:=h
 refine⟨_,(a7 (bP (dN (cz (aB cL (by rfl) T.JA yv (a5 (pv 0) (a5 (ic (v:=.ty "list") (by rfl) T.list jK rfl) a9))))) eu aR)
  (ag (bf ZM rfl (lP (by rfl) T.enum (a5 (pv 0) a9)) (eL rfl (aS (aA (i:=2)) (aS (aA (i:=3)) d5))) (ag (bP (PW.pt (gP (dN (cz (ao (lK L) L.hH (a5 (pv 3) a9)))) (gP (aG md (pv 3) ak (aU _)) (j5 (aG Eh (pv 3) (pv 1) (aU _)))))) eu aR))))),?_⟩
 refine⟨_,rfl,_,_,_,true,rfl,gQ.lst ha,rfl,true,rfl,cg ?_⟩;refine⟨_,rfl,a,_,rfl,aI.of ha,nM (K:=K) (a:=a) (xs:=(nI j).map V.int) (λi σ b=>a8 H b/\∃d e,σ=[some (.ref a),some (.int many),d,e]) ⟨a8.refl _,none,none,rfl⟩ (λi σ b _ p=>p.1.seq (aI.of ha)) ?_ (λσ b p=>k b p.1)⟩;rintro i x σ b T l ⟨m,d,e,rfl⟩ q;obtain⟨n,hn,rfl⟩:=pL (ZA l);have r:=c n hn;refine⟨T,_,rfl,ia.of a6,rfl,_,_,rfl,_,_,rfl,rfl,?_⟩;have f:=m.trans (a8.upd (o:=.tup [.int (i:Nat),.int (n:Int)]) q);generalize upd b T (.tup [.int (i:Nat),.int (n:Int)])=y at f;refine⟨_,rfl,(n:Int),rfl,true,rfl,cg ?_⟩;refine⟨_,rfl,_,_,rfl,rfl,false,congrArg V.bl (decide_eq_false (by omega)),cg ?_⟩;refine⟨_,rfl,_,rfl,_,_,rfl,rfl,false,congrArg V.bl (decide_eq_false (by omega)),cg ?_⟩;exact⟨f,_,_,rfl⟩
structure Bp(K:Zh)(C CP:Addr)(H:Hp)(x:Addr)(many:Int)(n b c:Nat)(wl:List (List (Str×Nat))):Prop where
 ex:∃dx p xb a l dp wa wb wc wz ys,H x=some (.ins C dx (oY p xb many (n:Int) a l (aW wl 0 (Zu b 0)).1 ((aW wl 0 (Zu b 0)).2:Int)))/\H p=some (.ins CP dp (tE wa wb wc wz))/\aI K H wb ys/\ys.length=c/\bh K H (jr wl) (.ref l)
 w:Gh many n wl
 m1:1<=many/\many<=8/\n<=10/\b<=1000/\c<=1000
theorem Bp.same{wl:List (List (Str×Nat))}(h:Bp K C g H x many n b c wl)(s:a8 H j):Bp K C g j x many n b c wl:=by
 obtain⟨⟨d,p,e,a,l,dp,f,i,k,m,o,q,r,t,u,v⟩,w,y⟩:=h;exact⟨⟨d,p,e,a,l,dp,f,i,k,m,o,s _ _ q,s _ _ r,s.seq t,u,bh.same s _ _ v⟩,w,y⟩
inductive Gr(K:Zh)(C CP:Addr)(u:Nat->Str×Nat->V)(vs:List V)(H:Hp)(Q:VK)(eA:XK):Prop
 |mk (x many n b c wl) (_:vs=[.ref x]) (_:Bp K C CP H x many n b c wl) (_:Q (u c (aW wl 0 (Zu b 0))) H)
theorem k8(L:Lk K mg):aM P w K mg base cW 1 L.kM L.kN ["self"] (Gr K L.aj L.aQ (λc _=>.int (c:Int))):=by
 have T:=L.T;refine L.cJ.F.dD (N:=["self"]) (λe A outer s H t Q E nd u h=>?_);obtain⟨x,many,n,b,c,wl,rfl,⟨⟨f,p,v,a,l,dp,g,d,i,j,m,o,q,r,rfl,_⟩,_⟩,k⟩:=h;refine⟨_,(ag (az (aB b7 (by rfl) T.len wa1 (a5 (aO (aO (pv 0) rfl) rfl) a9)))),?_⟩;exact⟨_,rfl,x,L.aj,f,_,_,rfl,o,L.au.cl,L.au.og,xC ..,p,L.aQ,dp,_,_,rfl,q,L.cD.cl,L.cD.z9,xk g d i j,d,m,rfl,.inl r,k⟩
theorem u9(L:Lk K mg):aM P w K mg base cW 1 L.mC L.mD ["self"] (Gr K L.aj L.aQ (λ_ w=>.str w.1)):=by
 refine L.fT.F.dD (N:=["self"]) (λd A outer s H g Q E nd i h=>?_);obtain⟨x,many,n,b,c,wl,rfl,⟨⟨e,p,j,a,l,dp,m,o,q,r,t,f,_⟩,_⟩,k⟩:=h;refine⟨_,(ag (az (aO (pv 0) rfl))),?_⟩;exact⟨_,rfl,x,L.aj,e,_,_,rfl,f,L.au.cl,L.au.pM,mO ..,k⟩
theorem rx(L:Lk K mg):aM P w K mg base cW 1 L.kP L.kQ ["self"] (Gr K L.aj L.aQ (λ_ w=>.int (w.2:Int))):=by
 refine L.f9.F.dD (N:=["self"]) (λd A outer s H g Q E nd i h=>?_);obtain⟨x,many,n,b,c,wl,rfl,⟨⟨e,p,j,a,l,dp,m,o,q,r,t,f,_⟩,_⟩,k⟩:=h;refine⟨_,(ag (az (aO (pv 0) rfl))),?_⟩;exact⟨_,rfl,x,L.aj,e,_,_,rfl,f,L.au.cl,L.au.xm,rg ..,k⟩
inductive J6(K:Zh)(C CP:Addr)(vs:List V)(H:Hp)(Q:VK)(eA:XK):Prop
 |mk (x:Addr) (many:Int) (n b c:Nat) (wl:List (List (Str×Nat))) (d:Nat) (_:vs=[.ref x,.int (d:Int)]) (_:Bp K C CP H x many n b c wl) (_:d < wl.length) (_:∀y H',a8 H H'->bh K (aF H H') (bI (wl.getD d [])) y->Q y H')
theorem ry(L:Lk K mg):aM P w K mg base cW 1 L.kR L.kT ["self","desk"] (J6 K L.aj L.aQ):=by
 refine L.fb.F.dD (N:=["self","desk"]) (λJ A outer s H vs Q E nd g h=>?_);obtain⟨x,many,n,b,c,wl,d,rfl,⟨⟨M,p,xb,a,l,dp,wa,wb,wc,wz,ys,O,_,_,_,hl⟩,W,m1⟩,hd,k⟩:=h;refine⟨_,(ag (az (eP rfl (av [] []) (av [] []) (by decide) (aJ (b8 bq (aO (pv 0) rfl) (pv 1) (λ_ _=>rfl))) (λ_ _ _ _ _ _=>b5) (λ_ _ _ _ _ _=>(dj (a5 (pv 0) (a5 (pv 1) a9))))))),?_⟩;obtain⟨l',R,S,j,m⟩:=id hl;cases S;have f:=fK hd;obtain⟨v,o,rd⟩:=m.at (i:=d) (d:=bI (wl.getD d [])) (by rw[Zi,f];rfl);have T:=W.ln _ (ZA f);obtain⟨C,U,rfl,D,e,V⟩:=js rd;have t:=e;rw[Zf]at t;refine⟨_,rfl,x,L.aj,M,_,_,rfl,O,L.au.cl,L.au.cp,qZ ..,_,rfl,l,R,_,_,rfl,rfl,.inl j,bx o,C,rfl,⟨_,D⟩,λlc u=>?_⟩;refine iT (prs:=(wl.getD d []).map dM) (λ_=>true) (λq=>.tup [.at q.1,.at q.2]) (aH K C U) e (λi q f=>let ⟨r,X,Y⟩:=V i q f;⟨r,X,ia.of Y⟩) u (ax (by omega)) (λG y=>y.seq D) (λq I Z _ _ B=>B I (a8.refl _)) (λq I Z f _ s3 B=>?_) (λG y r=>?_)
 ·obtain⟨z,hz,rfl⟩:=Zq.mp f;exact⟨_,rfl,_,rfl,by show 2<=sizeLine;decide,λr g=>B _ _ (a8.upd g) (kr g z)⟩
 ·rw[wab.mpr (λ_ _=>rfl),Zw]at r;exact k _ G y r
inductive Gs(K:Zh)(C CP:Addr)(vs:List V)(H:Hp)(Q:VK)(eA:XK):Prop
 |mk (x a many n b c wl ts) (_:vs=[.ref x,.ref a]) (_:Bp K C CP H x many n b c wl) (_:H a=some (.lst ((nI ts).map V.int))) (_:(∀t∈ts,(t:Int) < many)) (_:ts.length<=10000) (_:∀H',a8 H H'->Q (.str (J1 wl b c ts)) H')
theorem Gu{many:Int}{ts:List Nat}(m1:1<=many)(h:∀t∈ts,(t:Int) < many)(c:Nat):∀t:Nat,t∈ts++Zu c 0->(t:Int) < many:=λt a=>by
 rcases ZL.mp a with a |a
 ·exact h t a
 ·rw[(wca.mp a).2];omega
theorem zq{many:Int}{n b:Nat}{wl:List (List (Str×Nat))}(W:Gh many n wl)(m1:1<=many):(aW wl 0 (Zu b 0)).2 < wl.length/\(aW wl 0 (Zu b 0)).1.length=n * b:=by
 have h:=oV W (wcy.mpr W.ne) (ts:=Zu b 0) λt a=>by rw[(wca.mp a).2];omega
 rwa[war]at h
theorem gp(L:Lk K mg):aM P w K mg base cW 3 L.kU L.kW ["self","data"] (Gs K L.aj L.aQ):=by
 refine L.bR.F.dD (N:=["self","data","found"]) (λgA A outer s H vs Q E nd hr h=>?_);obtain⟨x,a,many,n,b,c,wl,d,rfl,W,ha,g,Uq,k⟩:=h
 refine⟨_,(a7 (bp (ao (uU L) L.jz (a5 (pv 1) (a5 (aO (pv 0) rfl) a9))))
  (a7 (ai (i:=2) (ao (wx L) L.oK (a5 (aO (pv 0) rfl) (a5 (aO (pv 0) rfl) (a5 (aL zY (pv 1) (aL zZ (cj (a5 ak a9)) (dk (pv 0) L.au.cl L.cJ.m (k8 L) (hr.mono (by decide)) L.cJ.b .nil cG))) a9)))))
  (ag (az (aL j9 (aO (pv 0) rfl) (b8 gg (pv 2) ak (λ_ _=>rfl))))))),?_⟩
 obtain⟨⟨j,p,xb,aa,ll,dp,wa,wb,wc,wz,ys,v,_,_,_,rl⟩,C,m1,m8,e,hb,zJ⟩:=id W;have D:=zq (b:=b) C m1;refine⟨_,rfl,_,rfl,x,L.aj,j,_,_,rfl,v,L.au.cl,L.au.G7,Bn ..,a,d,many,rfl,ha,g,λG T=>?_⟩;have U:=T _ _ v;refine⟨_,rfl,x,L.aj,j,_,_,rfl,U,L.au.cl,L.au.cp,qZ ..,_,rfl,x,L.aj,j,_,_,rfl,U,L.au.cl,L.au.xm,rg ..,_,rfl,by show 1<=sizeLine;decide,λy I=>?_⟩;have X:=a8.upd (H:=G) (o:=.lst [V.int 0]) I;have J:(upd G y (.lst [V.int 0])) y=some (.lst [V.int 0]):=a6;generalize upd G y (.lst [V.int 0])=M at X J;have f:=T.trans X;refine⟨_,rfl,x,j,_,rfl,f _ _ v,gd _ _ _ _ _ _ _ _ (by decide+kernel),x,many,n,b,c,wl,rfl,W.same f,?_⟩;refine⟨y,(c:Int),[V.int 0],rfl,rfl,J,by omega,by omega,ax (by show 1 * ((c:Int)).toNat<=_;omega),λz O=>?_⟩;rw[ZS,p0];have Y:=a8.upd (H:=M) (o:=.lst ((nI (Zu c 0)).map V.int)) O;have Z:(upd M z (.lst ((nI (Zu c 0)).map V.int))) z=some (.lst ((nI (Zu c 0)).map V.int)):=a6;generalize upd M z (.lst ((nI (Zu c 0)).map V.int))=R at Y Z;have l:=f.trans Y;refine⟨a,z,_,_,rfl,rfl,l _ _ ha,Z,ax ?_,λB S=>?_⟩
 ·rw[Zf,Zf,bJ,bJ,war];omega
 rw[<-ZB,<-lX];have s4:=a8.upd (H:=R) (o:=.lst ((nI (d++Zu c 0)).map V.int)) S;have h4:(upd R B (.lst ((nI (d++Zu c 0)).map V.int))) B=some (.lst ((nI (d++Zu c 0)).map V.int)):=a6;generalize upd R B (.lst ((nI (d++Zu c 0)).map V.int))=H4 at s4 h4;have r:=l.trans s4;have t:=Gu m1 g c;have w1:=oV C D.1 t;rw[Zm,war]at w1;refine⟨.ref ll,_,B,many,n,wl,d++Zu c 0,rfl,bh.same r _ _ rl,aI.of h4,C,D.1,t,by rw[Zm,war];omega,e,λq H5 s5 hq=>?_⟩;have u:=r.trans s5;refine⟨_,rfl,x,L.aj,j,_,_,rfl,u _ _ v,L.au.cl,L.au.pM,mO ..,_,rfl,q,_,_,_,rfl,rfl,ia.of hq,rfl,_,_,rfl,rfl,ax ?_,k H5 u⟩;rw[D.2,w1.2];have h1:n * b<=10 * 1000:=wbR e hb;have J:n * (d.length + c)<=10 * 11000:=wbR e (by omega);omega
theorem rz(L:Lk K mg):aM P w K mg base cW 2 L.lG L.lH ["_law_told_here","_law_data"] (Gs K L.aj L.aQ):=by
 refine L.i6.F.dD (N:=["_law_told_here","_law_data","_law_row","_law_desk","_law_number","_law_word"]) (λgA A outer s H vs Q E nd J h=>?_);obtain⟨x,a,many,n,b,c,wl,ts,rfl,W,ha,Y,Uq,k⟩:=h
 refine⟨_,(a7 (ai (i:=2) (dk (pv 0) L.au.cl L.fT.m (u9 L) (J.mono (by decide)) L.fT.b .nil cG))
  (a7 (ai (i:=3) (dk (pv 0) L.au.cl L.f9.m (rx L) (J.mono (by decide)) L.f9.b .nil cG))
  (a7 (bf ZM rfl (aJ (aL zY (pv 1) (aL zZ (cj (a5 ak a9)) (dk (pv 0) L.au.cl L.cJ.m (k8 L) (J.mono (by decide)) L.cJ.b .nil cG)))) (aA (i:=4)) (a7 (p8 (b8 bq (gz (pv 0) L.au.cl L.fb.m (ry L) (J.mono (by decide)) L.fb.b .nil cG (a5 (pv 3) a9)) (pv 4) (λ_ _=>rfl)) (eL rfl (aS (aA (i:=5)) (aS (aA (i:=3)) d5))))
  (ag (ai (i:=2) (aL j9 (pv 2) (pv 5))))))
  (ag (az (pv 2)))))),?_⟩
 obtain⟨⟨M,p,xb,aa,ll,dp,wa,wb,wc,wz,ys,u,_,_,_,rl⟩,O,m1,m8,B,hb,zJ⟩:=id W;have Z:=zq (b:=b) O m1;refine⟨_,rfl,x,M,_,rfl,u,gd _ _ _ _ _ _ _ _ (by decide+kernel),x,many,n,b,c,wl,rfl,W,?_⟩;refine⟨_,rfl,x,M,_,rfl,u,gd _ _ _ _ _ _ _ _ (by decide+kernel),x,many,n,b,c,wl,rfl,W,?_⟩;refine⟨_,rfl,by show 1<=sizeLine;decide,λR LY=>?_⟩;have S:=a8.upd (H:=H) (o:=.lst [V.int 0]) LY;have h2:(upd H R (.lst [V.int 0])) R=some (.lst [V.int 0]):=a6;generalize upd H R (.lst [V.int 0])=H2 at S h2;refine⟨_,rfl,x,M,_,rfl,S _ _ u,gd _ _ _ _ _ _ _ _ (by decide+kernel),x,many,n,b,c,wl,rfl,W.same S,?_⟩;refine⟨R,(c:Int),[V.int 0],rfl,rfl,h2,by omega,by omega,ax (by show 1 * ((c:Int)).toNat<=_;omega),λT O9=>?_⟩;rw[ZS,p0];have s3:=S.trans (a8.upd (H:=H2) (o:=.lst ((nI (Zu c 0)).map V.int)) O9);have h3:(upd H2 T (.lst ((nI (Zu c 0)).map V.int))) T=some (.lst ((nI (Zu c 0)).map V.int)):=a6;generalize upd H2 T (.lst ((nI (Zu c 0)).map V.int))=H3 at s3 h3;refine⟨a,T,_,_,rfl,rfl,s3 _ _ ha,h3,ax ?_,λC Xl=>?_⟩
 ·rw[Zf,Zf,bJ,bJ,war];omega
 rw[<-ZB,<-lX];have s4:=s3.trans (a8.upd (H:=H3) (o:=.lst ((nI (ts++Zu c 0)).map V.int)) Xl);have U:(upd H3 C (.lst ((nI (ts++Zu c 0)).map V.int))) C=some (.lst ((nI (ts++Zu c 0)).map V.int)):=a6;generalize upd H3 C (.lst ((nI (ts++Zu c 0)).map V.int))=H4 at s4 U;have j:=Gu m1 Y c;have LV:(ts++Zu c 0).length<=11000:=by rw[Zm,war];omega
 have k:∀H',a8 H H'->Q (.str ((aW wl 0 (Zu b 0)).1++(aW wl (aW wl 0 (Zu b 0)).2 (ts++Zu c 0)).1)) H':=k;generalize ts++Zu c 0=d at j LV k U;generalize aW wl 0 (Zu b 0)=o at Z k;have Up:n * b<=10 * 1000:=wbR B hb;refine⟨C,rfl,⟨_,aI.of U⟩,dh (K:=K) (a:=C) (xs:=(nI d).map V.int) (λi σ D=>a8 H4 D/\∃v4 v5,σ=[some (.ref x),some (.ref a),some (.str (o.1++(aW wl o.2 (d.take i)).1)),some (.int ((aW wl o.2 (d.take i)).2:Int)),v4,v5]) ⟨a8.refl _,none,none,?_⟩ (λi σ D _ q=>aI.of (q.1 _ _ U)) ?_ ?_⟩
 ·show _=[_,_,some (V.str (o.1++"")),_,_,_];rw[jo];rfl
 ·rintro i y σ D hy ⟨X,v4,v5,rfl⟩;have hi:i < d.length:=by have:=(Zn.mp hy).1;rwa[Zf,bJ]at this
  have l:d[i]?=some d[i]:=Zg hi;rw[xh l]at hy;cases hy;have Sa:=j _ (ZV hi);have mR:d.take (i + 1)=d.take i++[d[i]]:=by rw[wa7,l];rfl
  generalize d[i]=t at l Sa mR;obtain⟨w1,w2⟩:=oV O Z.1 (ts:=d.take i) λx u=>j x ((waz _ _).subset u);have f:=pT wl o.2 (d.take i) t;rw[<-mR]at f;have hq:=fK w1;have IZ:=O.ln _ (ZA hq);have Pa:=O.wd _ (ZA hq);have Np:jY wl (aW wl o.2 (d.take i)) t=((aW wl o.2 (d.take i)).1++((wl.getD (aW wl o.2 (d.take i)).2 []).getD t ("",0)).1,((wl.getD (aW wl o.2 (d.take i)).2 []).getD t ("",0)).2):=rfl;rw[Np]at f;generalize aW wl o.2 (d.take i)=s0 at *;have G:=s4.trans X;refine⟨_,rfl,x,M,_,rfl,G _ _ u,gd _ _ _ _ _ _ _ _ (by decide+kernel),_,rfl,x,many,n,b,c,wl,s0.2,rfl,W.same G,w1,λy H6 s6 r6=>?_⟩;generalize wl.getD s0.2 []=g at *;obtain⟨yb,z,rfl,hS,hT⟩:=dH (bh.same (bj _ _) _ _ r6);have Ge:z.length=g.length:=by rw[hT.1,Zf,Zf]
  have r:t < g.length:=by omega
  have I:t < z.length:=by omega
  have Lg:H6 z[t]=some (.tup [.str g[t].1,.int (g[t].2:Int)]):=hT.2 t z[t] (jL (dM g[t])) (Zg I) (by rw[Zi,Zi,Zg r];rfl);have eq:g.getD t ("",0)=g[t]:=by rw[Zj,Zg r];rfl
  have Xm:=Pa _ (ZV r);rw[eq]at f;generalize g[t]=q at *;refine⟨_,rfl,yb,_,_,_,rfl,rfl,hS,bx (v:=.ref z[t]) (by rw[Zi,Zg I];rfl),z[t],_,rfl,ia.of Lg,rfl,_,_,rfl,_,_,rfl,rfl,?_⟩;refine⟨_,rfl,_,rfl,_,_,rfl,rfl,ax ?_,X.trans s6,some (.int (t:Int)),some (.str q.1),?_⟩
  ·rw[len_app,Z.2,w2,Xm,ZG];have h1:n * min i d.length<=10 * 11000:=wbR B (by omega);omega
  ·rw[f,eB];rfl
 ·rintro σ D ⟨X,v4,v5,rfl⟩;have e:d.take ((nI d).map V.int).length=d:=by rw[Zf,bJ,ZU]
  rw[e];exact⟨_,rfl,k D (s4.trans X)⟩
theorem xG(L:Lk K mg):aM P w K mg base cW 1 L.qV L.qW ["_law_row","_law_words"] (Fq K):=by
 have T:=L.T;refine L.lF.F.dD (N:=["_law_row","_law_words"]) (λi A outer s H o Q E nd p h=>?_);obtain⟨r,a,j,rfl,f,hl,k⟩:=h;refine⟨_,(ag (az (E9 (aB (su rfl) (by rfl) T.any Ki (a5 (bY rfl (av ["_law_row"] [0]) (aJ (pv 1)) (λ_ _ _ _ _ _=>b5) (λ_ _ _ _ _ _=>(ie pe (pv 0) (pv 1) rfl))) a9))))),?_⟩;refine⟨_,rfl,a,rfl,⟨_,f⟩,λl d=>comp_map (MN r) (aH K a (j.map V.str)) d (by rw[Zf];exact ax (by omega)) (λg e=>e.seq f) (λx m t n _ q=>?_) (λg e b=>?_)⟩
 ·obtain⟨c,_,rfl⟩:=Zq.mp n;exact⟨_,rfl,_,rfl,_,_,rfl,rfl,q m (a8.refl _)⟩
 ·rw[yt]at b;refine⟨l,_,rfl,aI.of b,_,rfl,?_⟩;have:=k g e;rw[wdw];exact this
theorem gJ(L:Lk K mg):aM P w K mg base cW 1 L.qN L.qO ["_law_script","_law_place_here"] (N5 K):=by
 have T:=L.T;refine L.eF.F.dD (N:=["_law_script","_law_place_here"]) (λb A outer s H f Q E nd g h=>?_);obtain⟨a,ns,p,rfl,c,k⟩:=h;refine⟨_,(ag (az (aB (kj rfl) (by rfl) T.sum D7 (a5 (cu eM (pv 0) (cn (pv 1)) (cn (aL gf (pv 1) ak))) a9)))),?_⟩;refine⟨_,rfl,_,rfl,_,rfl,_,rfl,_,_,rfl,rfl,_,rfl,a,_,rfl,c,λl hl=>?_⟩;obtain⟨d,e,_⟩:=yH ns (some p) (some (p + 1));rw[e];exact⟨l,d,rfl,aI.of a6,k _ _ (a8.upd hl)⟩
theorem lO(L:Lk K mg):aM P w K mg base cW 1 L.mI L.mJ ["_law_cell","_law_many"] Fs:=by
 have T:=L.T;refine L.fS.F.dD (N:=["_law_cell","_law_many","_law_found","_law_one","_law_turn","_law_two","_law_more"]) (λx A outer s H C Q E nd D h=>?_);obtain⟨c,m,rfl,G,k⟩:=h
 refine⟨_,(a7 (ai (i:=2) (cj a9))
  (a7 (ai (i:=3) (aL sP (pv 0) ak))
  (a7 (bP (aG vg (aL d2 (pv 0) ak) ak (aU _)) (a7 (bf ZM rfl (du rfl T.range (a5 (pv 1) a9)) (aA (i:=4)) (a7 (bp (iL wa6 wae wai cE (pv 2) (a5 (aL d2 (pv 3) ak) a9)))
  (ag (ai (i:=3) (aL sP (pv 3) ak)))))
  (ag (az (pv 2)))) aR)
  (a7 (ai (i:=5) (aL d2 (aL sP (pv 3) ak) ak))
  (a7 (ai (i:=3) (aL d2 (pv 3) ak))
  (a7 (bf ZM rfl (du rfl T.range (a5 (aL gf (pv 1) ak) a9)) (aA (i:=4)) (a7 (ai (i:=6) (aL gf (aL gf (aL gf (aL j8 (pv 3) ak) (aL j8 (pv 5) (pv 5))) (aL j8 ak (pv 4))) ak))
  (a7 (ai (i:=3) (pv 5))
  (a7 (ai (i:=5) (aL d2 (pv 6) ak))
  (ag (bp (iL wa6 wae wai cE (pv 2) (a5 (pv 5) a9))))))))
  (ag (az (cu eM (pv 2) (cn ak) fN))))))))),?_⟩
 refine⟨wa0 _,λl hl=>?_⟩;have t:a8 H (upd H l (.lst [])):=a8.upd hl;have app:∀{f:Hp} {d:List Int} {v:Int},a8 H f->f l=some (.lst (d.map V.int))->a8 H (upd f l (.lst (d.map V.int++[.int v])))/\(upd f l (.lst (d.map V.int++[.int v]))) l=some (.lst ((d++[v]).map V.int)):=λ{f d v} j g=>⟨λb I e=>by rw[ae (af e hl)];exact j _ _ e,by rw[a6,ZB];rfl⟩;refine⟨_,rfl,_,_,rfl,rfl,⟨by decide,by decide+kernel⟩,?_⟩;refine⟨_,rfl,_,_,rfl,rfl,(by show (0:Int) < 2;decide),rfl,_,rfl,Ez (λ_=>?_) (λ_=>?_)⟩
 ·refine⟨_,rfl,(m:Int),rfl,by omega,by omega,?_⟩;rw[ZS];refine dA (lo:=0) (n:=m) (λi σ f=>∃(one:Int) (d:List Int) (v4:Option V),σ=[some (.int c),some (.int (m:Int)),some (.ref l),some (.int one),v4,none,none]/\a8 H f/\f l=some (.lst (d.map V.int))/\d.length=i) ⟨_,[],none,rfl,t,a6,rfl⟩ ?_ ?_
  ·rintro i σ f hi ⟨one,d,v4,rfl,j,g,o⟩;refine⟨_,rfl,.inl ⟨rfl,_,aI.of g⟩,_,rfl,_,_,rfl,rfl,(by show (0:Int) < 1999999973;decide),l,_,_,rfl,rfl,g,by rw[Zf];exact bB (by omega),?_⟩;exact⟨_,rfl,_,_,rfl,rfl,⟨by decide,by decide+kernel⟩,_,d++[one % 1999999973],_,rfl,(app j g).1,(app j g).2,by rw[Zm,o];rfl⟩
  ·rintro σ f ⟨one,d,v4,rfl,j,g,o⟩;exact⟨_,rfl,k l d f j hl g o⟩
 ·refine⟨_,rfl,_,_,rfl,rfl,⟨by decide,by decide+kernel⟩,_,_,rfl,rfl,(by show (0:Int) < 1999999943;decide),?_⟩;have q:=wav (c / 2 / 1999999973) (show (1999999943:Int)≠0 by decide);have u:=waF (c / 2 / 1999999973) (show (0:Int) < 1999999943 by decide);refine⟨_,rfl,_,_,rfl,rfl,(by show (0:Int) < 1999999973;decide),?_⟩;refine⟨_,rfl,_,_,rfl,rfl,_,rfl,by omega,by omega,?_⟩;rw[show ((m:Int) + 2).toNat=m + 2 by omega];refine dA (lo:=0) (n:=m + 2) (λi σ f=>∃(one a:Int) (d:List Int) (v4 v6:Option V),σ=[some (.int c),some (.int (m:Int)),some (.ref l),some (.int one),v4,some (.int a),v6]/\0<=a/\a < 2000000000/\a8 H f/\f l=some (.lst (d.map V.int))/\d.length=i) ⟨c / 2 % 1999999973,c / 2 / 1999999973 % 1999999943,[],none,none,rfl,q,by omega,t,a6,rfl⟩ ?_ ?_
  ·rintro i σ f hi ⟨one,a,d,v4,v6,rfl,q,u,j,g,o⟩;refine⟨_,rfl,_,_,rfl,rfl,.inr ⟨by decide,by decide⟩,_,rfl,_,rfl,_,_,rfl,rfl,.inl ⟨by omega,by omega⟩,_,_,rfl,rfl,_,rfl,_,_,rfl,rfl,.inl ⟨by decide,by decide⟩,_,_,rfl,rfl,_,_,rfl,rfl,?_⟩;refine⟨_,rfl,?_⟩;refine⟨_,rfl,_,_,rfl,rfl,(by show (0:Int) < 1999999973;decide),?_⟩;have y:=wav (one * 1664525 + a * a + 97 * (0 + (i:Int)) + 40503) (show (1999999973:Int)≠0 by decide);have J:=waF (one * 1664525 + a * a + 97 * (0 + (i:Int)) + 40503) (show (0:Int) < 1999999973 by decide);refine⟨_,rfl,.inl ⟨rfl,_,aI.of g⟩,_,rfl,l,_,_,rfl,rfl,g,by rw[Zf];exact wap (m:=2000) (by omega) (by rw[wbe];decide),?_⟩;exact⟨_,_,d++[(one * 1664525 + a * a + 97 * (0 + (i:Int)) + 40503) % 1999999973],_,_,rfl,y,by omega,(app j g).1,(app j g).2,by rw[Zm,o];rfl⟩
  ·rintro σ f ⟨one,a,d,v4,v6,rfl,q,u,j,g,o⟩;refine⟨_,rfl,_,rfl,l,_,rfl,aI.of g,λz p=>?_⟩;have B:=yQ (d.map V.int) 2;have r:iK (d.map V.int) (some 2) none=(d.drop 2).map V.int:=by rw[wd5];exact B
   rw[r];exact k z (d.drop 2) _ (j.trans (a8.upd p)) (none_of j p) a6 (by rw[waV];omega)
theorem Og:∀st:Fin 36,∀sp∈[1,5,7,11,13,35],∀n∈[2,3,4],((kl st sp n).Nodup/\∀c∈kl st sp n,c∈ch dJ):=by decide+kernel
theorem zr{st sp n:Nat}{x:Str}(j:st < 36)(hs:sp∈[1,5,7,11,13,35])(hn:n∈[2,3,4])(g:ch x=kl st sp n):vC x:=by
 obtain⟨a,b⟩:=Og ⟨st,j⟩ sp hs n hn;have hl:x.length=n:=by grind [aV,kl,Zf]
 have c:n=2\/n=3\/n=4:=by simpa using hn
 exact⟨by omega,by omega,by rw[g];exact a,by rw[g];exact b⟩
theorem Lr:∀d:Int,0<=d->d < 8->∃n:Nat,wD ([.int 2,.int 2,.int 2,.int 3,.int 2,.int 4,.int 2,.int 3]:List V) d=some (.int (n:Int))/\n∈[2,3,4]:=under 8 λk=>⟨[2,2,2,3,2,4,2,3].getD k.val 0,by revert k;decide,by revert k;decide⟩
theorem Ls:∀d:Int,0<=d->d < 6->∃n:Nat,wD ([.int 1,.int 5,.int 7,.int 11,.int 13,.int 35]:List V) d=some (.int (n:Int))/\n∈[1,5,7,11,13,35]:=under 6 λk=>⟨[1,5,7,11,13,35].getD k.val 0,by revert k;decide,by revert k;decide⟩
theorem Lv:∀d:Int,0<=d->d < 8->∃n:Nat,wD ([.int 0,.int 1,.int 2,.int 3,.int 1,.int 2,.int 3,.int 6]:List V) d=some (.int (n:Int))/\n<=6:=under 8 λk=>⟨[0,1,2,3,1,2,3,6].getD k.val 0,by revert k;decide,by revert k;decide⟩
theorem Lw:∀d:Int,0<=d->d < 8->∃n:Nat,wD ([.int 2,.int 3,.int 4,.int 2,.int 3,.int 4,.int 1,.int 5]:List V) d=some (.int (n:Int))/\1<=n/\n<=5:=under 8 λk=>⟨[2,3,4,2,3,4,1,5].getD k.val 0,by revert k;decide,by revert k;decide⟩
theorem J7{xs:List Int}(h:xs.length=4):∃a b c d,xs=[a,b,c,d]:=by
 match xs,h with
 |[a,b,c,d],_=>exact⟨a,b,c,d,rfl⟩
theorem xH(L:Lk K mg):aM P w K mg base cW 2 L.qP L.qQ ["_law_script"] (Ih K):=by
 have T:=L.T;refine L.lC.F.dD (N:=["_law_script","_law_known","_law_xs","_law_size","_law_step","_law_signs","_law_words","_law_k","_law_ys","_law_long"]) (λgA A outer s H vs Q E nd hr h=>?_);obtain⟨a,ns,rfl,hS,k⟩:=h
 refine⟨_,(a7 (ai (i:=1) dZ)
  (a7 (ai (i:=2) (ao (lO L) L.fS (a5 (ao (gJ L) L.eF (a5 (pv 0) (a5 ak a9))) (a5 ak a9))))
  (a7 (ai (i:=3) (b8 bq (cj (nV (is:=[2,2,2,3,2,4,2,3]) (by decide+kernel))) (aL d2 (b8 bq (pv 2) ak (λ_ _=>rfl)) ak) (λ_ _=>rfl)))
  (a7 (ai (i:=4) (b8 bq (cj (nV (is:=[1,5,7,11,13,35]) (by decide+kernel))) (aL d2 (b8 bq (pv 2) ak (λ_ _=>rfl)) ak) (λ_ _=>rfl)))
  (a7 (ai (i:=5) (iL weX wfb wfc BO dZ (a5 (bY rfl (av ["_law_known","_law_xs","_law_step"] [1,2,4]) (du rfl T.range (a5 (pv 3) a9)) (λ_ _ _ _ _ _=>b5) (λ_ _ _ _ _ _=>(b8 Em (pv 1) (aL d2 (aL gf (b8 (fY (K:=K) rfl) (pv 2) ak (λ_ _=>rfl)) (aL j8 (pv 3) (pv 0))) ak) (λ_ _=>rfl)))) a9)))
  (a7 (ai (i:=6) (cj a9))
  (a7 (bf ZM rfl (du rfl T.range (a5 (b8 bq (cj (nV (is:=[0,1,2,3,1,2,3,6]) (by decide+kernel))) (aL d2 (b8 bq (pv 2) ak (λ_ _=>rfl)) ak) (λ_ _=>rfl)) a9)) (aA (i:=7)) (a7 (ai (i:=8) (cu eM (ao (lO L) L.fS (a5 (ao (gJ L) L.eF (a5 (pv 0) (a5 (aL gf ak (aL d2 (pv 7) ak)) a9))) (a5 ak a9))) (cn (aL j8 (aL nH (pv 7) ak) ak)) fN))
  (a7 (ai (i:=9) (b8 bq (cj (nV (is:=[2,3,4,2,3,4,1,5]) (by decide+kernel))) (aL d2 (b8 bq (pv 8) ak (λ_ _=>rfl)) ak) (λ_ _=>rfl)))
  (ag (bp (iL wa6 wae wai cE (pv 6) (a5 (iL weX wfb wfc BO dZ (a5 (bY rfl (av ["_law_signs","_law_size"] [5,3]) (aJ (cu eM (pv 8) (cn ak) (cn (aL gf ak (pv 9))))) (λ_ _ _ _ _ _=>b5) (λ_ _ _ _ _ _=>(b8 Em (pv 1) (aL d2 (pv 0) (pv 2)) (λ_ _=>rfl)))) a9)) a9)))))))
  (ag (az (dj (a5 (pv 5) (a5 (pv 6) a9)))))))))))),?_⟩
 refine⟨_,rfl,a,ns,0,rfl,hS,λc1 H1 s1=>?_⟩;refine⟨c1,4,rfl,by decide,λlx xs H2 s2 fx h2 Z=>?_⟩;obtain⟨x0,x1,x2,x3,rfl⟩:=J7 Z;clear Z;have LZ:=s1.trans s2;obtain⟨n,hn,n1⟩:=Lr _ (wav x0 (show (8:Int)≠0 by decide)) (waF x0 (show (0:Int) < 8 by decide));refine⟨by decide,λp hp=>?_⟩;have G:=a8.upd (o:=.lst [.int 2,.int 2,.int 2,.int 3,.int 2,.int 4,.int 2,.int 3]) hp _ _ h2;have Bd:=LZ.trans (a8.upd (o:=.lst [.int 2,.int 2,.int 2,.int 3,.int 2,.int 4,.int 2,.int 3]) hp);refine⟨_,rfl,lx,_,0,_,rfl,rfl,aI.of G,rfl,_,_,rfl,rfl,(by show (0:Int) < 8;decide),p,_,_,_,rfl,rfl,aI.of a6,hn,?_⟩;generalize upd H2 p _=H3 at G Bd;obtain⟨sp,U7,Ur⟩:=Ls _ (wav x2 (show (6:Int)≠0 by decide)) (waF x2 (show (0:Int) < 6 by decide));refine⟨by decide,λp2 O8=>?_⟩;have f:=a8.upd (o:=.lst [.int 1,.int 5,.int 7,.int 11,.int 13,.int 35]) O8 _ _ G;have Us:=Bd.trans (a8.upd (o:=.lst [.int 1,.int 5,.int 7,.int 11,.int 13,.int 35]) O8);refine⟨_,rfl,lx,_,2,_,rfl,rfl,aI.of f,rfl,_,_,rfl,rfl,(by show (0:Int) < 6;decide),p2,_,_,_,rfl,rfl,aI.of a6,U7,?_⟩;generalize upd H3 p2 _=H4 at f Us
 have Ut:sp<=35:=by
  simp only[ZT,waW,or_false]at Ur;omega
 have YH:n<=4:=by
  simp only[ZT,waW,or_false]at n1;omega
 obtain⟨st,Xn⟩:∃st:Nat,x1 % 36=(st:Int):=⟨(x1 % 36).toNat,by omega⟩;have Np:st < 36:=by omega
 refine⟨rfl,_,rfl,(n:Int),rfl,by omega,by omega,λl hl=>?_⟩;rw[ZS];refine comp_map (HX st sp) (mS 0 n) hl (by rw[Zf,wag];exact ax (by omega)) (λ_ _=>trivial) (λx H5 Q' Z s5 q=>?_) (λH5 s5 m=>?_)
 ·obtain⟨i,hi,rfl⟩:=Zq.mp Z;have YJ:i < n:=wak.mp hi;have hd:(st + i * sp) % 36 < (ch dJ).length:=by rw[aV,sy];exact Nat.mod_lt _ (by decide)
  have e1:(ch dJ)[(st + i * sp) % 36]?=some ((ch dJ).getD ((st + i * sp) % 36) 0):=by rw[Zj,Zg hd];rfl
  have e2:=bx e1
  have e3:(((st + i * sp) % 36:Nat):Int)=(x1 + (sp:Int) * (0 + (i:Int))) % 36:=by
   rw[wdA,Int.mul_comm (sp:Int),Int.natCast_emod,wcC,wdz,<-Xn];show (x1 % 36 + (i:Int) * (sp:Int)) % 36=_;rw[Int.emod_add_emod]
  rw[e3]at e2
  have e4:HX st sp (.int (0 + (i:Int)))=.str ⟨#[(ch dJ).getD ((st + i * sp) % 36) 0]⟩:=by
   rw[wdA];rfl
  have q':=q H5 (a8.refl _);rw[e4]at q';exact⟨_,rfl,_,rfl,lx,_,1,_,rfl,rfl,aI.of (s5 _ _ f),rfl,_,rfl,_,rfl,_,_,rfl,rfl,.inl ⟨by omega,by omega⟩,_,_,rfl,rfl,_,_,rfl,rfl,(by show (0:Int) < 36;decide),dJ,_,_,rfl,rfl,ax (by rw[sy];decide),e2,q'⟩
 have Uu:((ZY n).map λ(i:Nat)=>V.int (0 + (i:Int))).map (HX st sp)=((kl st sp n).map λc=>(⟨#[c]⟩:Str)).map V.str:=by
  unfold kl;rw[Zw,Zw,Zw];refine wac λi _=>?_;show HX st sp (.int (0 + (i:Int)))=_;rw[wdA];rfl
 have d:(kl st sp n).length=n:=by unfold kl;rw[Zf,wag]
 rw[Uu]at m;refine⟨_,l,_,rfl,rfl,aI.of m,?_,?_⟩
 ·have u:∀r:List Nat,((r.map λc=>(⟨#[c]⟩:Str)).map (·.length)).sum=r.length:=by
   intro r
   induction r with
   |nil=>rfl
   |cons c r ih=>rw[ZK,ZK,waK,ih,ZZ];show 1 + r.length=_;omega
  rw[u,Zf,d];show n + n * 0<=16777216;omega
 have I:∀r:List Nat,((r.map λc=>(⟨#[c]⟩:Str)).map ch).flatten=r:=by
  intro r
  induction r with
  |nil=>rfl
  |cons c r ih=>rw[ZK,ZK,wbq,ih];rfl
 have Uv:=zr Np Ur n1 (x:=wcp "" ((kl st sp n).map λc=>(⟨#[c]⟩:Str))) (by rw[pj (by decide+kernel),I]);have Ck:(wcp "" ((kl st sp n).map λc=>(⟨#[c]⟩:Str))).length=n:=by rw[<-aV,pj (by decide+kernel),I,d]
 generalize wcp "" ((kl st sp n).map λc=>(⟨#[c]⟩:Str))=g at Uv Ck ⊢;clear m Uu d I;have Pb:=Us.trans s5;have Xo:=s5 _ _ f;obtain⟨nw,Xp,YK⟩:=Lv _ (wav x3 (show (8:Int)≠0 by decide)) (waF x3 (show (0:Int) < 8 by decide));refine⟨wa0 _,λJ M=>?_⟩;have fw:H J=none:=none_of Pb M;have Xq:=a8.upd (o:=.lst []) M _ _ Xo;have Nw:=Pb.trans (a8.upd (o:=.lst []) M);refine⟨by decide,λp3 O=>?_⟩;have Uw:=a8.upd (o:=.lst [.int 0,.int 1,.int 2,.int 3,.int 1,.int 2,.int 3,.int 6]) O _ _ Xq;have Ux:=a8.upd (o:=.lst [.int 0,.int 1,.int 2,.int 3,.int 1,.int 2,.int 3,.int 6]) O _ _ (a6 (H:=H5) (a:=J) (o:=.lst []));have Pg:=Nw.trans (a8.upd (o:=.lst [.int 0,.int 1,.int 2,.int 3,.int 1,.int 2,.int 3,.int 6]) O);refine⟨_,rfl,lx,_,3,_,rfl,rfl,aI.of Uw,rfl,_,_,rfl,rfl,(by show (0:Int) < 8;decide),p3,_,_,_,rfl,rfl,aI.of a6,Xp,?_⟩;generalize upd (upd H5 J _) p3 _=H7 at Uw Ux Pg;refine⟨_,rfl,by omega,by omega,?_⟩;rw[ZS]
 refine dA (lo:=0) (n:=nw) (λi σ H8=>∃(R:List Str) (v7 v8 v9:Option V),σ=[some (.ref a),some (.str dJ),some (.ref lx),some (.int (n:Int)),some (.int (sp:Int)),some (.str g),some (.ref J),v7,v8,v9]/\a8 H H8/\H8 J=some (.lst (R.map V.str))/\R.length=i/\∀w∈R,wR g w)
  ⟨[],none,none,none,rfl,Pg,Ux,rfl,(λw h=>nomatch h)⟩ ?_ ?_
 ·rintro i σ H8 hi ⟨R,v7,v8,v9,rfl,s8,h8,Af,S⟩;refine⟨_,rfl,_,rfl,_,_,rfl,rfl,(by show (0:Int) < 3;decide),_,_,rfl,rfl,a,ns,_,rfl,s8.seq hS,λcc H9 s9=>?_⟩;refine⟨cc,12,rfl,by decide,λly ys NF E4 fy Li hy=>?_⟩;have hq:(0 + (i:Int)) / 3 * 6=((i / 3 * 6:Nat):Int):=by omega
  have YL:i / 3 * 6<=6:=by omega
  refine⟨_,rfl,_,_,rfl,rfl,⟨by decide,by decide⟩,_,_,rfl,rfl,.inr ⟨by decide,by decide⟩,_,rfl,ly,_,rfl,aI.of Li,λl2 m=>?_⟩
  have ec:iK (ys.map V.int) (some ((0 + (i:Int)) / 3 * 6)) none=(ys.drop (i / 3 * 6)).map V.int:=by
   rw[wd5,hq];exact yQ _ _
  rw[ec];have U:(ys.drop (i / 3 * 6)).length ≥ 6:=by rw[waV];omega
  generalize ys.drop (i / 3 * 6)=zs at U;have B:(upd NF l2 (.lst (zs.map V.int))) l2=some (.lst (zs.map V.int)):=a6;have Lj:=((s8.trans s9).trans E4).trans (a8.upd (o:=.lst (zs.map V.int)) m);have NX:=a8.upd (o:=.lst (zs.map V.int)) m _ _ (E4 _ _ (s9 _ _ h8));generalize upd NF l2 _=IU at B Lj NX
  obtain⟨C,D,rfl⟩:∃C D,zs=C :: D:=by
   cases zs with
   |nil=>exact absurd U (by decide)
   |cons C D=>exact⟨C,D,rfl⟩
  obtain⟨lg,Xr,YM,YN⟩:=Lw _ (wav C (show (8:Int)≠0 by decide)) (waF C (show (0:Int) < 8 by decide));refine⟨by decide,λp4 W=>?_⟩;have v:=a8.upd (o:=.lst [.int 2,.int 3,.int 4,.int 2,.int 3,.int 4,.int 1,.int 5]) W _ _ B;have IV:=Lj.trans (a8.upd (o:=.lst [.int 2,.int 3,.int 4,.int 2,.int 3,.int 4,.int 1,.int 5]) W);have X:=a8.upd (o:=.lst [.int 2,.int 3,.int 4,.int 2,.int 3,.int 4,.int 1,.int 5]) W _ _ NX;refine⟨_,rfl,l2,_,0,_,rfl,rfl,aI.of v,(bx (xs:=(C :: D).map V.int) (j:=0) rfl),_,_,rfl,rfl,(by show (0:Int) < 8;decide),p4,_,_,_,rfl,rfl,aI.of a6,Xr,?_⟩;generalize upd IU p4 _=JK at v IV X;refine⟨_,rfl,.inl ⟨rfl,_,aI.of X⟩,rfl,_,rfl,?_⟩;refine⟨_,rfl,_,rfl,_,_,rfl,rfl,_,rfl,l2,_,rfl,aI.of v,λl3 Ht=>?_⟩
  obtain⟨ms,em,Rr⟩:∃ms:List Int,iK ((C :: D).map V.int) (some 1) (some (1 + (lg:Int)))=ms.map V.int/\ms.length=lg:=by
   refine⟨D.take lg,?_,by rw[ZG];rw[ZZ]at U;omega⟩;rw[show (1 + (lg:Int))=((1 + lg:Nat):Int) by omega,show (1:Int)=((1:Nat):Int) from rfl,Ig _ (by omega),wc0];show (((D.map V.int).take (1 + lg - 1)))=_;rw[wbs]
  rw[em];have Ph:=IV.trans (a8.upd (o:=.lst (ms.map V.int)) Ht);have JM:=a8.upd (o:=.lst (ms.map V.int)) Ht _ _ X;refine⟨l3,rfl,⟨_,aI.of a6⟩,λlc IQ=>?_⟩
  have Uy:0 < (n:Int):=by
   simp only[ZT,waW,or_false]at n1;omega
  refine EW (λy=>∃t,y=.str t/\∃cc,t=⟨#[cc]⟩/\cc∈ch g) (aH K l3 (ms.map V.int)) IQ (by rw[Zf];exact ax (by omega)) (λH' s'=>s'.seq (aI.of a6)) (λx M6 Q' Z Y q=>?_) (λus M6 Y d hR Xs=>?_)
  ·obtain⟨y,hy,rfl⟩:=Zq.mp Z;have y0:=wav y (show (n:Int)≠0 by omega);have y1:=waF y Uy;obtain⟨dd,Xu⟩:∃dd:Nat,y % (n:Int)=(dd:Int):=⟨(y % (n:Int)).toNat,by omega⟩;have hd:dd < (ch g).length:=by rw[aV];omega
   have e1:(ch g)[dd]?=some (ch g)[dd]:=by simp[hd]
   have e2:=bx e1;rw[<-Xu]at e2;exact⟨_,rfl,_,rfl,_,rfl,_,_,rfl,rfl,Uy,g,_,_,rfl,rfl,ax (by omega),e2,q _ M6 ⟨_,rfl,_,rfl,ZV hd⟩ (a8.refl _)⟩
  obtain⟨ts,rfl,Oh⟩:=BQ hR;rw[Zf,Zf]at d;have u:=yI Oh;refine⟨_,lc,ts,rfl,rfl,aI.of Xs,?_,?_⟩
  ·rw[u];show ts.length + ts.length * 0<=16777216;omega
  have Pa:wR g (wcp "" ts):=CQ (by decide+kernel) (by omega) (by omega) Oh;generalize wcp "" ts=wd at Pa;have Xv:=Ph.trans Y;have Pj:=Y _ _ JM;refine⟨J,_,_,rfl,rfl,Pj,by rw[Zf];exact bB (by omega),?_⟩;refine⟨R++[wd],_,_,_,rfl,λb o e=>?_,?_,by simp[Af],λw hw=>?_⟩
  ·rw[ae (af e fw)];exact Xv _ _ e
  ·rw[a6,ZB];rfl
  ·rcases ZL.mp hw with z |z
   ·exact S w z
   ·rw[ZC.mp z];exact Pa
 ·rintro σ H8 ⟨R,v7,v8,v9,rfl,s8,h8,Af,S⟩;refine⟨_,rfl,_,rfl,by show 2<=sizeLine;decide,λq hq=>?_⟩;exact k q J g R _ (s8.trans (a8.upd hq)) (none_of s8 hq) fw a6 (a8.upd hq _ _ h8) Uv (by omega) S
theorem Gv{n:Nat}{many wide:Int}(r:2<=n)(l:n<=4)(o:2<=many)(p:many<=8)(g:1<=wide)(j:wide<=6)(h:2 < n->wide<=3):fA n many wide:=by
 have key:∀(m:Fin 5) (k:Fin 7),(2 < m.val->k.val<=3)->(m.val:Int) ^ k.val<=64:=by decide
 obtain⟨k,rfl⟩:=weu (wcf (by decide) g);exact⟨o,p,g,j,key ⟨n,wfZ l⟩ ⟨k,wfZ (Int.ofNat_le.mp j)⟩ λz=>Int.ofNat_le.mp (h z)⟩
noncomputable def Sb:List (Int×Int):=[(2,2),(2,3),(4,3),(3,3),(2,4),(3,2),(5,3),(8,5),(2,1),(6,4),(7,5),(7,6)]
theorem Lx:∀d:Int,0<=d->d < 12->∃p,Sb[d.toNat]?=some p/\2<=p.1/\p.1<=8/\1<=p.2/\p.2<=6:=under 12 λk=>⟨Sb.getD k.val (0,0),by revert k;decide⟩
theorem Gw{X:Cx}{x:Str}{i:Nat}{g:List Expr}{ps:List (Int×Int)}{rest:List Stmt}{b:TS}{j l o:Pos}(p:X.N.Nodup)(hi:X.N[i]?=some x)(r:Loc X.env.scope x)(C:∀X,PA X g (sQ ps))(I:uw X rest b)
 (hs:wbd (.List g l) (some (.Name x j)) o.line X.env=pure false:=by rfl) (J:X.fn x=true\/X.env.scope.names.lookup x=some .local:=by first |exact .inl rfl |exact .inr rfl |assumption) :
 uw X (.Assign [.Name x j] (.List g l) o :: rest) (K0 (GY (Mw (sQ ps)) (eK i)) b):=a7 (Ed (i:=i) p hi r (cj (C _)) hs J) I
theorem xI(L:Lk K mg):aM P w K mg base cW 2 L.qR L.qS ["_law_script","_law_signs"] (Ii K):=by
 have T:=L.T;refine L.lD.F.dD (N:=["_law_script","_law_signs","_law_some","_law_many","_law_wide"]) (λV A outer s H vs Q E nd hr h=>?_);obtain⟨a,ns,g,rfl,W,u,v,k⟩:=h;obtain⟨x,l,y,B,Y,C,D⟩:∃(x:Pos) (l:List Expr) (y B:Pos),bL (top 79)=.Assign [.Name "_law_some" x] (.List l y) B :: (bL (top 79)).tail/\(∀X,PA X l (sQ Sb))/\∀env,wbd (.List l y) (some (.Name "_law_some" x)) B.line env=pure false:=⟨_,_,_,_,rfl,λ_=>by repeat first |exact a9 |refine Ij ?_,λ_=>rfl⟩;rw[Y]
 refine⟨_,(Gw (i:=2) nd rfl (wcJ rfl) C (a7 (p8 (b8 bq (pv 2) (aL d2 (ao (gJ L) L.eF (a5 (pv 0) (a5 ak a9))) ak) (λ_ _=>rfl)) (eL rfl (aS (aA (i:=3)) (aS (aA (i:=4)) d5))))
  (HG (bP (aG me (aB bX (by rfl) T.len wa1 (a5 (pv 1) a9)) ak (aU _)) (ag (ai (i:=4) (aB (vh rfl) (by rfl) T.min Kz (a5 (pv 4) (a5 ak a9))))) aR)
  (ag (az (dj (a5 (pv 3) (a5 (pv 4) a9))))))) (D _)),?_⟩
 refine C3 λe G I hl Z=>⟨hl ▸ (by show 12<=sizeLine;decide),λb f=>?_⟩;have d:=I.trans (a8.upd (o:=.lst G) f);have M:=a6 (H:=e) (a:=b) (o:=.lst G);have O:=a8.upd (o:=.lst G) f;generalize upd e b _=YQ at d M O;refine⟨_,rfl,_,rfl,a,ns,4,rfl,d.seq W,λc H2 J=>?_⟩;have R:=wav c (show (12:Int)≠0 by decide);obtain⟨⟨many,wide⟩,m,m2,m8,n,r⟩:=Lx _ R (waF c (show (0:Int) < 12 by decide));obtain⟨q,t,hm⟩:=Z _ _ m;have t:=bx t;rw[wcz R]at t;have j:=d.trans J;refine⟨_,_,rfl,rfl,(by show (0:Int) < 12;decide),b,_,_,_,rfl,rfl,aI.of (J _ _ M),t,q,_,rfl,ia.of (J _ _ (O _ _ hm)),rfl,_,_,rfl,_,_,rfl,rfl,?_⟩;refine⟨λσ S=>S=H2/\∃(wd:Int),σ=[some (.ref a),some (.str g),some (.ref b),some (.int many),some (.int wd)]/\1<=wd/\wd<=6/\(2 < g.length->wd<=3),?_,?_⟩
 ·refine⟨_,rfl,g,rfl,ax (by omega),_,_,rfl,rfl,_,rfl,Ez (λU=>?_) (λU=>?_)⟩
  ·refine⟨_,rfl,wide,3,rfl,?_⟩
   by_cases z:(3:Int) < wide
   ·rw[if_pos z];exact⟨rfl,3,rfl,by decide,by decide,λ_=>wcv _⟩
   ·rw[if_neg z];exact⟨rfl,wide,rfl,n,r,λ_=>by omega⟩
  ·exact⟨rfl,wide,rfl,n,r,λz=>absurd (decide_eq_true (by omega)) U⟩
 ·rintro σ S ⟨rfl,wd,rfl,n,r,w3⟩;refine⟨_,rfl,_,rfl,by show 2<=sizeLine;decide,λp m=>?_⟩;exact k p many wd _ (j.trans (a8.upd m)) (none_of j m) a6 (Gv u v m2 m8 n r w3)
end
end K41
namespace Bs
open PySem L2 Sx AC
theorem zt{α:Type}[DecidableEq α]{l a:List α}(h:a.Sublist l):l.Nodup->l.filter (λx=>decide (x∈a))=a:=by
 induction h with
 |slnil=>exact λ_=>rfl
 |@cons a l x h b=>
  intro nd;rw[wa9]at nd;rw[waj (by simpa using λz=>nd.1 (h.subset z))];exact b nd.2
 |@cons_cons a l x h b=>
  intro nd;rw[wa9]at nd;rw[wah (by simp)];refine congrArg (x :: ·) (wck (we6 λy d=>?_) (b nd.2));have c:y≠x:=λz=>nd.1 (z ▸ d);simp[c]
theorem sub_one{α:Type}[DecidableEq α]{l a b:List α}(ha:a.Sublist l)(g:b.Sublist l)(nd:l.Nodup)(h:∀x,x∈a↔x∈b):a=b:=by
 have e:(λx=>decide (x∈a))=(λx=>decide (x∈b)):=funext λx=>decide_eq_decide.mpr (h x);rw[<-zt ha nd,e,zt g nd]
theorem D0.one{j:List Str}{l:Str->List (Key×V)}{a b:List Str}(nd:j.Nodup)(ha:D0 j l a)(g:D0 j l b):a=b:=
 sub_one ha.sub g.sub nd λx=>⟨λh=>g.most a (λk c=>⟨ha.sub.subset c,ha.D1 k c⟩) x h,λh=>ha.most b (λk c=>⟨g.sub.subset c,g.D1 k c⟩) x h⟩
theorem aT.one{C o:Addr}{H p:Hp}{x r:Addr}{g:Str}{ws ss j ls l:List Str}(A:aT C H x g ws ss ls)(B:aT o p r g ws j l):ss=j/\ls=l:=by
 have e:ss=j:=A9 A.so B.so A.pm B.pm;subst e;exact⟨rfl,D0.one A.nd A.lv B.lv⟩
theorem DS{g:Str}{ws ss ls:List Str}{many:Int}{n:Nat}{f:Str->Int}(a:lY g ws ss ls many n f)(b:o8 g ws ss ls many n):False:=by grind [cases lY,o8,cases False,Int.lt_trichotomy,w6]
theorem Gx{g:Str}{j ss:List Str}{many:Int}{n k:Nat}(a:z8 g j ss many n)(b:LL g j ss many n 24 (.int (k:Nat))):False:=by grind [z8,cases LL,cases False]
section
variable{ws ss:List Str}{r:Str}
theorem zu(g:ss.Perm (bU ws "" ws))(hw:∀w∈ws,1<=w.length)(l:bears ws r=false)(w:Str):∀i,i<=w.length->bears ws (lend ss r++cC w i)=bears ws (r++cC w i)/\(bears ws (r++cC w i)=false->lend ss (lend ss r++cC w i)=lend ss (r++cC w i))
 |0,_=>by
  have n:("":Str)∈ss:=g.mem_iff.mpr (cw ws);rw[take_zero,jo,jo];obtain⟨o,p⟩:=nc g hw (nQ n r);exact⟨by rw[o,l],λ_=>p⟩
 |i + 1,hi=>by
  obtain⟨f,j⟩:=zu g hw l w i (by omega);have hc:(ch w)[i]?=some ((ch w)[i]'(by rw[aV];omega)):=Zg _;generalize (ch w)[i]'(by rw[aV];omega)=c at hc;rw[take_snoc hc,<-eB,<-eB]
  cases d:bears ws (r++cC w i) with
  |true=>
   have up:∀q:Str,bears ws q=true->bears ws (q++⟨#[c]⟩)=true:=λq s=>by
    cases e:bears ws (q++⟨#[c]⟩) with
    |true=>rfl
    |false=>
     have:=lT (a:=q) (b:=q++⟨#[c]⟩) (by rw[aN];exact(wcO _ _).isInfix) e;rw[s]at this;cases this
   rw[up _ d,up _ (f.trans d)];exact⟨rfl,λz=>by cases z⟩
  |false=>
   have hl:=j d;have h:=f.trans d;have t:=n7 (c:=c) g d hw;have k:=n7 (c:=c) g h hw;have u:=pA (c:=c) g d;have m:=pA (c:=c) g h;rw[hl]at k m;exact⟨k.symm.trans t,λ_=>m.symm.trans u⟩
theorem Ly(g:ss.Perm (bU ws "" ws))(hw:∀w∈ws,1<=w.length)(j:bears ws r=false){w:Str}(h:bears ws (lend ss r++w)=false):bears ws (r++w)=false/\lend ss (r++w)=lend ss (lend ss r++w):=by
 obtain⟨a,b⟩:=zu g hw j w w.length (Zr _);rw[take_all]at a b;rw[h]at a;exact⟨a.symm,(b a.symm).symm⟩
end
theorem snoc_ind{α:Type}{P:List α->Prop}(g:P [])(j:∀l a,P l->P (l++[a]))(l:List α):P l:=by
 have h:∀m:List α,P m.reverse:=λm=>by
  induction m with
  |nil=>exact g
  |cons a m b=>rw[we0];exact j _ _ b
 rw[<-List.reverse_reverse l];exact h _
theorem Gy(wl:List (List (Str×Nat))):∀(b:List Nat) (r:Str) (e:Nat),b.foldl (jY wl) (r,e)=(r++(b.foldl (jY wl) ("",e)).1,(b.foldl (jY wl) ("",e)).2):=by intro b;induction b <;> grind [jo,wdq,jY,wl,C0,eB]
theorem Gz(wl:List (List (Str×Nat)))(b a:List Nat)(d:Nat):aW wl d (a++b)=((aW wl d a).1++(aW wl (aW wl d a).2 b).1,(aW wl (aW wl d a).2 b).2):=by grind [aW,wcY,Gy,wl]
def JO(bw ss hk:List Str)(wl:List (List (Str×Nat))):Prop:=∀d,d < wl.length->∀q∈wl.getD d [],bears bw (hk.getD d ""++q.1)=false/\lend ss (hk.getD d ""++q.1)=hk.getD q.2 ""
theorem DT{many:Int}{n:Nat}{j ss g:List Str}{wl:List (List (Str×Nat))}(W:Gh many n wl)(o:ss.Perm (bU j "" j))(hw:∀w∈j,1<=w.length)(G:JO j ss g wl){d:Nat}(hd:d < wl.length)(p:g.getD d ""∈ss):∀ts:List Nat,(∀t∈ts,(t:Int) < many)->bears j (g.getD d ""++(aW wl d ts).1)=false/\lend ss (g.getD d ""++(aW wl d ts).1)=g.getD (aW wl d ts).2 "":=by
 intro ts;refine snoc_ind (P:=λ(ts:List Nat)=>(∀t∈ts,(t:Int) < many)->bears j (g.getD d ""++(aW wl d ts).1)=false/\lend ss (g.getD d ""++(aW wl d ts).1)=g.getD (aW wl d ts).2 "") ?_ ?_ ts
 ·intro _;obtain⟨c,e⟩:=nc o hw p;show bears j (g.getD d ""++("":Str))=false/\lend ss (g.getD d ""++("":Str))=g.getD d "";rw[jo];exact⟨c,e⟩
 ·intro ts t f h;obtain⟨i,k⟩:=f λx a=>h x (wan _ a);have u:=h t (wa5 _ (ZC.mpr rfl));obtain⟨b,_⟩:=oV W hd (ts:=ts) λx a=>h x (wan _ a);rw[pT];unfold jY;have hl:=ZA (fK b);have m:=W.ln _ hl;have q:=ZA (wu (l:=wl.getD (aW wl d ts).2 []) (t:=t) (by omega));obtain⟨g1,g2⟩:=G _ b _ q;rw[<-k]at g1 g2;obtain⟨r,s⟩:=Ly o hw i g1;dsimp only;rw[<-eB];exact⟨r,s.trans g2⟩
theorem C6.D1{g:Str}{j ss ls:List Str}{n:Nat}{hs:List Str}{lns:List (List (Str×Nat))}(h:C6 (aP g j ss ls n) hs lns)(hl:lns.length=hs.length)(l:∀p∈hs,p∈ss)(o:ss.Perm (bU j "" j))(hw:∀w∈j,1<=w.length){i:Nat}(hi:i < hs.length){q:Str×Nat}(r:q∈lns.getD i []):bears j (hs.getD i ""++q.1)=false/\lend ss (hs.getD i ""++q.1)=hs.getD q.2 ""/\q.1∈Ic g n:=by
 have k:hs.getD i ""=hs[i]:=by rw[Zj,Zg hi];rfl
 have m:hs[i]?=some hs[i]:=Zg hi;have s:lns[i]?=some (lns.getD i []):=by rw[Zj,Zg (by omega)];rfl
 have a:0 < gC hs[i] (q.1,q.2) hs lns:=by
  have:=o1 (z:=(q.1,q.2)) m s;have hc:0 < (lns.getD i []).count (q.1,q.2):=wdO.mpr r;omega
 rw[h hs[i] q.1 q.2]at a
 by_cases c:q.2 < hs.length/\hs[i]∈hs/\(q.1,hs.getD q.2 "")∈aP g j ss ls n hs[i]
 ·have e:=(ZO.mp c.2.2).1;rw[sS o hw (l _ (ZV hi))]at e;obtain⟨z,t,d⟩:=wcF.mp e;unfold jq at d;rw[k]
  by_cases b:bears j (hs[i]++z)=true
  ·rw[if_pos b]at d;cases d
  ·rw[if_neg b]at d;have f:=Zx d;have u:z=q.1:=congrArg Prod.fst f;have v:lend ss (hs[i]++z)=hs.getD q.2 "":=congrArg Prod.snd f;subst u;exact⟨by simpa using b,v,t⟩
 ·rw[if_neg c]at a;omega
noncomputable def xJ(hs:List Str)(ks:List Nat):List Str:=ks.map λd=>hs.getD d ""
theorem pY{hs:List Str}{g:List Nat}{i:Nat}(hi:i < g.length):(xJ hs g).getD i ""=hs.getD g[i] "":=by
 unfold xJ;rw[Zj,Zi,Zg hi];rfl
theorem ky.steps{g:Str}{o ss ls:List Str}{many:Int}{n:Nat}{f:Str->Int}{r:List z7}{j:List Nat}{hs:List Str}{ws:List Int}{lns:List (List (Str×Nat))}(P:ky g o ss ls many n f r j hs ws lns)(I:ss.Perm (bU o "" o))(hw:∀w∈o,1<=w.length)(C:∀p∈ls,p∈ss)(m:Nat){d:Nat}(hd:d < j.length):j[d] < hs.length/\∀q∈(eJ lns j m).getD d [],∃e,(q.1,e)∈lns.getD j[d] []/\e∈j/\q.2=j.idxOf e/\bears o (hs.getD j[d] ""++q.1)=false/\lend ss (hs.getD j[d] ""++q.1)=hs.getD e ""/\q.1∈Ic g n:=by
 have c:=(P.ko.st j[d] (ZV hd)).1;rw[P.b.l]at c;refine⟨c,λq i=>?_⟩
 have k:(eJ lns j m).getD d []=iy j m (lns.getD j[d] []):=by
  unfold eJ;rw[Zj,Zi,Zg hd];rfl
 rw[k]at i;unfold iy at i;obtain⟨z,s,rfl⟩:=Zq.mp i;have a:=ZO.mp ((waz _ _).subset s);obtain⟨t,u,v⟩:=P.cv.D1 P.b.l (λp h=>C p (P.sb p h)) I hw c a.1;exact⟨z.2,a.1,of_decide_eq_true a.2,rfl,t,u,v⟩
theorem ky.D1{g:Str}{j ss ls:List Str}{many:Int}{n:Nat}{f:Str->Int}{o:List z7}{l:List Nat}{hs:List Str}{ws:List Int}{lns:List (List (Str×Nat))}(P:ky g j ss ls many n f o l hs ws lns)(C:ss.Perm (bU j "" j))(hw:∀w∈j,1<=w.length)(r:∀p∈ls,p∈ss)(m:Nat):JO j ss (xJ hs l) (eJ lns l m):=by
 intro d hd q i
 have a:d < l.length:=by
  unfold eJ at hd;rwa[Zf]at hd
 obtain⟨t,h⟩:=P.steps C hw r m a;obtain⟨e,u,b,c,k,s,_⟩:=h q i;have hi:=wcR.mpr b;rw[pY a,c,pY hi,List.getElem_idxOf hi];exact⟨k,s⟩
theorem GA{g:Str}{o ss ls:List Str}{many:Int}{n:Nat}{f:Str->Int}{r:List z7}{l:List Nat}{hs:List Str}{ws:List Int}{lns:List (List (Str×Nat))}(P:ky g o ss ls many n f r l hs ws lns)(C:ss.Perm (bU o "" o))(hw:∀w∈o,1<=w.length)(j:∀p∈ls,p∈ss)(W:Gh many n (eJ lns l many.toNat)){b c:Nat}(m1:1<=many){ts:List Nat}(I:∀t∈ts,(t:Int) < many):bears o (J1 (eJ lns l many.toNat) b c ts)=false:=by
 have d:0 < (eJ lns l many.toNat).length:=wcy.mpr W.ne;have a:0 < l.length:=by unfold eJ at d;rwa[Zf]at d
 have i:(xJ hs l).getD 0 ""∈ss:=by
  rw[pY a];have e:=(P.steps C hw j many.toNat a).1;rw[Zj,Zg e];exact j _ (P.sb _ (ZV e))
 have ha:∀t:Nat,t∈Zu b 0++(ts++Zu c 0)->(t:Int) < many:=λt h=>by
  rcases ZL.mp h with h |h
  ·rw[(wca.mp h).2];omega
  ·rcases ZL.mp h with h |h
   ·exact I t h
   ·rw[(wca.mp h).2];omega
 have:=(DT W C hw (P.D1 C hw j _) d i _ ha).1;rw[Gz]at this;exact lT (by rw[aN];exact⟨_,[],by rw[waf];rfl⟩) this
end Bs
namespace K41
open PySem L2 Bs Sx
section
variable{P:ZH}{w:World}{K:Zh}{mg:Str->Option Value}{base:Heap}
theorem JP(W:lN K C o J H x r many n m g j hs ws lns b)(I:Gh many n (eJ lns j many.toNat))(h:1<=many/\many<=8/\n<=10/\b<=1000/\g.length<=1000):Bp K C o H x many n b g.length (eJ lns j many.toNat):=by
 obtain⟨d,p,a,l,e,⟨dp,f,i,k,q,s,_,t,_,_⟩,_,u⟩:=W;obtain⟨z,v,w,y,c⟩:=id t;cases w;exact⟨⟨d,p,r,a,l,dp,f,i,k,q,v,e,s,.inl y,by rw[c.len,Zf],u⟩,I,h⟩
theorem o7(ts:List Nat)(j:Nat)(h:j<=ts.length):iK ((nI ts).map V.int) none (some (j:Int))=(nI (ts.take j)).map V.int:=by
 rw[KO _ j (by rw[Zf,bJ];exact h)];unfold nI;rw[Zw,Zw,wc0]
theorem Lz{f:Addr}{fd:Zv}(L:Lk K mg)(F:yj K "law" "law" (top 84) f fd):aM P w K mg base cW 13 f fd ["_law_script"] (BR K):=by
 have T:=L.T;refine F.dD (N:=["_law_script","_law_signs","_law_words","_law_many","_law_wide","_law_told_here","_law_data","_law_other","_law_size","_law_handed","_law_row"]) (λgA A outer s H vs Q E nd hr h=>?_);obtain⟨a,ns,rfl,hS,hlen,k⟩:=h;have NQ:(A.deeper (wcx "law" (aD (top 84)) s.heap.objs.size f gA)).units < wbT:=hr.wC
 refine⟨_,(a7 (p8 (ao (xH L) L.lC (a5 (pv 0) a9)) (eL rfl (aS (aA (i:=1)) (aS (aA (i:=2)) d5))))
  (a7 (p8 (ao (xI L) L.lD (a5 (pv 0) (a5 (pv 1) a9))) (eL rfl (aS (aA (i:=3)) (aS (aA (i:=4)) d5))))
  (a7 (ai (i:=5) (ao (xF L) L.lE (a5 (pv 1) (a5 (pv 2) (a5 (pv 3) (a5 (pv 4) a9))))))
  (a7 (bP (aG K6 (pv 5) iA (aU _)) (ag (az gO)) aR)
  (a7 (eh (i:=6) rfl (av ["_law_many"] [3]) nd rfl rfl (aJ (cu eM (pv 0) (cn ak) (cn ak))) (λ_ _ _ _ _ _=>b5) (λ_ _ _ _ _ _=>(aL d2 (pv 0) (pv 1))))
  (a7 (ai (i:=7) (jb L.pR (i7 L) (hr.mono (by decide)) rfl L.tU L.da.b .nil Ky (a5 (jb L.xo (j2 L) (hr.mono (by decide)) rfl L.Bc L.dY.b .nil cG (a5 (pv 1) (a5 (pv 2) a9))) (a5 (pv 3) (a5 (pv 4) a9)))))
  (a7 (bf ZM rfl (aJ (cj (a5 (aB b7 (by rfl) T.len wa1 (a5 (pv 6) a9)) (a5 (aL d2 (aL nH (ao (gJ L) L.eF (a5 (pv 0) (a5 ak a9))) ak) (aL gf (aB b7 (by rfl) T.len wa1 (a5 (pv 6) a9)) ak)) (a5 ak a9))))) (aA (i:=8)) (a7 (ai (i:=9) (cu eM (pv 6) fN (cn (pv 8))))
  (a7 (ai (i:=10) (gz (pv 5) L.au.cl L.bR.m (gp L) (hr.mono (by decide)) L.bR.b .nil cG (a5 (pv 9) a9)))
  (a7 (bp (gz (pv 7) L.au.cl L.bR.m (gp L) (hr.mono (by decide)) L.bR.b .nil cG (a5 (bY rfl (av ["_law_many"] [3]) (aJ (pv 9)) (λ_ _ _ _ _ _=>b5) (λ_ _ _ _ _ _=>(aL pd (aL pd (pv 1) ak) (pv 0)))) a9)))
  (a7 (bP (PW.pt (gP (dN (cz (aB cL (by rfl) T.JA yv (a5 (pv 10) (a5 (ic (v:=.ty "str") (by rfl) T.str EJ rfl) a9))))) (gP (aG Eg (pv 10) (ao (rz L) L.i6 (a5 (pv 5) (a5 (cu eM (pv 6) fN (cn (pv 8))) a9))) (aU _)) (j5 (dN (cz (ao (xG L) L.lF (a5 (pv 10) (a5 (pv 2) a9))))))))) (ag (az gO)) aR)
  (ag (bP (PW.pt (gP (aG (KB NQ) (pv 9) (cu eM (pv 6) fN (cn (pv 8))) (aU _)) (j5 (aG Eg (gz (pv 5) L.au.cl L.bR.m (gp L) (hr.mono (by decide)) L.bR.b .nil cG (a5 (pv 9) a9)) (pv 10) (aU _))))) (ag (az gO)) aR)))))))
  (ag (az gO))))))))),?_⟩
 refine d9 λR1 c1=>?_;refine⟨_,rfl,a,ns,rfl,hS,λpt lw g ws H1 s1 YR YS Xw d sg LV M=>?_⟩;have g2:=sg.lo;have g4:=sg.hi;refine⟨pt,_,rfl,ia.of Xw,rfl,_,_,rfl,_,_,rfl,rfl,?_⟩;refine c1 _ _ (d9 λR2 c2=>?_);refine⟨_,rfl,_,rfl,a,ns,g,rfl,s1.seq hS,g2,g4,λpr many wide H2 s2 YT O9 E3=>?_⟩;refine⟨pr,_,rfl,ia.of O9,rfl,_,_,rfl,_,_,rfl,rfl,?_⟩;refine c2 _ _ (d9 λR3 c3=>?_);obtain⟨ra,rb,rc,rd,re⟩:=id E3;obtain⟨wd,rfl⟩:∃w:Nat,wide=(w:Int):=⟨wide.toNat,by omega⟩;have LZ:=s1.trans s2;refine⟨_,rfl,_,rfl,_,rfl,_,rfl,g,lw,many,wd,ws,rfl,aI.of (s2 _ _ d),sg,LV,M,E3,λv H3 s3 hv=>?_⟩;have Bd:=LZ.trans s3;have d:=s3 _ _ (s2 _ _ d);refine c3 _ _ (d9 λR4 c4=>?_);rcases hv with rfl |⟨x,rfl,hT⟩
 ·exact⟨_,rfl,rfl,true,rfl,fu (k H3)⟩
 refine⟨_,rfl,rfl,false,rfl,cg ?_⟩;refine c4 _ _ (d9 λR5 c5=>?_);obtain⟨xb,ss,ls,f0,f,nF,ks,hs,YV,lns,b,B,W,M0,hL,hle,hP,W0,hB⟩:=id hT;have Ul:=hB.le;have YW:=hP.sl;have w1:∀w∈ws,1<=w.length/\w.length<=900:=λw h=>⟨(M w h).lo,by have:=(M w h).hi;omega⟩;have r:∀l:List Nat,(∀t∈l,(t:Int) < many)->bears ws (J1 (eJ lns ks many.toNat) b nF.length l)=false:=λl hu=>GA hP B.pm (λw h=>(w1 w h).1) (λp hp=>B.lv.sub.subset hp) W0 (by omega) hu;have D:=JP W W0 ⟨by omega,rb,by omega,Ul,by omega⟩;generalize eJ lns ks many.toNat=wl at D r;generalize nF.length=cc at D r;clear W hP hle W0 hT;refine⟨_,rfl,_,rfl,_,rfl,a,_,rfl,Bd.seq hS,λlc IQ=>?_⟩;obtain⟨ms,em,YX⟩:=yH ns (some 5) (some 105);rw[em];refine⟨lc,rfl,⟨_,aI.of a6⟩,λld Nu=>?_⟩;have t1:=a8.upd (H:=H3) (o:=.lst (ms.map V.int)) IQ;have g1:(upd H3 lc (.lst (ms.map V.int))) lc=some (.lst (ms.map V.int)):=a6;generalize upd H3 lc (.lst (ms.map V.int))=H4 at Nu t1 g1;refine comp_map (λv=>match v with |.int c=>.int (c % many) |_=>.non) (aH K lc _) Nu (by rw[Zf];exact ax (by omega)) (λH' s'=>aI.of (s' _ _ g1)) (λz H5 Q' hz s5 q=>?_) (λH5 s5 h5=>?_)
 ·obtain⟨c,hc,rfl⟩:=Zq.mp hz;exact⟨_,rfl,_,rfl,_,_,rfl,rfl,by omega,q H5 (a8.refl _)⟩
 obtain⟨n,Oh,Uq,Sa⟩:∃n:List Nat,(ms.map V.int).map (λv=>match v with |.int c=>V.int (c % many) |_=>.non)=(nI n).map V.int/\n.length<=1000/\∀t∈n,(t:Int) < many:=by
  refine⟨ms.map λc=>(c % many).toNat,?_,by rw[Zf];omega,λt ht=>?_⟩
  ·unfold nI;rw[Zw,Zw,Zw];refine wac λc hc=>?_;have:=wav c (show many≠0 by omega);show V.int (c % many)=V.int (((c % many).toNat:Nat):Int);rw[wcz this]
  ·obtain⟨c,_,rfl⟩:=Zq.mp ht;have:=wav c (show many≠0 by omega);have:=waF c (show 0 < many by omega);omega
 rw[Oh]at h5;have t5:=t1.trans s5;have Pb:=Bd.trans t5;have D:=D.same t5;have B:=B.same t5;have d:=t5 _ _ d;clear Oh g1 t1 t5;refine c5 _ _ (d9 λR6 c6=>?_);refine⟨_,rfl,_,rfl,λyb Xx X O Sd=>?_⟩;refine⟨yb,Xx,g,lw,ws,rfl,a6,aI.of (cZ X O _ _ d),sg,LV,M,λVm YY H6 B6 Uz=>⟨rfl,?_⟩⟩;have s6:a8 H5 H6:=λb o e=>Uz b o (cZ X O _ _ e) (af e X);obtain⟨rfl,rfl⟩:=aT.one B B6;have zJ:ss.length<=25:=B.few LV M;have RP:("":Str)∈ss:=B.pm.mem_iff.mpr ((iC _).mpr (.inl rfl));refine⟨_,rfl,_,rfl,λy dy ny LU QV=>?_⟩;have sm:a8 H6 (upd (upd H6 dy (.own y)) y (.ins L.aj dy [])):=cZ ny LU;refine⟨y,dy,yb,many,wd,g,ws,ss,ls,rfl,a6,B6.same sm,w1,by omega,RP,sg.nd,g2,by omega,by omega,E3,λ_ p' Xy Xz YZ f' Se RO Kp Z0 Sf b' H7 k7 x7 P7 r7 l7 _ _ Jv UA XA=>⟨rfl,?_⟩,λ_ _ _ z=>(Gx M0 z).elim,λ_ z=>(DS hL z).elim⟩;have s7:a8 H6 H7:=λc o e=>k7 _ _ (sm _ _ e) (af e ny);have XC:=Jv.sl;have WB:=JP ⟨dy,p',Xy,Xz,x7,P7.same (bj _ _),bh.same (bj _ _) _ _ r7,bh.same (bj _ _) _ _ l7⟩ UA ⟨by omega,rb,by omega,XA.le,by omega⟩;generalize eJ Sf RO many.toNat=XE at WB;generalize Se.length=XF at WB;have t7:=s6.trans s7;have D:=D.same t7;have h7:=t7 _ _ h5;have d:=t7 _ _ d;have Pg:=Pb.trans t7;clear Uz X O Sd ny LU QV k7 x7 P7 r7 l7 Jv UA B6 sm;refine c6 _ _ ?_;have JE:((nI n).map V.int).length=n.length:=by rw[Zf,bJ]
 refine⟨_,rfl,ld,_,rfl,.inl (aI.of h7),?_⟩;rw[JE];refine⟨_,rfl,a,ns,4,rfl,Pg.seq hS,λc4 H8 s8=>?_⟩;have h8:=s8 _ _ h7;refine⟨_,_,rfl,rfl,⟨by decide,by decide+kernel⟩,_,rfl,ld,_,rfl,.inl (aI.of h8),?_⟩;rw[JE];refine⟨_,_,rfl,rfl,_,_,rfl,rfl,by omega,by show 3<=sizeLine;decide,λlz XG=>?_⟩;have j0:=wav (c4 / 12) (show ((n.length:Int) + 1)≠0 by omega);have j1:=waF (c4 / 12) (show 0 < ((n.length:Int) + 1) by omega);generalize c4 / 12 % ((n.length:Int) + 1)=jj at j0 j1 ⊢;have t9:=s8.trans (a8.upd (H:=H8) (o:=.lst [.int (n.length:Int),.int jj,.int 0]) XG);have h9:(upd H8 lz (.lst [.int (n.length:Int),.int jj,.int 0])) lz=some (.lst [.int (n.length:Int),.int jj,.int 0]):=a6;generalize upd H8 lz (.lst [.int (n.length:Int),.int jj,.int 0])=H9 at t9 h9;refine⟨lz,rfl,⟨_,aI.of h9⟩,dh (K:=K) (a:=lz) (xs:=[.int (n.length:Int),.int jj,.int 0]) (λi σ u=>a8 H9 u/\∃v8 v9 v10,σ=[some (.ref a),some (.str g),some (.ref lw),some (.int many),some (.int (wd:Int)),some (.ref x),some (.ref ld),some (.ref y),v8,v9,v10]) ⟨a8.refl _,none,none,none,rfl⟩ (λi σ u _ q=>aI.of (q.1 _ _ h9)) ?_ ?_⟩
 ·rintro i z σ u hz ⟨E4,v8,v9,v10,rfl⟩
  obtain⟨j,rfl,hj⟩:∃j:Nat,z=.int (j:Int)/\j<=n.length:=by
   have UB:=ZA hz;simp only[ZT,waW,or_false]at UB;rcases UB with rfl |rfl |rfl
   ·exact⟨_,rfl,Zr _⟩
   ·exact⟨jj.toNat,by rw[wcz j0],by omega⟩
   ·exact⟨0,rfl,wa0 _⟩
  have R:=t9.trans E4;have D:=D.same R;have WB:=WB.same R;have S:=R _ _ h7;have d:=R _ _ d;clear hz R;refine⟨_,rfl,_,rfl,_,rfl,ld,_,rfl,aI.of S,λY XH=>?_⟩;rw[o7 n j hj];have C:∀t∈n.take j,(t:Int) < many:=λt ht=>Sa t (wfn ht);have Sg:(n.take j).length<=1000:=by rw[ZG];omega
  have U:=o7 n j hj;generalize n.take j=l at C Sg U;have G:=a8.upd (H:=u) (o:=.lst ((nI l).map V.int)) XH;have I:(upd u Y (.lst ((nI l).map V.int))) Y=some (.lst ((nI l).map V.int)):=a6;show eK 9 (V.ref Y) _ _ _;generalize upd u Y (.lst ((nI l).map V.int))=IU at G I;have D:=D.same G;have WB:=WB.same G;have S:=G _ _ S;have d:=G _ _ d;obtain⟨⟨dx,p,Z1,aa,ll,dp,wa,wb,wc,wz,ys,hx,_⟩,_⟩:=id D;obtain⟨⟨XI,p2,Z2,Z3,Z4,Z5,Z6,Z7,Z8,Z9,Za,hy,_⟩,_⟩:=id WB;refine⟨_,rfl,x,dx,_,rfl,hx,gd _ _ _ _ _ _ _ _ (by decide+kernel),_,rfl,x,Y,many,wd,b,cc,wl,l,rfl,D,I,C,by omega,λJK Z=>?_⟩;refine⟨_,rfl,y,XI,_,rfl,Z _ _ hy,gd _ _ _ _ _ _ _ _ (by decide+kernel),_,rfl,Y,rfl,⟨_,aI.of (Z _ _ I)⟩,λlq UC=>?_⟩;refine comp_map (λv=>match v with |.int c=>.int (many - 1 - c) |_=>.non) (aH K Y _) UC (by rw[Zf,bJ];exact ax (by omega)) (λH' s'=>aI.of (s' _ _ (Z _ _ I))) (λz NY Q' hz Ph q=>?_) (λNY Ph JM=>?_)
  ·obtain⟨c,hc,rfl⟩:=pL hz;exact⟨_,rfl,_,_,rfl,rfl,_,rfl,_,_,rfl,rfl,q NY (a8.refl _)⟩
  have UD:((nI l).map V.int).map (λv=>match v with |.int c=>V.int (many - 1 - c) |_=>.non)=(nI (l.map λ(t:Nat)=>(many - 1 - (t:Int)).toNat)).map V.int:=by
   unfold nI;rw[Zw,Zw,Zw,Zw];refine wac λt ht=>?_;have:=C t ht;show V.int (many - 1 - (t:Int))=V.int (((many - 1 - (t:Int)).toNat:Nat):Int);rw[wcz (by omega)]
  rw[UD]at JM;have Oi:=Z.trans Ph;refine⟨y,lq,many,wd,b',XF,XE,_,rfl,WB.same Oi,JM,λt ht=>?_,by rw[Zf];omega,λM6 XJ=>?_⟩
  ·obtain⟨t',XM,rfl⟩:=Zq.mp ht;have:=C t' XM;omega
  have UE:=Oi.trans XJ;clear UD JM UC;have hg:=r l C;generalize J0:J1 wl b cc l=row at hg;refine⟨_,rfl,_,_,_,true,rfl,gQ.str _,rfl,true,rfl,cg ?_⟩;refine⟨_,rfl,_,rfl,_,rfl,_,rfl,_,rfl,ld,_,rfl,aI.of (UE _ _ S),λp3 XO=>?_⟩;rw[U];have Sh:=UE.trans (a8.upd (H:=M6) (o:=.lst ((nI l).map V.int)) XO);have Pj:(upd M6 p3 (.lst ((nI l).map V.int))) p3=some (.lst ((nI l).map V.int)):=a6;generalize upd M6 p3 (.lst ((nI l).map V.int))=Zb at Sh Pj;refine⟨x,p3,many,wd,b,cc,wl,l,rfl,D.same Sh,Pj,C,by omega,λZc XQ=>?_⟩;rw[J0];have UG:=Sh.trans XQ;refine⟨rfl,false,Fc _,cg ?_⟩;refine⟨_,rfl,_,rfl,row,lw,ws,rfl,aI.of (UG _ _ d),by omega,λSi XR=>?_⟩;rw[hg];refine⟨true,rfl,cg ?_⟩;have UH:=UG.trans XR;refine⟨_,rfl,_,rfl,_,rfl,_,rfl,ld,_,rfl,aI.of (UH _ _ S),λp4 XS=>?_⟩;rw[U];have J:=UH.trans (a8.upd (H:=Si) (o:=.lst ((nI l).map V.int)) XS);have UI:(upd Si p4 (.lst ((nI l).map V.int))) p4=some (.lst ((nI l).map V.int)):=a6;generalize upd Si p4 (.lst ((nI l).map V.int))=Zd at J UI;refine⟨Y,p4,_,_,rfl,rfl,aI.of (J _ _ I),aI.of UI,fE _,fE _,false,by rw[pK,decide_eq_true rfl];rfl,cg ?_⟩;refine⟨_,rfl,x,dx,_,rfl,J _ _ hx,gd _ _ _ _ _ _ _ _ (by decide+kernel),_,rfl,x,Y,many,wd,b,cc,wl,l,rfl,D.same J,J _ _ I,C,by omega,λZe XU=>?_⟩;rw[J0];exact⟨_,rfl,rfl,false,Fc _,cg ⟨E4.trans (G.trans (J.trans XU)),_,_,_,rfl⟩⟩
 ·rintro σ u ⟨E4,v8,v9,v10,rfl⟩;exact k _
end
end K41
namespace K41
open PySem PySem.W L2 Bs Sx
theorem nz{K:Frag}{mg:Str->Option Value}{hp:Heap}{x:Str}(X:K.In hp)(G:hp.Ns wa2 mg)(a:nsIn K wa2 x=some none:=by k_is):mg x=none:=mg_none_of X G a
theorem na{K:Frag}{C:Addr}{f:Str}(a:findIn K (.ref C) f=some none:=by k_is):bQ K C f:=a
theorem fW{K:Frag}{mg:Str->Option Value}{hp:Heap}{f:Addr}{oc:Value}{od an:Option Addr}{Ex:Array (Option Value)}{kV doc pm gA ct:Value}(nm:Str)(st:Stmt)(ps:List Str)(X:K.In hp)(G:hp.Ns wa2 mg)(a:nsIn K wa2 nm=some (some (.ref f)):=by k_is)(l:K.lookup f=some ⟨oc,od,.func (fnOf nm nm (cP st) (bL st) (aD st) .none kV doc pm an gA ct),Ex⟩:=by k_is)(c:codeIn K gA nm=true:=by k_is)(k:keepIn K (.ref f)=true:=by k_is)(b:∀(kV doc pm:Value) (an:Option Addr) (gA ct:Value) (us:List Value),us.length=ps.length->bindArgs (fnOf nm nm (cP st) (bL st) (aD st) .none kV doc pm an gA ct) ⟨us,[]⟩=pure (ps.zip us):=by first |exact λ_ _ _ _ _ _=>L2.ib _ _ λ_=>rfl |exact λ_ _ _ _ _ _=>L2.ib _ _ λ_ _=>rfl |exact λ_ _ _ _ _ _=>L2.ib _ _ λ_ _ _=>rfl |exact λ_ _ _ _ _ _=>L2.ib _ _ λ_ _ _ _=>rfl |exact λ_ _ _ _ _ _=>L2.ib _ _ λ_ _ _ _ _=>rfl |exact λ_ _ _ _ _ _=>L2.ib _ _ λ_ _ _ _ _ _=>rfl):∃fd,FnAt K mg nm st ps f fd:=Raw.at_ X G a (Ag l c k) b
structure UJ(K:Frag)(mg:Str->Option Value)(x:Str)(C:Addr):Prop where
 g:mg x=some (.ref C)
 c:zQ K C
 mi:makesIn K C=true
 kp:keepIn K (.ref C)=true
theorem Pk{K:Frag}{mg:Str->Option Value}{hp:Heap}{C:Addr}(x:Str)(X:K.In hp)(G:hp.Ns wa2 mg)(a:nsIn K wa2 x=some (some (.ref C)):=by k_is)(b:plainGet K C wgx=true:=by k_is)(c:wdn K C=true:=by k_is)(d:weY K C=true:=by k_is)(e:findIn K (.ref C) "__setattr__"=some (some (.builtin "object.__setattr__")):=by k_is)(f:makesIn K C=true:=by k_is)(g:keepIn K (.ref C)=true:=by k_is):UJ K mg x C:=⟨mg_of X G a,⟨b,c,d,e⟩,f,g⟩
theorem xZ{K:Frag}{mg:Str->Option Value}{x:Str}{C f:Addr}{oc:Value}{od an:Option Addr}{Ex:Array (Option Value)}{kV doc pm gA ct:Value}(P:UJ K mg x C)(nm q:Str)(st:Stmt)(ps:List Str)(a:findIn K (.ref C) nm=some (some (.ref f)):=by k_is)(i:isFn K (.ref f)=true:=by k_is)(l:K.lookup f=some ⟨oc,od,.func (fnOf nm q (cP st) (bL st) (aD st) .none kV doc pm an gA ct),Ex⟩:=by k_is)(c:codeIn K gA q=true:=by k_is)(k:keepIn K (.ref f)=true:=by k_is)(b:∀(kV doc pm:Value) (an:Option Addr) (gA ct:Value) (us:List Value),us.length=ps.length->bindArgs (fnOf nm q (cP st) (bL st) (aD st) .none kV doc pm an gA ct) ⟨us,[]⟩=pure (ps.zip us):=by first |exact λ_ _ _ _ _ _=>L2.ib _ _ λ_=>rfl |exact λ_ _ _ _ _ _=>L2.ib _ _ λ_ _=>rfl |exact λ_ _ _ _ _ _=>L2.ib _ _ λ_ _ _=>rfl |exact λ_ _ _ _ _ _=>L2.ib _ _ λ_ _ _ _=>rfl |exact λ_ _ _ _ _ _=>L2.ib _ _ λ_ _ _ _ _=>rfl |exact λ_ _ _ _ _ _=>L2.ib _ _ λ_ _ _ _ _ _=>rfl):∃fd,eN K C nm q st ps f fd:=by
 obtain⟨fd,F,B⟩:=(Ag l c k).fn b;exact⟨fd,F,B,a,i,k⟩
theorem XV{K:Frag}{mg:Str->Option Value}{hp:Heap}{x:Str}{t:Tok}(X:K.In hp)(G:hp.Ns wa2 mg)(a:nsIn K wa2 "KNOWN_SIGNS"=some (some (.str x t)):=by k_is)(e:x=dJ:=by first |rfl |decide+kernel):∃t,mg "KNOWN_SIGNS"=some (.str dJ t):=⟨t,e ▸ mg_of X G a⟩
theorem XW{K:Frag}{mg:Str->Option Value}{hp:Heap}{C:Addr}{q:Str}{N:Addr}{bs:List Value}{hd:Bool}{sn:List Str}{sub:List Value}{ab:Bool}{col:Option Bool}{dd:Option Addr}{k0 k1 k2 k3 k5:Option Value}(X:K.In hp)(G:hp.Ns wa2 mg)(a:nsIn K wa2 "BandError"=some (some (.ref C)):=by k_is)(l:K.lookup C=some (waJ "BandError" q C N bs OC hd sn sub ab col dd k0 k1 k2 k3 k5 "ValueError.__new__"):=by k_is)(b:wdR K (.ref C) "__getattribute__"=some (some (.builtin "type.__getattribute__")):=by k_is)(c:readsIn K C (.type "type")=true:=by k_is)(d:findCls K (.ref C) (.type "type") "__init__"=some (.val (.builtin "ValueError.__init__")):=by k_is):mg "BandError"=some (.ref C)/\D6 K C "BandError"/\EZ K C:=⟨mg_of X G a,HP l,b,c,d⟩
theorem Sj{K:Frag}{mg:Str->Option Value}{hp:Heap}{C CB:Addr}{q:Str}{N:Addr}{bs:List Value}{sn:List Str}{sub:List Value}{ab:Bool}{col:Option Bool}{dd:Option Addr}{k0 k1 k2 k3 k5:Option Value}(x:Str)(X:K.In hp)(G:hp.Ns wa2 mg)(B:D6 K CB "BandError")(a:nsIn K wa2 x=some (some (.ref C)):=by k_is)(l:K.lookup C=some (waJ x q C N bs (n6 CB) true sn sub ab col dd k0 k1 k2 k3 k5 "ValueError.__new__"):=by k_is)(s:findIn K (.ref C) "__setattr__"=some (some (.builtin "object.__setattr__")):=by k_is)(g:findIn K (.ref C) "__getattribute__"=some (some (.builtin "BaseException.__getattribute__")):=by k_is)(h:findIn K (.ref C) "__getattr__"=some none:=by k_is)(k:keepIn K (.ref C)=true:=by k_is)(c:findIn K (.ref C) "__class__"=some (some (.builtin "object.__class__")):=by k_is)(n:wdR K (.builtin "object.__class__") "__get__"=some (some (.builtin "getset_descriptor.__get__")):=by k_is)(t:takesIn K (.builtin "object.__class__")=some true:=by k_is):mg x=some (.ref C)/\cQ K C CB x/\F7 K C:=⟨mg_of X G a,⟨(HN l).lk,s,g,h,k⟩,c,n,t⟩
theorem XX{K:Frag}{C f:Addr}{oc:Value}{od an:Option Addr}{Ex:Array (Option Value)}{kV doc pm gA ct:Value}(Y:F7 K C)(q:Str)(st:Stmt)(ps:List Str)(nm:Str)(a:findIn K (.ref C) nm=some (some (.ref f)):=by k_is)(i:isFn K (.ref f)=true:=by k_is)(l:K.lookup f=some ⟨oc,od,.func (fnOf nm q (cP st) (bL st) (aD st) .none kV doc pm an gA ct),Ex⟩:=by k_is)(c:codeIn K gA q=true:=by k_is)(k:keepIn K (.ref f)=true:=by k_is)(b:∀(kV doc pm:Value) (an:Option Addr) (gA ct:Value) (us:List Value),us.length=ps.length->bindArgs (fnOf nm q (cP st) (bL st) (aD st) .none kV doc pm an gA ct) ⟨us,[]⟩=pure (ps.zip us):=by first |exact λ_ _ _ _ _ _=>L2.ib _ _ λ_=>rfl |exact λ_ _ _ _ _ _=>L2.ib _ _ λ_ _=>rfl |exact λ_ _ _ _ _ _=>L2.ib _ _ λ_ _ _=>rfl |exact λ_ _ _ _ _ _=>L2.ib _ _ λ_ _ _ _=>rfl |exact λ_ _ _ _ _ _=>L2.ib _ _ λ_ _ _ _ _=>rfl |exact λ_ _ _ _ _ _=>L2.ib _ _ λ_ _ _ _ _ _=>rfl):∃fd,yj K nm q st f fd/\Binds K fd ps []/\findIn K (.ref C) nm=some (some (.ref f))/\isFn K (.ref f)=true:=by
 obtain⟨fd,F,B⟩:=(Ag l c k).fn b;exact⟨fd,F,B,a,i⟩
theorem walk{l:wdC}{q:ZH}{loose:List Str}{XP:(Str->Option Value)->Heap->Prop}{YP:World->Heap->Prop}{d:DefRec}{K:Params->Zh}(hn:l.most=some 63)(XY:d.params.defaults=[])
 (hY:∀(w:World) (h:Heap),YP w h->(K w.params).In h)
 (F:∀(w:World) (mg:Str->Option Value) (fa:Addr) (h:Heap),(K w.params).In h->h.Ns wa2 mg->mg d.name=some (.ref fa) ->
   ∃fd:Zv,(∀(s:Shared) (u:Value),BindsTo s fd ⟨[u],[]⟩ [("_law_script",u)])/\∀base:Heap,(K w.params).In base->base.Ns wa2 mg->aM l.prog w (K w.params) mg base cW 13 fa fd ["_law_script"] (BR (K w.params))) :
 wgk q loose XP YP l.row.toRowW d [] (λf vs=>wgn f vs):=
 L2.Hq (n:=63) (k:=13) (x:="_law_script") (CX:=λ_=>cW) (sp:=λw=>BR (K w.params)) hn (by decide) XY ⟨rfl,by decide,by decide⟩ hY F (λ_ _ a ns hl _ hS=>⟨a,ns,rfl,hS,hl,λ_=>rfl⟩) λ_ _ _ _ _ z=>z
theorem Sl{K:Frag}{mg:Str->Option Value}{hp:Heap}{f:Addr}{oc:Value}{od an:Option Addr}{Ex:Array (Option Value)}{kV doc pm gA ct:Value}(l:wdC)(w:World)(fa:Addr)(XZ:mg "law"=some (.ref fa))(X:K.In hp)(G:hp.Ns wa2 mg)(L:Lk K mg)(a:nsIn K wa2 "law"=some (some (.ref f)):=by k_is)(lk:K.lookup f=some ⟨oc,od,.func (fnOf "law" "law" (cP (top 84)) (bL (top 84)) (aD (top 84)) .none kV doc pm an gA ct),Ex⟩:=by k_is)(c:codeIn K gA "law"=true:=by k_is)(k:keepIn K (.ref f)=true:=by k_is) :
 ∃fd:Zv,(∀(s:Shared) (v:Value),BindsTo s fd ⟨[v],[]⟩ [("_law_script",v)])/\∀base:Heap,K.In base->base.Ns wa2 mg->aM l.prog w K mg base cW 13 fa fd ["_law_script"] (BR K):=by
 have e:=XZ.symm.trans (mg_of X G a);cases e;exact⟨_,λs v=>.of_eq rfl,λbase _ _=>Lz L (Ey (st:=top 84) lk c k)⟩
end K41
open PySem PySem.W PyProof.Rows
local macro_rules |`(tactic|o_head $H)=>`(tactic|(refine PySem.W.holds_open (q:=K41.view) (loose:=[]) (Xt:=λs=>PySem.W.xlAt K41.view [] s && PySem.W.recOk (PySem.W.RowW.records (PySem.W.OpenRow.toRowW (PySem.W.OpenLaw.row PySem.Challenge.rw_bandscribe_k41_whole_written_rows_are_go))) s) (XP:=PySem.W.XL K41.view []) (Yf:=PySem.W.Hook.obs $H) (Ya:=PySem.W.Hook.val $H) (YP:=PySem.W.Hook.says $H) (N:=8100) ?hl (PySem.W.Hook.of $H) (PySem.W.Hook.keeps $H) (λs e=>PySem.W.xl_of s (Bool.and_eq_true_iff.mp e).1) PySem.W.XL.keeps (by rfl) (by rfl) (by rfl) (λs e=>PySem.W.recFacts_of (Bool.and_eq_true_iff.mp e).2) (by rfl) (by first |assumption |decide+kernel) (by decide+kernel) ⟨rfl,rfl,rfl,rfl,rfl,by decide+kernel⟩ ?hw ?hc;(case hl=>(intro w;exact K41.whole w))))
set_option maxRecDepth 100000 in
set_option maxHeartbeats 0 in
theorem PySem.Challenge.cw_bandscribe_k41_whole_written_rows_are_go_holds : PySem.Challenge.rw_bandscribe_k41_whole_written_rows_are_go.Holds := by
 w_on;o_law;o_head (PySem.W.kHook K41.pre.heap_39 K41.addrs (λ_=>by kernel_rfl));(case hw=>w_witness2)
 k_fill
 refine K41.walk (l:=PySem.Challenge.rw_bandscribe_k41_whole_written_rows_are_go) rfl rfl (λw h Y=>PySem.W.kIn_of Y) ?F
 case F=>
  intro w mg fa h X G Y0;obtain⟨_,Bq⟩:=K41.fW "is_whole" (K41.top 13) ["thing"] X G;obtain⟨_,Br⟩:=K41.fW "all_rows" (K41.top 15) ["band","wide"] X G;obtain⟨_,DU⟩:=K41.fW "is_rate" (K41.top 16) ["band","many","wide"] X G;obtain⟨_,xK⟩:=K41.fW "check_rate" (K41.top 17) ["band","many","wide"] X G;obtain⟨_,uV⟩:=K41.fW "longer_rows" (K41.top 18) ["band","rows"] X G;obtain⟨_,uW⟩:=K41.fW "blocks_from" (K41.top 19) ["band","place","wide"] X G;obtain⟨_,zv⟩:=K41.fW "ends_from" (K41.top 21) ["band","place"] X G;obtain⟨_,Bt⟩:=K41.fW "all_ends" (K41.top 22) ["band"] X G;obtain⟨_,ua⟩:=K41.fW "counts_up_to" (K41.top 23) ["band","length"] X G;obtain⟨_,xM⟩:=K41.fW "count_from" (K41.top 24) ["band","place","length"] X G;obtain⟨_,J8⟩:=K41.fW "count" (K41.top 25) ["band","length"] X G;obtain⟨_,xN⟩:=K41.fW "block_ends" (K41.top 27) ["band","wide"] X G;obtain⟨_,zx⟩:=K41.fW "weight_of" (K41.top 28) ["places","weights"] X G;obtain⟨_,DV⟩:=K41.fW "lowered" (K41.top 29) ["ends","many","weights"] X G;obtain⟨_,Bu⟩:=K41.fW "greatest" (K41.top 30) ["band","many","wide","most"] X G;obtain⟨_,GB⟩:=K41.fW "scarce" (K41.top 31) ["band","many","wide","most"] X G;obtain⟨_,ub⟩:=K41.fW "copied_steps" (K41.top 33) ["line"] X G;obtain⟨_,uX⟩:=K41.fW "first_sheet" (K41.top 35) ["band","many","wide","weights"] X G;obtain⟨_,uc⟩:=K41.fW "is_number_of" (K41.top 36) ["number","things"] X G;obtain⟨_,xO⟩:=K41.fW "check_part" (K41.top 37) ["sheet","many","steps","weight"] X G;obtain⟨_,xP⟩:=K41.fW "with_twins" (K41.top 38) ["line","desk","twin"] X G;obtain⟨_,J9⟩:=K41.fW "split" (K41.top 39) ["sheet","many","desk","numbers","weight"] X G;obtain⟨_,ud⟩:=K41.fW "copied_sheet" (K41.top 44) ["sheet"] X G;obtain⟨_,nD⟩:=K41.fW "check_not_scarce" (K41.top 46) ["band","many","wide"] X G;obtain⟨_,j3⟩:=K41.fW "weights_of_least_most" (K41.top 47) ["band","many","wide"] X G;obtain⟨_,ue⟩:=K41.fW "reached_from" (K41.top 48) ["sheet","desk"] X G;obtain⟨_,pZ⟩:=K41.fW "closed_weights" (K41.top 49) ["band","many","wide","weights"] X G;obtain⟨_,xQ⟩:=K41.fW "steps_into" (K41.top 50) ["line","desks"] X G;obtain⟨_,xR⟩:=K41.fW "kept_desks" (K41.top 51) ["sheet","many"] X G;obtain⟨_,zy⟩:=K41.fW "step_down" (K41.top 52) ["sheet"] X G;obtain⟨_,GC⟩:=K41.fW "run_by" (K41.top 53) ["weights","numbers","many"] X G;obtain⟨_,xS⟩:=K41.fW "next_split" (K41.top 54) ["sheet","many"] X G;obtain⟨_,DW⟩:=K41.fW "plan_of" (K41.top 55) ["band","many","wide"] X G;obtain⟨_,rA⟩:=K41.fW "blocks_behind" (K41.top 57) ["band","wide"] X G;obtain⟨_,jF⟩:=K41.fW "steps_by_new_numbers" (K41.top 58) ["line","kept","many"] X G;obtain⟨_,xT⟩:=K41.fW "check_data" (K41.top 59) ["data","many"] X G;obtain⟨_,GD⟩:=K41.fW "walked" (K41.top 60) ["lines","desk","data"] X G;obtain⟨_,zz⟩:=K41.fW "all_among" (K41.top 64) ["text","signs"] X G;obtain⟨_,zA⟩:=K41.fW "are_signs" (K41.top 65) ["thing"] X G;obtain⟨_,DX⟩:=K41.fW "is_word" (K41.top 66) ["thing","signs"] X G;obtain⟨_,uf⟩:=K41.fW "check_barred" (K41.top 67) ["barred","signs"] X G;obtain⟨_,ug⟩:=K41.fW "bears_barred" (K41.top 68) ["row","barred"] X G;obtain⟨_,rB⟩:=K41.fW "sorted_places" (K41.top 69) ["barred"] X G;obtain⟨_,uY⟩:=K41.fW "longest_end" (K41.top 70) ["row","places"] X G;obtain⟨_,xU⟩:=K41.fW "moves_from" (K41.top 71) ["place","signs","barred","places"] X G;obtain⟨_,xV⟩:=K41.fW "leads_into" (K41.top 72) ["ends","lot"] X G;obtain⟨_,xW⟩:=K41.fW "live_among" (K41.top 73) ["moves"] X G;obtain⟨_,zB⟩:=K41.fW "_law_here" (K41.top 76) ["_law_script","_law_place_here"] X G;obtain⟨_,uZ⟩:=K41.fW "_law_shaken" (K41.top 77) ["_law_cell","_law_many"] X G;obtain⟨_,zC⟩:=K41.fW "_law_band" (K41.top 78) ["_law_script"] X G;obtain⟨_,zD⟩:=K41.fW "_law_rate" (K41.top 79) ["_law_script","_law_signs"] X G;obtain⟨_,zE⟩:=K41.fW "_law_told" (K41.top 80) ["_law_signs","_law_words","_law_many","_law_wide"] X G;obtain⟨_,zF⟩:=K41.fW "_law_good" (K41.top 81) ["_law_row","_law_words"] X G;obtain⟨_,uh⟩:=K41.fW "_law_written" (K41.top 83) ["_law_told_here","_law_data"] X G;have p5:=K41.Pk "Sheet" X G;have q0:=K41.Pk "Plan" X G;have cX:=K41.Pk "Writer" X G;have i9:=K41.Pk "Band" X G;obtain⟨_,fL⟩:=K41.xZ p5 "__init__" "Sheet.__init__" (L2.inClass (K41.top 34) 0) ["self","homes","weights","lines"];obtain⟨_,gq⟩:=K41.xZ q0 "__init__" "Plan.__init__" (L2.inClass (K41.top 45) 0) ["self","weights","splits","kept","last"];obtain⟨_,xX⟩:=K41.xZ q0 "sheet" "Plan.sheet" (L2.inClass (K41.top 45) 1) ["self"];obtain⟨_,fm⟩:=K41.xZ cX "__init__" "Writer.__init__" (L2.inClass (K41.top 61) 0) ["self","band","many","wide"];obtain⟨_,rD⟩:=K41.xZ cX "behind" "Writer.behind" (L2.inClass (K41.top 61) 1) ["self"];obtain⟨_,ui⟩:=K41.xZ cX "ahead" "Writer.ahead" (L2.inClass (K41.top 61) 2) ["self"];obtain⟨_,uj⟩:=K41.xZ cX "start" "Writer.start" (L2.inClass (K41.top 61) 3) ["self"];obtain⟨_,va⟩:=K41.xZ cX "lead" "Writer.lead" (L2.inClass (K41.top 61) 4) ["self"];obtain⟨_,uk⟩:=K41.xZ cX "desks" "Writer.desks" (L2.inClass (K41.top 61) 5) ["self"];obtain⟨_,um⟩:=K41.xZ cX "steps" "Writer.steps" (L2.inClass (K41.top 61) 7) ["self","desk"];obtain⟨_,uo⟩:=K41.xZ cX "write" "Writer.write" (L2.inClass (K41.top 61) 8) ["self","data"];obtain⟨_,gu⟩:=K41.xZ i9 "__init__" "Band.__init__" (L2.inClass (K41.top 74) 0) ["self","signs","barred"];obtain⟨_,nE⟩:=K41.xZ i9 "check_place" "Band.check_place" (L2.inClass (K41.top 74) 2) ["self","place"];obtain⟨_,p6⟩:=K41.xZ i9 "check_live" "Band.check_live" (L2.inClass (K41.top 74) 3) ["self","place"];obtain⟨_,vc⟩:=K41.xZ i9 "places" "Band.places" (L2.inClass (K41.top 74) 5) ["self"];obtain⟨_,zG⟩:=K41.xZ i9 "live" "Band.live" (L2.inClass (K41.top 74) 6) ["self"];obtain⟨_,Bv⟩:=K41.xZ i9 "led" "Band.led" (L2.inClass (K41.top 74) 8) ["self","place","sign"];obtain⟨_,uq⟩:=K41.xZ i9 "longest" "Band.longest" (L2.inClass (K41.top 74) 9) ["self"];have B:=K41.XW X G;have q5:=K41.Sj "NoSplit" X G B.2.1;have p7:=K41.Sj "Scarce" X G B.2.1;obtain⟨_,oS,oU,GF,GH⟩:=K41.XX p7.2.2 "Scarce.__init__" (L2.inClass (K41.top 9) 0) ["self","length","rows"] "__init__";have Bw:=K41.Sj "Open" X G B.2.1;exact K41.Sl _ w fa Y0 X G {T:=⟨K41.nz X G,K41.nz X G,K41.nz X G,K41.nz X G,K41.nz X G,K41.nz X G,K41.nz X G,K41.nz X G,K41.nz X G,K41.nz X G,K41.nz X G,K41.nz X G,K41.nz X G,K41.nz X G,K41.nz X G,K41.nz X G⟩,hH:=Bq,nq:=Br,pO:=DU,dI:=xK,iE:=uV,fQ:=uW,kz:=zv,nr:=Bt,eU:=ua,ju:=xM,xn:=J8,jv:=xN,kC:=zx,pP:=DV,nv:=Bu,tO:=GB,hO:=ub,fR:=uX,eV:=uc,cy:=xO,jw:=xP,oz:=J9,eW:=ud,cm:=nD,bo:=j3,hX:=ue,fH:=pZ,gF:=xQ,gG:=xR,kL:=zy,tP:=GC,jy:=xS,iY:=DW,gj:=rA,cV:=jF,jz:=xT,oK:=GD,ir:=zz,kX:=zA,pQ:=DX,hZ:=uf,f7:=ug,gk:=rB,iF:=uY,jA:=xU,jB:=xV,jD:=xW,eF:=zB,fS:=uZ,lC:=zC,lD:=zD,lE:=zE,lF:=zF,i6:=uh,cI:=fL,gn:=gq,gH:=xX,da:=fm,dX:=rD,cJ:=ui,f9:=uj,fT:=va,tV:=uk,fb:=um,bR:=uo,dY:=gu,bK:=nE,df:=p6,fU:=vc,cM:=zG,fI:=Bv,fg:=uq,rR:=p5.g,aw:=⟨p5.c,K41.na,K41.na,K41.na⟩,oR:=⟨p5.mi,fL.m.1,fL.m.2,p5.kp⟩,G9:=q0.g,cD:=⟨q0.c,K41.na,K41.na,K41.na,K41.na⟩,Ch:=⟨q0.mi,gq.m.1,gq.m.2,q0.kp⟩,tU:=cX.g,au:=⟨cX.c,K41.na,K41.na,K41.na,K41.na,K41.na,K41.na,K41.na,K41.na⟩,pR:=⟨cX.mi,fm.m.1,fm.m.2,cX.kp⟩,Bc:=i9.g,aK:=⟨i9.c,K41.na,K41.na,K41.na,K41.na⟩,xo:=⟨i9.mi,gu.m.1,gu.m.2,i9.kp⟩,qX:=B.1,XT:=B.2.1,XB:=B.2.2,gM:=q5.1,gN:=q5.2.1,DK:=q5.2.2,fJ:=by k_is,tW:=p7.1,gb:=p7.2.1,Ga:=p7.2.2,oS:=oS,oU:=oU,wq:=GF,wt:=GH,jW:=K41.na,mK:=K41.na,xq:=Bw.1,tX:=Bw.2.1,Le:=Bw.2.2,xr:=by k_is,lI:=⟨_,mg_of X G (by k_is)⟩,lJ:=⟨_,mg_of X G (by k_is)⟩,fq:=⟨_,mg_of X G (by k_is)⟩,known:=K41.XV X G,..}
#print axioms PySem.Challenge.cw_bandscribe_k41_whole_written_rows_are_go_holds
