import PyProof.Rows.All
import Wide.All
import OpenK.AllK
import Wide.FinOn
import Lean
import PyProof.EqAt
import PyProof.EqKinds
import PyProof.TupleCall
import PySem.Challenge.RW_selvage_k68_whole_turned_and_otherwise
set_option Elab.async false
set_option linter.all false
set_option maxRecDepth 100000
set_option genSizeOfSpec false
set_option genInjectivity false
open PySem renaming wpAny_bind→Aa,wpAny_pure→Ac,starEach→Ad,Shared→Af,wpAny→Ak,mainGlobals→An,sizeLine→Ar,model→Aw,Program→AR,assignEach→AW,eval→A6,wpAny_newObj_type→A9,Around→Ba,Heap→Bg,World→Bk,wpAny_call_entry→Bl,wpAny_setField_rec→Bo,wpAny_holding→Bp,wpAny_field→Bq,wpAny_loadPart'→Bt,wpAny_seqItems→Bu,wpAny_callSpecial?_slot→Bw,foldedSetIterable→BA,cLine→BE,wpAny_mono→BF,backTo→BL,wpAny_tryCatch→B4,wpAny_dictEntries→B5,holding→B6,compareOp→B8,plainId_quiet→Ce,wpAny_letGo→Cg,sysModules→Ck,binaryOp→Co,swapsWith→Cq,wpAny_Call_Name_kw→Cs,rawInt→Cu,NameKind→Cz,codeAny_builtin→CC,wpAny_truthy_bool→CD,FuncData→CH,assign→CL,IsPair→CM,Keyword→CP,wpAny_typeNameOfWhole_itemiter→CQ,wpAny_fieldsOf→CS,wpAny_typeNameOfWhole_keyiter→CZ,pyNext→C1,bootBuiltins→C3,wpAny_updateSeq→C7,tupleKind→C9,behindInMarks→Dg,attributeBase→Dh,DictEntry→Dj,codeAny→Dr,reduceHash→Dw,argBest→DD,wpAny_typeNameOf_itemiter→DG,wpAny_typeNameOf_keyiter→DK,wpAny_attempt→DL,wpAny_ite_split→DM,wpAny_dictEpoch→DN,builtinsNs→DU,keywordEach→DV,wpAny_isOneOf_itemiter→D0,firstArgMember→D3,Builtin→D6,wpAny_isInstance→Eb,IsItemIter→Ee,swapsWithSole→Ef,swappedStores→Eg,ExceptHandler→Ej,sliceBounds→Em,wpAny_specialOf→Es,wpAny_passesOwn→Et,seqItems?→EJ,recursionLimit→EQ,intItems→EU,closureFor→EW,wpAny_pyIter_list→E3,standAt→E4,sizeLine_eq→E5,IsZip→Fb,PyData→Fd,backToKw→Fq,Arguments→Ft,wpAny_rule→Fv,entryOfKey→FC,wpAny_execs_nil→FF,letOwnedTupleGo→FG,wpAny_notOrdered_dict→FN,wpAny_isOneOf_keyiter→FP,wpAny_updateSeq_pair→Gd,wpAny_setField→Ge,wpAny_of_eq→Gf,setField→Gg,getItem→Gq,codeAmong→Gr,BindsTo→Gw,wpAny_standAt→GD,wpAny_onRaise→GF,numAt→GH,Reads→GI,tupleKind_room_in1→GO,wpAny_pyIter_slot→GY,valueAt→GZ,slot_list_getitem→G0,setItem→G1,codeAny_mono→G5,callerA→G6,GenState→G8,updateSeq→Hl,noteFrame→Hm,noFill_tuple_add→Hn,IsPart→Ht,subscripted→Hx,wpAny_newTuple→HQ,typeLookup→HR,truthy→HS,pyIter→HV,isSubtype_stop→HY,field→HZ,compEnvC→Ib,call_meets→Ic,bindArgs→Ie,atKey→Ig,ZipApart→Ih,Operator→Ij,wpAny_newList→IE,wpAny_handled→IF,wpAny_getItem_list_slice→IG,wpAny_comprehension_free→IH,seq_tuple_add→II,nums_intItems→IJ,evalPart_none→IK,IsItemIterOut→IR,cellsFrom→IY,bindL→IZ,bindC→I0,TriplesOk→JC,PassesOwn→JD,wpAny_typeOf→JZ,wpAny_noteFrame_againW→J6,seqIndex_neg→J8,release→J9,relabel→Ka,newExc→Kb,leaving→Kc,entryPlaceOf→Kf,concat_meets→Kg,Result→Kh,builtinLookup_eq_fast→Ks,wpAny_throw→KD,wpAny_pyIter_keyiter→KE,wpAny_newFunctionEnv→KF,wpAny_loadName_local→KG,seqIndex_of→KH,richCompare→KI,again→KJ,wpAny_loadName_cell→KY,wpAny_pyIter_tuple→K8,wpAny_Name→K9,typeOf→La,typeIs_int→Lb,defaultsOf→Ld,wpAny_pyIter_enum→Lq,wpAny_assign_Name→Lr,OsState→Ly,Drawn→LA,wpAny_pyIter_zip→LB,wpAny_execs_cons→LC,storeName→LD,seqIndex?→LF,pairTrees_length→LG,typeLookup_type→LS,raiseNew→Mi,newTuple→Mj,callType_codes→Ml,behindIsImport→Mm,ReadsAll→Mn,rangeSize_one→Ms,intBits_le_64→Mu,evalPart_some→Mx,call_list_seq→My,CmpOp→MH
open List renaming replicate→Ab,getElem?_eq_getElem→Ag,mem_append_right→Ah,length_map→Ai,mem_cons→Aj,mem_append→Al,getElem?_eq_some_iff→Am,mem_singleton→Ap,mem_append_left→Aq,length_append→Av,size_toArray→Ay,mem_map→Az,getD_eq_getElem?_getD→AA,nodup_cons→AB,forall_mem_cons→AK,getElem?_append_left→AM,mem_of_getElem?→AO,getElem?_map→AS,map_map→AV,range→AX,map_cons→AZ,map_append→A5,zipWith→A8,nodup_nil→Bb,lookup_cons→Bh,mem_range→Bi,replicate_succ→Bn,getElem?_append_right→Bs,drop_eq_getElem_cons→BD,all_eq_true→BG,toArray→BJ,length_cons→BK,length_replicate→BN,not_mem_nil→BO,map_congr_left→BS,getElem?_set_ne→BV,length_take→BY,flatten_cons→B7,getElem_mem→Ca,mem_cons_of_mem→Cm,zip_cons_cons→Cp,length_zipWith→Cy,getD→CA,getElem?_set_self→CG,Nodup→CO,length_reverse→CT,of_mem_zip→C2,mem_cons_self→Dc,getElem?_zip_eq_some→Ds,sum_append→Dv,length_set→Dx,append_nil→Dy,set_append_right→DA,reverse_cons→DB,append_assoc→DE,getElem?_replicate→DH,getElem?_cons_succ→DI,zipWith_cons_cons→DP,take_of_length_le→DQ,nodup_append→DR,drop_eq_nil_of_le→DS,getElem?_eq_none→DX,mem_flatMap→DY,any_eq_true→DZ,sum_cons→D1,mem_iff_getElem→D7,length→D8,foldl_cons→Ec,mem_of_find?_eq_some→EB,length_range→EE,pairwise_map→EF,find?_cons→EV,map→EY,length_eq_zero_iff→EZ,length_drop→E6,reverse→E7,forall_mem_append→E8,drop_of_length_le→E9,append_eq_nil_iff→Fa,mem_replicate→Fc,take_append_drop→Fk,contains_iff_mem→Fm,map_take→Fo,map_id→Fy,length_zip→Fz,filterMap_cons→FJ,pairwise_cons→FY,mem_filterMap→FZ,map_inj_right→F0,find?_eq_none→Ga,zipWith_map→Gb,map_zipWith→Gh,any_cons→Gm,filter_cons→GK,drop_length→GL,forIn_cons→GQ,zip_append→GR,length_nil→GS,find?_some→GU,dropLast_concat_getLast→GV,map_drop→G2,nodup_iff_pairwise_ne→Hi,forIn_nil→Hj,drop_zero→Hr,set_eq_of_length_le→HA,pairwise_singleton→HF,map_eq_append_iff→HL,length_pos_of_mem→HM,length_singleton→Iq,getElem?_zipWith→Ir,zip→IA,reverse_reverse→IB,mem_of_mem_tail→IC,map_eq_nil_iff→IP,filter_eq_self→IQ,getElem_range→JH,getElem?_take→JK,foldl→JL,zipIdx_cons→Kw,take_length→Kx,mem_reverse→Ky,map_reverse→Kz,zipIdx_nil→KR,mem_filter→KU,all_cons→Li,map_nil→Ls
open PySem.Heap renaming get?_push_of_some→Ae,get?_push_size→Au,lt_size→AI,get?_update_other→BP,SameBut→BZ,get?_update_self→Cb,ExtBut→EG,size_push→EI,size_update→GM,get?_update_ne→IT,get?_push_ne→Ko
open Bool renaming false_ne_true→Ao,and_eq_true→AC,false_eq_true→AT,eq_iff_iff→DF,not_eq_true'→Kp,eq_false_iff→Kq,not_false→K5,false_and→K6,or_false→Ln,not_true→Lo
open Nat renaming le_refl→As,le_trans→AD,lt_of_lt_of_le→AG,ne_of_lt→AY,lt_irrefl→Bm,lt_succ_of_lt→De,testBit→Do,zero_le→Dp,le_add_right→DC,le_mul_of_pos_right→DJ,lt_of_le_of_lt→Ew,lt_of_succ_lt→EK,succ_pos→EO,ne_of_gt→ES,mul_le_mul→ET,lt_succ_self→E1,ble→Fe,not_lt_zero→Fh,min_le_left→Fi,min_eq_left→Fj,sub_self→Fn,le_succ→G3,mul_assoc→HD,lt_succ_iff_lt_or_eq→HE,zero_add→HP,min_self→HW,le_of_lt→HX,succ_mul→Ik,sub_zero→Il,lt_trans→Im,le_mul_of_pos_left→Io,add_comm→Ip,pow_le_pow_right→IN,le_of_succ_le→Ku,succ_ne_zero→KM,succ_le_succ→KN,min_le_right→KO,min_eq_right→KP,le_of_not_lt→KQ,mul_comm→LI,le_of_eq→LJ,one_mul→LZ,mul_pos→L0,mul_one→L1,le_zero→L3,max_lt→Mo,succ→MD
open Or renaming inl→Ax,inr→EX
open Option.some renaming inj→AE,injEq→Fs
open PyProof.Rows renaming arrOf→AF,boot_list→AJ,Keyed→AL,wpS_bind→Be,seqObj→Bj,callWith_type1→BC,wpS_pure→BR,kindOf→CU,SortSt→C4,pendingOf→Da,boot_tuple→Dm,slot_tuple_getitem→Dz,envOfC→DT,failedOf→D4,boot_sum→Ez,boot_min→EA,wpS_forRange→ED,AllBare→EH,wpS_mono→Gc,SortKind→Gn,IntsAre→Gs,subscriptTail→GG,size_push'→GP,mirror→Ho,get?_update_seq→HC,wpS_get→HK,Subscript_→Ii,IsTup→JR,subscriptTail_builtinR→J7,getElem?_mirror_all→KZ,wpS_modify→K7,setArr→Lc,getElem?_bubble→LU,callWith_builtin1→LV,boot_sorted→LW,boot_dict→LX,boot_any→LY,wpS_lift→Mf,tail_any→Mg,slicePart_none→Mh,listUpdate_at→Mt
open Option renaming map_eq_some_iff→AH,bind_eq_some_iff→A7,none→C6,isSome_iff_exists→Hh,isSome_map→IL,getD_none→JF,map_some→Ki,some→Lh
open PySem.W renaming Frag→AN,nsIn→Cr,mg_none_of→Cv,mg_of→CF,findIn→CK,subIn→Dq,hideAll_none→D2,hideAll→Ei,typeIn→Fw,keepIn→Gi,codeHdIn→Gj,clsIn→Gk,excIn→G4,exmOne→Hq,codeIn→Hs,hideAll_get→Hy,tabObj→HU,CodeHd→Iv,specialIn→IW,methodObj→IX,kla_obj→Ke
open PySem.Value renaming ref→AQ,none→BI,bool→En,type→FQ,int→Gx,str→Hz,isStrOf→K1,isInt→Lv
open Int renaming le_trans→AU,mul_le_mul_of_nonneg_left→Cc,toNat_of_nonneg→Cj,toNat_natCast→CJ,emod_lt_of_pos→CV,emod_nonneg→C0,ofNat_lt→Dt,toNat_lt→El,le_of_lt→Eo,le_refl→EL,eq_ofNat_of_zero_le→E2,mul_nonneg→Fx,toNat→FK,lt_add_one_iff→Gp,zero_add→GA,le_add_of_nonneg_right→Hu,add_nonneg→Hv,ofNat_inj→HG,add_assoc→HH,lt_trans→Iu,add_le_add_right→IS,add_le_add_left→JV,natCast_nonneg→Kk,natAbs_natCast→Kl,lt_of_le_of_lt→Km,le_min→Kn,emod_eq_of_lt→KA,min_le_right→KW,le_antisymm→K3,mul_le_mul→Lj,add_le_add→Lk,toNat_le→LK,ne_of_gt→LL
open PySem.Builtin.SmallTypes renaming nextOf→A3,ownedTupleIsFree→B9,ownedTupleHandOut→Er
open PySem.Obj renaming mapSeq→Bc,data_mapFields→Eu,mapFields→FX,isFreed_of_fields→Iz,data_mapDictKeys→IM,cls_mapFields→Kt
open PySem.Str renaming ofString→BB
open PySem.PassesOwn renaming never→BH
open Array renaming length_toList→BM,getElem?_eq_getElem→B3,getElem?_toList→DO,getElem?_eq_some_iff→Hf,getElem?_eq_none→HJ,getElem_toList→Iy,toList_append→ID,toList_map→Kr,toList→Lp
open PySem.Around renaming under_plainId→BQ,frames_deeper→HN
open PySem.Heap.SameBut renaming update→BU
open PySem.NameKind renaming free→BW,cell→Kj
open Nat.succ renaming inj→BX
open PySem.Builtin.Dict_items renaming ownsTuple→B0,ownedTupleIsFree→Ex,ownedTupleFields→Ey,pairFromOwner→EN,newIterator→KB,dictOf→KC
open PySem.F renaming slot_dict_itemiterator_next→Cf,slot_dict_keyiterator_next→Ci,slot_tuple_iterator_next→Du,slot_zip_next→Fu,args_dict_itemiterator_next_1→GX,entry_dict_itemiterator_next→G9,args_dict_keyiterator_next_1→Hd,entry_dict_keyiterator_next→Hk,args_tuple_iterator_next_1→Hw,entry_tuple_iterator_next→HB,slot_dict_items_iter→IU,args_zip_next_1→K4,slot_dict_iter→Ll,entry_zip_next→Lm,slot_int_rmul→Lz,slot_list_lt→LM
open PySem.Builtin.Builtins renaming bindParams→CB
open PySem.Builtin.Dict renaming showsAll→CI,entriesForEmpty→FL,updateFrom→GC,selfAndRest→L7,readDirectly→L8,quietEq→L9,noArgs→Ma,mergeDict→Mb,merge→Mc,dictSlotNone→Md,addKeywords→Me
open PySem.Builtin.List renaming listExtendWith→CN,listTooLong→Ea,listLengthHint→FU,listSameRef→Gv,listUpdate→GB,listItems→GN
open PySem.Builtin.Tuple renaming tupleHashOf→CW,tupleExact→C5,tupleItemsOf→LO
open PySem.Builtin.Slice renaming slicePlaces→CY,sliceAdjust→D5,sliceApplied→FR,slicePartIndex→LQ,sliceFields→LR
open ToString renaming toString→C8
open PySem.PyData renaming strOk→Di,eqv→DW,canLay0→Fg,depth→FV,canLayAll0→FW,depthAll→GJ,eqvAll→KL,list→Lg
open List.Pairwise renaming imp_of_mem→D9,nil→Ff
open PySem.SeqAt renaming shaped→Ed
open MonadExcept renaming tryCatch→Ek
open True renaming intro→Ep
open ForInStep renaming yield→EM
open LawfulBEq renaming eq_of_beq→Fp
open PySem.Shared renaming TypeIs→FD,heap→Le
open Sum renaming inl→FH,inr→Gy
open PySem.Builtin.Range renaming rangeSize→Gu
open List.Perm renaming refl→Gz,swap→ME,eq_of_pairwise→MF
open PySem.Heap.IsSliceOf renaming new→GW
open PySem.Walks renaming list→G7,tuple→Lu
open PySem.Calls renaming Name_function_global→He,callWith_builtin→HI,evalArgs_plain→Iw,spliced_cons→IV,spliced_nil→JY
open List.cons renaming inj→JQ
open Sum.inl renaming inj→K2
open PyProof.Rows.SortSt renaming mk'→Lw
open PyProof.Rows.Reads renaming keeps→Lx
open PySem.Obj.ExactDict renaming mapDictKeys→LH
open PySem.Data renaming fields→LN,dict→Mr
open PyProof.Rows.IsTup renaming new→L4
open PySem.Heap.IsTuple renaming push→L5,extBut→L6
open PySem.Heap.IsList renaming push→Mp,extBut→Mq
open PySem.SeqAt.EqAt renaming str_int→Mz,int_str→MA
open PySem.EntryCells renaming newEntry→MB
open Array.Perm renaming refl→MC
open PySem.AutoListH renaming list___mul___list_int_3→MG
open PySem.W (envX fnOf isFn kla_fn)
open List (mem_replicate)
open Nat (lt_irrefl mod_lt)



def PySem.W.Fast.tw15689237082401558607:=0
def PySem.W.Fast.tw4687113916031816000:=0
def PySem.W.Fast.tw9361886098312034778:=0
def PySem.W.Fast.tw14282314181501596314:=0
def PySem.W.Fast.tw9134231808240060146:=0
def PySem.W.Fast.tw10725491468033117584:=0
def PySem.W.Fast.tw6262856203713501167:=0
def PySem.W.Fast.tw12310254850531332484:=0
def PySem.W.Fast.tw17847382414143164851:=0
def PySem.W.Fast.tw13287085239475554618:=0
def PySem.W.Fast.tw18233038100371242474:=0
def PySem.W.Fast.tw2874666494296561007:=0
theorem aT0 (h:True:=by first | exact .inl rfl | exact .inr rfl | assumption):True:=Ep
theorem aT3 (h:True:=by first | exact Ax rfl | exact EX (Ax rfl) | exact EX (EX rfl)):True:=Ep
def aa:=@if_pos
def ae:=@if_neg
def af:=@absurd
def ah:=@congrArg
def ai:=@decide_eq_false
def aj:=@decide_eq_true
open Option renaming some→ak,none→ao
open Bool renaming true→aq,false→ar
namespace L2
open PySem PySem.Spec PyProof.Rows
abbrev Key:=Sum Int Str
variable{v:V}{x:Str}
def Zup:Key->Value->Bool
 | .inl k,v=>Lv k v
 | .inr x,v=>K1 x v
def keyH(w:Bk):Key->Int
 | .inl k=>hashInt k
 | .inr x=>hashStr w x
variable{e:Expr}{h:Bg}{i:Nat}
theorem Yr:∀{k:Key} {v:Value},Zup k v=aq->(∃i t,k=FH i/\v=Gx i t)\/(∃x t,k=Gy x/\v=Hz x t)
 | .inl i,v,h=>by obtain⟨t,e⟩:=Value.isInt_shape (k:=i) (v:=v) h;exact .inl ⟨i,t,rfl,e⟩
 | .inr x,v,h=>by obtain⟨t,e⟩:=Value.isStrOf_shape (x:=x) (v:=v) h;exact .inr ⟨x,t,rfl,e⟩
theorem Zvz(i:Int)(t:Tok):Zup (.inl i) (.int i t)=true:=by simp[Zup,Lv]
theorem Xcl(x:Str)(t:Tok):Zup (.inr x) (.str x t)=true:=by simp[Zup,K1]
theorem Xwp(a b:Int):decide ((FH a:Key)=FH b)=(a==b):=by by_cases e:a=b;subst e;simp;have h:¬(FH a:Key)=FH b:=fun q=>e (K2 q);rw[ai h];exact(beq_eq_false_iff_ne.mpr e).symm
theorem Xuq(a b:Str):decide ((Gy a:Key)=Gy b)=decide (a=b):=by by_cases e:a=b;subst e;simp;have h:¬(Gy a:Key)=Gy b:=fun q=>e (Sum.inr.inj q);rw[ai h,ai e]
theorem Xxk(a:Int)(b:Str):decide ((FH a:Key)=Gy b)=false:=ai (fun q=>nomatch q)
theorem Xty(a:Str)(b:Int):decide ((Gy a:Key)=FH b)=false:=ai (fun q=>nomatch q)
variable{a b:Addr}{j:Nat}{u:Value}
def Yi(prog:AR)(w:Bk):PySem.KeyKind prog w Key where
 is:=Zup
 hash:=keyH w
 inj:=fun v a b ha hb=>by
  rcases Yr ha with⟨i,t,rfl,rfl⟩|⟨x,t,rfl,rfl⟩
  ·rcases Yr hb with⟨j,u,rfl,e⟩|⟨y,u,rfl,e⟩
   ·injection e with e1 _;rw[e1]
   ·exact nomatch e
  ·rcases Yr hb with⟨j,u,rfl,e⟩|⟨y,u,rfl,e⟩
   ·exact nomatch e
   ·injection e with e1 _;rw[e1]
 byValue:=fun k v h=>by
  rcases Yr h with⟨i,t,rfl,rfl⟩|⟨x,t,rfl,rfl⟩<;>rfl
 pyHash:=fun hv h=>by
  rcases Yr hv with⟨i,t,rfl,rfl⟩|⟨x,t,rfl,rfl⟩
  ·exact wpAny_pyHash_int h
  ·exact wpAny_pyHash_str h
 eqBool:=fun hu hv h=>by
  rcases Yr hu with⟨i,t,rfl,rfl⟩|⟨x,t,rfl,rfl⟩
  ·rcases Yr hv with⟨j,u,rfl,rfl⟩|⟨y,u,rfl,rfl⟩
   ·rw[Xwp]at h;exact wpAny_eqBool_int h
   ·rw[Xxk]at h;exact MA i t y u _ _ _ _ h
  ·rcases Yr hv with⟨j,u,rfl,rfl⟩|⟨y,u,rfl,rfl⟩
   ·rw[Xty]at h;exact Mz x t j u _ _ _ _ h
   ·rw[Xuq]at h;exact wpAny_eqBool_str h
 «strs»:=fun k x t v h=>by
  rcases Yr h with⟨i,u,rfl,e⟩|⟨y,u,rfl,e⟩
  ·exact nomatch e
  ·injection e with e1 _
   subst e1
   cases v<;>rfl
theorem Zol(prog:AR)(w:Bk)(i:Int)(t:Tok):(Yi prog w).is (.inl i) (.int i t)=true:=Zvz i t
theorem Zor(prog:AR)(w:Bk)(x:Str)(t:Tok):(Yi prog w).is (.inr x) (.str x t)=true:=Xcl x t
variable{n:Nat}
set_option genInjectivity true in
inductive V where
 |non|bl (b:Bool)|int (i:Int)|str (x:Str)|byt (b:Array UInt8)|flt (b:UInt64)|ref (a:Addr)|ty (n:String)
 deriving DecidableEq
def RelV:V->Value->Prop
 | .non,u=>u=BI
 | .bl b,u=>u=En b
 | .int i,u=>∃t,u=Gx i t
 | .str x,u=>∃t,u=Hz x t
 | .byt b,u=>∃t,u=Value.bytes b t
 | .flt b,u=>∃t,u=Value.float b t
 | .ref a,u=>u=AQ a
 | .ty n,u=>u=FQ n
abbrev Yl:List V->List Value->Prop:=Paired RelV
theorem Yl.length{xs:List V}{us:List Value}(r:Yl xs us):xs.length=us.length:=Paired.length r
variable{us:List Value}{xs:List V}
theorem Yl.get:∀{xs:List V} {us:List Value} {i:Nat} {x:V},Yl xs us->xs[i]?=ak x->∃u,us[i]?=ak u/\RelV x u
 |_,_,_,_,.nil,e=>by simp at e
 |_,_,0,_,.cons r _,e=>by simp at e;subst e;exact⟨_,rfl,r⟩
 |_,_,i+1,x,.cons _ t,e=>by obtain⟨u,h1,h2⟩:=Yl.get (i:=i) (x:=x) t (by simpa using e);exact⟨u,by simpa using h1,h2⟩
theorem Yl.set{x:V}{u:Value}(r:RelV x u):∀{xs:List V} {us:List Value} (i:Nat),Yl xs us->Yl (xs.set i x) (us.set i u)
 |_,_,_,.nil=>.nil
 |_,_,0,.cons _ t=>.cons r t
 |_,_,i+1,.cons q t=>.cons q (Yl.set r i t)
variable{s:Af}
theorem Yl.append:∀{xs ys:List V} {us ws:List Value},Yl xs us->Yl ys ws->Yl (xs++ys) (us++ws)
 |_,_,_,_,.nil,s=>s
 |_,_,_,_,.cons r t,s=>.cons r (Yl.append t s)
theorem Yl.take:∀{xs:List V} {us:List Value} (n:Nat),Yl xs us->Yl (xs.take n) (us.take n)
 |_,_,0,_=>.nil
 |_,_,_+1,.nil=>.nil
 |_,_,n+1,.cons r t=>.cons r (Yl.take n t)
theorem Yl.drop:∀{xs:List V} {us:List Value} (n:Nat),Yl xs us->Yl (xs.drop n) (us.drop n)
 |_,_,0,r=>r
 |_,_,_+1,.nil=>.nil
 |_,_,n+1,.cons _ t=>Yl.drop n t
def Xcp:Option V->Option Value->Prop
 |some v,ak u=>RelV v u
 |none,ao=>True
 |_,_=>False
variable{p:Pos}
def KV{κ:Type}:List (κ×V)->List (κ×Value)->Prop:=Paired fun(p:κ×V) (q:κ×Value)=>p.1=q.1/\RelV p.2 q.2
def kV:Key->V
 | .inl i=>.int i
 | .inr x=>.str x
variable{C dx:Addr}{f:Value->Value->Sem Value}{o:Obj}{pos:Pos}{qual:Str}
inductive HO where
 |lst (xs:List V)
 |tup (xs:List V)
 |dK (kvs:List (Key×V))|dT (kvs:List (List Key×V))
 |set (S:Int->Bool) (n:Nat)
 |ins (C dx:Addr) (fs:List (Str×V))
 |own (x:Addr)
 |xd (fs:List (Str×V))
 |met (f x:Addr)
 |rng (lo hi:Int)
 |frz (o:Obj) (u:HO)
 |tbl (pos:Pos) (qual:Str)
 |ext (φ:Bg->Prop)
abbrev Hp:=Addr->Option HO
def upd(H:Hp)(a:Addr)(o:HO):Hp:=fun b=>if b=a then ak o else H b
variable{H:Hp}
theorem Zw{o:HO}:upd H a o a=ak o:=by unfold upd;rw[aa rfl]
theorem Zy{o:HO}(h:b≠a):upd H a o b=H b:=by unfold upd;rw[ae h]
theorem Xrz{o u:HO}(h:H a=ak o)(h':H b=ak u)(d:o≠u):a≠b:=by intro e;subst e;rw[h]at h';exact d (AE h')
theorem Xe{o:HO}(h:H a=ak o)(h':H b=ao):a≠b:=by intro e;subst e;rw[h]at h';cases h'
variable{P:AR}{c:Expr}{es:List Expr}{its:List Value}{mA:Str->Option Value}{ps:List Str}{vs:List V}{w:Bk}
section
variable(P:AR)(w:Bk)
def Je(H:Hp)(h:Bg)(a:Addr):HO->Prop
 | .lst xs=>xs.length<=Ar/\∃(its:List Value) (n:Nat),Yl xs its/\h.get? a=ak {cls:=.type "list",data:=.seq its.toArray n}
 | .tup xs=>xs.length<=Ar/\∃its:List Value,Yl xs its/\JR h a its.toArray
 | .dK kvs=>kvs.length<=Ar/\(a==Ck)=ar/\∃vs,KV kvs vs/\h.DictOf (Yi P w) a vs
 | .dT kvs=>kvs.length<=Ar/\(a==Ck)=ar/\∃xs:List (List Key×Addr×Value),
   Paired (fun(p:List Key×V) (q:List Key×Addr×Value)=>p.1=q.1/\H q.2.1=ak (.tup (p.1.map kV))/\RelV p.2 q.2.2) kvs xs/\
   ∃o es ep,h.get? a=ak o/\o.ExactDict/\o.data=.dict es ep/\es.toList=xs.map (FC (C9 (Yi P w)))/\(xs.map (·.1)).Nodup
 | .set S n=>h.SetOf (intKind P w) a S n
 | .ins C dx fs=>H dx=ak (.own a)/\fs.length<=1000/\dx≠a/\h.get? a=ak (PySem.W.instObj C dx)/\
   ∃mA,h.Ns1 dx mA/\(∀f,Xcp (fs.lookup f) (mA f))/\PySem.Within mA (fs.map (·.1))
 | .own _=>∃o,h.get? a=ak o
 | .xd fs=>∃mA,h.Ns1 a mA/\∀f,Xcp (fs.lookup f) (mA f)
 | .rng lo hi=>∃t u v,h.get? a=ak {cls:=.type "range",data:=.fields #[.int lo t,.int hi u,.int 1 v]}
 | .frz o u=>h.get? a=ak o/\Je H h a u
 | .tbl pos qual=>∃ps,h.get? a=ak {cls:=.none,data:=.fields ps}/\JC ps.toList/\∀v,Gr pos ps.toList=ak v->∃c o vs t,v=.ref c/\H c=ak (.frz o (.own 0))/\o.data=.fields vs/\vs[1]?=ak (.str qual t)
 | .met f x=>h.get? a=ak (IX (.ref f) (.ref x))
 | .ext φ=>φ h/\(∃o,h.get? a=ak o)/\∀h1 h2:Bg,φ h1->(∀o,h1.get? a=ak o->h2.get? a=ak o)->φ h2
def HOk(H:Hp)(h:Bg):Prop:=∀a o,H a=ak o->Je P w H h a o
end
variable{o:HO}
theorem Je.lt(x:Je P w H h a o):a<h.objs.size:=by
 cases o with
 |lst xs=>obtain⟨_,_,_,_,e⟩:=x;exact AI e
 |tup xs=>obtain⟨_,_,_,p⟩:=x;exact p.lt
 |dK kvs=>obtain⟨_,_,_,_,o,_,_,e,_⟩:=x;exact AI e
 |dT kvs=>obtain⟨_,_,_,_,o,_,_,e,_⟩:=x;exact AI e
 |set S n=>obtain⟨o,_,_,_,e,_⟩:=x;exact AI e
 |ins C dx fs=>obtain⟨_,_,_,e,_⟩:=x;exact AI e
 |own y=>obtain⟨_,e⟩:=x;exact AI e
 |xd fs=>obtain⟨_,⟨_,_,_,e,_⟩,_⟩:=x;exact AI e
 |rng lo hi=>obtain⟨_,_,_,e⟩:=x;exact AI e
 |frz ob u=>obtain⟨e,_⟩:=x;exact AI e
 |tbl pos qual=>obtain⟨_,e,_⟩:=x;exact AI e
 |met f y=>exact AI (show h.get? a=ak _ from x)
 |ext φ=>obtain⟨_,⟨_,e⟩,_⟩:=x;exact AI e
theorem Paired.mapP{α β:Type}{F G:α->β->Prop}:∀{l₁:List α} {l₂:List β},Paired F l₁ l₂->(∀a b,F a b->G a b)->Paired G l₁ l₂
 |_,_,.nil,_=>.nil
 |_,_,.cons r t,f=>.cons (f _ _ r) (Paired.mapP t f)
variable{H':Hp}{h':Bg}
theorem Je.stay(x:Je P w H h a o)(k:∀b u,(b=a\/H b=ak (.own a))->h.get? b=ak u->h'.get? b=ak u)(ho:∀b,H b=ak (.own a)->H' b=ak (.own a))(ht:∀b xs,H b=ak (.tup xs)->H' b=ak (.tup xs))(hf:∀b o u,H b=ak (.frz o u)->H' b=ak (.frz o u)):Je P w H' h' a o:=by
 induction o with
 |lst xs=>obtain⟨z,its,n,r,e⟩:=x;exact⟨z,its,n,r,k _ _ (.inl rfl) e⟩
 |tup xs=>obtain⟨z,its,r,ob,e,c⟩:=x;exact⟨z,its,r,ob,k _ _ (.inl rfl) e,c⟩
 |dK kvs=>obtain⟨z,y,vs,r,ob,es,ep,e,c⟩:=x;exact⟨z,y,vs,r,ob,es,ep,k _ _ (.inl rfl) e,c⟩
 |dT kvs =>obtain⟨z,y,xs,r,ob,es,ep,e,c⟩:=x;exact⟨z,y,xs,Paired.mapP r fun p q z=>⟨z.1,ht _ _ z.2.1,z.2.2⟩,ob,es,ep,k _ _ (.inl rfl) e,c⟩
 |set S n=>obtain⟨ob,es,ep,t,e,c⟩:=x;exact⟨ob,es,ep,t,k _ _ (.inl rfl) e,c⟩
 |ins C dx fs =>obtain⟨d,z,ne,e,mA,⟨od,es,ep,e2,c⟩,r⟩:=x;exact⟨ho _ d,z,ne,k _ _ (.inl rfl) e,mA,⟨od,es,ep,k _ _ (.inr d) e2,c⟩,r⟩
 |own y=>obtain⟨ob,e⟩:=x;exact⟨ob,k _ _ (.inl rfl) e⟩
 |xd fs=>obtain⟨mA,⟨od,es,ep,e,c⟩,r⟩:=x;exact⟨mA,⟨od,es,ep,k _ _ (.inl rfl) e,c⟩,r⟩
 |rng lo hi=>obtain⟨t,u,v,e⟩:=x;exact⟨t,u,v,k _ _ (.inl rfl) e⟩
 |frz ob u ih=>obtain⟨e,q⟩:=x;exact⟨k _ _ (.inl rfl) e,ih q⟩
 |tbl pos qual =>obtain⟨ps,e,tr,hc⟩:=x;refine⟨ps,k a _ (.inl rfl) e,tr,fun v hv=>?_⟩;obtain⟨c,o,vs,t,e1,e2,e3⟩:=hc v hv;exact⟨c,o,vs,t,e1,hf _ _ _ e2,e3⟩
 |met f y =>have e:h.get? a=ak (IX (.ref f) (.ref y)):=x;show h'.get? a=ak (IX (.ref f) (.ref y));exact k a _ (.inl rfl) e
 |ext φ=>obtain⟨p,⟨o,e⟩,st⟩:=x;exact⟨st _ _ p fun o q=>k _ _ (.inl rfl) q,⟨o,k _ _ (.inl rfl) e⟩,st⟩
theorem HOk.lt(x:HOk P w H h)(e:H a=ak o):a<h.objs.size:=(x a o e).lt
theorem HOk.fresh(x:HOk P w H h)(e:h.objs.size<=a):H a=none:=by
 cases q:H a with
 |none=>rfl
 |some u=>exact af (AG (x.lt q) e) (Bm _)
theorem HOk.kept(x:HOk P w H h)(k:∀b u,h.get? b=ak u->h'.get? b=ak u):HOk P w H h':=fun a o e =>
 (x a o e).stay (fun b u _ q=>k b u q) (fun _ q=>q) (fun _ _ q=>q) fun _ _ _ q=>q
theorem HOk.laid(x:HOk P w H h)(k:∀b u,h.get? b=ak u->h'.get? b=ak u)(hp:h.objs.size<=a)(new:Je P w (upd H a o) h' a o):HOk P w (upd H a o) h':=fun b u e=>by have hn:=x.fresh hp;by_cases hb:b=a;subst hb;rw[Zw]at e;cases e;exact new;rw[Zy hb]at e;exact(x b u e).stay (fun c v _ q=>k c v q) (fun c q=>by rw[Zy (Xe q hn)];exact q) (fun c xs q=>by rw[Zy (Xe q hn)];exact q) fun c ob u q=>by rw[Zy (Xe q hn)];exact q
variable{o:Obj}
def Rd(H:Hp)(a:Addr)(u:HO):Prop:=H a=ak u\/∃o,H a=ak (.frz o u)
theorem Rd.ok{u:HO}(r:Rd H a u)(x:HOk P w H h):Je P w H h a u:=by rcases r with r|⟨o,r⟩;exact x a u r;obtain⟨_,q⟩:=x a _ r;exact q
def Mut:Option HO->Prop
 |some (.lst _)=>True
 |some (.dK _)=>True
 |some (.dT _)=>True
 |some (.set _ _)=>True
 |some (.ins _ _ _)=>True
 |some (.ext _)=>True
 |_=>False
variable{e x:Addr}{o':HO}
theorem HOk.write(ok:HOk P w H h)(mu:Mut (H x))(he:e=x\/H e=ak (.own x))(k:∀b u,b≠e->h.get? b=ak u->h'.get? b=ak u)(heo:∃u,h'.get? e=ak u)(new:Je P w (upd H x o') h' x o'):HOk P w (upd H x o') h':=fun b u q=>by
 have nown:∀c y,H c=ak (.own y)->c≠x:=fun c y r z=>by subst z;rw[r]at mu;exact mu
 have ntup:∀c xs,H c=ak (.tup xs)->c≠x:=fun c xs r z=>by subst z;rw[r]at mu;exact mu
 have nfrz:∀c ob u,H c=ak (.frz ob u)->c≠x:=fun c ob u r z=>by subst z;rw[r]at mu;exact mu
 by_cases hb:b=x;subst hb;rw[Zw]at q;cases q;exact new;rw[Zy hb]at q;by_cases hbe:b=e;have q':H b=ak (.own x):=by rcases he with z|z;exact af (hbe.trans z) hb;rw[hbe];exact z
 rw[q]at q';cases q';obtain⟨v,hv⟩:=heo;exact⟨v,by rw[hbe];exact hv⟩;refine(ok b u q).stay (fun c v hc r=>k c v ?_ r) (fun c r=>by rw[Zy (nown c b r)];exact r) (fun c xs r=>by rw[Zy (ntup c xs r)];exact r) fun c ob u r=>by rw[Zy (nfrz c ob u r)];exact r
 rcases hc with rfl|hc;exact hbe;rintro rfl;rcases he with z|z;exact nown c b hc z;rw[hc]at z;cases z;exact hb rfl
structure Un(fs ex:List Addr)(H H':Hp)(h h':Bg):Prop where
 keep:∀b o,h.get? b=ak o->H b=ao->b∉fs->b∉ex->h'.get? b=ak o
 slot:∀b o,h.get? b=ak o->H b=ao->b∈fs->b∉ex->∃sl,h'.get? b=ak {o with slots:=sl}
 free:∀b o,h.get? b=ak o->H b=ao->b∉ex->H' b=ao
 there:∀b o,h.get? b=ak o->b∉ex->∃o',h'.get? b=ak o'
 tups:∀b xs,H b=ak (.tup xs)->H' b=ak (.tup xs)
 frzs:∀b o u,H b=ak (.frz o u)->H' b=ak (.frz o u)
 tbls:∀b p q,H b=ak (.tbl p q)->H' b=ak (.tbl p q)
variable{H1:Hp}{ex fs:List Addr}{h1:Bg}
theorem Un.any(u:Un fs ex H H1 h h1){ob:Obj}(q:h.get? b=ak ob)(n:H b=ao)(hx:b∉ex):∃sl,h1.get? b=ak {ob with slots:=sl}:=by by_cases hb:b∈fs;exact u.slot b ob q n hb hx;exact⟨ob.slots,u.keep b ob q n hb hx⟩
theorem Un.kept(k:∀b u,h.get? b=ak u->h'.get? b=ak u):Un fs ex H H h h':=⟨fun b ob q _ _ _=>k b ob q,fun b ob q _ _ _=>⟨ob.slots,k b ob q⟩,fun _ _ _ n _=>n,fun b ob q _=>⟨ob,k b ob q⟩,fun _ _ q=>q,fun _ _ _ q=>q,fun _ _ _ q=>q⟩
theorem Un.refl:Un fs ex H H h h:=Un.kept fun _ _ q=>q
variable{o:HO}
theorem Un.laid(k:∀b u,h.get? b=ak u->h'.get? b=ak u)(hp:h.objs.size<=a)(hn:H a=ao):Un fs ex H (upd H a o) h h' where
 keep:=fun b u q _ _ _=>k b u q
 slot:=fun b u q _ _ _=>⟨u.slots,k b u q⟩
 free:=fun b u q n _=>by rw[Zy (AY (AG (AI q) hp))];exact n
 there:=fun b u q _=>⟨u,k b u q⟩
 tups:=fun b xs q=>by rw[Zy (Xe q hn)];exact q
 frzs:=fun b u xs q=>by rw[Zy (Xe q hn)];exact q
 tbls:=fun b p n q=>by rw[Zy (Xe q hn)];exact q
theorem Un.write(mu:Mut (H x))(he:e=x\/H e=ak (.own x))(k:∀b u,b≠e->h.get? b=ak u->h'.get? b=ak u)(heo:∃u,h'.get? e=ak u):Un fs ex H (upd H x o) h h':=by
  have hx:∀b,H b=ao->b≠x:=fun b n z=>by subst z;rw[n]at mu;exact mu
  have hb:∀b,H b=ao->b≠e:=fun b n z=>by subst z;rcases he with r|r;exact hx b n r;rw[n]at r;cases r
  have hm:∀b u,H b=ak u->¬Mut (ak u)->b≠x:=fun b u q nm z=>by subst z;rw[q]at mu;exact nm mu
  refine ⟨fun b u q n _ _=>k b u (hb b n) q,fun b u q n _ _=>⟨u.slots,k b u (hb b n) q⟩,fun b u q n _=>by rw [Zy (hx b n)];exact n,fun b u q _=>?_,
    fun b xs q=>by rw [Zy (hm b _ q fun z=>z)];exact q,fun b u xs q=>by rw [Zy (hm b _ q fun z=>z)];exact q,fun b p n q=>by rw [Zy (hm b _ q fun z=>z)];exact q⟩
  by_cases hbe:b=e;subst hbe;exact heo;exact⟨u,k b u hbe q⟩
def trk(h:Bg)(H:Hp):List Addr:=(AX h.objs.size).filter fun a=>(H a).isSome
def Xem(h:Bg)(H:Hp):Bg:=Ei h (trk h H)
theorem Zyh(h:Bg)(H:Hp):(Xem h H).objs.size=h.objs.size:=PySem.W.hideAll_size _ _
variable{o:Obj}
theorem Xdr(e:h.get? b=ak o)(n:H b=ao):(Xem h H).get? b=ak o:=Hy _ e fun hm=>by have q:(H b).isSome=true:=(KU.mp hm).2;rw[n]at q;simp at q
theorem Xks(e:(Xem h H).get? b=ak o):h.get? b=ak o/\H b=none:=by
 have e':h.get? b=ak o:=PySem.W.of_hideAll (trk h H) e;refine⟨e',?_⟩;cases q:H b with
 |none=>rfl
 |some x =>have hm:b∈trk h H:=KU.mpr ⟨Bi.mpr (AI e'),by simp[q]⟩;have z:(Xem h H).get? b=none:=D2 (trk h H) hm;rw[z]at e;cases e
def Xqb(g h:Bg)(L:Addr):List (Addr×Obj):=(AX h.objs.size).filterMap fun a=>if a=L\/(g.get? a).isSome=aq then ao else (h.get? a).map fun o=>(a,o)
def rest(g h:Bg)(L d:Addr):List (Addr×Obj):=(Xqb g h L).filter fun p=>decide (p.1≠d)
variable{x:Str}
structure Mod(K:AN)(mg:Str->Option Value)(base:Bg):Prop where
 kin:K.In base
 glob:base.Ns An mg
 blt:∃mb,base.Ns DU mb/\∀x:Str,x≠"__name__"->mb x=C3 x
 nolimit:base.NoLimit
variable{A:Ba}{K:AN}{N:List Str}{mg:Str->Option Value}{outer:List Env}{prog:AR}
structure Cx where
 prog:AR
 w:Bk
 K:AN
 mg:Str->Option Value
 base:Bg
 A:Ba
 N:List Str
 s₀:Af
 H₀:Hp
 env:Env
 outer:List Env
 stack:List Env
 ex:List Addr
 fn:Str->Bool
 calm:Bool
 pn:List (Addr×Obj)
 xe:Value->Af->Prop
def frs(l:List Env):List Addr:=l.filterMap (·.frame)
protected abbrev Cx.fs(X:Cx):List Addr:=frs X.outer
def Vis(sc:Scope)(x:Str):Prop:=sc.names.lookup x=ak .local\/sc.names.lookup x=ak .cell\/sc.names.lookup x=ak .free
def Loc(sc:Scope)(x:Str):Prop:=sc.names.lookup x=ak .local\/sc.names.lookup x=ak .cell
def Look(env:Env)(h:Bg)(m:Str->Option Value)(x:Str)(u:Value):Prop:=
 (env.kindOf x=ak .local/\m x=ak u)\/((env.kindOf x=ak .cell\/env.kindOf x=ak .free)/\∃c,env.cells.lookup x=ak c/\h.IsCell c (ak u))
structure Cx.Ok(X:Cx):Prop where
 mod:Mod X.K X.mg X.base
 kind:X.env.scope.kind=.function
 glob:X.env.globals=An
 blt:X.env.builtins=DU
 above:X.s₀.heap.objs.size<=X.env.locals
 inj:∀x y c,X.env.cells.lookup x=ak c->X.env.cells.lookup y=ak c->x=y
 has:∀x,(X.env.kindOf x=ak .cell\/X.env.kindOf x=ak .free)->∃c,X.env.cells.lookup x=ak c
 cab:∀x c,X.fn x=aq->X.env.cells.lookup x=ak c->X.s₀.heap.objs.size<=c
 hd:X.calm=aq->X.A.handled=ao
 frames:X.A.frames=ak X.stack
 stk:X.stack=X.outer\/(X.stack=X.env::X.outer/\X.env.frame=ak X.env.locals)
 exf:∀b∈X.ex,b≠X.env.locals/\∀x c,X.env.cells.lookup x=ak c->c≠b
 bs:∀b o,X.base.get? b=ak o->X.s₀.heap.get? b=ak o/\X.H₀ b=ao
 bsz:X.base.objs.size<=X.s₀.heap.objs.size
 noex:∀b o,X.base.get? b=ak o->b∉X.ex
 exfs:∀b∈X.ex,b∉X.fs
 funs:X.s₀.heap.FunFrames X.base X.outer
 frf:∀b∈X.fs,X.H₀ b=ao
variable{m:Str}
structure Inv(X:Cx)(pins:List (Addr×Obj))(σ:List (Option V))(H:Hp)(s:Af):Prop where
 ok:X.Ok
 os:s.os=X.s₀.os
 bare:EH s.gens
 base:Un X.fs X.ex X.H₀ H X.s₀.heap s.heap
 loc:∃m,s.heap.Ns X.env.locals m/\∀(i:Nat) (x:Str) (v:V),X.N[i]?=ak x->σ[i]?=ak (ak v)->Vis X.env.scope x->∃u,RelV v u/\Look X.env s.heap m x u
 cell:∀x c,X.env.cells.lookup x=ak c->∃v,s.heap.IsCell c v
 free:H X.env.locals=ao
 freeC:∀x c,X.env.cells.lookup x=ak c->H c=ao
 pin:∀p∈X.pn++pins,s.heap.get? p.1=ak p.2/\H p.1=ao/\p.1≠X.env.locals/\p.1∉X.fs/\∀v,p.2.data≠.cell v
 hok:HOk X.prog X.w H s.heap
 len:σ.length=X.N.length
variable{X:Cx}
theorem Cx.Ok.nofr(ok:X.Ok)(e:X.base.get? b=ak o):b∉X.fs:=fun hb=>by have:=(ok.funs.mem hb).1;rw[e]at this;cases this
variable{pins:List (Addr×Obj)}{σ:List (Option V)}
theorem Inv.bs(I:Inv X pins σ H s):∀b o,X.base.get? b=ak o->s.heap.get? b=ak o/\H b=none:=fun b o e =>
 ⟨I.base.keep b o (I.ok.bs b o e).1 (I.ok.bs b o e).2 (I.ok.nofr e) (I.ok.noex b o e),I.base.free b o (I.ok.bs b o e).1 (I.ok.bs b o e).2 (I.ok.noex b o e)⟩
theorem Inv.bk(I:Inv X pins σ H s):∀b o,X.base.get? b=ak o->s.heap.get? b=ak o:=fun b o e=>(I.bs b o e).1
theorem Inv.mod(I:Inv X pins σ H s):Mod X.K X.mg X.base:=I.ok.mod
theorem Inv.kIn(I:Inv X pins σ H s):X.K.In s.heap:=I.ok.mod.kin.keeps I.bk
theorem Inv.nolimit(I:Inv X pins σ H s):s.heap.NoLimit:=I.ok.mod.nolimit.keeps I.bk
theorem Inv.lt(I:Inv X pins σ H s):X.env.locals<s.heap.objs.size:=let ⟨_,hn,_⟩:=I.loc;hn.lt
theorem Inv.sz(I:Inv X pins σ H s):X.s₀.heap.objs.size<=s.heap.objs.size:=AD I.ok.above (HX I.lt)
theorem Inv.nofs(I:Inv X pins σ H s)(h:s.heap.objs.size<=a):a∉X.fs:=fun hb=>by obtain⟨_,o,ho,_⟩:=I.ok.funs.mem hb;exact af (AG (AI ho) (AD I.sz h)) (Bm _)
theorem Inv.cne(I:Inv X pins σ H s):∀x c,X.env.cells.lookup x=ak c->c≠X.env.locals:=fun x c e z=>by obtain⟨v,o,ho,hd⟩:=I.cell x c e;obtain⟨m,⟨o',es,ep,ho',hd',_⟩,_⟩:=I.loc;rw[z,ho']at ho;cases ho;rw[hd']at hd;cases hd
theorem Inv.funs(I:Inv X pins σ H s):s.heap.FunFrames X.base X.outer:=by
 have all:∀(l:List Env),(∀b∈frs l,b∈X.fs)->X.s₀.heap.FunFrames X.base l->s.heap.FunFrames X.base l:=by
  intro l
  induction l with
  |nil=>intro _ _;trivial
  |cons env r ih =>intro hs hl;obtain⟨hk,⟨L,o,hf,hn,ho,hd⟩,hr⟩:=hl;have hL:L∈X.fs:=hs L (by unfold frs;rw[FJ,hf];exact Dc);obtain⟨sl,e⟩:=I.base.slot L o ho (I.ok.frf L hL) hL fun z=>I.ok.exfs L z hL;exact⟨hk,⟨L,_,hf,hn,e,hd⟩,ih (fun b hb=>hs b (by unfold frs;rw[FJ,hf];exact Cm _ hb)) hr⟩
 exact all X.outer (fun _ hb=>hb) I.ok.funs
theorem Inv.stack(I:Inv X pins σ H s):s.heap.FunFrames X.base X.stack:=by rcases I.ok.stk with e|⟨e,hf⟩;rw[e];exact I.funs;rw[e];obtain⟨m,hn,_⟩:=I.loc;refine .cons (by rw[I.ok.kind];decide) hf hn ?_ I.funs;exact Heap.get?_none_of_le (AD I.ok.bsz I.ok.above)
theorem Inv.stkSub(I:Inv X pins σ H s):∀b∈frs X.stack,b∈X.env.locals::X.fs:=fun b hb=>by rcases I.ok.stk with e|⟨e,hf⟩;rw[e]at hb;exact Cm _ hb;rw[e]at hb;unfold frs at hb;rw[FJ,hf]at hb;exact hb
theorem Inv.stkFree(I:Inv X pins σ H s):∀b∈frs X.stack,H b=none:=fun b hb=>by rcases Aj.mp (I.stkSub b hb) with e|hb;rw[e];exact I.free;obtain⟨_,o,ho,_⟩:=I.ok.funs.mem hb;exact I.base.free b o ho (I.ok.frf b hb) fun z=>I.ok.exfs b z hb
variable{ch:List Addr}{d':LA}{g':Array G8}{t':Nat}
theorem Inv.step(I:Inv X pins σ H s)(hch:∀b∈ch,(b∈X.ex\/X.s₀.heap.objs.size<=b)/\b≠X.env.locals/\(∀x c,X.env.cells.lookup x=ak c->c≠b)/\∀p∈X.pn++pins,p.1≠b)(keep:∀b o,b≠X.env.locals->b∉X.fs->b∉ch->s.heap.get? b=ak o->H b=ao->h'.get? b=ak o)(slot:∀b o,b≠X.env.locals->b∈X.fs->b∉ch->s.heap.get? b=ak o->H b=ao->∃sl,h'.get? b=ak {o with slots:=sl})(free:∀b o,b∉ch->s.heap.get? b=ak o->H b=ao->H' b=ao)(there:∀b o,b∉ch->s.heap.get? b=ak o->∃o',h'.get? b=ak o')(tups:∀b xs,H b=ak (.tup xs)->H' b=ak (.tup xs))(frzs:∀b o u,H b=ak (.frz o u)->H' b=ak (.frz o u))(tbls:∀b p n,H b=ak (.tbl p n)->H' b=ak (.tbl p n))(ns:∀m,s.heap.Ns X.env.locals m->h'.Ns X.env.locals m)(hok:HOk X.prog X.w H' h')(hg:EH g'):Inv X pins σ H' {s with heap:=h',gens:=g',drawn:=d',toks:=t'}:=by
 have neL:∀b o,X.s₀.heap.get? b=ak o->b≠X.env.locals:=fun b o e=>AY (AG (AI e) I.ok.above);have neC:∀b o,X.s₀.heap.get? b=ak o->b∉X.ex->b∉ch:=fun b o e hx hb=>by rcases(hch b hb).1 with z|z;exact hx z;exact af (AG (AI e) z) (Bm _)
 have cellK:∀x c,X.env.cells.lookup x=ak c->∀v,s.heap.IsCell c v->h'.IsCell c v:=fun x c e v ⟨o,ho,hd⟩=>by have nch:c∉ch:=fun z=>(hch c z).2.2.1 x c e rfl;by_cases hc:c∈X.fs;obtain⟨sl,q⟩:=slot c o (I.cne x c e) hc nch ho (I.freeC x c e);exact⟨_,q,hd⟩;exact⟨o,keep c o (I.cne x c e) hc nch ho (I.freeC x c e),hd⟩
 refine⟨I.ok,I.os,hg,⟨fun b o e n hb hx=>?_,fun b o e n hb hx=>?_,fun b o e n hx=>?_,fun b o e hx=>?_,fun b xs e=>tups b xs (I.base.tups b xs e),fun b o xs e=>frzs b o xs (I.base.frzs b o xs e),fun b p n e=>tbls b p n (I.base.tbls b p n e)⟩,?_,fun x c e=>?_,?_,fun x c e=>?_,fun p hp=>?_,hok,I.len⟩;exact keep b o (neL b o e) hb (neC b o e hx) (I.base.keep b o e n hb hx) (I.base.free b o e n hx);obtain⟨sl,e1⟩:=I.base.slot b o e n hb hx;obtain⟨sl',e2⟩:=slot b _ (neL b o e) hb (neC b o e hx) e1 (I.base.free b o e n hx);exact⟨sl',e2⟩;obtain⟨o',e1⟩:=I.base.there b o e hx;exact free b o' (neC b o e hx) e1 (I.base.free b o e n hx);obtain⟨o',e1⟩:=I.base.there b o e hx;exact there b o' (neC b o e hx) e1;obtain⟨m,hn,hl⟩:=I.loc;refine⟨m,ns m hn,fun i x v e1 e2 e3=>?_⟩;obtain⟨u,r,l⟩:=hl i x v e1 e2 e3;refine⟨u,r,?_⟩;rcases l with l|⟨k,c,e,z⟩;exact .inl l;exact .inr ⟨k,c,e,cellK x c e _ z⟩;obtain⟨v,z⟩:=I.cell x c e;exact⟨v,cellK x c e v z⟩;obtain⟨m,⟨o,_,_,ho,_⟩,_⟩:=I.loc;exact free _ o (fun z=>(hch _ z).2.1 rfl) ho I.free;obtain⟨v,o,ho,hd⟩:=I.cell x c e;exact free c o (fun z=>(hch c z).2.2.1 x c e rfl) ho (I.freeC x c e);obtain⟨e,n,ne,nf,d⟩:=I.pin p hp;have nch:p.1∉ch:=fun z=>(hch p.1 z).2.2.2 p hp rfl;exact⟨keep p.1 p.2 ne nf nch e n,free p.1 p.2 nch e n,ne,nf,d⟩
theorem Inv.un(I:Inv X pins σ H s)(u:Un X.fs [] H H' s.heap h')(hok:HOk X.prog X.w H' h'):Inv X pins σ H' {s with heap:=h',toks:=t'}:=by
  obtain ⟨m,⟨o,es,ep,ho,r⟩,_⟩:=id I.loc;obtain ⟨sl,hL⟩:=u.any ho I.free (by simp);exact I.step (g':=s.gens) (d':=s.drawn) (ch:=[]) (fun _ z=>nomatch z) (fun b o _ hb _ e n=>u.keep b o e n hb (by simp)) (fun b o _ hb _ e n=>u.slot b o e n hb (by simp)) (fun b o _ e n=>u.free b o e n (by simp)) (fun b o _ e=>u.there b o e (by simp)) u.tups u.frzs u.tbls (fun m' hm=>by
    obtain ⟨o',es',ep',ho',r'⟩:=hm;rw [ho] at ho';cases ho';exact ⟨_,es',ep',hL,r'⟩) hok I.bare
theorem Inv.call(I:Inv X pins σ H s)(u:Un (frs X.stack) ch H H' s.heap h')(hok:HOk X.prog X.w H' h')(hg:EH g')(hch:∀b∈ch,(b∈X.ex\/X.s₀.heap.objs.size<=b)/\b≠X.env.locals/\(∀x c,X.env.cells.lookup x=ak c->c≠b)/\∀p∈X.pn++pins,p.1≠b):Inv X pins σ H' {s with heap:=h',gens:=g',drawn:=d',toks:=t'}:=by
  obtain ⟨m,⟨o,es,ep,ho,r⟩,_⟩:=id I.loc;obtain ⟨sl,hL⟩:=u.any ho I.free fun z=>(hch _ z).2.1 rfl;exact I.step (ch:=ch) hch (fun b o hL hb hc e n=>u.keep b o e n (fun z=>(Aj.mp (I.stkSub b z)).elim hL hb) hc) (fun b o _ _ hc e n=>u.any e n hc) (fun b o hc e n=>u.free b o e n hc) (fun b o hc e=>u.there b o e hc) u.tups u.frzs u.tbls (fun m' hm=>by
    obtain ⟨o',es',ep',ho',r'⟩:=hm;rw [ho] at ho';cases ho';exact ⟨_,es',ep',hL,r'⟩) hok hg
variable{it:Addr}
theorem Inv.turned(I:Inv X pins σ H s)(k:∀b o,b≠it->s.heap.get? b=ak o->h'.get? b=ak o)(hn:H it=ao)(hL:it≠X.env.locals)(h1:it∈X.ex\/X.s₀.heap.objs.size<=it)(h2:∀x c,X.env.cells.lookup x=ak c->c≠it)(h3:∀p∈X.pn++pins,p.1≠it):Inv X pins σ H {s with heap:=h',toks:=t'}:=by
 have nit:∀b u,H b=ak u->b≠it:=fun b u e z=>by rw[z,hn]at e;cases e
 refine I.step (g':=s.gens) (d':=s.drawn) (ch:=[it]) (fun b hb=>?_) (fun b o _ _ hc e _=>k b o (fun z=>hc (by simp[z])) e) (fun b o _ _ hc e _=>⟨o.slots,k b o (fun z=>hc (by simp[z])) e⟩) (fun _ _ _ _ n=>n)
  (fun b o hc e=>⟨o,k b o (fun z=>hc (by simp[z])) e⟩) (fun _ _ e=>e) (fun _ _ _ e=>e) (fun _ _ _ e=>e) (fun m hm=>?_) (fun b u e=>?_) I.bare
 have e:b=it:=by simpa using hb
 subst e;exact⟨h1,hL,h2,h3⟩;obtain⟨o,es,ep,ho,r⟩:=hm;exact⟨o,es,ep,k _ o (Ne.symm hL) ho,r⟩;refine(I.hok b u e).stay (fun c v hc q=>k c v ?_ q) (fun _ q=>q) (fun _ _ q=>q) fun _ _ _ q=>q;rcases hc with z|z;rw[z];exact nit b u e;exact nit c _ z
theorem Inv.tok(I:Inv X pins σ H s)(t:Nat):Inv X pins σ H {s with toks:=t}:=I.un (h':=s.heap) (t':=t) Un.refl I.hok
theorem Inv.kept{t':Nat}(I:Inv X pins σ H s)(k:∀b u,s.heap.get? b=ak u->h'.get? b=ak u):Inv X pins σ H {s with heap:=h',toks:=t'}:=I.un (Un.kept k) (I.hok.kept k)
theorem Inv.laid{a:Addr}{o:HO}{t':Nat}(I:Inv X pins σ H s)(k:∀b u,s.heap.get? b=ak u->h'.get? b=ak u)(hp:s.heap.objs.size<=a)(new:Je X.prog X.w (upd H a o) h' a o):Inv X pins σ (upd H a o) {s with heap:=h',toks:=t'}:=I.un (Un.laid k hp (I.hok.fresh hp)) (I.hok.laid k hp new)
theorem Inv.write{x e:Addr}{o:HO}{t':Nat}(I:Inv X pins σ H s)(mu:Mut (H x))(he:e=x\/H e=ak (.own x))(k:∀b u,b≠e->s.heap.get? b=ak u->h'.get? b=ak u)(heo:∃u,h'.get? e=ak u)(new:Je X.prog X.w (upd H x o) h' x o):Inv X pins σ (upd H x o) {s with heap:=h',toks:=t'}:=I.un (Un.write mu he k heo) (I.hok.write mu he k heo new)
variable{pins':List (Addr×Obj)}
theorem Inv.pins_of(I:Inv X pins σ H s)(h:∀p∈pins',s.heap.get? p.1=ak p.2/\H p.1=ao/\p.1≠X.env.locals/\p.1∉X.fs/\∀v,p.2.data≠.cell v):Inv X pins' σ H s:=⟨I.ok,I.os,I.bare,I.base,I.loc,I.cell,I.free,I.freeC,fun p hp=>(Al.mp hp).elim (fun z=>I.pin p (Aq _ z)) (h p),I.hok,I.len⟩
theorem Zsy(hN:N.Nodup)(a:N[i]?=ak x)(b:N[j]?=ak x):i=j:=by obtain⟨h1,e1⟩:=Am.mp a;obtain⟨h2,e2⟩:=Am.mp b;exact(List.getElem_inj hN).mp (e1.trans e2.symm)
variable{E:Value->Af->Prop}{M:Model}{Q:Unit->Af->Prop}{s':Af}
theorem Zmd(I:Inv X pins σ H s)(hN:X.N.Nodup)(hi:X.N[i]?=ak x)(hx:Loc X.env.scope x)(r:RelV v u)(h:∀s',Inv X pins (σ.set i (ak v)) H s'->(∃a,BZ a s.heap s'.heap/\(a=X.env.locals\/X.env.cells.lookup x=ak a))->Q () s')(hf:autoParam (X.fn x=aq\/X.env.scope.names.lookup x=ak .local) aT0._auto_1):Ak M A (LD X.env x u) Q E s:=by
 obtain⟨m,hn,hl⟩:=id I.loc;have hcls:(X.env.scope.kind==.class||(X.env.scope.kind==.module&&X.env.locals != X.env.globals))=false:=by rw[I.ok.kind];rfl
 have hiσ:i<σ.length:=by rw[I.len];exact(Am.mp hi).1
 have cne:=I.cne;have tracked:∀{a:Addr} {h':Bg},(∃o,s.heap.get? a=ak o/\H a=ao)->BZ a s.heap h'->HOk X.prog X.w H h':=fun {a h'} ha hs b ob e=>by obtain⟨_,_,hfree⟩:=ha;refine(I.hok b ob e).stay (fun c w' hc q=>(hs.2 c ?_).trans q) (fun _ q=>q) (fun _ _ q=>q) fun _ _ _ q=>q;rintro rfl;rcases hc with rfl|hc;rw[hfree]at e;cases e;rw[hfree]at hc;cases hc
 rcases hx with hk|hk;refine wpAny_storeName_local hk hn (fun h' hn' hs=>?_) hcls;obtain⟨oL,_,_,hoL,_⟩:=id hn;refine h _ ⟨I.ok,I.os,I.bare,⟨fun b o e n hb hx=>?_,fun b o e n hb hx=>?_,I.base.free,fun b o e hx=>?_,I.base.tups,I.base.frzs,I.base.tbls⟩,⟨_,hn',fun j y v' e1 e2 e3=>?_⟩,fun y c e=>?_,I.free,I.freeC,fun p hp=>?_,tracked ⟨oL,hoL,I.free⟩ hs,by simpa using I.len⟩ ⟨_,hs,.inl rfl⟩;exact(hs.2 b (AY (AG (AI e) I.ok.above))).trans (I.base.keep b o e n hb hx);obtain⟨sl,e1⟩:=I.base.slot b o e n hb hx;exact⟨sl,(hs.2 b (AY (AG (AI e) I.ok.above))).trans e1⟩;obtain⟨o',e1⟩:=I.base.there b o e hx;exact⟨o',(hs.2 b (AY (AG (AI e) I.ok.above))).trans e1⟩;by_cases hj:j=i;subst hj;rw[hi]at e1;cases e1;rw[CG hiσ]at e2;cases e2;exact⟨u,r,.inl ⟨hk,by simp⟩⟩;rw[BV (Ne.symm hj)]at e2;obtain⟨u',r',q⟩:=hl j y v' e1 e2 e3;refine⟨u',r',?_⟩;rcases q with⟨k,e⟩|⟨k,c,e,z⟩;refine .inl ⟨k,?_⟩;have:y≠x:=fun e=>hj (Zsy hN e1 (e▸hi));simp[this,e];exact .inr ⟨k,c,e,z.sameBut hs (cne y c e)⟩;obtain⟨w',z⟩:=I.cell y c e;exact⟨w',z.sameBut hs (cne y c e)⟩;obtain⟨e,n,ne,nf,d⟩:=I.pin p hp;exact⟨(hs.2 p.1 ne).trans e,n,ne,nf,d⟩;have hfn:X.fn x=true:=by rcases hf with z|z;exact z;rw[z]at hk;cases hk
 obtain⟨c,hc⟩:=I.ok.has x (.inl hk);obtain⟨w',z⟩:=I.cell x c hc;refine wpAny_storeName_cell I.ok.kind hk hc z (fun h' hc' hs=>?_);obtain⟨oc,hoc,hocd⟩:=id z;refine h {s with heap:=h'} ⟨I.ok,I.os,I.bare,⟨fun b o e n hb hx=>?_,fun b o e n hb hx=>?_,I.base.free,fun b o e hx=>?_,I.base.tups,I.base.frzs,I.base.tbls⟩,⟨m,hn.sameBut hs (Ne.symm (cne x c hc)),fun j y v' e1 e2 e3=>?_⟩,fun y c' e=>?_,I.free,I.freeC,fun p hp=>?_,tracked ⟨oc,hoc,I.freeC x c hc⟩ hs,by simpa using I.len⟩ ⟨c,hs,.inr hc⟩;exact(hs.2 b (AY (AG (AI e) (I.ok.cab x c hfn hc)))).trans (I.base.keep b o e n hb hx);obtain⟨sl,e1⟩:=I.base.slot b o e n hb hx;exact⟨sl,(hs.2 b (AY (AG (AI e) (I.ok.cab x c hfn hc)))).trans e1⟩;obtain⟨o',e1⟩:=I.base.there b o e hx;exact⟨o',(hs.2 b (AY (AG (AI e) (I.ok.cab x c hfn hc)))).trans e1⟩;by_cases hj:j=i;subst hj;rw[hi]at e1;cases e1;rw[CG hiσ]at e2;cases e2;exact⟨u,r,.inr ⟨.inl hk,c,hc,hc'⟩⟩;rw[BV (Ne.symm hj)]at e2;obtain⟨u',r',q⟩:=hl j y v' e1 e2 e3;refine⟨u',r',?_⟩;rcases q with q|⟨k,c',e,z'⟩;exact .inl q;refine .inr ⟨k,c',e,z'.sameBut hs ?_⟩;rintro rfl;exact hj (Zsy hN e1 (I.ok.inj _ _ _ e hc▸hi));by_cases hcc:c'=c;subst hcc;exact⟨_,hc'⟩;obtain⟨w2,z2⟩:=I.cell y c' e;exact⟨w2,z2.sameBut hs hcc⟩;obtain⟨e,n,ne,nf,d⟩:=I.pin p hp;refine⟨(hs.2 p.1 ?_).trans e,n,ne,nf,d⟩;intro q;rw[q,hoc]at e;have q':oc=p.2:=AE e;exact d w' (by rw[<- q'];exact hocd)
theorem Zjv(I:Inv X pins σ H s)(hN:X.N.Nodup)(hi:X.N[i]?=ak x)(hx:Loc X.env.scope x)(r:RelV v u)(h:∀s',Inv X pins (σ.set i (ak v)) H s'->Q () s')(hf:autoParam (X.fn x=aq\/X.env.scope.names.lookup x=ak .local) aT0._auto_1):Ak M A (LD X.env x u) Q E s:=
 Zmd I hN hi hx r (fun s' I' _=>h s' I') hf
theorem Inv.call'(I:Inv X pins σ H s)(ho:s'.os=s.os)(u:Un (frs X.stack) ch H H' s.heap s'.heap)(hok:HOk X.prog X.w H' s'.heap)(hg:EH s'.gens)(hch:∀b∈ch,(b∈X.ex\/X.s₀.heap.objs.size<=b)/\b≠X.env.locals/\(∀x c,X.env.cells.lookup x=ak c->c≠b)/\∀p∈X.pn++pins,p.1≠b):Inv X pins σ H' s':=by
 obtain⟨h',g',d',t',o'⟩:=s';have e:o'=s.os:=ho;subst e;exact I.call (g':=g') (t':=t') (d':=d') u hok hg hch
abbrev XK:=Value->Option Addr->Hp->Prop
abbrev St:=List (Option V)
abbrev VK:=V->Hp->Prop
abbrev TE:=St->Hp->VK->Prop
abbrev TT:=St->Hp->(Bool->Hp->Prop)->Prop
abbrev TA:=St->Hp->(List V->Hp->Prop)->Prop
structure Ends where
 nx:St->Hp->Prop
 rt:VK
 bk:St->Hp->Prop:=fun _ _=>False
 ct:St->Hp->Prop:=fun _ _=>False
abbrev TS:=Ends->St->Hp->Prop
def EP(X:Cx)(pins:List (Addr×Obj))(σ:St)(Q:VK)(u:Value)(s':Af):Prop:=∃v H',Inv X pins σ H' s'/\RelV v u/\Q v H'
def TP(X:Cx)(pins:List (Addr×Obj))(σ:St)(Q:Bool->Hp->Prop)(b:Bool)(s':Af):Prop:=∃H',Inv X pins σ H' s'/\Q b H'
def AP(X:Cx)(pins:List (Addr×Obj))(σ:St)(Q:List V->Hp->Prop)(us:List Value)(s':Af):Prop:=∃vs H',Inv X pins σ H' s'/\Yl vs us/\Q vs H'
def SP(X:Cx)(pins:List (Addr×Obj))(D:Ends)(f:Flow)(s':Af):Prop:=
 match f with
 | .next=>∃σ' H',Inv X pins σ' H' s'/\D.nx σ' H'
 | .brk=>∃σ' H',Inv X pins σ' H' s'/\D.bk σ' H'
 | .cont=>∃σ' H',Inv X pins σ' H' s'/\D.ct σ' H'
 | .ret u=>∃v σ' H',Inv X pins σ' H' s'/\RelV v u/\D.rt v H'
variable{Q:Value->Af->Prop}{σ:St}
def PE(X:Cx)(e:Expr)(t:TE):Prop:=
 ∀(pins:List (Addr×Obj)) (s:Af) (σ:St) (H:Hp) (Q:VK),Inv X pins σ H s->t σ H Q->Ak (Aw X.prog X.w) X.A (A6 e X.env) (EP X pins σ Q) X.xe s
def PT(X:Cx)(e:Expr)(t:TT):Prop:=
 ∀(pins:List (Addr×Obj)) (s:Af) (σ:St) (H:Hp) (Q:Bool->Hp->Prop),Inv X pins σ H s->t σ H Q->Ak (Aw X.prog X.w) X.A (isTrue e X.env (A6 e X.env)) (TP X pins σ Q) X.xe s
def PW(X:Cx)(e:Expr)(t:TT):Prop:=
 ∀(whole:Sem Value) (pins:List (Addr×Obj)) (s:Af) (σ:St) (H:Hp) (Q:Bool->Hp->Prop),Inv X pins σ H s->t σ H Q->Ak (Aw X.prog X.w) X.A (isTrue e X.env whole) (TP X pins σ Q) X.xe s
variable{e:Expr}
theorem PW.pt{t:TT}(h:PW X e t):PT X e t:=h _
def PA(X:Cx)(es:List Expr)(t:TA):Prop:=
 ∀(pos:Pos) (pins:List (Addr×Obj)) (s:Af) (σ:St) (H:Hp) (Q:List V->Hp->Prop),Inv X pins σ H s->t σ H Q->Ak (Aw X.prog X.w) X.A (spliced (BL pos (Ad es X.env))) (AP X pins σ Q) X.xe s
def PS(X:Cx)(st:Stmt)(t:TS):Prop:=
 ∀(pins:List (Addr×Obj)) (s:Af) (σ:St) (H:Hp) (D:Ends),Inv X pins σ H s->t D σ H->Ak (Aw X.prog X.w) X.A (exec st X.env) (SP X pins D) X.xe s
def PSs(X:Cx)(st:List Stmt)(t:TS):Prop:=
 ∀(pins:List (Addr×Obj)) (s:Af) (σ:St) (H:Hp) (D:Ends),Inv X pins σ H s->t D σ H->Ak (Aw X.prog X.w) X.A (execs st X.env) (SP X pins D) X.xe s
variable{α:Type}
theorem thn{t:Sem α}{Q Q':α->Af->Prop}(h:Ak M A t Q E s)(hQ:∀a s,Q a s->Q' a s):Ak M A t Q' E s:=BF h hQ fun _ _ x=>x
variable{ta tb:TE}
section
def Zil(i:Nat):TE:=fun σ H Q=>∃v,σ[i]?=ak (ak v)/\Q v H
def tC(v:V):TE:=fun _ H Q=>Q v H
theorem Xwq(hN:X.N[i]?=ak x)(hv:Vis X.env.scope x)(hd:(x==("__debug__":Str))=false:=by decide)(hcd:(x==("__classdict__":Str))=false:=by decide):PE X (.Name x pos) (Zil i):=by intro pins s σ H Q I h;obtain⟨v,e,h⟩:=h;obtain⟨m,hn,hl⟩:=I.loc;obtain⟨u,r,l⟩:=hl i x v hN e hv;have fin:EP X pins σ Q u s:=⟨v,H,I,r,h⟩;rcases l with⟨hk,hm⟩|⟨hk,c,hc,hcell⟩;exact K9 (KG I.ok.kind hk hn hm fin) hd;rcases hk with hk|hk;exact K9 (KY I.ok.kind hk hc hcell fin) hd;exact K9 (wpAny_loadName_free I.ok.kind hk hc hcell fin hcd) hd
theorem Xsf{i j pos}:PE X (.Constant (.int i) j pos) (tC (.int i)):=fun _ _ _ H _ I h=>wpAny_Constant_int ⟨.int i,H,I.tok _,⟨_,rfl⟩,h⟩
theorem pe_bl{b j pos}:PE X (.Constant (.bool b) j pos) (tC (.bl b)):=fun _ _ _ H _ I h=>Constant_bool ⟨.bl b,H,I,rfl,h⟩
theorem Xxs{x j pos}:PE X (.Constant (.str x) j pos) (tC (.str x)):=fun _ _ _ H _ I h=>Calls.Constant_str ⟨.str x,H,I.tok _,⟨_,rfl⟩,h⟩
def Gl(X:Cx)(x:Str):Prop:=X.env.kindOf x=ak .globalImplicit
theorem Zju(I:Inv X pins σ H s)(hg:Gl X x)(hm:X.mg x=ak u)(h:Q u s)
  (hd:(x==("__debug__":Str))=false:=by decide):Ak (Aw X.prog X.w) X.A (A6 (.Name x pos) X.env) Q E s:=
 He I.ok.kind hg (Calls.loadGlobal_global (by rw[I.ok.glob];exact I.mod.glob.keeps I.bk) hm h) hd
theorem Zdh(I:Inv X pins σ H s)(hg:Gl X x)(hm:X.mg x=ao)(hv:C3 x=ak u)(h:Q u s)
  (hn:x≠"__name__":=by decide) (hd:(x==("__debug__":Str))=false:=by decide):Ak (Aw X.prog X.w) X.A (A6 (.Name x pos) X.env) Q E s:=by
 obtain⟨mb,h1,h2⟩:=I.mod.blt;exact He I.ok.kind hg (Calls.loadGlobal_builtin (by rw[I.ok.glob];exact I.mod.glob.keeps I.bk) hm (by rw[I.ok.blt];exact h1.keeps I.bk) ((h2 x hn).trans hv) h) hd
theorem Xkr(hg:Gl X x)(hm:X.mg x=ak u)(r:RelV v u)(hd:(x==("__debug__":Str))=false:=by decide):PE X (.Name x pos) (tC v):=fun _ _ _ H _ I h=>Zju I hg hm ⟨v,H,I,r,h⟩ hd
variable{a b:Expr}
def tB(t:TE):TT:=fun σ H Q=>t σ H fun x H1=>∃c,x=.bl c/\Q c H1
theorem Xtm{t:TE}(h:PE X e t)(he:∀whole,isTrue e X.env whole=(do let v <- whole;E4 e.pos;B6 [v] (HS v)):=by intro _;rfl):PT X e (tB t):=by intro pins s σ H Q I hw;refine isTrue_plain (thn (h pins s σ H _ I hw) fun v s1 hz9=>?_) (he _);obtain⟨x,H1,I1,r1,q1⟩:=hz9;obtain⟨d,rfl,q⟩:=q1;cases r1;exact CD ⟨H1,I1,q⟩
variable{tA tB':TT}{rest:List Expr}
def tAnd(t u:TT):TT:=fun σ H Q=>t σ H fun c H1=>if c=aq then u σ H1 Q else Q ar H1
def tOr(t u:TT):TT:=fun σ H Q=>t σ H fun c H1=>if c=aq then Q aq H1 else u σ H1 Q
theorem Xok(ha:PT X a tA):PW X (.BoolOp .And [a] pos) tA:=by
 intro wh pins s σ H Q I h;refine isTrue_and (thn (ha pins s σ H Q I h) fun c s1 e=>?_);cases c with
 |true=>exact isTrue_and_nil e
 |false=>exact e
theorem Xup(ha:PT X a tA):PW X (.BoolOp .Or [a] pos) tA:=by
 intro wh pins s σ H Q I h;refine isTrue_or (thn (ha pins s σ H Q I h) fun c s1 e=>?_);cases c with
 |false=>exact isTrue_or_nil e
 |true=>exact e
theorem Xsn(ha:PT X a tA)(hb:PW X (.BoolOp .And (b::rest) pos) tB'):PW X (.BoolOp .And (a::b::rest) pos) (tAnd tA tB'):=by
 intro wh pins s σ H Q I h;refine isTrue_and (thn (ha pins s σ H _ I h) fun c s1 ⟨H1,I1,q1⟩=>?_);cases c with
 |true=>exact hb wh pins s1 σ H1 Q I1 q1
 |false=>exact⟨H1,I1,q1⟩
theorem pw_or(ha:PT X a tA)(hb:PW X (.BoolOp .Or (b::rest) pos) tB'):PW X (.BoolOp .Or (a::b::rest) pos) (tOr tA tB'):=by
 intro wh pins s σ H Q I h;refine isTrue_or (thn (ha pins s σ H _ I h) fun c s1 ⟨H1,I1,q1⟩=>?_);cases c with
 |true=>exact⟨H1,I1,q1⟩
 |false=>exact hb wh pins s1 σ H1 Q I1 q1
def tIf(t:TT)(ta tb:TE):TE:=fun σ H Q=>t σ H fun c H1=>if c=aq then ta σ H1 Q else tb σ H1 Q
theorem Xge(hc:PT X c tA)(ha:PE X a ta)(hb:PE X b tb):PE X (.IfExp c a b pos) (tIf tA ta tb):=by
 intro pins s σ H Q I h;refine wpAny_IfExp (thn (hc pins s σ H _ I h) fun d s1 ⟨H1,I1,q1⟩=>?_);cases d with
 |true=>exact ha pins s1 σ H1 Q I1 q1
 |false=>exact hb pins s1 σ H1 Q I1 q1
end
def SqL(K:AN)(H:Hp)(a:Addr)(xs:List V):Prop:=
 Rd H a (.lst xs)\/
  ∃(o:Obj) (its:Array Value) (n:Nat),K.lookup a=ak o/\o.cls=.type "list"/\o.dict=ao/\o.data=.seq its n/\its.size<=Ar/\Yl xs its.toList
def SqT(K:AN)(H:Hp)(a:Addr)(xs:List V):Prop:=
 Rd H a (.tup xs)\/
  ∃(o:Obj) (its:Array Value) (n:Nat),K.lookup a=ak o/\o.cls=.type "tuple"/\o.data=.seq its n/\its.size<=Ar/\Yl xs its.toList
def absV:Value->Option V
 | .none=>ak .non
 | .bool b=>ak (.bl b)
 | .int i _=>ak (.int i)
 | .str x _=>ak (.str x)
 | .bytes b _=>ak (.byt b)
 | .float b _=>ak (.flt b)
 | .ref a=>ak (.ref a)
 | .type n=>ak (.ty n)
 |_=>ao
theorem RelV.abs{x:V}(r:RelV x u):absV u=ak x:=by
 cases x with
 |non=>cases r;rfl
 |bl _=>cases r;rfl
 |int _=>obtain⟨t,rfl⟩:=r;rfl
 |str _=>obtain⟨t,rfl⟩:=r;rfl
 |byt _=>obtain⟨t,rfl⟩:=r;rfl
 |flt _=>obtain⟨t,rfl⟩:=r;rfl
 |ref _=>cases r;rfl
 |ty _=>cases r;rfl
theorem RelV.inj{x y:V}(r:RelV x u)(q:RelV y u):x=y:=AE (r.abs.symm.trans q.abs)
theorem Yl.inj:∀{xs ys:List V} {us:List Value},Yl xs us->Yl ys us->xs=ys
 |_,_,_,.nil,.nil=>rfl
 |_,_,_,.cons r t,.cons r' t'=>by rw[r.inj r',Yl.inj t t']
theorem SqL.of(h:H a=ak (.lst xs)):SqL K H a xs:=.inl (.inl h)
theorem SqT.of(h:H a=ak (.tup xs)):SqT K H a xs:=.inl (.inl h)
theorem Inv.list(I:Inv X pins σ H s)(h:SqL X.K H a xs):∃its:List Value,Yl xs its/\PlainL s.heap a its.toArray/\xs.length<=Ar:=by rcases h with h|⟨o,its,n,hk,hc,hd,hs,hz,r⟩;obtain⟨z,its,n,r,e⟩:=h.ok I.hok;exact⟨its,r,⟨_,n,e,rfl,rfl,rfl⟩,z⟩;refine⟨its.toList,r,⟨o,n,I.kIn a o hk,hc,hd,by simpa using hs⟩,?_⟩;have e:=r.length;simp only[BM]at e;omega
theorem Inv.tuple(I:Inv X pins σ H s)(h:SqT X.K H a xs):∃its:List Value,Yl xs its/\JR s.heap a its.toArray/\xs.length<=Ar:=by rcases h with h|⟨o,its,n,hk,hc,hs,hz,r⟩;obtain⟨z,its,r,p⟩:=h.ok I.hok;exact⟨its,r,p,z⟩;refine⟨its.toList,r,⟨o,I.kIn a o hk,hc,n,by simpa using hs⟩,?_⟩;have e:=r.length;simp only[BM]at e;omega
variable{ys:List V}
theorem Inv.list_inj(I:Inv X pins σ H s)(h:SqL X.K H a xs)(h':SqL X.K H a ys):xs=ys:=by
 obtain⟨its,r,⟨o,n,e,_,_,d⟩,_⟩:=I.list h;obtain⟨its',r',⟨o',n',e',_,_,d'⟩,_⟩:=I.list h';rw[e]at e';cases e';rw[d]at d';injection d' with d1 _;have:its=its':=by simpa using ah Lp d1
 subst this;exact r.inj r'
theorem Inv.tuple_inj(I:Inv X pins σ H s)(h:SqT X.K H a xs)(h':SqT X.K H a ys):xs=ys:=by
 obtain⟨its,r,⟨o,e,_,n,d⟩,_⟩:=I.tuple h;obtain⟨its',r',⟨o',e',_,n',d'⟩,_⟩:=I.tuple h';rw[e]at e';cases e';rw[d]at d';injection d' with d1 _;have:its=its':=by simpa using ah Lp d1
 subst this;exact r.inj r'
abbrev Cx.wish(X:Cx)(E:Value->Af->Prop):Cx:={X with xe:=E}
abbrev Cx.nox(X:Cx):Cx:=X.wish fun _ _=>False
theorem Cx.Ok.wish{X:Cx}(ok:X.Ok)(E:Value->Af->Prop):(X.wish E).Ok:=⟨ok.mod,ok.kind,ok.glob,ok.blt,ok.above,ok.inj,ok.has,ok.cab,ok.hd,ok.frames,ok.stk,ok.exf,ok.bs,ok.bsz,ok.noex,ok.exfs,ok.funs,ok.frf⟩
theorem Cx.Ok.unwish(ok:(X.wish E).Ok):X.Ok:=⟨ok.mod,ok.kind,ok.glob,ok.blt,ok.above,ok.inj,ok.has,ok.cab,ok.hd,ok.frames,ok.stk,ok.exf,ok.bs,ok.bsz,ok.noex,ok.exfs,ok.funs,ok.frf⟩
theorem Inv.wish(I:Inv X pins σ H s)(E:Value->Af->Prop):Inv (X.wish E) pins σ H s:=⟨I.ok.wish E,I.os,I.bare,I.base,I.loc,I.cell,I.free,I.freeC,I.pin,I.hok,I.len⟩
theorem Inv.unwish(I:Inv (X.wish E) pins σ H s):Inv X pins σ H s:=⟨I.ok.unwish,I.os,I.bare,I.base,I.loc,I.cell,I.free,I.freeC,I.pin,I.hok,I.len⟩
theorem SP.unwish{D:Ends}{f:Flow}{s':Af}(h:SP (X.wish E) pins D f s'):SP X pins D f s':=by
 cases f with
 |next=>obtain⟨σ',H',I,q⟩:=h;exact⟨σ',H',I.unwish,q⟩
 |brk=>obtain⟨σ',H',I,q⟩:=h;exact⟨σ',H',I.unwish,q⟩
 |cont=>obtain⟨σ',H',I,q⟩:=h;exact⟨σ',H',I.unwish,q⟩
 |ret u=>obtain⟨v,σ',H',I,r,q⟩:=h;exact⟨v,σ',H',I.unwish,r,q⟩
theorem PSs.nox{st:List Stmt}{t:TS}(h:PSs X.nox st t):PSs X st t:=fun pins s σ H D I hw =>
 BF (h pins s σ H D (I.wish _) hw) (fun _ _ q=>q.unwish) fun _ _ z=>False.elim z
variable{st:Stmt}{tc te:TE}
section
variable{rest:List Stmt}{t u:TS}
def Ztp:TS:=fun D σ H=>D.nx σ H
def Xrj(t u:TS):TS:=fun D σ H=>t {D with nx:=u D} σ H
theorem Xpm:PSs X [] Ztp:=fun _ _ σ H _ I h=>FF ⟨σ,H,I,h⟩
theorem Xcw(h1:PS X st t)(h2:PSs X rest u):PSs X (st::rest) (Xrj t u):=by
 intro pins s σ H D I h;refine LC (thn (h1 pins s σ H {D with nx:=u D} I h) fun f s1 q=>?_);cases f with
 |next =>obtain⟨σ',H',I',q⟩:=q;exact h2 pins s1 σ' H' D I' q
 |ret v=>exact q
 |brk=>exact q
 |cont=>exact q
theorem Xop(h1:PS X st t):PSs X [st] t:=by
 intro pins s σ H D I h;refine LC (thn (h1 pins s σ H D I h) fun f s1 q=>?_);cases f with
 |next=>exact FF q
 |ret v=>exact q
 |brk=>exact q
 |cont=>exact q
def Xmx:TS:=fun D σ H=>D.ct σ H
theorem Zps:PS X (.Continue pos) Xmx:=fun _ _ σ H _ I h=>wpAny_Continue ⟨σ,H,I,h⟩
theorem Inv.quiet(I:Inv X pins σ H s):interactive X.env=false:=by simp[interactive,I.ok.kind]
def Ziq(te:TE):TS:=fun D σ H=>te σ H fun _ H1=>D.nx σ H1
theorem Xnk(he:PE X e te)(hs:Cq e ao pos.line X.env=pure false:=by rfl):PS X (.Expr e pos) (Ziq te):=by intro pins s σ H D I h;exact wpAny_Expr_any (thn (he pins s σ H _ I h) fun v s1 ⟨x,H1,I1,r1,q1⟩=>⟨σ,H1,I1,q1⟩) I.quiet hs
def Xrl(te:TE):TS:=fun D σ H=>te σ H D.rt
theorem Xsb(he:PE X e te):PS X (.Return (ak e) pos) (Xrl te):=by intro pins s σ H D I h;exact wpAny_Return_some (thn (he pins s σ H _ I h) fun v s1 ⟨x,H1,I1,r1,q1⟩=>⟨x,σ,H1,I1,r1,q1⟩)
def Xrg(c:TT)(t u:TS):TS:=fun D σ H=>c σ H fun b H1=>if b=aq then t D σ H1 else u D σ H1
theorem ps_if{a b:List Stmt}{tc:TT}(hc:PT X c tc)(ha:PSs X a t)(hb:PSs X b u):PS X (.If c a b pos) (Xrg tc t u):=by
 intro pins s σ H D I h;refine wpAny_If (thn (hc pins s σ H _ I h) fun d s1 ⟨H1,I1,q1⟩=>?_);cases d with
 |true=>exact ha pins s1 σ H1 D I1 q1
 |false=>exact hb pins s1 σ H1 D I1 q1
def Zsd:TS:=fun _ _ _=>False
theorem Xhy:PS X st Zsd:=fun _ _ _ _ _ _ h=>h.elim
end
abbrev TG:=V->St->Hp->(St->Hp->Prop)->Prop
abbrev TGs:=List V->St->Hp->(St->Hp->Prop)->Prop
def PG(X:Cx)(target:Expr)(t:TG):Prop:=
 ∀(pins:List (Addr×Obj)) (s:Af) (σ:St) (H:Hp) (v:V) (u:Value) (Q:St->Hp->Prop),Inv X pins σ H s->RelV v u->t v σ H Q->
  Ak (Aw X.prog X.w) X.A (CL target X.env u) (fun _ s'=>∃σ' H',Inv X pins σ' H' s'/\Q σ' H') X.xe s
def PGs(X:Cx)(ts:List Expr)(t:TGs):Prop:=
 ∀(pins:List (Addr×Obj)) (s:Af) (σ:St) (H:Hp) (vs:List V) (us:List Value) (Q:St->Hp->Prop),Inv X pins σ H s->Yl vs us->t vs σ H Q->
  Ak (Aw X.prog X.w) X.A (assignInOrder ((AW ts X.env).map (·.2)) us) (fun _ s'=>∃σ' H',Inv X pins σ' H' s'/\Q σ' H') X.xe s
abbrev TSet:=V->V->V->Hp->(Hp->Prop)->Prop
def PSet(X:Cx)(t:TSet):Prop:=
 ∀(pins:List (Addr×Obj)) (s:Af) (σ:St) (H:Hp) (o i v:V) (ov iv u:Value) (Q:Hp->Prop),Inv X pins σ H s->RelV o ov->RelV i iv->RelV v u->t o i v H Q->
  Ak (Aw X.prog X.w) X.A (G1 ov iv u) (fun _ s'=>∃H',Inv X pins σ H' s'/\Q H') X.xe s
abbrev TIp:=V->V->Hp->VK->Prop
def PIp(X:Cx)(op:Ij)(t:TIp):Prop:=
 ∀(pins:List (Addr×Obj)) (s:Af) (σ:St) (H:Hp) (x y:V) (v u:Value) (Q:VK),Inv X pins σ H s->RelV x v->RelV y u->t x y H Q->
  Ak (Aw X.prog X.w) X.A (inplaceOp op v u) (EP X pins σ Q) X.xe s
def Zam(i:Nat):TG:=fun v σ H Q=>Q (σ.set i (ak v)) H
theorem Xnh(hN:X.N.Nodup)(hi:X.N[i]?=ak x)(hx:Loc X.env.scope x)(hf:autoParam (X.fn x=aq\/X.env.scope.names.lookup x=ak .local) aT0._auto_1):PG X (.Name x pos) (Zam i):=by intro pins s σ H v u Q I r h;exact Lr (Zjv I hN hi hx r (fun s' I'=>⟨_,H,I',h⟩) hf)
def Xcq:TGs:=fun vs σ H Q=>vs=[]/\Q σ H
def Zio(t:TG)(u:TGs):TGs:=fun vs σ H Q=>∃v r,vs=v::r/\t v σ H fun σ' H'=>u r σ' H' Q
theorem Xql:PGs X [] Xcq:=by intro pins s σ H vs us Q I r h;obtain⟨e,h⟩:=h;subst e;cases r;exact assignInOrder_nil ⟨σ,H,I,h⟩
theorem Xdp{t:TG}{u:TGs}(h1:PG X e t)(h2:PGs X es u)
  (hs:(AW (e::es) X.env).map (·.2)=CL e X.env::(AW es X.env).map (·.2):=by rfl):PGs X (e::es) (Zio t u):=by
 intro pins s σ H vs us Q I r h;obtain⟨v,vr,e1,h⟩:=h;subst e1;cases r with
 |cons r rr =>rw[hs];refine assignInOrder_cons (thn (h1 pins s σ H _ _ _ I r h) fun _ s1 hz9=>?_);obtain⟨σ1,H1,I1,q1⟩:=hz9;exact h2 pins s1 σ1 H1 _ _ Q I1 rr q1
def Zfg(K:AN)(n:Nat)(t:TGs):TG:=fun v σ H Q=>∃a xs,v=.ref a/\SqT K H a xs/\xs.length=n/\t xs σ H Q
theorem Xvd{k:Nat}{t:TGs}(hc:X.calm=aq)(h:PGs X es t)
  (hn:(AW es X.env).length=n:=by rfl) (hst:(AW es X.env).findIdx? (·.1)=none:=by rfl):PG X (.Tuple es k pos) (Zfg X.K n t):=by
 intro pins s σ H v u Q I r hw;obtain⟨a,xs,e1,hq,hl,hw⟩:=hw;subst e1;cases r;obtain⟨its,rv,ht,hz⟩:=I.tuple hq;refine assign_Tuple_tuple (I.ok.hd hc) ht (by simp[hn,<- hl,rv.length]) hst fun h' hx=>?_;have I1:Inv X pins σ H {s with heap:=h'}:=I.kept (t':=s.toks) fun b o e=>hx b o (AY (AI e)) e;exact h pins _ σ H xs _ Q I1 (by simpa using rv) hw
def Zia(to ti:TE)(t:TSet):TG:=fun v σ H Q=>to σ H fun o H1=>ti σ H1 fun i H2=>t o i v H2 fun H3=>Q σ H3
theorem Xwa{o i:Expr}{to ti:TE}{t:TSet}(ho:PE X o to)(hi:PE X i ti)(hs:PSet X t)
    (ha:∀v,CL (.Subscript o i pos) X.env v=(do
      let ov <- B6 [v] (A6 o X.env)
      let iv <- B6 [v,ov] (A6 i X.env)
      E4 pos
      B6 [v,ov,iv] (G1 ov iv v)
      J9 [v,ov,iv] []):=by intro _;rfl):PG X (.Subscript o i pos) (Zia to ti t):=by
  intro pins s σ H v u Q I r h;rw[ha];refine Aa (Bp (thn (ho pins s σ H _ I h) fun ov s1 hz9=>?_));obtain⟨x,H1,I1,r1,q1⟩:=hz9;refine Aa (Bp (thn (hi pins s1 σ H1 _ I1 q1) fun iv s2 hz9=>?_));obtain⟨y,H2,I2,r2,q2⟩:=hz9;refine Aa (GD (Aa (Bp (thn (hs pins s2 σ H2 x y v ov iv u _ I2 r1 r2 r q2) fun _ s3 ⟨H3,I3,q3⟩=>?_))));exact wpAny_release ⟨σ,H3,I3,q3⟩
def Zin(te:TE)(g:TG):TS:=fun D σ H=>te σ H fun x H1=>g x σ H1 D.nx
variable{tg:Expr}
theorem Xya{g:TG}(he:PE X e te)(hg:PG X tg g)(hs:Ef [tg] e pos.line X.env=pure false:=by rfl)(hw:Eg [tg] e X.env=pure none:=by rfl)
  (h1:(AW [tg] X.env).map (·.2)=[CL tg X.env]:=by rfl):PS X (.Assign [tg] e pos) (Zin te g):=by
 intro pins s σ H D I h;refine wpAny_Assign_stores (thn (he pins s σ H _ I h) fun v s1 hz9=>?_) hs hw;obtain⟨x,H1,I1,r1,q1⟩:=hz9;rw[h1];exact thn (hg pins s1 σ H1 x v _ I1 r1 q1) fun _ s2 q=>q
variable{pos':Pos}
theorem Xuw(hN:X.N.Nodup)(hi:X.N[i]?=ak x)(hx:Loc X.env.scope x)(he:PE X e te)(hs:Cq e (ak (.Name x pos')) pos.line X.env=pure false:=by rfl)(hf:autoParam (X.fn x=aq\/X.env.scope.names.lookup x=ak .local) aT0._auto_1) :
  PS X (.Assign [.Name x pos'] e pos) (Zin te (Zam i)):=by
 intro pins s σ H D I h;refine wpAny_Assign_Name (thn (he pins s σ H _ I h) fun v s1 hz9=>?_) hs;obtain⟨y,H1,I1,r1,q1⟩:=hz9;exact Zjv I1 hN hi hx r1 (fun s2 I2=>⟨_,H1,I2,q1⟩) hf
def tAug(i:Nat)(te:TE)(ti:TIp):TS:=fun D σ H=>∃x,σ[i]?=ak (ak x)/\te σ H fun y H1=>ti x y H1 fun z H2=>D.nx (σ.set i (ak z)) H2
variable{op:Ij}{ti:TIp}
theorem Xvn(hN:X.N.Nodup)(hi:X.N[i]?=ak x)(hx:Loc X.env.scope x)(he:PE X e te)(ho:PIp X op ti)(hf:autoParam (X.fn x=aq\/X.env.scope.names.lookup x=ak .local) aT0._auto_1):PS X (.AugAssign (.Name x pos') op e pos) (tAug i te ti):=by
 intro pins s σ H D I h;obtain⟨v,e1,h⟩:=h;obtain⟨m,hn,hl⟩:=I.loc;have vis:Vis X.env.scope x:=by rcases hx with k|k;exact .inl k;exact .inr (.inl k)
 obtain⟨u,r,l⟩:=hl i x v hi e1 vis;refine wpAny_AugAssign_Name ?_;have go:Ak (Aw X.prog X.w) X.A (A6 e X.env) (fun w s₂=>Ak (Aw X.prog X.w) X.A (inplaceOp op u w) (fun r s₃=>Ak (Aw X.prog X.w) X.A (LD X.env x r) (fun _=>SP X pins D .next) X.xe s₃) X.xe s₂) X.xe s:=by refine thn (he pins s σ H _ I h) fun w s1 hz9=>?_;obtain⟨y,H1,I1,r1,q1⟩:=hz9;refine thn (ho pins s1 σ H1 v y u w _ I1 r r1 q1) fun z s2 hz9=>?_;obtain⟨zv,H2,I2,r2,q2⟩:=hz9;exact Zjv I2 hN hi hx r2 (fun s3 I3=>⟨_,H2,I3,q2⟩) hf
 rcases l with⟨hk,hm⟩|⟨hk,c,hc,hcell⟩;exact KG I.ok.kind hk hn hm go;rcases hk with hk|hk;exact KY I.ok.kind hk hc hcell go;rcases hx with k|k;have:X.env.scope.names.lookup x=ak .free:=hk;rw[k]at this;cases this;have:X.env.scope.names.lookup x=ak .free:=hk;rw[k]at this;cases this
structure It where
 go:Nat->Hp->Prop
 yld:Nat->Hp->V->Hp->Prop
 stop:Nat->Hp->Prop
def Zoa(X:Cx)(pins:List (Addr×Obj))(H:Hp)(b:Addr):Prop:=
 H b=ao/\b≠X.env.locals/\b∉X.fs/\(b∈X.ex\/X.s₀.heap.objs.size<=b)/\(∀x c,X.env.cells.lookup x=ak c->c≠b)/\∀p∈X.pn++pins,p.1≠b
theorem Inv.fpOk(I:Inv X pins σ H s)(hb:s.heap.objs.size<=b)(hn:H' b=ao):Zoa X pins H' b:=by refine⟨hn,ES (AG I.lt hb),I.nofs hb,.inr (AD I.sz hb),fun x c e z=>?_,fun p hp z=>?_⟩;obtain⟨v,q⟩:=I.cell x c e;exact af (AG q.lt (by rw[z];exact hb)) (Bm _);exact af (AG (AI (I.pin p hp).1) (by rw[z];exact hb)) (Bm _)
structure Turn(P:AR)(w:Bk)(K:AN)(tg:Expr)(J:It)(fp:List Addr)(it:Addr)(tn:Nat->Bg->Prop):Prop where
  mem:it∈fp
  obj:∀i h,tn i h->∀b∈fp,∃o,h.get? b=ak o/\∀v,o.data≠.cell v
  keep:∀i h h',tn i h->(∀b∈fp,∀o,h.get? b=ak o->h'.get? b=ak o)->tn i h'
  item:∀(X:Cx),X.prog=P->X.w=w->X.K=K->X.calm=aq->∀(i:Nat) (pins:List (Addr×Obj)) (s:Af) (σ:St) (H:Hp) (E:Value->Af->Prop),Inv X pins σ H s->(∀b∈fp,Zoa X pins H b)->tn i s.heap->J.go i H->
    Ak (Aw P w) X.A (C1 (.ref it)) (fun r s1=>∃u,r=ak u/\
      Ak (Aw P w) X.A (FG tg (.ref it) u) (fun _ s2=>∃x H',Inv X pins σ H' s2/\RelV x u/\J.yld i H x H'/\tn (i+1) s2.heap/\∀b∈fp,H' b=ao) E s1) E s
  done:∀(X:Cx),X.prog=P->X.w=w->X.K=K->X.calm=aq->∀(i:Nat) (pins:List (Addr×Obj)) (s:Af) (σ:St) (H:Hp) (E:Value->Af->Prop),Inv X pins σ H s->(∀b∈fp,Zoa X pins H b)->tn i s.heap->J.stop i H->
    Ak (Aw P w) X.A (C1 (.ref it)) (fun r s1=>r=ao/\Inv X pins σ H s1) E s
  self:∀(A:Ba) (i:Nat) (s:Af) (Q:Value->Af->Prop) (E:Value->Af->Prop),tn i s.heap->Q (.ref it) s->Ak (Aw P w) A (HV (.ref it)) Q E s
abbrev TI:=St->Hp->(It->Hp->Prop)->Prop
variable{fp:List Addr}
def PIE(X:Cx)(pins:List (Addr×Obj))(σ:St)(tg:Expr)(R:It->Hp->Prop)(itv:Value)(s2:Af):Prop:=
 ∃(it:Addr) (fp:List Addr) (tn:Nat->Bg->Prop) (J:It) (H':Hp),itv=.ref it/\Inv X pins σ H' s2/\Turn X.prog X.w X.K tg J fp it tn/\tn 0 s2.heap/\(∀b∈fp,Zoa X pins H' b)/\R J H'
def PI(X:Cx)(tg iter:Expr)(wi:TI):Prop:=
 ∀(pins:List (Addr×Obj)) (s:Af) (σ:St) (H:Hp) (R:It->Hp->Prop),Inv X pins σ H s->wi σ H R->
  Ak (Aw X.prog X.w) X.A (A6 iter X.env) (fun v s1=>Ak (Aw X.prog X.w) X.A (HV v) (PIE X pins σ tg R) X.xe s1) X.xe s
theorem Xla{n:String}{vs:Array Value}{Q:Unit->Af->Prop}(ho:s.heap.get? it=ak o)(hc:o.cls=.type n)(hd:o.data=.fields vs)(hn:["enumerate","zip","dict_itemiterator","dict_reverseitemiterator","odict_iterator","itertools.zip_longest","itertools.pairwise"].contains n=ar)(hQ:Q () s):Ak M A (FG tg (.ref it) u) Q E s:=by
  unfold FG;cases tg<;>first
    |exact Ac hQ
    | (cases u<;>first
        |exact Ac hQ
        | (refine Aa (wpAny_load ho ?_)
           rw [hc,hd];show Ak M A (if (["enumerate","zip","dict_itemiterator","dict_reverseitemiterator","odict_iterator","itertools.zip_longest","itertools.pairwise"].contains n&&vs[0]?==ak (Cu _))=aq then _ else _) Q E s;rw [ae (by intro h;rw [hn,K6] at h;cases h)];exact Ac hQ))
def Itl(K:AN)(a:Addr):It:=
 ⟨fun i H=>∃xs x,SqL K H a xs/\xs[i]?=ak x,fun i H x H'=>H'=H/\∀xs,SqL K H a xs->xs[i]?=ak x,fun i H=>∃xs,SqL K H a xs/\xs.length<=i⟩
def Itr(lo:Int)(n:Nat):It:=⟨fun i _=>i<n,fun i H x H'=>H'=H/\x=.int (lo+i),fun i _=>n<=i⟩
theorem Xcg(a it:Addr):Turn P w K tg (Itl K a) [it] it (fun i h=>h.IsListIter it a i) where
 mem:=by simp
 obj:=fun i h st b hb=>by
  have e:b=it:=by simpa using hb
  subst e;obtain⟨o,e,c,d⟩:=st;exact⟨o,e,fun v z=>by rw[d]at z;cases z⟩
 keep:=fun i h h' st k=>st.at fun o e=>k it (by simp) o e
 item:=by intro X hP hw hK hc i pins s σ H E I hf st hg;subst hP hw hK;obtain⟨xs,x,hq,hx⟩:=hg;obtain⟨its,rv,p,hz⟩:=I.list hq;obtain⟨u,hu,ru⟩:=rv.get hx;obtain⟨f0,f1,f2,f3,f4,f5⟩:=hf it (by simp);refine wpAny_pyNext_list_item st p.isList (x:=u) (by simpa using hu) fun h' st' sb=>?_;have I1:Inv X pins σ H {s with heap:=h'}:=I.turned (t':=s.toks) (fun b o hb e=>(sb.2 b hb).trans e) f0 f1 f3 f4 f5;obtain⟨o,e,c,d⟩:=id st';exact⟨u,rfl,Xla (s:={s with heap:=h'}) e c d (by decide) ⟨x,H,I1,ru,⟨rfl,fun ys hy=>by rw[I.list_inj hy hq];exact hx⟩,st',fun b hb=>(hf b hb).1⟩⟩
 done:=by intro X hP hw hK hc i pins s σ H E I hf st hg;subst hP hw hK;obtain⟨xs,hq,hx⟩:=hg;obtain⟨its,rv,p,hz⟩:=I.list hq;obtain⟨f0,f1,f2,f3,f4,f5⟩:=hf it (by simp);have hl:=rv.length;exact wpAny_pyNext_list_end (I.ok.hd hc) st p.isList (by simp;omega) fun h' eb=>⟨rfl,I.turned (t':=s.toks) (fun b o hb e=>eb b o hb e) f0 f1 f3 f4 f5⟩
 self:=fun _ _ _ _ _ st h=>wpAny_pyIter_listiter st h
theorem Zts(it:Addr)(lo:Int)(n:Nat):Turn P w K tg (Itr lo n) [it] it (fun i h=>IsRangeIter h it (lo+(i:Nat)*1) ((n:Int)-(i:Nat)) 1) where
  mem:=by simp
  obj:=fun i h st b hb=>by
    have e:b=it:=by simpa using hb
    subst e;exact ⟨_,st,fun v z=>by
      have z':LN _=Data.cell v:=z;cases z'⟩
  keep:=fun i h h' st k=>k it (by simp) _ st
  item:=by intro X hP hw hK hc i pins s σ H E I hf st hg;subst hP hw hK;obtain⟨f0,f1,f2,f3,f4,f5⟩:=hf it (by simp);have W:=Walks.range (prog:=X.prog) (w:=X.w) (I.ok.hd hc) it lo 1 n;refine W.item i s _ _ hg st fun v h' tk hv st' kk=>?_;obtain⟨t,rfl⟩:=hv;have I1:Inv X pins σ H {s with heap:=h',toks:=tk}:=I.turned (fun b o hb e=>kk b o (by simpa using hb) e) f0 f1 f3 f4 f5;refine⟨_,rfl,Xla (s:={s with heap:=h',toks:=tk}) (n:="range_iterator") st' rfl rfl (by decide) ⟨.int (lo+i),H,I1,⟨t,?_⟩,⟨rfl,rfl⟩,st',fun b hb=>(hf b hb).1⟩⟩;rw[Int.mul_one]
  done:=by intro X hP hw hK hc i pins s σ H E I hf st hg;subst hP hw hK;obtain⟨f0,f1,f2,f3,f4,f5⟩:=hf it (by simp);exact wpAny_pyNext_range_end (I.ok.hd hc) st (by have:n<=i:=hg;omega) fun h' eb=>⟨rfl,I.turned (t':=s.toks) (fun b o hb e=>eb b o hb e) f0 f1 f3 f4 f5⟩
  self:=fun _ _ _ _ _ st h=>wpAny_pyIter_rangeiter st h
def Xap(K:AN)(tl:TE):TI:=fun σ H R=>tl σ H fun x H1=>∃a,x=.ref a/\(∃xs,SqL K H1 a xs)/\R (Itl K a) H1
theorem Xlv{l:Expr}{tl:TE}(hl:PE X l tl):PI X tg l (Xap X.K tl):=by
 intro pins s σ H R I h;refine thn (hl pins s σ H _ I h) fun v s1 hz9=>?_;obtain⟨x,H1,I1,r1,q1⟩:=hz9;obtain⟨a,e,⟨xs,hq⟩,q⟩:=q1;subst e;cases r1;obtain⟨its,rv,p,hz⟩:=I1.list hq;refine E3 p.isList ?_;refine⟨s1.heap.objs.size,[s1.heap.objs.size],_,_,H1,rfl,I1.kept (t':=s1.toks) fun b o e=>Ae _ e,Xcg a _,⟨_,Au _ rfl,rfl,rfl⟩,fun b hb=>?_,q⟩;have e:b=s1.heap.objs.size:=by simpa using hb
 subst e;exact I1.fpOk (As _) (I1.hok.fresh (As _))
variable{tk:Nat}
theorem Zst{R:It->Hp->Prop}{lo hi:Int}{t u v:Tok}(I:Inv X pins σ H s)(h1:-(2^62)<=lo)(h2:lo<2^62)(h3:-(2^62)<=hi)(h4:hi<2^62)(q:R (Itr lo (hi-lo).toNat) H):Ak (Aw X.prog X.w) X.A (HV (.ref s.heap.objs.size)) (PIE X pins σ tg R) E {s with heap:=s.heap.push {cls:=.type "range",data:=.fields #[.int lo t,.int hi u,.int 1 v]},toks:=tk}:=by
  refine wpAny_pyIter_range (IsRange.new ..) (small_one h1 h2 h3 h4) ?_;have I1:Inv X pins σ H {s with heap:=s.heap.push {cls:=.type "range",data:=.fields #[.int lo t,.int hi u,.int 1 v]},toks:=tk}:=I.kept fun b o e=>Ae _ e;refine ⟨(s.heap.push {cls:=.type "range",data:=.fields #[.int lo t,.int hi u,.int 1 v]}).objs.size,[(s.heap.push {cls:=.type "range",data:=.fields #[.int lo t,.int hi u,.int 1 v]}).objs.size],_,_,H,rfl,
    I1.kept (t':=tk) fun b o e=>Ae _ e,Zts _ lo (hi-lo).toNat,?_,fun b hb=>?_,q⟩
  have e1:lo+((0:Nat):Int)*1=lo:=by simp
  have e2:(((hi-lo).toNat:Nat):Int)-((0:Nat):Int)=Gu lo hi 1:=by rw[Ms];split<;>omega
  show IsRangeIter _ _ (lo+((0:Nat):Int)*1) ((((hi-lo).toNat:Nat):Int)-((0:Nat):Int)) 1;rw[e1,e2];exact Au _ rfl;have e:b=(s.heap.push {cls:=.type "range",data:=.fields #[.int lo t,.int hi u,.int 1 v]}).objs.size:=by simpa using hb
  subst e;exact I1.fpOk (As _) (I1.hok.fresh (As _))
def Xex(ta:TA):TI:=fun σ H R=>ta σ H fun vs H1=>∃j:Int,vs=[.int j]/\-(2^62)<=j/\j<2^62/\R (Itr 0 j.toNat) H1
def Xgn(ta:TA):TI:=fun σ H R=>ta σ H fun vs H1=>∃i j:Int,vs=[.int i,.int j]/\(-(2^62)<=i/\i<2^62/\-(2^62)<=j/\j<2^62)/\R (Itr i (j-i).toNat) H1
variable{a:Expr}
theorem Zwp{ta:TA}(hg:Gl X "range")(hm:X.mg "range"=ao)(ha:PA X [a] ta)(hs:Ad [a] X.env=[(ar,A6 a X.env)]:=by rfl):PI X tg (.Call (.Name "range" p) [a] [] pos) (Xex ta):=by
 intro pins s σ H R I h;refine Call_ (Zdh I hg hm boot_range (BC (thn (ha pos pins s σ H _ I h) fun us s1 hz9=>?_) hs rfl));obtain⟨vs,H1,I1,r1,q1⟩:=hz9;obtain⟨j,e,q1,q2,q⟩:=q1;subst e;cases r1 with
 |cons r rr =>cases rr;obtain⟨t,rfl⟩:=r;exact call_range_1 (Zst I1 (by omega) (by omega) q1 q2 (by simpa using q))
theorem Xbs{b:Expr}{ta:TA}(hg:Gl X "range")(hm:X.mg "range"=ao)(ha:PA X [a,b] ta)(hs:Ad [a,b] X.env=[(ar,A6 a X.env),(ar,A6 b X.env)]:=by rfl)(hs2:Ad [b] X.env=[(ar,A6 b X.env)]:=by rfl) :
  PI X tg (.Call (.Name "range" p) [a,b] [] pos) (Xgn ta):=by
 intro pins s σ H R I h;refine Call_ (Zdh I hg hm boot_range (BC (thn (ha pos pins s σ H _ I h) fun us s1 hz9=>?_) (by rw[hs,hs2]) (by rw[hs2];rfl)));obtain⟨vs,H1,I1,r1,q1⟩:=hz9;obtain⟨i,j,e,⟨q1,q2,q3,q4⟩,q⟩:=q1;subst e;cases r1 with
 |cons r rr =>
  cases rr with
  |cons r' rr =>cases rr;obtain⟨t,rfl⟩:=r;obtain⟨t',rfl⟩:=r';exact call_range_2 (Zst I1 q1 q2 q3 q4 q)
def Xrv(wi:TI)(g:TG)(tb:TS):TS:=fun D σ H=>wi σ H fun J H1=>∃W:Nat->Nat->St->Hp->Prop,(∃m,W 0 m σ H1)/\∀i m σ H,W i m σ H->
 (J.stop i H/\D.nx σ H)\/(J.go i H/\∃N:St->Hp->Prop,(∀σ' H',N σ' H'->∃m',m'<m/\W (i+1) m' σ' H')/\∀x H',J.yld i H x H'->g x σ H' fun σ2 H2=>tb {D with nx:=N,ct:=N,bk:=D.nx} σ2 H2)
def Zna(fp:List Addr)(h:Bg):List (Addr×Obj):=fp.filterMap fun b=>(h.get? b).map fun o=>(b,o)
theorem Zcv(hb:b∈fp)(e:h.get? b=ak o):(b,o)∈Zna fp h:=FZ.mpr ⟨b,hb,by rw[e];rfl⟩
theorem Xaf{p:Addr×Obj}(hp:p∈Zna fp h):p.1∈fp/\h.get? p.1=ak p.2:=by
 obtain⟨b,hb,e⟩:=FZ.mp hp;cases q:h.get? b with
 |none=>rw[q]at e;cases e
 |some o =>rw[q]at e;have e':(b,o)=p:=AE e;subst e';exact⟨hb,q⟩
theorem Inv.pinned(I:Inv X pins σ H s)(hf:∀b∈fp,Zoa X pins H b)(ho:∀b∈fp,∃o,s.heap.get? b=ak o/\∀v,o.data≠.cell v):Inv X (pins++Zna fp s.heap) σ H s:=I.pins_of fun p hp=>(Al.mp hp).elim (fun z=>I.pin p (Ah _ z)) fun z=>by obtain⟨hb,e⟩:=Xaf z;obtain⟨f0,f1,f2,_⟩:=hf p.1 hb;obtain⟨o,e',d⟩:=ho p.1 hb;rw[e]at e';cases e';exact⟨e,f0,f1,f2,d⟩
variable{pl:List (Addr×Obj)}
theorem Inv.unpinned(I:Inv X (pins++pl) σ H s):Inv X pins σ H s:=I.pins_of fun p hp=>I.pin p (Ah _ (Aq _ hp))
variable{body:List Stmt}{iter:Expr}
theorem Xyj{wi:TI}{g:TG}{tb:TS}(hp:JD (Aw X.prog X.w) X.A X.env X.xe)(hc:X.calm=aq)(hi:PI X tg iter wi)(hg:PG X tg g)(hb:PSs X body tb)
  (hs:∀x,BA iter X.env x=pure x:=by intro _;rfl):PS X (.For tg iter body [] pos) (Xrv wi g tb):=by
 intro pins s σ H D I h;refine wpAny_For (thn (hi pins s σ H _ I h) fun v s1 h1=>thn h1 fun itv s2 h2=>?_) hs;obtain⟨it,fp,tn,J,H2,e,I2,T,st2,f2,W,⟨m0,w0⟩,turn⟩:=h2;subst e;have stat:∀{H':Hp},(∀b∈fp,H' b=ao)->∀b∈fp,Zoa X pins H' b:=fun hn b hb=>⟨hn b hb,(f2 b hb).2⟩;refine codeAny_forLoop_any (fun n s'=>∃i σ' H',Inv X pins σ' H' s'/\tn i s'.heap/\(∀b∈fp,H' b=ao)/\W i n σ' H') ?_ m0 ⟨0,σ,H2,I2,st2,fun b hb=>(f2 b hb).1,w0⟩;rintro n s3 ⟨i,σ3,H3,I3,st3,fr3,w3⟩;rcases turn i n σ3 H3 w3 with⟨stop,qn⟩|⟨go,N,hN,step⟩
 ·refine Et hp (thn (T.done X rfl rfl rfl hc i pins s3 σ3 H3 X.xe I3 (stat fr3) st3 stop) fun r s4 ⟨hr,I4⟩=>?_);subst hr;exact FF ⟨σ3,H3,I4,qn⟩
 ·refine Et hp (thn (T.item X rfl rfl rfl hc i pins s3 σ3 H3 X.xe I3 (stat fr3) st3 go) fun r s4 ⟨u,hr,h4⟩=>?_);subst hr;refine Et hp (thn h4 fun _ s5 hz9=>?_);obtain⟨x,H5,I5,r5,y5,st5,fr5⟩:=hz9;have I5':=I5.pinned (stat fr5) (T.obj _ _ st5);refine Et hp (thn (hg _ s5 σ3 H5 x u _ I5' r5 (step x H5 y5)) fun _ s6 hz9=>?_);obtain⟨σ6,H6,I6,q6⟩:=hz9;refine Et hp (thn (hb _ s6 σ6 H6 _ I6 q6) fun f s7 q7=>?_);have KJ:∀{σ7:St} {H7:Hp},Inv X (pins++Zna fp s5.heap) σ7 H7 s7->N σ7 H7->∃m,m<n/\∃i σ' H',Inv X pins σ' H' s7/\tn i s7.heap/\(∀b∈fp,H' b=ao)/\W i m σ' H':=fun {σ7 H7} I7 n7=>by obtain⟨m',hm,w7⟩:=hN σ7 H7 n7;refine⟨m',hm,i+1,σ7,H7,I7.unpinned,T.keep _ _ _ st5 fun b hb o e=>(I7.pin (b,o) (Ah _ (Ah _ (Zcv hb e)))).1,fun b hb=>?_,w7⟩;obtain⟨o,e,d⟩:=T.obj _ _ st5 b hb;exact(I7.pin (b,o) (Ah _ (Ah _ (Zcv hb e)))).2.1
  cases f with
  |next=>obtain⟨σ7,H7,I7,n7⟩:=q7;exact KJ I7 n7
  |cont=>obtain⟨σ7,H7,I7,n7⟩:=q7;exact KJ I7 n7
  |brk=>obtain⟨σ7,H7,I7,q7⟩:=q7;exact⟨σ7,H7,I7.unpinned,q7⟩
  |ret v=>obtain⟨x7,σ7,H7,I7,r7,q7⟩:=q7;exact⟨x7,σ7,H7,I7.unpinned,r7,q7⟩
abbrev R2:=V->V->Hp->VK->Prop
def OpR(X:Cx)(f:Value->Value->Sem Value)(r:R2):Prop:=
 ∀(pins:List (Addr×Obj)) (s:Af) (σ:St) (H:Hp) (x y:V) (v u:Value) (Q:VK),Inv X pins σ H s->RelV x v->RelV y u->r x y H Q->
  Ak (Aw X.prog X.w) X.A (f v u) (EP X pins σ Q) X.xe s
def UnR(X:Cx)(f:Value->Sem Value)(r:V->Hp->VK->Prop):Prop:=
 ∀(pins:List (Addr×Obj)) (s:Af) (σ:St) (H:Hp) (x:V) (v:Value) (Q:VK),Inv X pins σ H s->RelV x v->r x H Q->
  Ak (Aw X.prog X.w) X.A (f v) (EP X pins σ Q) X.xe s
def Zae(X:Cx)(f:Value)(r:List V->Hp->VK->Prop):Prop:=
 ∀(pins:List (Addr×Obj)) (s:Af) (σ:St) (H:Hp) (xs:List V) (us:List Value) (Q:VK),Inv X pins σ H s->Yl xs us->r xs H Q->
  Ak (Aw X.prog X.w) X.A (call f us) (EP X pins σ Q) X.xe s
def TruR(X:Cx)(r:V->Hp->(Bool->Hp->Prop)->Prop):Prop:=
 ∀(pins:List (Addr×Obj)) (s:Af) (σ:St) (H:Hp) (x:V) (v:Value) (Q:Bool->Hp->Prop),Inv X pins σ H s->RelV x v->r x H Q->
  Ak (Aw X.prog X.w) X.A (HS v) (TP X pins σ Q) X.xe s
def tOp(r:R2)(ta tb:TE):TE:=fun σ H Q=>ta σ H fun x H1=>tb σ H1 fun y H2=>r x y H2 Q
def tUn(r:V->Hp->VK->Prop)(ta:TE):TE:=fun σ H Q=>ta σ H fun x H1=>r x H1 Q
def rI(C:Int->Int->Prop)(g:Int->Int->V):R2:=fun x y H Q=>∃i j,x=.int i/\y=.int j/\C i j/\Q (g i j) H
def rI0(g:Int->Int->V):R2:=fun x y H Q=>∃i j,x=.int i/\y=.int j/\Q (g i j) H
def rU(g:Int->V):V->Hp->VK->Prop:=fun x H Q=>∃i,x=.int i/\Q (g i) H
variable{b:Expr}
theorem binT(ha:PE X a ta)(hb:PE X b tb){R:V->V->Hp->Prop}(I:Inv X pins σ H s)(h:ta σ H fun x H1=>tb σ H1 fun y H2=>R x y H2){Q:Value->Af->Prop}{f:Value->Value->Sem Value}(hf:∀v u s2 x y H2,Inv X pins σ H2 s2->RelV x v->RelV y u->R x y H2->Ak (Aw X.prog X.w) X.A (f v u) Q X.xe s2):Ak (Aw X.prog X.w) X.A (A6 a X.env) (fun v s₁=>Ak (Aw X.prog X.w) X.A (A6 b X.env) (fun u s₂=>Ak (Aw X.prog X.w) X.A (f v u) Q X.xe s₂) X.xe s₁) X.xe s:=by
 refine thn (ha pins s σ H _ I h) fun v s1 hz9=>?_;obtain⟨x,H1,I1,r1,q1⟩:=hz9;refine thn (hb pins s1 σ H1 _ I1 q1) fun u s2 hz9=>?_;obtain⟨y,H2,I2,r2,q2⟩:=hz9;exact hf v u s2 x y H2 I2 r1 r2 q2
theorem pe_op{r:R2}(ho:OpR X (Co op) r)(ha:PE X a ta)(hb:PE X b tb):PE X (.BinOp a op b pos) (tOp r ta tb):=by intro pins s σ H Q I h;exact wpAny_BinOp (binT ha hb I h fun v u s2 x y H2 I2 rx ry q=>ho pins s2 σ H2 x y v u Q I2 rx ry q)
theorem pe_un{op:UnaryOp}{r:V->Hp->VK->Prop}(ho:UnR X (unaryOp op) r)(ha:PE X a ta):PE X (.UnaryOp op a pos) (tUn r ta):=by intro pins s σ H Q I h;exact UnaryOp_ (thn (ha pins s σ H _ I h) fun v s1 ⟨x,H1,I1,r1,q1⟩=>ho pins s1 σ H1 x v Q I1 r1 q1)
variable{g:Int->Int->Int}
theorem opI{C:Int->Int->Prop}(rule:∀(i j:Int) (t u:Tok) (s:Af) (Q:Value->Af->Prop) (E:Value->Af->Prop),C i j->Q (.int (g i j) s.toks) {s with toks:=s.toks+1}->Ak (Aw X.prog X.w) X.A (f (.int i t) (.int j u)) Q E s):OpR X f (rI C fun i j=>.int (g i j)):=by
 intro pins s σ H x y v u Q I rx ry h;obtain⟨i,j,rfl,rfl,hc,q⟩:=h;obtain⟨t,rfl⟩:=rx;obtain⟨t',rfl⟩:=ry;exact rule i j t t' s _ _ hc ⟨.int (g i j),H,I.tok _,⟨_,rfl⟩,q⟩
theorem opI0(rule:∀(i j:Int) (t u:Tok) (s:Af) (Q:Value->Af->Prop) (E:Value->Af->Prop),Q (.int (g i j) s.toks) {s with toks:=s.toks+1}->Ak (Aw X.prog X.w) X.A (f (.int i t) (.int j u)) Q E s):OpR X f (rI0 fun i j=>.int (g i j)):=by
 intro pins s σ H x y v u Q I rx ry h;obtain⟨i,j,rfl,rfl,q⟩:=h;obtain⟨t,rfl⟩:=rx;obtain⟨t',rfl⟩:=ry;exact rule i j t t' s _ _ ⟨.int (g i j),H,I.tok _,⟨_,rfl⟩,q⟩
theorem opB0{g:Int->Int->Bool}(rule:∀(i j:Int) (t u:Tok) (s:Af) (Q:Value->Af->Prop) (E:Value->Af->Prop),Q (.bool (g i j)) s->Ak (Aw X.prog X.w) X.A (f (.int i t) (.int j u)) Q E s):OpR X f (rI0 fun i j=>.bl (g i j)):=by
 intro pins s σ H x y v u Q I rx ry h;obtain⟨i,j,rfl,rfl,q⟩:=h;obtain⟨t,rfl⟩:=rx;obtain⟨t',rfl⟩:=ry;exact rule i j t t' s _ _ ⟨.bl (g i j),H,I,rfl,q⟩
def CPow(i j:Int):Prop:=0<=j/\j<=1000000/\i.natAbs<2^64
def Xrw(i j:Int):Prop:=(-(2^64)<i/\i<2^64)\/(-(2^64)<j/\j<2^64)
theorem Xrw.ok{i j:Int}(h:Xrw i j):IntMulOk i j:=by rcases h with⟨h1,h2⟩|⟨h1,h2⟩;exact .of_left (Mu h1 h2);exact .of_right (Mu h1 h2)
theorem Xxr:OpR X (Co .Add) (rI0 fun i j=>.int (i+j)):=opI0 fun _ _ _ _ _ _ _ q=>add_int q
theorem Znd:OpR X (Co .Sub) (rI0 fun i j=>.int (i-j)):=opI0 fun _ _ _ _ _ _ _ q=>sub_int q
theorem Xwr:OpR X (Co .Mult) (rI Xrw fun i j=>.int (i*j)):=opI fun _ _ _ _ _ _ _ hc q=>mul_int q hc.ok
theorem Zad:OpR X (Co .Mod) (rI (fun _ j=>0<j) fun i j=>.int (i%j)):=opI fun i j _ _ _ _ _ hc q=>by have h1:(0:Int)<j:=hc;exact mod_int' (by omega) (by rw[Int.fmod_eq_emod_of_nonneg i (by omega)];exact q)
theorem Zdz:OpR X (Co .Pow) (rI CPow fun i j=>.int (i^j.toNat)):=opI fun _ _ _ _ _ _ _ hc q=>pow_int_small hc.1 hc.2.1 hc.2.2 q
theorem unI{f:Value->Sem Value}{g:Int->Int}(rule:∀(i:Int) (t:Tok) (s:Af) (Q:Value->Af->Prop) (E:Value->Af->Prop),Q (.int (g i) s.toks) {s with toks:=s.toks+1}->Ak (Aw X.prog X.w) X.A (f (.int i t)) Q E s):UnR X f (rU fun i=>.int (g i)):=by
 intro pins s σ H x v Q I rx h;obtain⟨i,rfl,q⟩:=h;obtain⟨t,rfl⟩:=rx;exact rule i t s _ _ ⟨.int (g i),H,I.tok _,⟨_,rfl⟩,q⟩
theorem Xtx:UnR X (unaryOp .USub) (rU fun i=>.int (-i)):=unI fun _ _ _ _ _ q=>neg_int q
def scal:V->V->Bool
 | .non,.non=>aq| .non,.int _=>aq| .int _,.non=>aq| .non,.bl _=>aq| .bl _,.non=>aq| .non,.str _=>aq| .str _,.non=>aq
 | .int _,.int _=>aq| .bl _,.bl _=>aq| .str _,.str _=>aq| .byt _,.byt _=>aq
 | .int _,.str _=>aq| .str _,.int _=>aq| .bl _,.str _=>aq| .str _,.bl _=>aq
 |_,_=>ar
def rEq:R2:=fun x y H Q=>scal x y=aq/\Q (.bl (decide (x=y))) H
def rNe:R2:=fun x y H Q=>scal x y=aq/\Q (.bl (!decide (x=y))) H
theorem Xbg{i j:Int}:decide (V.int i=V.int j)=(i==j):=by rw[DF];simp
theorem Xjp{i j:Bool}:decide (V.bl i=V.bl j)=(i==j):=by rw[DF];simp
theorem Xao{i j:Str}:decide (V.str i=V.str j)=(i==j):=by rw[DF];simp
theorem Zzm{i j:Array UInt8}:decide (V.byt i=V.byt j)=(i.toList==j.toList):=by rw[DF];cases i;cases j;simp
theorem Yb{Q:VK}{k k':Bool}(I:Inv X pins σ H s)(q:Q (.bl k) H)(e:k=k'):EP X pins σ Q (.bool k') s:=by subst e;exact⟨.bl k,H,I,rfl,q⟩
theorem op_eq:OpR X (B8 .Eq) rEq:=by
 intro pins s σ H x y v u Q I rx ry h;obtain⟨hs,q⟩:=h;cases x with
 |non =>
  cases rx;cases y with
  |non=>cases ry;exact PySem.EqNone.eq_none_none (Yb I q (by simp))
  |bl j=>cases ry;exact PySem.EqNone.eq_none_bool (Yb I q (by simp))
  |int j=>obtain⟨t',rfl⟩:=ry;exact PySem.EqNone.eq_none_int (Yb I q (by simp))
  |str j=>obtain⟨t',rfl⟩:=ry;exact PySem.EqNone.eq_none_str (Yb I q (by simp))
  |_=>exact af (show ar=aq from hs) Ao
 |bl i =>
  cases rx;cases y with
  |non=>cases ry;exact PySem.EqNone.eq_bool_none (Yb I q (by simp))
  |bl j=>cases ry;exact eq_bool (Yb I q Xjp)
  |str j=>obtain⟨t',rfl⟩:=ry;exact PySem.EqMixed.eq_bool_str (Yb I q (by simp))
  |_=>exact af (show ar=aq from hs) Ao
 |int i =>
  obtain⟨t,rfl⟩:=rx;cases y with
  |non=>cases ry;exact PySem.EqNone.eq_int_none (Yb I q (by simp))
  |int j=>obtain⟨t',rfl⟩:=ry;exact eq_int (Yb I q Xbg)
  |str j=>obtain⟨t',rfl⟩:=ry;exact PySem.EqMixed.eq_int_str (Yb I q (by simp))
  |_=>exact af (show ar=aq from hs) Ao
 |str i =>
  obtain⟨t,rfl⟩:=rx;cases y with
  |non=>cases ry;exact PySem.EqNone.eq_str_none (Yb I q (by simp))
  |bl j=>cases ry;exact PySem.EqMixed.eq_str_bool (Yb I q (by simp))
  |int j=>obtain⟨t',rfl⟩:=ry;exact PySem.EqMixed.eq_str_int (Yb I q (by simp))
  |str j=>obtain⟨t',rfl⟩:=ry;exact eq_str (Yb I q Xao)
  |_=>exact af (show ar=aq from hs) Ao
 |byt i =>
  obtain⟨t,rfl⟩:=rx;cases y with
  |byt j=>obtain⟨t',rfl⟩:=ry;exact PySem.W.eq_bytes (Yb I q Zzm)
  |_=>exact af (show ar=aq from hs) Ao
 |_=>cases y<;>exact af (show ar=aq from hs) Ao
theorem op_ne:OpR X (B8 .NotEq) rNe:=by
 intro pins s σ H x y v u Q I rx ry h;obtain⟨hs,q⟩:=h;cases x with
 |non =>
  cases rx;cases y with
  |non=>cases ry;exact PySem.EqNone.ne_none_none (Yb I q (by simp))
  |bl j=>cases ry;exact PySem.EqNone.ne_none_bool (Yb I q (by simp))
  |int j=>obtain⟨t',rfl⟩:=ry;exact PySem.EqNone.ne_none_int (Yb I q (by simp))
  |str j=>obtain⟨t',rfl⟩:=ry;exact PySem.EqNone.ne_none_str (Yb I q (by simp))
  |_=>exact af (show ar=aq from hs) Ao
 |bl i =>
  cases rx;cases y with
  |non=>cases ry;exact PySem.EqNone.ne_bool_none (Yb I q (by simp))
  |bl j=>cases ry;exact ne_bool (Yb I q (ah not Xjp))
  |str j=>obtain⟨t',rfl⟩:=ry;exact PySem.EqMixed.ne_bool_str (Yb I q (by simp))
  |_=>exact af (show ar=aq from hs) Ao
 |int i =>
  obtain⟨t,rfl⟩:=rx;cases y with
  |non=>cases ry;exact PySem.EqNone.ne_int_none (Yb I q (by simp))
  |int j=>obtain⟨t',rfl⟩:=ry;exact ne_int (Yb I q (ah not Xbg))
  |str j=>obtain⟨t',rfl⟩:=ry;exact PySem.EqMixed.ne_int_str (Yb I q (by simp))
  |_=>exact af (show ar=aq from hs) Ao
 |str i =>
  obtain⟨t,rfl⟩:=rx;cases y with
  |non=>cases ry;exact PySem.EqNone.ne_str_none (Yb I q (by simp))
  |bl j=>cases ry;exact PySem.EqMixed.ne_str_bool (Yb I q (by simp))
  |int j=>obtain⟨t',rfl⟩:=ry;exact PySem.EqMixed.ne_str_int (Yb I q (by simp))
  |str j=>obtain⟨t',rfl⟩:=ry;exact ne_str (Yb I q (ah not Xao))
  |_=>exact af (show ar=aq from hs) Ao
 |byt i =>
  obtain⟨t,rfl⟩:=rx;cases y with
  |byt j=>obtain⟨t',rfl⟩:=ry;exact PySem.W.ne_bytes (Yb I q (ah not Zzm))
  |_=>exact af (show ar=aq from hs) Ao
 |_=>cases y<;>exact af (show ar=aq from hs) Ao
theorem Zjm:OpR X (B8 .Lt) (rI0 fun i j=>.bl (decide (i<j))):=opB0 fun _ _ _ _ _ _ _ q=>lt_int q
theorem op_le:OpR X (B8 .LtE) (rI0 fun i j=>.bl (decide (i<=j))):=opB0 fun _ _ _ _ _ _ _ q=>le_int q
theorem Zge:OpR X (B8 .Gt) (rI0 fun i j=>.bl (decide (j<i))):=opB0 fun _ _ _ _ _ _ _ q=>gt_int q
theorem OpR.or{r r':R2}(h:OpR X f r)(h':OpR X f r'):OpR X f (fun x y H Q=>r x y H Q\/r' x y H Q):=by intro pins s σ H x y v u Q I rx ry q;rcases q with q|q;exact h pins s σ H x y v u Q I rx ry q;exact h' pins s σ H x y v u Q I rx ry q
variable{op:MH}
theorem Yg(b:Expr)(h:op≠.In:=by decide)(h2:op≠.NotIn:=by decide):Dg op b=false:=by
 have e1:(op==CmpOp.In)=false:=by cases op<;>first|rfl|exact af rfl h
 have e2:(op==CmpOp.NotIn)=false:=by cases op<;>first|rfl|exact af rfl h2
 cases b<;>simp[Dg,e1,e2]
theorem Xqy{r:R2}(ho:OpR X (B8 op) r)(ha:PE X a ta)(hb:PE X b tb)(hm:Dg op b=ar):PE X (.Compare a [op] [b] pos) (tOp r ta tb):=by intro pins s σ H Q I h;exact wpAny_Compare1 (binT ha hb I h fun v u s2 x y H2 I2 rx ry q=>ho pins s2 σ H2 x y v u Q I2 rx ry q) hm
def Xdu(t:TE):TT:=fun σ H Q=>t σ H fun x H'=>∃k,x=.bl k/\Q k H'
theorem Xml{r:R2}(ho:OpR X (B8 op) r)(ha:PE X a ta)(hb:PE X b tb)(hm:Dg op b=ar):PT X (.Compare a [op] [b] pos) (Xdu (tOp r ta tb)):=by
  intro pins s σ H Q I h;refine wpAny_isTrue_Compare1 (thn (ha pins s σ H _ I h) fun v s1 ⟨x,H1,I1,r1,q1⟩=>thn (hb pins s1 σ H1 _ I1 q1) fun u s2 ⟨y,H2,I2,r2,q2⟩ =>
    thn (ho pins s2 σ H2 x y v u _ I2 r1 r2 q2) fun c s3 ⟨z,H3,I3,r3,k,e,q3⟩=>?_) hm
  subst e;cases r3;exact CD ⟨H3,I3,q3⟩
def TruV(K:AN)(x:V)(H:Hp)(k:Bool):Prop:=
 match x with
 | .non=>k=ar
 | .bl b=>k=b
 | .int i=>k=(i != 0)
 | .str y=>y.length<=Ar/\k=((y.length:Int) != 0)
 | .byt y=>y.size<=Ar/\k=((y.size:Int) != 0)
 | .ref p=>(∃xs,SqL K H p xs/\k=!xs.isEmpty)\/(∃xs,SqT K H p xs/\k=!xs.isEmpty)\/∃kvs,H p=ak (.dK kvs)/\k=!kvs.isEmpty
 |_=>False
variable{κ:Type}
theorem Ztz{kvs:List (κ×V)}{vs:List (κ×Value)}(r:KV kvs vs):(!vs.isEmpty)=!kvs.isEmpty:=by cases r<;>rfl
theorem Zit(r:Yl xs its):(!its.toArray.isEmpty)=!xs.isEmpty:=by cases r<;>simp
theorem Zii:(Ar:Nat)<2^63:=by rw[E5];decide
theorem Xvp:TruR X (fun x H Q=>∃k,TruV X.K x H k/\Q k H):=by
 intro pins s σ H x v Q I rx h;obtain⟨k,e,q⟩:=h;have hl:=Zii;have hs:Ar=16777216:=E5;cases x with
 |non =>cases rx;have e':k=false:=e;subst e';exact truthy_none ⟨H,I,q⟩
 |bl b =>cases rx;have e':k=b:=e;subst e';exact CD ⟨H,I,q⟩
 |int i =>obtain⟨t,rfl⟩:=rx;have e':k=(i != 0):=e;subst e';exact PySem.P.truthy_int ⟨H,I,q⟩
 |str y =>obtain⟨t,rfl⟩:=rx;obtain⟨hy,e'⟩:y.length<=Ar/\k=((y.length:Int) != 0):=e;subst e';exact PySem.P.truthy_str (by omega) ⟨H,I.tok _,q⟩
 |byt y =>obtain⟨t,rfl⟩:=rx;obtain⟨hy,e'⟩:y.size<=Ar/\k=((y.size:Int) != 0):=e;subst e';exact PySem.W.truthy_bytes (by omega) ⟨H,I.tok _,q⟩
 |ref p =>cases rx;have e':(∃xs,SqL X.K H p xs/\k=!xs.isEmpty)\/(∃xs,SqT X.K H p xs/\k=!xs.isEmpty)\/∃kvs,H p=ak (.dK kvs)/\k=!kvs.isEmpty:=e;rcases e' with⟨xs,hx,e'⟩|⟨xs,hx,e'⟩|⟨kvs,hx,e'⟩;subst e';obtain⟨its,r,pl,hz⟩:=I.list hx;have hlen:=r.length;exact wpAny_truthy_list pl.isList (by simp only[Ay];omega) ⟨H,I.tok _,by rw[Zit r];exact q⟩;subst e';obtain⟨its,r,pl,hz⟩:=I.tuple hx;have hlen:=r.length;exact truthy_tuple pl (by simp only[Ay];omega) ⟨H,I.tok _,by rw[Zit r];exact q⟩;subst e';obtain⟨hz,hS,vs,r,m⟩:kvs.length<=Ar/\(p==Ck)=ar/\∃vs,KV kvs vs/\s.heap.DictOf (Yi X.prog X.w) p vs:=I.hok p _ hx;have hlen:kvs.length=vs.length:=Paired.length r;exact wpAny_truthy_dict hS m (by omega) ⟨H,I.tok _,by rw[Ztz r];exact q⟩
 |_=>exact(show False from e).elim
theorem Xfc(ha:PE X a ta)(he:∀whole,isTrue a X.env whole=(do let v <- whole;E4 a.pos;B6 [v] (HS v))) :
  PT X a (fun σ H Q=>ta σ H fun x H'=>∃k,TruV X.K x H' k/\Q k H'):=by
 intro pins s σ H Q I h;exact isTrue_plain (thn (ha pins s σ H _ I h) fun v s1 ⟨x,H1,I1,r1,q1⟩=>Xvp pins s1 σ H1 x v Q I1 r1 q1) (he _)
theorem Zvk:OpR X (Co .Add) (fun x y H Q=>∃i j,x=.str i/\y=.str j/\i.length+j.length<=Ar/\Q (.str (i++j)) H):=by intro pins s σ H x y v u Q I rx ry h;obtain⟨i,j,rfl,rfl,hz,q⟩:=h;obtain⟨t,rfl⟩:=rx;obtain⟨t',rfl⟩:=ry;exact add_str (fun t' tk=>⟨.str (i++j),H,I.tok _,⟨_,rfl⟩,q⟩) hz
theorem vals1{x:V}(r:Yl [x] us):∃u,us=[u]/\RelV x u:=by
 cases r with
 |cons r1 r2=>cases r2;exact⟨_,rfl,r1⟩
theorem vals2{x y:V}(r:Yl [x,y] us):∃u w',us=[u,w']/\RelV x u/\RelV y w':=by
 cases r with
 |cons r1 r2 =>
  cases r2 with
  |cons r3 r4=>cases r4;exact⟨_,_,rfl,r1,r3⟩
theorem Zvn(hc:X.calm=aq):Zae X (.builtin "min") (fun xs H Q=>∃i j,xs=[.int i,.int j]/\Q (.int (if j<i then j else i)) H):=by intro pins s σ H xs us Q I r h;obtain⟨i,j,rfl,q⟩:=h;obtain⟨u,w',rfl,⟨t,rfl⟩,⟨t',rfl⟩⟩:=vals2 r;refine min_two_ints (I.ok.hd hc) fun h' tk k=>⟨_,H,I.kept k,?_,q⟩;by_cases hj:j<i;rw[aa hj,aa hj];exact⟨_,rfl⟩;rw[ae hj,ae hj];exact⟨_,rfl⟩
structure ObjM(h:Bg)(x dx C:Addr)(mA:Str->Option Value):Prop where
 obj:h.get? x=ak (PySem.W.instObj C dx)
 ns:h.Ns1 dx mA
 ne:dx≠x
theorem Xcp.some_of{o:Option Value}(r:Xcp (ak v) o):∃u,o=ak u/\RelV v u:=by
 cases o with
 |none=>exact(show False from r).elim
 |some u=>exact⟨u,rfl,r⟩
structure Cls(K:AN)(C:Addr):Prop where
 pg:PySem.W.plainGet K C Str.empty=aq
 hd:PySem.W.hasDictIn K C=aq
 po:PySem.W.plainOver K C=aq
 sa:CK K (.ref C) "__setattr__"=ak (ak (.builtin "object.__setattr__"))
structure Con(K:AN)(C:Addr)(f:Str)(v:V)(u:Value):Prop where
 at_:CK K (.ref C) f=ak (ak u)
 rel:RelV v u
 get:IW K u "__get__"=ak ao
 cp:PySem.W.copiedNames.contains f=ar
structure Meth(K:AN)(C:Addr)(m:Str)(f:Addr):Prop where
 at_:CK K (.ref C) m=ak (ak (.ref f))
 fn:isFn K (.ref f)=aq
 kp:Gi K (.ref f)=aq
variable{a:Addr}
inductive TyOf(K:AN)(H:Hp):V->Value->Prop where
 |non:TyOf K H .non (.type "NoneType")
 |bl (x:Bool):TyOf K H (.bl x) (.type "bool")
 |int (i:Int):TyOf K H (.int i) (.type "int")
 |str (x:Str):TyOf K H (.str x) (.type "str")
 |flt (x:UInt64):TyOf K H (.flt x) (.type "float")
 |lst {a:Addr} {xs:List V} (e:H a=ak (.lst xs)):TyOf K H (.ref a) (.type "list")
 |frz {a:Addr} {o:Obj} {xs:List V} (e:H a=ak (.frz o (.lst xs))):TyOf K H (.ref a) (.type "list")
 |tup {a:Addr} {xs:List V} (e:H a=ak (.tup xs)):TyOf K H (.ref a) (.type "tuple")
 |dK {a:Addr} {kvs:List (Key×V)} (e:H a=ak (.dK kvs)):TyOf K H (.ref a) (.type "dict")
 |dT {a:Addr} {kvs:List (List Key×V)} (e:H a=ak (.dT kvs)):TyOf K H (.ref a) (.type "dict")
 |ins {a C dx:Addr} {fs:List (Str×V)} (e:H a=ak (.ins C dx fs)) (cl:Cls K C) (ha:CK K (.ref C) "__class__"=ak (ak (.builtin "object.__class__")))
   (hn:IW K (.builtin "object.__class__") "__get__"=ak (ak (.builtin "getset_descriptor.__get__"))) (htk:PySem.W.takesIn K (.builtin "object.__class__")=ak aq)
   (hm:PySem.W.mroIn K C (.type "object")=ak aq):TyOf K H (.ref a) (.ref C)
structure Zcd(k:Nat)(A:Ba):Prop where
 hd:A.handled=ao
 dp:A.depth+3*k+5<EQ
 un:A.units+16*k+200<BE
 gd:A.guards=ak []
theorem Zcd.mono{k:Nat}(r:Zcd k A)(h:j<=k):Zcd j A:=⟨r.hd,by have:=r.dp;omega,by have:=r.un;omega,r.gd⟩
theorem Zcd.deeper{k:Nat}{A:Ba}(r:Zcd (k+1) A)(env:Env):Zcd k (A.deeper env):=⟨r.hd,by have:=r.dp;show A.depth+1+3*k+5<_;omega,by have:=r.un;show A.units+3+16*k+200<_;omega,r.gd⟩
theorem Zcd.in1{k:Nat}{A:Ba}(r:Zcd (k+1) A):Zcd k A.in1:=⟨r.hd,by have:=r.dp;show A.depth+3*k+5<_;omega,by have:=r.un;show A.units+1+16*k+200<_;omega,r.gd⟩
theorem Zcd.depth{k:Nat}{A:Ba}(r:Zcd k A):A.depth<EQ:=by have:=r.dp;omega
theorem Zcd.units{k:Nat}{A:Ba}(r:Zcd k A):A.units+64<BE:=by have:=r.un;omega
def Zoq:TA:=fun _ H Q=>Q [] H
def Zbk(ta:TE)(tr:TA):TA:=fun σ H Q=>ta σ H fun x H1=>tr σ H1 fun xs H2=>Q (x::xs) H2
theorem Ziz:PA X [] Zoq:=fun _ _ _ _ H Q I h=>JY ⟨[],H,I,.nil,h⟩
variable{t:TA}
theorem Zdt(ha:PE X e te)(hr:PA X es t)(hs:Ad (e::es) X.env=(ar,A6 e X.env)::Ad es X.env:=by rfl):PA X (e::es) (Zbk te t):=by intro pos pins s σ H Q I h;rw[hs];show Ak _ _ (spliced ((ar,A6 e X.env)::BL pos (Ad es X.env))) _ _ s;refine IV (thn (ha pins s σ H _ I h) fun u s1 hz9=>?_);obtain⟨x,H1,I1,r1,q1⟩:=hz9;exact thn (hr pos pins s1 σ H1 _ I1 q1) fun us s2 ⟨xs,H2,I2,r2,q2⟩=>⟨x::xs,H2,I2,.cons r1 r2,q2⟩
def Xyc(t:TA):TE:=fun σ H Q=>t σ H fun xs H1=>xs.length<=Ar/\∀p,H1 p=ao->Q (.ref p) (upd H1 p (.tup xs))
def Xrr(t:TA):TE:=fun σ H Q=>t σ H fun xs H1=>xs.length<=Ar/\∀p,H1 p=ao->Q (.ref p) (upd H1 p (.lst xs))
theorem Xub{x1}(h:PA X es t):PE X (.Tuple es x1 pos) (Xyc t):=by intro pins s σ H Q I hq;refine wpAny_Tuple_spliced (thn (h pos pins s σ H _ I hq) fun us s1 ⟨xs,H1,I1,r,z,q⟩=>⟨by rw[<- r.length];exact z,?_⟩);have hf:H1 s1.heap.objs.size=none:=I1.hok.fresh (As _);refine⟨.ref s1.heap.objs.size,upd H1 s1.heap.objs.size (.tup xs),I1.laid (t':=s1.toks) (fun b u e=>Ae _ e) (As _) ?_,rfl,q _ hf⟩;exact⟨z,us,r,⟨_,Au _ rfl,rfl,_,rfl⟩⟩
theorem Xtq(h:PA X es t):PE X (.List es pos) (Xrr t):=by intro pins s σ H Q I hq;refine wpAny_List_spliced (thn (h pos pins s σ H _ I hq) fun us s1 ⟨xs,H1,I1,r,z,q⟩=>⟨by rw[<- r.length];exact z,?_⟩);have hf:H1 s1.heap.objs.size=none:=I1.hok.fresh (As _);refine⟨.ref s1.heap.objs.size,upd H1 s1.heap.objs.size (.lst xs),I1.laid (t':=s1.toks) (fun b u e=>Ae _ e) (As _) ?_,rfl,q _ hf⟩;exact⟨z,us,0,r,Au _ rfl⟩
abbrev Sp:=List V->Hp->VK->XK->Prop
abbrev CXT:=List Env->Hp->Af->XK->Value->Af->Prop
variable{b:Addr}
structure Xtv(P:AR)(w:Bk)(K:AN)(mg:Str->Option Value)(base:Bg)(A:Ba)(outer:List Env)(s:Af)(H:Hp):Prop where
 frames:A.frames=ak outer
 mod:Mod K mg base
 bs:∀b o,base.get? b=ak o->s.heap.get? b=ak o/\H b=ao
 bsz:base.objs.size<=s.heap.objs.size
 funs:s.heap.FunFrames base outer
 frf:∀b∈frs outer,H b=ao
 hok:HOk P w H s.heap
 bare:EH s.gens
def CE(outer:List Env)(P:AR)(w:Bk)(H:Hp)(s:Af)(Q:VK)(u:Value)(s':Af):Prop:=
 ∃v H',s'.os=s.os/\EH s'.gens/\Un (frs outer) [] H H' s.heap s'.heap/\HOk P w H' s'.heap/\RelV v u/\Q v H'
def CR(CX:CXT)(outer:List Env)(P:AR)(w:Bk)(H:Hp)(s:Af)(Q:VK)(E:XK)(r:Kh)(s':Af):Prop:=
 match r with
 | .ok (.ret u)=>CE outer P w H s Q u s'
 | .ok _=>False
 | .error e=>CX outer H s E e s'
structure Zap(P:AR)(w:Bk)(K:AN)(mg:Str->Option Value)(base:Bg)(CX:CXT)(k:Nat)(f:Addr)(fd:CH)(ps:List Str)(sp:Sp):Prop where
 len:∀vs H Q E,sp vs H Q E->vs.length=ps.length
 run:∀(A:Ba) (outer:List Env) (s:Af) (H:Hp) (args:Args) (us:List Value) (vs:List V) (Q:VK) (E:XK),Zcd k A->Xtv P w K mg base A outer s H->Gw s fd args (ps.zip us)->Yl vs us->sp vs H Q E->
  Dr (Aw P w) A (.call (.ref f) args) (CR CX outer P w H s Q E) s
variable{CX:CXT}{f:Addr}{fd:CH}{sp:Sp}
theorem Zap.imp{base:Bg}{k:Nat}{sp':Sp}(F:Zap P w K mg base CX k f fd ps sp)(h:∀vs H Q E,sp' vs H Q E->sp vs H Q E):Zap P w K mg base CX k f fd ps sp':=
 ⟨fun vs H Q E q=>F.len vs H Q E (h _ _ _ _ q),fun A outer s H args us vs Q E hr he hb hv hs=>F.run A outer s H args us vs Q E hr he hb hv (h _ _ _ _ hs)⟩
theorem Inv.env0(I:Inv X pins σ H s):Xtv X.prog X.w X.K X.mg X.base X.A X.stack s H:=⟨I.ok.frames,I.ok.mod,I.bs,AD I.ok.bsz I.sz,I.stack,I.stkFree,I.hok,I.bare⟩
theorem Inv.after{Q:VK}(I:Inv X pins σ H s)(h:CE X.stack X.prog X.w H s Q u s'):EP X pins σ Q u s':=by obtain⟨v,H',os,bare,un,hok,r,q⟩:=h;obtain⟨hh,g,d,t,os'⟩:=s';obtain rfl:os'=s.os:=os;exact⟨v,H',I.call (h':=hh) (g':=g) (d':=d) (t':=t) (ch:=[]) un hok bare (fun b z=>af z (by simp)),r,q⟩
def Zkj(sp:Sp)(dvs:List V)(E:XK)(t:TA):TE:=fun σ H Q=>t σ H fun vs H1=>sp (vs++dvs) H1 Q E
def Binds(K:AN)(fd:CH)(ps:List Str)(ds:List Value):Prop:=
 ∀(s:Af) (us:List Value),K.In s.heap->(us++ds).length=ps.length->Gw s fd ⟨us,[]⟩ (ps.zip (us++ds))
theorem Binds.all(h:∀us:List Value,us.length=ps.length->Ie fd ⟨us,[]⟩=pure (ps.zip us)):Binds K fd ps []:=fun s us _ hl=>by rw[Dy]at hl ⊢;exact .of_eq (h us hl)
def Zdk(CX:CXT)(X:Cx)(E:XK):Prop:=∀(pins:List (Addr×Obj)) (σ:St) (H:Hp) (s:Af) (e:Value) (s':Af),Inv X pins σ H s->CX X.stack H s E e s'->X.xe e s'
variable{E:XK}{ds:List Value}{dvs:List V}{k:Nat}
theorem Xyg{Q:VK}(F:Zap X.prog X.w X.K X.mg X.base CX k f fd ps sp)(hr:Zcd k X.A)(hb:Binds X.K fd ps ds)(hd:Yl dvs ds)(hx:Zdk CX X E)(I:Inv X pins σ H s)(r:Yl vs us)(h:sp (vs++dvs) H Q E):Ak (Aw X.prog X.w) X.A (call (.ref f) us) (EP X pins σ Q) X.xe s:=by
 have r2:Yl (vs++dvs) (us++ds):=r.append hd;have hl:(us++ds).length=ps.length:=by rw[<- r2.length];exact F.len _ _ _ _ h
 refine wpAny_call (G5 (F.run X.A X.stack s H ⟨us,[]⟩ (us++ds) (vs++dvs) Q E hr I.env0 (hb s us I.kIn hl) r2 h) fun r s' hq=>?_);cases r with
 |error e=>exact hx pins σ H s e s' I hq
 |ok fl =>
  cases fl with
  |ret u=>exact I.after hq
  |next=>exact False.elim hq
  |brk=>exact False.elim hq
  |cont=>exact False.elim hq
theorem Xos(F:Zap X.prog X.w X.K X.mg X.base CX k f fd ps sp)(hr:Zcd k X.A)(hg:Gl X x)(hm:X.mg x=ak (.ref f))(hk:Gi X.K (.ref f)=aq)(hb:Binds X.K fd ps ds)(hd:Yl dvs ds)(hx:Zdk CX X E)
  (ha:PA X (e::es) t) (hdb:(x==("__debug__":Str))=false:=by decide) (he:Ad (e::es) X.env=(ar,A6 e X.env)::Ad es X.env:=by rfl) (hpl:(BL pos (Ad es X.env)).any (·.1)=false:=by rfl) :
  PE X (.Call (.Name x p) (e::es) [] pos) (Zkj sp dvs E t):=by
 intro pins s σ H Q I h;refine Cs (Zju I hg hm ?_ hdb);refine PySem.W.callWith_K (h₀:=X.base) I.ok.mod.kin hk (thn (ha pos pins s σ H _ I h) fun us s1 ⟨vs,H1,I1,r,q⟩=>⟨I1.kIn,?_⟩) he hpl;exact Xyg F hr hb hd hx I1 r q
structure Mk(K:AN)(C f:Addr):Prop where
 makes:PySem.W.makesIn K C=aq
 init:CK K (.ref C) "__init__"=ak (ak (.ref f))
 fn:isFn K (.ref f)=aq
 kp:Gi K (.ref C)=aq
structure KBinds(K:AN)(fd:CH)(ps ks:List Str)(g:List Value->List Value->List Value)(gV:List V->List V->List V):Prop where
 to:∀(s:Af) (us ws:List Value),K.In s.heap->(g us ws).length=ps.length->Gw s fd ⟨us,ks.zip ws⟩ (ps.zip (g us ws))
 rel:∀{vs:List V} {us:List Value} {zs:List V} {ws:List Value},Yl vs us->Yl zs ws->Yl (gV vs zs) (g us ws)
structure Xc(N P:List Str)(sc:Scope):Prop where
 kind:sc.kind=.function
 co:sc.isCoroutine=ar
 gen:sc.isGenerator=ar
 nd:N.Nodup
 pre:N.take P.length=P
 par:∀x∈P,sc.names.lookup x=ak .local\/sc.names.lookup x=ak .cell
 nofree:∀y∈sc.names,y.2≠.free
theorem Zmz{CU:Str->Option Cz}{x:Str}:∀{binds:List (Str×Value)} {m:Str->Option Value},(∀v,(x,v)∉binds)->IZ CU binds m x=m x
 |[],_,_=>rfl
 |(n,v)::r,m,h=>by
  unfold IZ;rw[Zmz fun w hw=>h w (Cm _ hw)];split;have:x≠n:=by rintro rfl;exact h v Dc
  simp[this];rfl
theorem Zly{CU:Str->Option Cz}{x:Str}:∀{binds:List (Str×Value)} {m:Str->Option Value},(∀v,(x,v)∉binds)->I0 CU binds m x=m x
 |[],_,_=>rfl
 |(n,v)::r,m,h=>by
  unfold I0;rw[Zly fun w hw=>h w (Cm _ hw)];split;rfl;have:x≠n:=by rintro rfl;exact h v Dc
  simp[this]
theorem Znw{CU:Str->Option Cz}{x:Str}{v:Value}:∀{P:List Str} {vs:List Value} {i:Nat} {m:Str->Option Value},P.Nodup->P[i]?=ak x->vs[i]?=ak v->CU x=ak .local->
  IZ CU (P.zip vs) m x=ak v
 |[],_,_,_,_,h,_,_=>by simp at h
 |_::_,[],_,_,_,_,h,_=>by simp at h
 |p::P,w::vs,0,m,nd,h1,h2,hk=>by simp at h1 h2;subst h1;subst h2;show IZ CU ((p,w)::P.zip vs) m p=_;unfold IZ;rw[Zmz fun v hv=>(AB.mp nd).1 (C2 hv).1,aa hk];simp
 |p::P,w::vs,i+1,m,nd,h1,h2,hk=>by show IZ CU ((p,w)::P.zip vs) m x=_;unfold IZ;exact Znw (i:=i) (AB.mp nd).2 (by simpa using h1) (by simpa using h2) hk
theorem Zmn{CU:Str->Option Cz}{x:Str}{v:Value}:∀{P:List Str} {vs:List Value} {i:Nat} {m:Str->Option Value},P.Nodup->P[i]?=ak x->vs[i]?=ak v->CU x≠ak .local->
  I0 CU (P.zip vs) m x=ak v
 |[],_,_,_,_,h,_,_=>by simp at h
 |_::_,[],_,_,_,_,h,_=>by simp at h
 |p::P,w::vs,0,m,nd,h1,h2,hk=>by simp at h1 h2;subst h1;subst h2;show I0 CU ((p,w)::P.zip vs) m p=_;unfold I0;rw[Zly fun v hv=>(AB.mp nd).1 (C2 hv).1,ae hk];simp
 |p::P,w::vs,i+1,m,nd,h1,h2,hk=>by show I0 CU ((p,w)::P.zip vs) m x=_;unfold I0;exact Zmn (i:=i) (AB.mp nd).2 (by simpa using h1) (by simpa using h2) hk
def start(N:List Str)(vs:List V):St:=vs.map ak++Ab (N.length-vs.length) ao
def Zmw(CX:CXT)(P:AR)(w:Bk)(K:AN)(mg:Str->Option Value)(base:Bg)(N:List Str)(qual:Str)(scope:Scope)(f:Addr)(cd:Value)(A:Ba)(outer:List Env)(s:Af)(H:Hp)(E:XK):Cx where
 prog:=P
 w:=w
 K:=K
 mg:=mg
 base:=base
 A:=A.deeper (DT qual scope s.heap.objs.size f cd)
 N:=N
 s₀:=s
 H₀:=H
 env:=DT qual scope s.heap.objs.size f cd
 outer:=outer
 stack:=DT qual scope s.heap.objs.size f cd::outer
 ex:=[]
 calm:=aq
 fn:=fun _=>aq
 pn:=[]
 xe:=fun e s'=>Ak (Aw P w) (A.deeper (DT qual scope s.heap.objs.size f cd)) (Kc (DT qual scope s.heap.objs.size f cd) e) (fun _ s''=>CX outer H s E e s'') (fun e' s''=>CX outer H s E e' s'') s'
variable{sc:Scope}
theorem Zsb(h:sc.names.lookup x=ak .cell):∃c,(IY n sc.names []).lookup x=ak c:=by have q:=PySem.W.cellsFrom_some sc.names n [] (.inl h);exact Hh.mp q
variable{cd:Value}{scope:Scope}
theorem Xal{base:Bg}{s1:Af}(S:Xc N ps scope)(hd:A.handled=ao)(e0:Xtv P w K mg base A outer s H)(hl:vs.length=ps.length)(r:Yl vs us)(x:InCallC s s.heap.objs.size (IZ (DT qual scope s.heap.objs.size f cd).kindOf (ps.zip us) fun _=>ao) (IY (s.heap.objs.size+1) scope.names []) (I0 (DT qual scope s.heap.objs.size f cd).kindOf (ps.zip us) fun _=>ao) s1):Inv (Zmw CX P w K mg base N qual scope f cd A outer s H E) [] (start N vs) H s1:=by
  have hpl:ps.length<=N.length:=by have:=ah D8 S.pre;rw[BY]at this;omega
  obtain ⟨h1,tk,rfl,hk⟩:=x.done;have noA:∀b:Addr,b∉(Zmw CX P w K mg base N qual scope f cd A outer s H E).ex:=fun b z=>af (show b∈([]:List Addr) from z) (by simp);refine ⟨⟨e0.mod,S.kind,rfl,rfl,As _,fun y z c h1 h2=>?_,fun y hy=>?_,fun y c _ h=>?_,fun _=>hd,HN e0.frames,.inr ⟨rfl,rfl⟩,fun b z=>af z (noA b),e0.bs,e0.bsz,fun b _ _=>noA b,fun b z=>af z (noA b),e0.funs,e0.frf⟩,
    rfl,e0.bare,Un.kept hk,⟨_,x.toInCall.ns,fun i y v h1 h2 h3=>?_⟩,fun y c h=>⟨_,x.cell y c h⟩,e0.hok.fresh (As _),fun y c h=>?_,fun p hp=>af (show p∈([]:List (Addr×Obj)) from hp) (by simp),e0.hok.kept hk,?_⟩
  exact name_of_addr x.apart (PySem.mem_of_lookup h1) (PySem.mem_of_lookup h2);have hy:scope.names.lookup y=ak .cell\/scope.names.lookup y=ak .free:=hy;rcases hy with hy|hy;exact Zsb hy;exact af rfl (S.nofree _ (PySem.mem_of_lookup hy));exact HX (x.above y c (PySem.mem_of_lookup h));have hi:i<vs.length:=by unfold start at h2;by_cases hi:i<vs.length;exact hi;rw[Bs (by simpa using hi)]at h2;rw[DH]at h2;split at h2<;>cases h2
  have ha:vs[i]?=ak v:=by
    unfold start at h2;rw[AM (by simpa using hi),AS]at h2;cases e:vs[i]? with
    |none=>rw[e]at h2;cases h2
    |some a=>rw[e]at h2;cases h2;rfl
  obtain⟨u,hu,rv⟩:=r.get ha;have hp:ps[i]?=ak y:=by rw[<- S.pre,List.getElem?_take_of_lt (by omega)];exact h1
  have ndP:ps.Nodup:=by rw[<- S.pre];exact S.nd.sublist (List.take_sublist _ _)
  refine⟨u,rv,?_⟩;rcases S.par y (AO hp) with k|k;exact .inl ⟨k,Znw ndP hp hu k⟩;obtain⟨c,e⟩:=Zsb (n:=s.heap.objs.size+1) k;refine .inr ⟨.inl k,c,e,?_⟩;have q:=x.cell y c e;rw[Zmn ndP hp hu (by show scope.names.lookup y≠_;rw[k];decide)]at q;exact q;exact e0.hok.fresh (HX (x.above y c (PySem.mem_of_lookup h)));unfold start;show _=N.length;rw[Av,Ai,BN];omega
variable{E:Value->Af->Prop}{an od:Option Addr}{name:Str}{params:Ft}
theorem Xqw{base:Bg}{k:Nat}{dV kV doc pm cdv ct oc:Value}{osl:Array (Option Value)}{N ps:List Str}{sp:Sp}(lk:K.lookup f=ak ⟨oc,od,.func (fnOf name qual params body scope dV kV doc pm an cdv ct),osl⟩)(hcd:Hs K cdv qual=aq)(S:Xc N ps scope)(len:∀vs H Q E,sp vs H Q E->vs.length=ps.length)(hbody:∀(A:Ba) (outer:List Env) (s:Af) (H:Hp) (vs:List V) (Q:VK) (E:XK),Zcd k (A.deeper (DT qual scope s.heap.objs.size f cdv))->sp vs H Q E->∃t,PSs (Zmw CX P w K mg base N qual scope f cdv A outer s H E) body t/\t {nx:=fun _ H'=>Q .non H',rt:=Q} (start N vs) H):Zap P w K mg base CX (k+1) f (fnOf name qual params body scope dV kV doc pm an cdv ct) ps sp:=by
  refine⟨len,fun A outer s H args us vs Q E hr e0 hb r hsp=>?_⟩;have hl:=len _ _ _ _ hsp;have KX:K.In s.heap:=e0.mod.kin.keeps fun b o e=>(e0.bs b o e).1;have lim:s.heap.NoLimit:=e0.mod.nolimit.keeps fun b o e=>(e0.bs b o e).1;have hkind:∀y∈ps.zip us,scope.names.lookup y.1=ak .local\/(scope.names.lookup y.1=ak .cell/\((IY (s.heap.objs.size+1) scope.names []).lookup y.1).isSome=aq):=fun⟨n,v⟩ hy=>by
    rcases S.par n (C2 hy).1 with q|q
    · exact .inl q
    · exact .inr ⟨q,PySem.W.cellsFrom_some _ _ _ (.inl q)⟩
  refine codeAny_call_function hr.depth (KX _ _ lk) rfl S.co S.gen rfl (PySem.W.codeRec_of KX hcd) (hb _ _ _ _ ?_);refine wpAny_newFunctionEnv_cells S.kind hkind fun env he s1 x=>?_;subst he;refine⟨lim.keeps x.toInCall.keep,codeAny_func ?_⟩;obtain⟨t,ht,hq⟩:=hbody A outer s H vs Q E (hr.deeper _) hsp;have I:Inv (Zmw CX P w K mg base N qual scope f cdv A outer s H E) [] (start N vs) H s1:=Xal S hr.hd e0 hl r x;refine BF (ht [] s1 (start N vs) H _ I hq) (fun fl s' hs=>?_) fun e s' hs=>hs;have fin:∀{σ':St} {H':Hp} {v:V} {u:Value},Inv (Zmw CX P w K mg base N qual scope f cdv A outer s H E) [] σ' H' s'->RelV v u->Q v H'->CE outer P w H s Q u s':=fun {σ' H' v u} J rv q=>⟨v,H',J.os,J.bare,J.base,J.hok,rv,q⟩;cases fl with
  |ret u =>obtain⟨v,σ',H',J,rv,q⟩:=hs;exact fin J rv q
  |next =>obtain⟨σ',H',J,q⟩:=hs;exact fin (v:=V.non) (u:=BI) J rfl q
  |brk =>obtain⟨_,_,_,q⟩:=hs;exact False.elim q
  |cont =>obtain⟨_,_,_,q⟩:=hs;exact False.elim q
def tCB(r:List V->Hp->VK->Prop)(t:TA):TE:=fun σ H Q=>t σ H fun vs H1=>r vs H1 Q
variable{id:String}{r:List V->Hp->VK->Prop}
theorem Xek(hc:Zae X (.builtin id) r)(hg:Gl X x)(hm:X.mg x=ao)(hv:C3 x=ak (.builtin id))(ha:PA X (e::es) t)(hn:x≠"__name__":=by decide)(hdb:(x==("__debug__":Str))=false:=by decide)
  (he:Ad (e::es) X.env=(ar,A6 e X.env)::Ad es X.env:=by rfl) (hpl:(BL pos (Ad es X.env)).any (·.1)=false:=by rfl):PE X (.Call (.Name x p) (e::es) [] pos) (tCB r t):=by
 intro pins s σ H Q I h;refine Cs (Zdh I hg hm hv ?_ hn hdb);exact LV (thn (ha pos pins s σ H _ I h) fun us s1 ⟨vs,H1,I1,r1,q1⟩=>hc pins s1 σ H1 vs us Q I1 r1 q1) he hpl
variable{T:String}
theorem Zwk(hc:Zae X (.type T) r)(hg:Gl X x)(hm:X.mg x=ao)(hv:C3 x=ak (.type T))(ha:PA X (e::es) t)(hn:x≠"__name__":=by decide)(hdb:(x==("__debug__":Str))=false:=by decide)
  (he:Ad (e::es) X.env=(ar,A6 e X.env)::Ad es X.env:=by rfl) (hpl:(BL pos (Ad es X.env)).any (·.1)=false:=by rfl):PE X (.Call (.Name x p) (e::es) [] pos) (tCB r t):=by
 intro pins s σ H Q I h;refine Cs (Zdh I hg hm hv ?_ hn hdb);exact BC (thn (ha pos pins s σ H _ I h) fun us s1 ⟨vs,H1,I1,r1,q1⟩=>hc pins s1 σ H1 vs us Q I1 r1 q1) he hpl
end L2
namespace HT
open PySem PyProof.Rows
variable{A:Ba}{E Q:Value->Af->Prop}{hi lo o:Option Int}{items:Array Value}{n:Nat}{prog:AR}{s:Af}{sl:Addr}{v vl vu:Value}{vs ws:List Value}{w:Bk}
section
open PySem.SeqAt
open PySem.AutoSeq1 (wpAny_loadPart')
open PySem.MeetsSeq PySem.MeetsSeq2 PySem.MeetsSeq3
theorem cat_tup{t b:Addr}(ht:JR s.heap t vs.toArray)(hb:JR s.heap b ws.toArray)(hv:vs≠[])(h1:ws=[]->Q (.ref t) s)(h2:ws≠[]->Q (.ref s.heap.objs.size) {s with heap:=s.heap.push {cls:=.type "tuple",data:=.seq (vs++ws).toArray}})(hsz:vs.length+ws.length<=Ar):Ak (Aw prog w) A (Co .Add (.ref t) (.ref b)) Q E s:=by
 obtain⟨⟨cls,dd,data,sl⟩,ho,hc,n,hd⟩:=id ht;obtain⟨⟨cls2,dd2,data2,sl2⟩,ho2,hc2,n2,hd2⟩:=id hb;simp only at hc hd hc2 hd2;subst hc hd hc2 hd2;have e:vs.toArray++ws.toArray=(vs++ws).toArray:=by simp
 by_cases hw:ws=[];exact Kg ⟨_,ho,rfl⟩ ⟨_,ho2,rfl⟩ Hn II PySem.F.slot_tuple_add PySem.F.entry_tuple_add (PySem.F.args_tuple_add_2 _ _)
  (tuple_addW1 t b vs.toArray ws.toArray n n2 dd dd2 sl sl2 (by simpa using hv) (by simp[hw])) ⟨ho,ho2,h1 hw⟩
 refine Kg ⟨_,ho,rfl⟩ ⟨_,ho2,rfl⟩ Hn II PySem.F.slot_tuple_add PySem.F.entry_tuple_add (PySem.F.args_tuple_add_2 _ _)
  (tuple_addW2 t b vs.toArray ws.toArray n n2 dd dd2 sl sl2 (by simpa using hv) (by simpa using hw) (by rw[Ay,Ay];exact hsz)) ⟨ho,ho2,?_⟩
 rw[e];exact h2 hw
def sIx(n d:Nat):Option Int->Nat
 |none=>d
 |some v=>if v<0 then (v+(n:Int)).toNat else min v.toNat n
theorem Xwk(n d:Nat)(hd:d<=n)(o:Option Int):sIx n d o<=n:=by
 cases o with
 |none=>exact hd
 |some v =>show(if v<0 then (v+(n:Int)).toNat else min v.toNat n)<=n;by_cases hv:v<0;rw[aa hv];omega;rw[ae hv];exact KO _ _
theorem clip_eq(v:Int)(n d:Nat):(if v<0 then max (v+(n:Int)) 0 else min v (n:Int))=((sIx n d (ak v):Nat):Int):=by show(if v<0 then max (v+(n:Int)) 0 else min v (n:Int))=(((if v<0 then (v+(n:Int)).toNat else min v.toNat n):Nat):Int);by_cases hv:v<0;simp only[aa hv];omega;simp only[ae hv];omega
theorem Zuv(lo hi:Option Int)(n:Nat):D5 lo hi 1 (n:Int)=(((sIx n 0 lo:Nat):Int),((sIx n n hi:Nat):Int)):=by
 have h1:¬((1:Int)<0):=by omega
 unfold D5;simp only[h1,if_false];refine Prod.ext ?_ ?_;cases lo with
 |none=>rfl
 |some v=>exact clip_eq v n 0
 cases hi with
 |none=>rfl
 |some v=>exact clip_eq v n n
theorem Zum(i j:Nat):CY (i:Int) (j:Int) 1=j-i:=by
 unfold CY;have h1:(1:Int) > 0:=by omega
 simp only[h1,if_true,Int.ediv_one];split<;>omega
theorem Zjk{Q:Option Int->Af->Prop}(p:Ht v o)(h:Q o s):Ak (Aw prog w) A (LQ v) Q E s:=by
 cases p with
 |none=>exact Mh h
 |int i t=>exact slicePart_int h
theorem Zgg{Q:Int×Int×Nat->Af->Prop}(hs:s.heap.IsSliceOf sl vl vu .none)(pl:Ht vl lo)(pu:Ht vu hi)(h:Q (((sIx n 0 lo:Nat):Int),1,sIx n n hi-sIx n 0 lo) s):Ak (Aw prog w) A (FR (.ref sl) (pure (n:Int))) Q E s:=by
 obtain⟨os,hos,hcs,hds⟩:=id hs;unfold FR LR;refine Aa (Aa (Bq hos hds (x:=vl) rfl (Aa (Bq hos hds (x:=vu) rfl (Aa (Bq hos hds (x:=.none) rfl (Ac ?_)))))));refine Aa (Mh ?_);show Ak _ _ (if ((1:Int)==0)=aq then _ else _) _ _ s;rw[ae (by decide)];refine Aa (Zjk pl (Aa (Zjk pu (Aa (Ac ?_)))));show Ak _ _ (match D5 lo hi 1 (n:Int) with|(lo,hi)=>pure (lo,(1:Int),CY lo hi 1)) _ _ s;rw[Zuv lo hi n];show Ak _ _ (pure (((sIx n 0 lo:Nat):Int),(1:Int),CY ((sIx n 0 lo:Nat):Int) ((sIx n n hi:Nat):Int) 1)) _ _ s;rw[Zum];exact Ac h
theorem Xej(xs:Array Value)(i k:Nat):((AX k).filterMap fun(m:Nat)=>xs[((i:Int)+(m:Int)*1).toNat]?).toArray=((xs.toList.drop i).take k).toArray:=by
 have e:(fun(m:Nat)=>xs[((i:Int)+(m:Int)*1).toNat]?)=fun m=>xs[i+m]?:=by
  funext m;have:((i:Int)+(m:Int)*1).toNat=i+m:=by omega
  rw[this]
 rw[e];have:=pick_run xs i k;rw[List.filterMap_map]at this;have e2:((fun x=>xs[x]?)∘fun x=>i+x)=fun m=>xs[i+m]?:=rfl;rw[e2]at this;rw[this]
theorem getItem_tuple_cut{t:Addr}(ht:JR s.heap t items)(hs:s.heap.IsSliceOf sl vl vu .none)(pl:Ht vl lo)(pu:Ht vu hi)(hw:¬(sIx items.size 0 lo=0/\sIx items.size items.size hi=items.size))(h:Q (.ref s.heap.objs.size) {s with heap:=s.heap.push {cls:=.type "tuple",data:=.seq ((items.toList.drop (sIx items.size 0 lo)).take (sIx items.size items.size hi-sIx items.size 0 lo)).toArray}})(hsz:items.size<=Ar):Ak (Aw prog w) A (Gq (.ref t) (.ref sl)) Q E s:=by
  have htake:sizeOk (.seq ((items.toList.drop (sIx items.size 0 lo)).take (sIx items.size items.size hi-sIx items.size 0 lo)).toArray):=by show((items.toList.drop (sIx items.size 0 lo)).take (sIx items.size items.size hi-sIx items.size 0 lo)).toArray.size<=Ar;rw[Ay,BY,E6,BM];omega
  have hj:sIx items.size items.size hi<=items.size:=Xwk _ _ (As _) hi;obtain⟨os,hos,hcs,hds⟩:=id hs;have hTs:s.TypeIs (.ref sl) "slice":=⟨os,hos,hcs⟩;unfold Gq
  try with_reducible refine Bp ?_
  first|refine Aa (Ac ?_)|skip
  refine Aa (wpAny_sequenceKey ht.typeIs (by decide) ?_);refine Aa (Bw (name:=BB "__getitem__") ht.typeIs Dz
    (Bl Dz ht.typeIs entry_tuple_getitem ?_ (args_tuple_getitem _ _)))
  show Ak _ _ (LO (.ref t) >>= _) _ _ s;refine Aa (tupleItemsOf_ ht ?_);refine Aa (JZ hTs ?_);rw[aa (by decide)];refine Aa (Zgg hs pl pu ?_);have hno:¬((((sIx items.size 0 lo:Nat):Int)==0&&(1:Int)==1&&(sIx items.size items.size hi-sIx items.size 0 lo)==items.size)=aq):=by intro q;rw[AC,AC]at q;have q1:((sIx items.size 0 lo:Nat):Int)=0:=Fp q.1.1;have q2:sIx items.size items.size hi-sIx items.size 0 lo=items.size:=Fp q.2;exact hw ⟨by omega,by omega⟩
  show Ak _ _ (if (((sIx items.size 0 lo:Nat):Int)==0&&(1:Int)==1&&(sIx items.size items.size hi-sIx items.size 0 lo)==items.size)=aq then _ else _) _ _ s;rw[ae hno,Xej]
  first
    |exact Aa (m:=C5 _) (A9 (Ac ⟨_,rfl,Ac h⟩) htake)
    |exact Aa (m:=C5 _) (A9 (Aa (Ac (Ac ⟨_,rfl,Ac h⟩))) htake)
    |exact Aa (Aa (m:=C5 _) (A9 (Ac (Ac ⟨_,rfl,Ac h⟩)) htake))
    |exact Aa (Aa (m:=C5 _) (A9 (Ac ⟨_,rfl,Ac h⟩) htake))
end
end HT
namespace L2
open PySem PySem.Spec PyProof.Rows
abbrev TO:=St->Hp->(Option Int->Hp->Prop)->Prop
variable{H:Hp}{pins:List (Addr×Obj)}{s:Af}{σ:St}
def PO(X:Cx)(e:Option Expr)(t:TO):Prop:=
 ∀(pins:List (Addr×Obj)) (s:Af) (σ:St) (H:Hp) (Q:Option Int->Hp->Prop),Inv X pins σ H s->t σ H Q->
  Ak (Aw X.prog X.w) X.A (evalPart e X.env) (fun u s'=>∃o H',Inv X pins σ H' s'/\Ht u o/\Q o H') X.xe s
def Zll:TO:=fun _ H Q=>Q ao H
variable{i:Int}
def Xdg(t:TE):TO:=fun σ H Q=>t σ H fun x H1=>∃i,x=.int i/\Q (ak i) H1
variable{ns:List Int}{us:List Value}
theorem intsAre_of :∀{us:List Value},Yl (ns.map V.int) us->Gs us ns:=by
 induction ns with
 |nil=>intro us r;rw[Ls]at r;cases r;exact .nil
 |cons n ns ih =>
  intro us r;rw[AZ]at r;cases r with
  |cons r1 r2 =>obtain⟨t,e⟩:=r1;subst e;exact .cons n t (ih r2)
variable{X:Cx}
theorem Xof:PO X ao Zll:=by intro pins s σ H Q I h;rw[IK];exact Ac ⟨ao,H,I,.none,h⟩
variable{e:Expr}{te:TE}
theorem Xmc(h:PE X e te):PO X (ak e) (Xdg te):=by intro pins s σ H Q I hw;rw[Mx];refine thn (h pins s σ H _ I hw) fun u s1 hz9=>?_;obtain⟨x,H1,I1,r1,q1⟩:=hz9;obtain⟨i,rfl,q⟩:=q1;obtain⟨t,rfl⟩:=r1;exact⟨ak i,H1,I1,.int i t,q⟩
variable{T:String}{hi lo:Option Expr}{v:Value}
def SlR(X:Cx)(r:V->Option Int->Option Int->Hp->VK->Prop):Prop:=
 ∀(pins:List (Addr×Obj)) (s:Af) (σ:St) (H:Hp) (x:V) (v vl vu:Value) (lo hi:Option Int) (sl:Addr) (Q:VK),Inv X pins σ H s->RelV x v->s.heap.IsSliceOf sl vl vu .none->Ht vl lo->Ht vu hi->r x lo hi H Q->
  ∃T id,HR (.type T) "__getitem__"=pure (ak (.builtin id))/\s.TypeIs v T/\Ak (Aw X.prog X.w) X.A (Gq v (.ref sl)) (EP X pins σ Q) X.xe s
def tSl(r:V->Option Int->Option Int->Hp->VK->Prop)(te:TE)(tl th:TO):TE:=fun σ H Q=>te σ H fun x H1=>tl σ H1 fun l H2=>th σ H2 fun u H3=>r x l u H3 Q
variable{p2 pos:Pos}{th tl:TO}
theorem Xgg{r:V->Option Int->Option Int->Hp->VK->Prop}(hr:SlR X r)(he:PE X e te)(hl:PO X lo tl)(hu:PO X hi th):PE X (.Subscript e (.Slice lo hi ao p2) pos) (tSl r te tl th):=by intro pins s σ H Q I h;refine Ii (thn (he pins s σ H _ I h) fun v s1 hz9=>?_);obtain⟨x,H1,I1,r1,q1⟩:=hz9;refine wpAny_Slice (thn (hl pins s1 σ H1 _ I1 q1) fun vl s2 ⟨l,H2,I2,pl,q2⟩=>thn (hu pins s2 σ H2 _ I2 q2) fun vu s3 ⟨u,H3,I3,pu,q3⟩=>?_);rw[IK];refine Ac ?_;have I4:Inv X pins σ H3 {s3 with heap:=s3.heap.push {cls:=.type "slice",data:=.fields #[vl,vu,.none]}}:=I3.kept (t':=s3.toks) fun b ob q=>Ae _ q;obtain⟨T,id,hT,ht,hg⟩:=hr pins {s3 with heap:=s3.heap.push {cls:=.type "slice",data:=.fields #[vl,vu,.none]}} σ H3 x v vl vu l u s3.heap.objs.size Q I4 r1 (GW ..) pl pu q3;show Ak (Aw X.prog X.w) X.A (GG e (.Slice lo hi ao p2) v (.ref s3.heap.objs.size)) (EP X pins σ Q) X.xe {s3 with heap:=s3.heap.push {cls:=.type "slice",data:=.fields #[vl,vu,.none]}};exact Mg (ops:=[.ref s3.heap.objs.size,v]) ht hT hg (by with_unfolding_all rfl)
def cutV(xs:List V)(lo hi:Option Int):List V:=(xs.drop (HT.sIx xs.length 0 lo)).take (HT.sIx xs.length xs.length hi-HT.sIx xs.length 0 lo)
theorem Zhh(xs:List V)(lo hi:Option Int):(cutV xs lo hi).length<=xs.length:=by unfold cutV;rw[BY,E6];omega
variable{p:Addr}{xs:List V}
def rSlT(K:AN):V->Option Int->Option Int->Hp->VK->Prop:=fun x lo hi H Q=>∃a xs,x=.ref a/\SqT K H a xs/\
 ¬(HT.sIx xs.length 0 lo=0/\HT.sIx xs.length xs.length hi=xs.length)/\∀p,H p=ao->Q (.ref p) (upd H p (.tup (cutV xs lo hi)))
theorem Xxn:SlR X (rSlT X.K):=by
 intro pins s σ H x v vl vu lo hi sl Q I rx hs pl pu h;obtain⟨a,xs,rfl,hx,hw,q⟩:=h;cases rx;obtain⟨its,r,ht,hz⟩:=I.tuple hx;have hlen:its.toArray.size=xs.length:=by rw[Ay];exact r.length.symm
 refine⟨"tuple",_,Dz.lookup,ht.typeIs,?_⟩;refine HT.getItem_tuple_cut ht hs pl pu (by rw[hlen];exact hw) ?_ (by rw[hlen];exact hz);rw[hlen];refine⟨.ref s.heap.objs.size,_,I.laid (t':=s.toks) (o:=.tup (cutV xs lo hi)) (fun b ob q=>Ae _ q) (As _) ?_,rfl,q _ (I.hok.fresh (As _))⟩;exact⟨AD (Zhh xs lo hi) hz,_,(r.drop (HT.sIx xs.length 0 lo)).take (HT.sIx xs.length xs.length hi-HT.sIx xs.length 0 lo),L4 _ _⟩
theorem Yl.nil_iff(r:Yl xs us):us=[]↔xs=[]:=by
 cases r with
 |nil=>simp
 |cons _ _=>simp
def ixN(n:Nat)(i:Int):Option Nat:=if 0<=i then (if i<n then ak i.toNat else ao) else if -(n:Int)<=i then ak (i+n).toNat else ao
variable{j:Nat}
def atI{α:Type}(xs:List α)(i:Int):Option α:=(ixN xs.length i).bind fun j=>xs[j]?
variable{n:Nat}
theorem Zpr(h:ixN n i=ak j):LF i n=ak j/\j<n/\-(n:Int)<=i/\i<n:=by unfold ixN at h;by_cases h0:0<=i;rw[aa h0]at h;by_cases h1:i<n;rw[aa h1]at h;have e:i.toNat=j:=AE h;exact⟨by rw[KH h0 h1,e],by omega,by omega,h1⟩;rw[ae h1]at h;cases h;rw[ae h0]at h;by_cases h1:-(n:Int)<=i;rw[aa h1]at h;have e:(i+n).toNat=j:=AE h;exact⟨by rw[J8 (by omega) h1,e],by omega,h1,by omega⟩;rw[ae h1]at h;cases h
variable{α:Type}
theorem Zdo{xs:List α}{v:α}(h:atI xs i=ak v):∃j,LF i xs.length=ak j/\xs[j]?=ak v/\j<xs.length/\-(xs.length:Int)<=i/\i<xs.length:=by
 unfold atI at h;cases e:ixN xs.length i with
 |none=>rw[e]at h;cases h
 |some j =>rw[e]at h;obtain⟨h1,h2,h3,h4⟩:=Zpr e;exact⟨j,h1,h,h2,h3,h4⟩
def Zcg(b:Expr):Prop:=∀o i,Hx b ar o i=operate [o,i] (Gq o i)
def IxR(X:Cx)(r:R2):Prop:=
 ∀(value slice:Expr) (pins:List (Addr×Obj)) (s:Af) (σ:St) (H:Hp) (x y:V) (v u:Value) (Q:VK),Inv X pins σ H s->RelV x v->RelV y u->r x y H Q->
  Hx slice ar v u=operate [v,u] (Gq v u)->Ak (Aw X.prog X.w) X.A (GG value slice v u) (EP X pins σ Q) X.xe s
def MtR(X:Cx)(id:String)(r:V->List V->Hp->VK->Prop):Prop:=
 ∀(pins:List (Addr×Obj)) (s:Af) (σ:St) (H:Hp) (x:V) (xs:List V) (v:Value) (us:List Value) (Q:VK),Inv X pins σ H s->RelV x v->Yl xs us->r x xs H Q->
  Ak (Aw X.prog X.w) X.A (call (.builtin id) (v::us)) (EP X pins σ Q) X.xe s
theorem IxR.or{r r':R2}(h:IxR X r)(h':IxR X r'):IxR X (fun x y H Q=>r x y H Q\/r' x y H Q):=by intro value slice pins s σ H x y v u Q I rx ry q hs;rcases q with q|q;exact h value slice pins s σ H x y v u Q I rx ry q hs;exact h' value slice pins s σ H x y v u Q I rx ry q hs
variable{a b:Expr}{ta tb:TE}
theorem pe_ix{r:R2}(hr:IxR X r)(ha:PE X a ta)(hb:PE X b tb)(hs:Zcg b):PE X (.Subscript a b pos) (tOp r ta tb):=by intro pins s σ H Q I h;exact Ii (binT ha hb I h fun v u s2 x y H2 I2 rx ry q=>hr a b pins s2 σ H2 x y v u Q I2 rx ry q (hs _ _))
def rIxL(K:AN):R2:=fun x y H Q=>∃p xs i v,x=.ref p/\y=.int i/\SqL K H p xs/\atI xs i=ak v/\Q v H
def rIxT(K:AN):R2:=fun x y H Q=>∃p xs i v,x=.ref p/\y=.int i/\SqT K H p xs/\atI xs i=ak v/\Q v H
def rIxS:R2:=fun x y H Q=>∃z i c,x=.str z/\y=.int i/\z.length<=Ar/\atI z.cps.toList i=ak c/\Q (.str ⟨#[c]⟩) H
theorem Xmz:IxR X (rIxL X.K):=by
 intro value slice pins s σ H x y v u Q I rx ry h hs;obtain⟨p,xs,i,z,rfl,rfl,hq,he,q⟩:=h;cases rx;obtain⟨t,rfl⟩:=ry;obtain⟨its,r,pl,hz⟩:=I.list hq;obtain⟨j,h1,h2,h3,h4,h5⟩:=Zdo he;obtain⟨w,ew,rw'⟩:=r.get h2;have hl:=r.length;have hn:=Zii;have fin:EP X pins σ Q w s:=⟨z,H,I,rw',q⟩;by_cases h0:0<=i;have hj:i.toNat=j:=by rw[KH h0 h5]at h1;exact AE h1
 exact item_listR pl.isList h0 (by omega) (by rw[hj];simpa using ew) fin hs;have hj:(i+(its.toArray.size:Int)).toNat=j:=by rw[J8 (by omega) h4]at h1;rw[Ay,<- hl];exact AE h1
 exact J7 (x:=w) pl.isList.typeIs G0.lookup
  (wpAny_getItem_list_neg (Q:=fun r s'=>r=w/\EP X pins σ Q r s') pl.isList (by omega) (by rw[Ay]<;>omega) (by omega) (by rw[hj];simpa using ew) ⟨rfl,fin⟩) hs
theorem Xxz:IxR X (rIxT X.K):=by
 intro value slice pins s σ H x y v u Q I rx ry h hs;obtain⟨p,xs,i,z,rfl,rfl,hq,he,q⟩:=h;cases rx;obtain⟨t,rfl⟩:=ry;obtain⟨its,r,pl,hz⟩:=I.tuple hq;obtain⟨j,h1,h2,h3,h4,h5⟩:=Zdo he;obtain⟨w,ew,rw'⟩:=r.get h2;have hl:=r.length;have hn:=Zii;have fin:EP X pins σ Q w s:=⟨z,H,I,rw',q⟩;exact J7 (x:=w) pl.typeIs slot_tuple_getitem.lookup
  (getItem_tuple (j:=j) (Q:=fun r s'=>r=w/\EP X pins σ Q r s') pl (by omega) (by omega) (by rw[Ay,<- hl];exact h1) (by simpa using ew) ⟨rfl,fin⟩) hs
theorem Xux:IxR X rIxS:=by
  intro value slice pins s σ H x y v u Q I rx ry h hs;obtain⟨z,i,c,rfl,rfl,hz,he,q⟩:=h;obtain⟨t,rfl⟩:=rx;obtain⟨t',rfl⟩:=ry;obtain⟨j,h1,h2,h3,h4,h5⟩:=Zdo he;have hl:z.cps.toList.length=z.length:=by simp[Str.length]
  rw [hl] at h1 h4 h5;have hn:=Zii;exact Mg (typeIs_str s z t) slot_str_getitem.lookup (getItem_str (c:=c) (by
    have e1:decide (i < -(2^63:Int))=false:=ai (by omega);have e2:decide (i>=2^63)=false:=ai (by omega);rw [e1,e2,Ln]) (by rw [h1];simpa using h2) ⟨.str ⟨#[c]⟩,H,I.tok _,⟨_,rfl⟩,q⟩) hs
def rIx(K:AN):R2:=fun x y H Q=>rIxL K x y H Q\/rIxT K x y H Q\/rIxS x y H Q
theorem Xue:IxR X (rIx X.K):=Xmz.or (Xxz.or Xux)
theorem Ztq(its:List Value)(n j:Nat)(u:Value):Bc (·.setIfInBounds j u) {cls:=.type "list",data:=.seq its.toArray n}={cls:=.type "list",data:=.seq (its.set j u).toArray n}:=by simp[Bc]
variable{its:List Value}
theorem Inv.lst{pins:List (Addr×Obj)}{σ:St}{H:Hp}{s:Af}{p:Addr}{xs:List V}(I:Inv X pins σ H s)(h:H p=ak (.lst xs)):∃(its:List Value) (n:Nat),Yl xs its/\s.heap.get? p=ak {cls:=.type "list",data:=.seq its.toArray n}/\xs.length<=Ar:=by
 obtain⟨z,its,n,r,e⟩:=I.hok p _ h;exact⟨its,n,r,e,z⟩
variable{its':List Value}{ys:List V}
theorem Inv.lstUpd{n':Nat}{f:Obj->Obj}(I:Inv X pins σ H s)(h:H p=ak (.lst xs))(ho:s.heap.get? p=ak {cls:=.type "list",data:=.seq its.toArray n})(hf:f {cls:=.type "list",data:=.seq its.toArray n}={cls:=.type "list",data:=.seq its'.toArray n'})(r:Yl ys its')(hz:ys.length<=Ar)(t:Nat):Inv X pins σ (upd H p (.lst ys)) {s with heap:=s.heap.update p f,toks:=t}:=by
 have e:(s.heap.update p f).get? p=ak {cls:=.type "list",data:=.seq its'.toArray n'}:=by rw[Cb f ho (by rw[hf]<;>rfl),hf]
 refine I.write (x:=p) (e:=p) (by rw[h];trivial) (.inl rfl) (fun b u hb q=>(BP _ _ (Ne.symm hb)).trans q) ⟨_,e⟩ ?_;exact⟨hz,its',n',r,e⟩
def Xlx:V->V->V->Hp->(Hp->Prop)->Prop:=fun o i v H Q=>∃p xs k j,o=.ref p/\i=.int k/\H p=ak (.lst xs)/\ixN xs.length k=ak j/\Q (upd H p (.lst (xs.set j v)))
theorem set_list:PSet X Xlx:=by
 intro pins s σ H o i v ov iv u Q I ro ri rv h;obtain⟨p,xs,k,j,rfl,rfl,hp,hj,q⟩:=h;cases ro;obtain⟨t,rfl⟩:=ri;obtain⟨its,n,r,ho,hz⟩:=I.lst hp;obtain⟨h1,h2,h3,h4⟩:=Zpr hj;have hl:=r.length;have hn:=Zii;have I':Inv X pins σ (upd H p (.lst (xs.set j v))) {s with heap:=s.heap.update p (Bc (·.setIfInBounds j u))}:=I.lstUpd hp ho (Ztq its n j u) (r.set rv j) (by rw[Dx];exact hz) s.toks;by_cases h0:0<=k;have hk:k.toNat=j:=by rw[KH h0 h4]at h1;exact AE h1
 exact PySem.W.ki_setAt ho h0 (by omega) (by rw[Ay,<- hl];exact h4) (by rw[hk];exact⟨_,I',q⟩);have hk:(k+(its.toArray.size:Int)).toNat=j:=by rw[J8 (by omega) h3]at h1;rw[Ay,<- hl];exact AE h1
 exact PySem.W.ki_setBack ho (by omega) (by rw[Ay,<- hl];exact h3) (by omega) (by rw[hk];exact⟨_,I',q⟩)
theorem Zmy(lo hi:Option Int)(n:Nat):(Em lo hi ao n).1=((HT.sIx n 0 lo:Nat):Int)/\(Em lo hi ao n).2.1=((HT.sIx n n hi:Nat):Int)/\(Em lo hi ao n).2.2=1:=by
 refine⟨?_,?_,rfl⟩;cases lo with
 |none=>simp[Em,HT.sIx]
 |some i =>simp only[Em,HT.sIx,JF,show(1:Int) > 0 by decide,if_true];by_cases h:i<0;simp only[h,if_true]<;>omega;simp only[h,if_false]<;>omega
 cases hi with
 |none=>simp[Em,HT.sIx]
 |some i =>simp only[Em,HT.sIx,JF,show(1:Int) > 0 by decide,if_true];by_cases h:i<0;simp only[h,if_true]<;>omega;simp only[h,if_false]<;>omega
theorem Zkr(its:List Value)(lo hi:Option Int):slicePick its.toArray lo hi ao=((its.drop (HT.sIx its.length 0 lo)).take (HT.sIx its.length its.length hi-HT.sIx its.length 0 lo)).toArray:=by obtain⟨h1,h2,h3⟩:=Zmy lo hi its.toArray.size;unfold slicePick;rw[h1,h2,h3];simp only[sliceRange_one,pick_run,Ay]<;>rfl
def Xrh(K:AN):V->Option Int->Option Int->Hp->VK->Prop:=fun x lo hi H Q=>∃a xs,x=.ref a/\SqL K H a xs/\∀p,H p=ao->Q (.ref p) (upd H p (.lst (cutV xs lo hi)))
theorem Zvu:SlR X (Xrh X.K):=by intro pins s σ H x v vl vu lo hi sl Q I rx hs pl pu h;obtain⟨a,xs,rfl,hx,q⟩:=h;cases rx;obtain⟨its,r,ht,hz⟩:=I.list hx;have hlen:=r.length;refine⟨"list",_,G0.lookup,ht.isList.typeIs,?_⟩;refine IG ht.isList hs pl pu .none (by simp) ?_ (by rw[Ay]<;>omega);rw[Zkr,<- hlen];refine⟨.ref s.heap.objs.size,_,I.laid (t':=s.toks) (o:=.lst (cutV xs lo hi)) (fun b ob q=>Ae _ q) (As _) ?_,rfl,q _ (I.hok.fresh (As _))⟩;exact⟨AD (Zhh xs lo hi) hz,_,0,(r.drop (HT.sIx xs.length 0 lo)).take (HT.sIx xs.length xs.length hi-HT.sIx xs.length 0 lo),Au _ rfl⟩
theorem Znu:Zae X (.builtin "len") (fun xs H Q=>∃p ys,xs=[.ref p]/\(SqL X.K H p ys\/SqT X.K H p ys)/\Q (.int ys.length) H):=by intro pins s σ H xs us Q I r h;obtain⟨p,ys,rfl,hq,q⟩:=h;obtain⟨u,rfl,rx⟩:=vals1 r;cases rx;have hn:=Zii;rcases hq with hq|hq;obtain⟨its,r',pl,hz⟩:=I.list hq;have hlen:=r'.length;exact Calls.call_len_list pl.isList (by simp only[Ay]<;>omega) ⟨.int ys.length,H,I.tok _,⟨s.toks+1,by rw[Ay,hlen]⟩,q⟩;obtain⟨its,r',pl,hz⟩:=I.tuple hq;have hlen:=r'.length;exact len_tuple pl (by simp only[Ay]<;>omega) ⟨.int ys.length,H,I.tok _,⟨s.toks+1,by rw[Ay,hlen]⟩,q⟩
theorem Zlu:Zae X (.builtin "len") (fun xs H Q=>∃z,xs=[.str z]/\z.length<=Ar/\Q (.int z.length) H):=by intro pins s σ H xs us Q I r h;obtain⟨z,rfl,hz,q⟩:=h;obtain⟨u,rfl,t,rfl⟩:=vals1 r;have hn:=Zii;exact len_str (by omega) ⟨.int z.length,H,I.tok _,⟨_,rfl⟩,q⟩
variable{r':List V->Hp->VK->Prop}
theorem Zae.or{f:Value}{r:List V->Hp->VK->Prop}(h:Zae X f r)(h':Zae X f r'):Zae X f (fun xs H Q=>r xs H Q\/r' xs H Q):=by intro pins s σ H xs us Q I rs q;rcases q with q|q;exact h pins s σ H xs us Q I rs q;exact h' pins s σ H xs us Q I rs q
theorem Znh:Zae X (.type "list") (fun xs H Q=>∃p ys,xs=[.ref p]/\(SqL X.K H p ys\/SqT X.K H p ys)/\∀l,H l=ao->Q (.ref l) (upd H l (.lst ys))):=by
 intro pins s σ H xs us Q I r h;obtain⟨p,ys,rfl,hq,q⟩:=h;obtain⟨u,rfl,rx⟩:=vals1 r;cases rx;have fin:∀(its:List Value),Yl ys its->ys.length<=Ar->∀(h':Bg) (c':Nat),(∀b o',s.heap.get? b=ak o'->h'.get? b=ak o')->
   h'.get? s.heap.objs.size=ak {cls:=.type "list",dict:=ao,data:=.seq its.toArray c',slots:=#[]}->EP X pins σ Q (.ref s.heap.objs.size) {s with heap:=h'}:=fun its r' hz h' c' kp e =>
  ⟨.ref s.heap.objs.size,_,I.laid (t':=s.toks) kp (As _) (show Je X.prog X.w _ h' _ (.lst ys) from⟨hz,its,c',r',e⟩),rfl,q _ (I.hok.fresh (As _))⟩
 rcases hq with hq|hq;obtain⟨its,r',pl,hz⟩:=I.list hq;have hlen:=r'.length;obtain⟨o,ho,hc,n,hd⟩:=pl.isList;exact My p (.inl rfl) ho hc hd (fun h' c' kp e=>fin its r' hz h' c' kp e) (by simp only[Ay]<;>omega);obtain⟨its,r',pl,hz⟩:=I.tuple hq;have hlen:=r'.length;obtain⟨o,ho,hc,n,hd⟩:=pl;exact My p (.inr rfl) ho hc hd (fun h' c' kp e=>fin its r' hz h' c' kp e) (by simp only[Ay]<;>omega)
def tyV(K:AN)(T:String)(x:V)(H:Hp):Prop:=match x with
 | .str _=>T="str"
 | .int _=>T="int"
 | .ref p=>(T="list"/\∃xs,SqL K H p xs)\/(T="tuple"/\∃o,K.lookup p=ak o/\o.cls=.type "tuple"/\o.dict=ao)\/
   (T="dict"/\((∃kvs,H p=ak (.dK kvs))\/∃kvs,H p=ak (.dT kvs)))\/(T="set"/\∃S n,H p=ak (.set S n))
 |_=>False
theorem Xtr{x:V}(I:Inv X pins σ H s)(r:RelV x v)(ty:tyV X.K T x H):s.TypeIs v T/\∀a,v=.ref a->∃ob,s.heap.get? a=ak ob/\ob.dict=none:=by
 cases x with
 |str z =>obtain⟨t,rfl⟩:=r;cases (show T="str" from ty);exact⟨typeIs_str s z t,fun _ e=>nomatch e⟩
 |int i =>obtain⟨t,rfl⟩:=r;cases (show T="int" from ty);exact⟨Lb s i t,fun _ e=>nomatch e⟩
 |ref p =>
  cases r;rcases ty with⟨rfl,xs,hq⟩|⟨rfl,o,hk,hc,hd⟩|⟨rfl,hk⟩|⟨rfl,S,n,hk⟩;obtain⟨its,_,pl,_⟩:=I.list hq;refine⟨pl.isList.typeIs,fun a e=>?_⟩;cases e;obtain⟨o,n,e,c,hd,_⟩:=pl;exact⟨o,e,hd⟩;refine⟨⟨o,I.kIn p o hk,hc⟩,fun a e=>?_⟩;cases e;exact⟨o,I.kIn _ o hk,hd⟩;have z:∃o,s.heap.get? p=ak o/\o.ExactDict:=by rcases hk with⟨kvs,hk⟩|⟨kvs,hk⟩;obtain⟨_,_,_,_,o,_,_,e,ex,_⟩:=I.hok p _ hk;exact⟨o,e,ex⟩;obtain⟨_,_,_,_,o,_,_,e,ex,_⟩:=I.hok p _ hk;exact⟨o,e,ex⟩
  obtain⟨o,e,ex⟩:=z;refine⟨⟨o,e,ex.1⟩,fun a e2=>?_⟩;cases e2;exact⟨o,e,ex.2.1⟩;obtain⟨o,_,_,_,e,ex,_⟩:=I.hok p _ hk;refine⟨⟨o,e,ex.1⟩,fun a e2=>?_⟩;cases e2;exact⟨o,e,ex.2.1⟩
 |_=>exact False.elim ty
def tBM(K:AN)(T:String)(r:V->List V->Hp->VK->Prop)(to:TE)(t:TA):TE:=fun σ H Q=>to σ H fun x H1=>tyV K T x H1/\t σ H1 fun xs H2=>r x xs H2 Q
variable{apos cpos:Pos}{es:List Expr}{id:String}{name:Str}{o:Expr}{r:V->List V->Hp->VK->Prop}{t:TA}{to:TE}
theorem pe_bm(pa:PlainAttrs T)(slot:Slot T name id)(hty:La (.builtin id)=pure (.type "method_descriptor"))(hm:MtR X id r)(ho:PE X o to)(ha:PA X (e::es) t)
    (hbase:Dh o name X.env (A6 o X.env)=A6 o X.env:=by rfl)
    (hfew:((BL cpos (Ad (e::es) X.env)).all (fun x=>!x.1)&&(Fq cpos (DV [] X.env)).all (fun x=>x.1.isSome)
      && decide ((e::es).length+([]:List CP).length+(if ([]:List CP).isEmpty then 0 else 1)<30))=true:=by rfl)
    (hline:(apos.endLine==cpos.line)=true:=by rfl) (hs:Ad (e::es) X.env=(ar,A6 e X.env)::Ad es X.env:=by rfl) (hplain:(BL cpos (Ad es X.env)).any (·.1)=false:=by rfl) :
    PE X (.Call (.Attribute o name apos) (e::es) [] cpos) (tBM X.K T r to t):=by
  intro pins s σ H Q I h;refine wpAny_Call_method_late hbase hfew hline rfl (thn (ho pins s σ H _ I h) fun v s1 hz9=>?_);obtain⟨x,H1,I1,r1,ty,q1⟩:=hz9;obtain⟨h1,h2⟩:=Xtr I1 r1 ty;refine⟨T,id,pa,slot,hty,h1,h2,?_⟩;have hA:=ha cpos pins s1 σ H1 _ I1 q1;rw[hs]at hA ⊢;refine HI (by show(ar||(BL cpos (Ad es X.env)).any (·.1))=ar;rw[hplain]<;>rfl) (Iw ?_);exact thn hA fun us s2 ⟨vs,H2,I2,r2,q2⟩=>hm pins s2 σ H2 x vs v us Q I2 r1 r2 q2
def MtM(X:Cx)(id:String)(r:V->List V->Hp->VK->Prop):Prop:=
 ∀(pins:List (Addr×Obj)) (s:Af) (σ:St) (H:Hp) (x:V) (xs:List V) (v:Value) (us:List Value) (Q:VK),Inv X pins σ H s->RelV x v->Yl xs us->r x xs H Q->
  Ak (Aw X.prog X.w) X.A (call (.builtin id) (v::us)) (EP X pins σ Q) X.xe s
theorem Yl.one:∀{x:V} {us:List Value},Yl [x] us->∃u,us=[u]/\RelV x u
 |_,_,.cons r .nil=>⟨_,rfl,r⟩
theorem Yl.zero:∀{us:List Value},Yl [] us->us=[]
 |_,.nil=>rfl
theorem Yl.reverse{xs:List V}{us:List Value}(h:Yl xs us):Yl xs.reverse us.reverse:=by
 induction h with
 |nil=>exact .nil
 |cons r t ih=>rw[DB,DB];exact Yl.append ih (.cons r .nil)
theorem Yl.rep{xs:List V}{us:List Value}(h:Yl xs us):∀k:Nat,Yl (Ab k xs).flatten (Ab k us).flatten
 |0=>.nil
 |k+1=>by rw[Bn,Bn,B7,B7];exact Yl.append h (Yl.rep h k)
theorem foldl_rep(its:List Value):∀(k:Nat) (acc:List Value),
  JL (fun x1 x2=>x1++x2) acc.toArray (Ab k its.toArray)=(acc++(Ab k its).flatten).toArray
 |0,acc=>by simp
 |k+1,acc=>by
  have e:acc.toArray++its.toArray=(acc++its).toArray:=by simp
  have e2:(acc++its)++(Ab k its).flatten=acc++(Ab (k+1) its).flatten:=by rw[Bn,B7,DE]
  rw[<- e2,<- foldl_rep its k (acc++its),<- e,Bn,Ec]
variable{f:Array Value->Array Value}{l:Addr}{t':Nat}
theorem Inv.lset(I:Inv X pins σ H s)(hH:H l=ak (.lst xs))(e:s.heap.get? l=ak {cls:=.type "list",data:=.seq its.toArray n})(hf:f its.toArray=its'.toArray)(hv:Yl ys its')(hz:ys.length<=Ar):Inv X pins σ (upd H l (.lst ys)) {s with heap:=s.heap.update l (Bc f),toks:=t'}:=by
 have q:=PySem.IsL.update e f;rw[hf]at q;refine I.write (x:=l) (e:=l) (by rw[hH];exact trivial) (.inl rfl) (fun b' u hb hu=>(BP s.heap (Bc f) (Ne.symm hb)).trans hu) ⟨_,q⟩ ?_;exact⟨hz,its',_,hv,q⟩
theorem Inv.lnew(I:Inv X pins σ H s)(hv:Yl ys its)(hz:ys.length<=Ar):Inv X pins σ (upd H s.heap.objs.size (.lst ys)) {s with heap:=s.heap.push {cls:=.type "list",data:=.seq its.toArray},toks:=t'}:=
 I.laid (fun _ _ q=>Ae _ q) (As _) ⟨hz,its,0,hv,Au _ rfl⟩
theorem Inv.fresh(I:Inv X pins σ H s):H s.heap.objs.size=none:=I.hok.fresh (As _)
theorem Inv.lstM(I:Inv X pins σ H s)(hH:H l=ak (.lst xs)):xs.length<=Ar/\∃(its:List Value) (n:Nat),Yl xs its/\xs.length=its.length/\s.heap.get? l=ak {cls:=.type "list",data:=.seq its.toArray n}:=by obtain⟨z,its,n,r,e⟩:=I.hok l _ hH;exact⟨z,its,n,r,r.length,e⟩
theorem Xih(h:n<=Ar):Ea n=false:=by unfold Ea;exact ai (by omega)
def Zdl:V->List V->Hp->VK->Prop:=fun x vs H Q=>∃l xs y,x=.ref l/\vs=[y]/\H l=ak (.lst xs)/\xs.length<Ar/\Q .non (upd H l (.lst (xs++[y])))
theorem Zgw:MtM X "list.append" Zdl:=by intro pins s σ H x vs v us Q I rx rv h;obtain⟨l,xs,y,rfl,rfl,hH,hz,q⟩:=h;cases rx;obtain⟨u,rfl,ru⟩:=rv.one;obtain⟨z,its,n,r,hl,e⟩:=I.lstM hH;refine Ic F.slot_list_append ⟨_,e,rfl⟩ F.entry_list_append (F.args_list_append_2 _ _) (PySem.list_append l its.toArray n u (by rw[Ay];omega)) ⟨e,?_⟩;refine⟨.non,_,I.lset (its':=its++[u]) hH e (by simp) (r.append (.cons ru .nil)) ?_,rfl,q⟩;rw[Av,Iq];omega
def rCat:R2:=fun x y H Q=>∃l b xs zs,x=.ref l/\y=.ref b/\H l=ak (.lst xs)/\H b=ak (.lst zs)/\xs.length+zs.length<=Ar/\∀p,H p=ao->Q (.ref p) (upd H p (.lst (xs++zs)))
theorem Xsy:OpR X (Co .Add) rCat:=by
 intro pins s σ H x y v u Q I rx ry h;obtain⟨l,b,xs,zs,rfl,rfl,hH,hB,hz,q⟩:=h;cases rx;cases ry;obtain⟨z,its,n,r,hl,e⟩:=I.lstM hH;obtain⟨z2,its2,n2,r2,hl2,e2⟩:=I.lstM hB;refine PySem.P.add_list e e2 ?_ (by rw[Ay,Ay];omega);have ea:its.toArray++its2.toArray=(its++its2).toArray:=by simp
 rw[ea];exact⟨.ref _,_,I.lnew (t':=s.toks) (r.append r2) (by rw[Av];omega),rfl,q _ I.fresh⟩
def rRep:R2:=fun x y H Q=>∃l k xs,x=.ref l/\y=.int k/\H l=ak (.lst xs)/\-(2^63)<=k/\k<2^63/\xs.length*k.toNat<=Ar/\
 ∀p,H p=ao->Q (.ref p) (upd H p (.lst (Ab k.toNat xs).flatten))
theorem len_rep(xs:List α)(k:Nat):(Ab k xs).flatten.length=k*xs.length:=by
 induction k with
 |zero=>simp
 |succ k ih=>rw[Bn,B7,Av,ih,Ik,Ip]
theorem Xxd:OpR X (Co .Mult) rRep:=by
  intro pins s σ H x y v u Q I rx ry h;obtain⟨l,k,xs,rfl,rfl,hH,h1,h2,hz,q⟩:=h;cases rx;obtain⟨t,rfl⟩:=ry;obtain⟨z,its,n,r,hl,e⟩:=I.lstM hH;have hlen:its.toArray.size*k.toNat<=Ar:=by rw[Ay,<- hl];exact hz
  have hcap:¬its.toArray.size*k.toNat > (2^63-1)/8:=by
    have:(Ar:Nat)<=(2^63-1)/8:=by decide
    omega
  have hfit:¬(!Builtin.List.listFitsIndex k)=true:=by rw[fitsIndex_both h1 h2];exact Ao
  have hlong:¬Ea (its.toArray.size*k.toNat)=true:=by rw[Xih hlen];exact Ao
  have hnew:JL (fun x1 x2=>x1++x2) #[] (Ab (if its.toArray.isEmpty=aq then 0 else k.toNat) its.toArray)=(Ab k.toNat its).flatten.toArray:=by
    have f0:∀m:Nat,JL (fun x1 x2=>x1++x2) #[] (Ab m its.toArray)=(Ab m its).flatten.toArray:=fun m=>by have:=foldl_rep its m [];rw[List.nil_append]at this;exact this
    rw[f0];cases its with
    |nil=>simp
    |cons a r'=>rw[ae (by simp)]
  refine wpAny_binaryOp_repeat_ref (T:="list") (U:="int") (by decide) ⟨_,e,rfl⟩ (fun s'=>Lb s' k t) noFill_list_mul F.fills_int_mul Lz repeat_list F.slot_int_index.lookup
    (Ic Lz (Lb s k t) F.entry_int_rmul (F.args_int_rmul_2 _ _) (int___rmul___int_list k t l its.toArray n)
      ⟨e,rfl,⟨_,e,rfl⟩,Ic F.slot_list_mul ⟨_,e,rfl⟩ F.entry_list_mul (F.args_list_mul_2 _ _) (MG l its.toArray n k t hfit hcap hlong) ⟨e,?_⟩⟩)
  rw[hnew];exact⟨.ref _,_,I.lnew (t':=s.toks) (r.rep k.toNat) (by rw[len_rep,LI];exact hz),rfl,q _ I.fresh⟩
end L2
namespace Att
open PySem PySem.W PySem.Calls PyProof.Rows
variable{P:Params}{h:Bg}
theorem Zhc :∀(ns:List Int) (vs:List Value),WellAll P h vs (ns.map WData.int)->Gs vs ns:=by
 intro ns
 induction ns with
 |nil =>intro vs w;rw[Ls]at w;cases w;exact .nil
 |cons n ns ih =>
  intro vs w;rw[AZ]at w;cases w with
  |cons a b =>cases a;exact .cons _ _ (ih _ b)
variable{args:List WData}{n:Nat}{vals:List Value}
theorem Zzd{l:OpenLaw}(hn:l.most=ak n)(hpre:l.row.toRowW.claim.pre args=aq)(hwl:WellAll P h vals args):∃a vs ns,vals=[AQ a]/\args=[WData.list (ns.map WData.int)]/\h.get? a=ak {cls:=.type "list",data:=.seq vs.toArray}/\Gs vs ns/\ns.length<=n:=by
 have hsh:WShape.hasAll [] args [.list .int]=true:=(pre_splitW hpre).1;have hc:l.pre.holds [] {args:=args}=true:=(pre_splitW hpre).2;obtain⟨d,r,rfl,h1,h2⟩:=hasAllW_cons hsh;obtain rfl:=hasAllW_nil h2;obtain⟨xs,rfl,h3⟩:=hasW_list h1;obtain⟨ns,rfl⟩:=items_int h3;have hlen:ns.length<=n:=by
  unfold OpenLaw.pre at hc;have h4:(WTm.not (.lt (.lit (.int (n:Int))) (.len (.arg 0)))).holds [] {args:=[.list (ns.map .int)]}=true:=by have h4:=(holds_andW hc).1;rw[hn]at h4;exact h4
  have h5:=condW_of h4 (w_not (w_lt w_lit (w_len_list (w_arg rfl))));rw[Ai]at h5;refine KQ fun q=>?_;have q':(n:Int)<((ns.length:Nat):Int):=by omega
  first
   |(rw[aj q']at h5;exact af h5 (by decide))
   |(simp at h5;omega)
 cases hwl with
 |cons w1 w2 =>
  cases w2;cases w1 with
  |list ho hall=>exact⟨_,_,ns,rfl,rfl,ho,Zhc ns _ hall,hlen⟩
theorem Zyd(l:OpenLaw)(args:List WData):l.row.toRowW.claim.post args (.bool aq) args=true:=
 postW_of (r:=l.row.toRowW) (X:=(aq==aq))
  (show WShape.has [] (.bool aq) .bool=aq by first|rfl|decide|simp[WShape.has,WShape.arms,WShape.armsAll])
  (show(WTm.eq .res (.lit (.bool aq))).value [] {args:=args,res:=ak (.bool aq),after:=args}=ak (.bool (aq==aq)) from w_eq_bool (w_res rfl) w_lit) rfl
variable{XP:(Str->Option Value)->Bg->Prop}{YP:Bk->Bg->Prop}{d:DefRec}{loose:List Str}{q:AR}{w:Bk}
theorem attach_call{l:OpenLaw}(hn:l.most=ak n)(hdf:d.params.defaults=[])(call:∀(w:Bk) (s₀ s₁:Af) (mg mb:Str->Option Value) (fa:Addr) (o:Obj) (pm cd doc:Value) (a:Addr) (vs:List Value) (ns:List Int),Ground q loose [] XP w s₀ mg mb s₁.heap->YP w s₁.heap->s₁.heap.get? fa=ak o->o.data=.func (docDef d.name d.params d.body d.scope pm cd doc)->s₁.heap.CodeRec cd d.name->mg d.name=ak (.ref fa)->s₁.heap.get? a=ak {cls:=.type "list",data:=.seq vs.toArray}->Gs vs ns->ns.length<=n->s₁.gens=#[]->Dr (Aw l.prog w) G6 (.call (.ref fa) ⟨[.ref a],[]⟩) (fun r s'=>r=.ok (.ret (.bool aq))/\OldK s₁.heap s'.heap/\s'.os=s₁.os/\EH s'.gens) s₁):WalkO q loose XP YP l.row.toRowW d [] (fun f vs=>PySem.call f vs):=by
  intro w s₀ s₁ mg mb G Y fa o pm cd doc dV kV ho hd hcd hD hmg hg args vals as hpre hlay hrd hwl hlo;obtain rfl:dV=.none:=Dflts.none hD hdf;obtain rfl:kV=.none:=Dflts.noKw hD;obtain⟨a,vs,ns,rfl,rfl,hobj,hints,hlen⟩:=Zzd hn hpre hwl;refine enter_call (G5 (call w s₀ s₁ mg mb fa o pm cd doc a vs ns G Y ho (fd_plain hd) hcd hmg hobj hints hlen hg) fun r s' hq=>?_);obtain⟨rfl,h2,h3,h4⟩:=hq;exact⟨.inl ⟨.bool aq,.bool aq,[],rfl,fun _=>rfl,.bool aq,Zyd l _,fun _=>⟨Ff,fun _ hm=>(nomatch hm)⟩⟩,h2,h3,h4⟩
end Att
namespace L2
open PySem PySem.Spec PyProof.Rows
variable{h:Bg}{n:Nat}{ns:List Int}
theorem Zmo:∀{vs:List Value} {ns:List Int},Gs vs ns->Yl (ns.map V.int) vs
 |_,_,.nil=>.nil
 |_,_,.cons n t h=>.cons ⟨t,rfl⟩ (Zmo h)
abbrev KOf{K:AN}{h:Bg}(_:K.In h):AN:=K
variable{a:Expr}
def Zfr(s:Stmt):Ft:=match s with
 | .FunctionDef _ a _ _ _ _ _ _ _ _=>a
 |_=>{posonlyargs:=[],args:=[],vararg:=ao,kwonlyargs:=[],kw_defaults:=[],kwarg:=ao,defaults:=[]}
variable{b:Expr}
def Jh(s:Stmt):List Stmt:=match s with
 | .FunctionDef _ _ b _ _ _ _ _ _ _=>b
 |_=>[]
variable{sc:Scope}
def Zh(s:Stmt):Scope:=match s with
 | .FunctionDef _ _ _ _ _ _ sc _ _ _=>sc
 |_=>{kind:=.function,names:=[],isGenerator:=ar,isCoroutine:=ar}
abbrev CX0:CXT:=fun _ _ _ _ _ _=>False
abbrev E0:XK:=fun _ _ _=>False
variable{X:Cx}
theorem Yu :Zdk CX0 X E0:=fun _ _ _ _ _ _ _ h=>h.elim
structure Fun(K:AN)(x qual:Str)(st:Stmt)(f:Addr)(fd:CH):Prop where
 ex:∃(oc:Value) (od:Option Addr) (kV doc pm:Value) (an:Option Addr) (cdv ct:Value) (osl:Array (Option Value)),
  fd=fnOf x qual (Zfr st) (Jh st) (Zh st) .none kV doc pm an cdv ct/\K.lookup f=ak ⟨oc,od,.func fd,osl⟩/\Hs K cdv qual=aq
 kp:Gi K (.ref f)=aq
variable{A:Ba}{E:Value->Af->Prop}{H H':Hp}{K:AN}{N ps:List Str}{P:AR}{Q:Unit->Af->Prop}{base:Bg}{f:Addr}{fd:CH}{mg:Str->Option Value}{outer:List Env}{qual x:Str}{s:Af}{sp:Sp}{st:Stmt}{w:Bk}
theorem Fun.ok{k:Nat}(F:Fun K x qual st f fd)(S:Xc N ps (Zh st))(len:∀vs H Q E,sp vs H Q E->vs.length=ps.length)(hbody:∀(cdv:Value) (A:Ba) (outer:List Env) (s:Af) (H:Hp) (vs:List V) (Q:VK) (E:XK),Zcd k (A.deeper (DT qual (Zh st) s.heap.objs.size f cdv))->sp vs H Q E->∃t,PSs (Zmw CX0 P w K mg base N qual (Zh st) f cdv A outer s H E).nox (Jh st) t/\t {nx:=fun _ H'=>Q .non H',rt:=Q} (start N vs) H):Zap P w K mg base CX0 (k+1) f fd ps sp:=by
  obtain⟨oc,od,kV,doc,pm,an,cdv,ct,osl,rfl,lk,hcd⟩:=F.ex;refine Xqw lk hcd S len fun A outer s H vs Q E hr hsp=>?_;obtain⟨t,h,q⟩:=hbody cdv A outer s H vs Q E hr hsp;exact⟨t,h.nox,q⟩
theorem Fun.binds(F:Fun K x qual st f fd)(h:∀(kV doc pm:Value) (an:Option Addr) (cdv ct:Value) (us:List Value),us.length=ps.length->Ie (fnOf x qual (Zfr st) (Jh st) (Zh st) .none kV doc pm an cdv ct) ⟨us,[]⟩=pure (ps.zip us)):Binds K fd ps []:=by
 obtain⟨oc,od,kV,doc,pm,an,cdv,ct,osl,rfl,lk,hcd⟩:=F.ex;exact .all (h kV doc pm an cdv ct)
variable{pos:Pos}
theorem pv(i:Nat)(hN:X.N[i]?=ak x:=by rfl)(hv:autoParam (Vis X.env.scope x) aT3._auto_1)(hd:(x==("__debug__":Str))=false:=by decide)
  (hcd:(x==("__classdict__":Str))=false:=by decide):PE X (.Name x pos) (Zil i):=Xwq hN hv hd hcd
variable{o:Obj}
def Xf(H H':Hp):Prop:=∀b o,H b=ak o->H' b=ak o
theorem Xf.refl(H:Hp):Xf H H:=fun _ _ h=>h
variable{H2:Hp}
theorem Xf.trans{H1:Hp}(a:Xf H H1)(b:Xf H1 H2):Xf H H2:=fun c o h=>b c o (a c o h)
theorem Xf.free(e:Xf H H'){l:Addr}(h:H' l=C6):H l=C6:=by
 cases q:H l with
 |none=>rfl
 |some o =>rw[e l o q]at h;cases h
variable{env:Env}{es:List Expr}{op:Ij}
theorem Zu :Ad (.BinOp a op b pos::es) env=(ar,A6 (.BinOp a op b pos) env)::Ad es env:=rfl
variable{c:Const}
theorem Zf{k:Nat}:Ad (.Constant c k pos::es) env=(ar,A6 (.Constant c k pos) env)::Ad es env:=rfl
theorem Za :Ad (.Name x pos::es) env=(ar,A6 (.Name x pos) env)::Ad es env:=rfl
theorem Yf :Ad (.Subscript a b pos::es) env=(ar,A6 (.Subscript a b pos) env)::Ad es env:=rfl
variable{as:List Expr}{ks:List CP}
theorem Xp :Ad (.Call a as ks pos::es) env=(ar,A6 (.Call a as ks pos) env)::Ad es env:=rfl
theorem Zdx :Ad (.List as pos::es) env=(ar,A6 (.List as pos) env)::Ad es env:=rfl
theorem Zrf{k:Nat}:Ad (.Tuple as k pos::es) env=(ar,A6 (.Tuple as k pos) env)::Ad es env:=rfl
variable{gs:List Comprehension}
theorem Xl :Ad (.ListComp a gs sc pos::es) env=(ar,A6 (.ListComp a gs sc pos) env)::Ad es env:=rfl
theorem Zan :Zcg (.Subscript a b pos):=fun _ _=>rfl
theorem Yn :Zcg (.Name x pos):=fun _ _=>rfl
theorem Zk{k:Nat}:Zcg (.Constant c k pos):=fun _ _=>rfl
theorem plain_bin :Zcg (.BinOp a op b pos):=fun _ _=>rfl
theorem Zrd{op:UnaryOp}:Zcg (.UnaryOp op a pos):=fun _ _=>rfl
variable{i j:Int}{y:Str}
def Zto:R2:=fun x y H Q=>rI0 (fun i j=>.int (i+j)) x y H Q\/(∃i j,x=.str i/\y=.str j/\i.length+j.length<=Ar/\Q (.str (i++j)) H)\/rCat x y H Q
def Xgf:R2:=fun x y H Q=>rI Xrw (fun i j=>.int (i*j)) x y H Q\/rRep x y H Q
def Xxw(_ j:Int):Prop:=0<j/\j<2^200
theorem Zz:OpR X (Co .Add) Zto:=Xxr.or (Zvk.or Xsy)
theorem Xv:OpR X (Co .Mult) Xgf:=Xwr.or Xxd
theorem log2_small(h1:0<j)(h2:j<2^200):j.natAbs.log2<9000:=by
 have h3:j.natAbs<2^200:=by omega
 exact Im ((Nat.log2_lt (by omega)).mpr h3) (by decide)
theorem Zqv:OpR X (Co .FloorDiv) (rI Xxw fun i j=>.int (i/j)):=opI fun i j _ _ _ _ _ hc q=>by have h1:(0:Int)<j:=hc.1;have h2:j<2^200:=hc.2;exact floordiv_int (by omega) (by rw[Int.fdiv_eq_ediv_of_nonneg i (by omega)];exact q) (.inl (PyProof.noPylong_of_log2 (log2_small h1 h2)))
variable{d:Option Addr}{xs:List V}
mutual
inductive Dn(K:AN)(H:Hp):V->Fd->Prop
 |non:Dn K H .non .none
 |bl (b:Bool):Dn K H (.bl b) (.bool b)
 |int (i:Int):Dn K H (.int i) (.int i)
 |str (x:Str):Dn K H (.str x) (.str x)
 |lst {a:Addr} {xs:List V} {ds:List Fd}:SqL K H a xs->DnA K H xs ds->Dn K H (.ref a) (.list ds)
 |tup {a:Addr} {xs:List V} {ds:List Fd}:SqT K H a xs->DnA K H xs ds->Dn K H (.ref a) (.tuple ds)
inductive DnA(K:AN)(H:Hp):List V->List Fd->Prop
 |nil:DnA K H [] []
 |cons {x:V} {d:Fd} {xs:List V} {ds:List Fd}:Dn K H x d->DnA K H xs ds->DnA K H (x::xs) (d::ds)
end
variable{its:List Value}{pins:List (Addr×Obj)}{u:Value}{σ:St}
mutual
theorem Dn.reads(I:Inv X pins σ H s):∀{x:V} {d:Fd} {u:Value},Dn X.K H x d->RelV x u->∃as,GI s.heap u d as
 |_,_,_,.non,r=>by cases (show _=BI from r);exact⟨_,.none⟩
 |_,_,_,.bl b,r=>by cases (show _=En b from r);exact⟨_,.bool b⟩
 |_,_,_,.int i,r=>by obtain⟨t,q⟩:=(show ∃t,_=Gx i t from r);cases q;exact⟨_,.int i t⟩
 |_,_,_,.str x,r=>by obtain⟨t,q⟩:=(show ∃t,_=Hz x t from r);cases q;exact⟨_,.str x t⟩
 |_,_,_,.lst (a:=a) h ra,r=>by cases (show _=AQ a from r);obtain⟨its,rv,pl,_⟩:=I.list h;obtain⟨as,q⟩:=DnA.reads I ra rv;obtain⟨o,ho,hc,n,hd⟩:=pl.isList;exact⟨_,.list ho hc hd q⟩
 |_,_,_,.tup (a:=a) h ra,r=>by cases (show _=AQ a from r);obtain⟨its,rv,pl,_⟩:=I.tuple h;obtain⟨as,q⟩:=DnA.reads I ra rv;obtain⟨o,ho,hc,n,hd⟩:=pl;exact⟨_,.tuple ho hc hd q⟩
theorem DnA.reads(I:Inv X pins σ H s):∀{xs:List V} {ds:List Fd} {us:List Value},DnA X.K H xs ds->Yl xs us->∃as,Mn s.heap us ds as
 |_,_,_,.nil,.nil=>⟨_,.nil⟩
 |_,_,_,.cons h ra,.cons r rs=>by obtain⟨as,q⟩:=Dn.reads I h r;obtain⟨bs,q'⟩:=DnA.reads I ra rs;exact⟨_,.cons q q'⟩
end
def rEqD(K:AN):R2:=fun x y H Q=>∃dx dy,Dn K H x dx/\Dn K H y dy/\Ed dx=aq/\Ed dy=aq/\Q (.bl (DW dx dy)) H
def rNeD(K:AN):R2:=fun x y H Q=>∃dx dy,Dn K H x dx/\Dn K H y dy/\Ed dx=aq/\Ed dy=aq/\Q (.bl (!PyData.eqv dx dy)) H
def Xrt(K:AN):R2:=fun x y H Q=>rEq x y H Q\/rEqD K x y H Q
def Xsx(K:AN):R2:=fun x y H Q=>rNe x y H Q\/rNeD K x y H Q
theorem Xwx(hu:X.A.units+64<BE):OpR X (B8 .Eq) (rEqD X.K):=by intro pins s σ H x y v u Q I rx ry h;obtain⟨dx,dy,h1,h2,s1,s2,q⟩:=h;obtain⟨as,ra⟩:=h1.reads I rx;obtain⟨bs,rb⟩:=h2.reads I ry;exact eq_dataH ra rb s1 s2 hu ⟨.bl _,H,I,rfl,q⟩
theorem Xwn(hu:X.A.units+64<BE):OpR X (B8 .NotEq) (rNeD X.K):=by intro pins s σ H x y v u Q I rx ry h;obtain⟨dx,dy,h1,h2,s1,s2,q⟩:=h;obtain⟨as,ra⟩:=h1.reads I rx;obtain⟨bs,rb⟩:=h2.reads I ry;exact ne_dataH ra rb s1 s2 hu ⟨.bl _,H,I,rfl,q⟩
theorem Zql(hu:X.A.units+64<BE):OpR X (B8 .Eq) (Xrt X.K):=op_eq.or (Xwx hu)
theorem Zxb(hu:X.A.units+64<BE):OpR X (B8 .NotEq) (Xsx X.K):=op_ne.or (Xwn hu)
variable{p:Addr}{ys:List V}{z:Option Value}
def Zbq(K:AN):List V->Hp->VK->Prop:=fun xs H Q=>(∃p ys,xs=[.ref p]/\(SqL K H p ys\/SqT K H p ys)/\Q (.int ys.length) H)\/∃z,xs=[.str z]/\z.length<=Ar/\Q (.int z.length) H
def Xrq(K:AN):List V->Hp->VK->Prop:=fun xs H Q=>∃(p:Addr) (ns:List Int),xs=[.ref p]/\SqL K H p (ns.map V.int)/\Q (.int ns.sum) H
def Zpb(lo:Int)(n:Nat):List V:=(AX n).map fun(k:Nat)=>V.int (lo+(k:Int))
def Zcc(K:AN):List V->Hp->VK->Prop:=fun xs H Q=>(∃p ys,xs=[.ref p]/\(SqL K H p ys\/SqT K H p ys)/\∀l,H l=ao->Q (.ref l) (upd H l (.lst ys)))\/
 ∃p i j,xs=[.ref p]/\H p=ak (.rng i j)/\-(2^62)<=i/\i<2^62/\-(2^62)<=j/\j<2^62/\(j-i).toNat<=1000000/\∀l,H l=ao->Q (.ref l) (upd H l (.lst (Zpb i (j-i).toNat)))
theorem Yd:Zae X (.builtin "len") (Zbq X.K):=Znu.or Zlu
theorem Zkn(hc:X.calm=aq):Zae X (.builtin "sum") (Xrq X.K):=by
 intro pins s σ H xs us Q I r h;obtain⟨p,ns,rfl,hq,q⟩:=h;obtain⟨u,rfl,rx⟩:=vals1 r;cases rx;obtain⟨its,rv,pl,hz⟩:=I.list hq;have hi:Gs its ns:=intsAre_of rv;obtain⟨xs,hxs⟩:=hi.allInts.items;have hn:numsOf its.toArray.toList=ns:=by rw[show its.toArray.toList=its from rfl,hi.numsOf]
 have hl:=pl.isList;rw[hxs]at hl hn;rw[IJ]at hn;refine sum_intListG (I.ok.hd hc) hl fun h' tk t' hk=>⟨.int ns.sum,H,I.kept hk,⟨t',?_⟩,q⟩;rw[preSum_eq,DQ (by simp),hn]
theorem Zjr(hc:X.calm=aq):Zae X (.type "list") (fun xs H Q=>∃p i j,xs=[.ref p]/\H p=ak (.rng i j)/\-(2^62)<=i/\i<2^62/\-(2^62)<=j/\j<2^62/\(j-i).toNat<=1000000/\ ∀l,H l=ao->Q (.ref l) (upd H l (.lst (Zpb i (j-i).toNat)))):=by
  intro pins s σ H xs us Q I r h;obtain⟨p,i,j,rfl,hH,h1,h2,h3,h4,h5,q⟩:=h;obtain⟨u,rfl,rx⟩:=vals1 r;cases rx;obtain⟨t,u,v,e⟩:=I.hok p _ hH;have en:Gu i j 1=(((j-i).toNat:Nat):Int):=by rw[Ms];split<;>omega
  refine call_list_range (n:=(j-i).toNat) (I.ok.hd hc) e (small_one h1 h2 h3 h4) en (AD h5 (by decide)) fun h' tk acc' c' hk hg hit=>?_;refine⟨.ref s.heap.objs.size,_,I.laid (t':=tk) hk (As _) (show Je X.prog X.w _ h' _ (.lst (Zpb i (j-i).toNat)) from⟨?_,acc'.toList,c',?_,?_⟩),rfl,q _ I.fresh⟩;unfold Zpb;rw[Ai,EE];exact AD h5 (by decide);obtain⟨hsz,hv⟩:=hit;have key:∀(k:Nat) (l:List Value) (lo:Int),l.length=k->(∀(m:Nat) (v:Value),l[m]?=ak v->∃t,v=Gx (lo+(m:Int)) t)->Yl (Zpb lo k) l:=by
    intro k
    induction k with
    |zero =>intro l lo hl _;rw[EZ.mp hl];exact .nil
    |succ k ih =>
      intro l lo hl hv;cases l with
      |nil=>simp at hl
      |cons x l =>
        obtain⟨t,e⟩:=hv 0 x (by simp);have er:Zpb lo (k+1)=V.int lo::Zpb (lo+1) k:=by unfold Zpb;rw[List.range_succ_eq_map,AZ,AV];congr 1;simp;apply BS;intro m _;show V.int (lo+((m+1:Nat):Int))=V.int (lo+1+(m:Int));congr 1;omega
        rw[er];refine .cons ⟨t,?_⟩ (ih l (lo+1) (by simpa using hl) fun m v hm=>?_);rw[e];congr 1;simp;obtain⟨t',e'⟩:=hv (m+1) v (by simpa using hm);refine⟨t',?_⟩;rw[e'];congr 1;omega
  refine key _ _ i (by simpa using hsz) fun m v hm=>?_;obtain⟨t,e⟩:=hv m v (by simpa using hm);exact⟨t,by rw[e];congr 1;omega⟩;simpa using hg
theorem Xs(hc:X.calm=aq):Zae X (.type "list") (Zcc X.K):=Znh.or (Zjr hc)
def tRev(K:AN)(te ts:TE):TE:=fun σ H Q=>te σ H fun x H1=>ts σ H1 fun y H2=>∃a xs,x=.ref a/\y=.int (-1)/\SqL K H2 a xs/\∀p,H2 p=ao->Q (.ref p) (upd H2 p (.lst xs.reverse))
variable{p2:Pos}{st:Expr}{te ts:TE}
theorem Xxv{e:Expr}(he:PE X e te)(hst:PE X st ts):PE X (.Subscript e (.Slice ao ao (ak st) p2) pos) (tRev X.K te ts):=by intro pins s σ H Q I h;refine Ii (thn (he pins s σ H _ I h) fun v s1 hz9=>?_);obtain⟨x,H1,I1,r1,q1⟩:=hz9;refine wpAny_Slice ?_;rw[IK];refine Ac (Ac ?_);rw[Mx];refine thn (hst pins s1 σ H1 _ I1 q1) fun vk s3 hz9=>?_;obtain⟨y,H3,I3,r3,a,xs,ex,ey,hx,q3⟩:=hz9;subst ex ey;obtain⟨tk,rfl⟩:=r3;cases r1;have I4:Inv X pins σ H3 {s3 with heap:=s3.heap.push {cls:=.type "slice",data:=.fields #[.none,.none,.int (-1) tk]}}:=I3.kept (t':=s3.toks) fun b ob q=>Ae _ q;obtain⟨its,r,ht,hz⟩:=I4.list hx;have hlen:=r.length;show Ak (Aw X.prog X.w) X.A (GG e (.Slice ao ao (ak st) p2) (.ref a) (.ref s3.heap.objs.size)) (EP X pins σ Q) X.xe {s3 with heap:=s3.heap.push {cls:=.type "slice",data:=.fields #[.none,.none,.int (-1) tk]}};refine Mg (ops:=[.ref a,.ref s3.heap.objs.size]) ht.isList.typeIs G0.lookup ?_ (by with_unfolding_all rfl);refine IG ht.isList (GW ..) .none .none (.int (-1) tk) (by simp) ?_ (by rw[Ay]<;>omega);rw[PySem.W.krv_pick];refine⟨.ref _,_,I4.laid (t':=s3.toks) (o:=.lst xs.reverse) (fun b ob q=>Ae _ q) (As _) ?_,rfl,q3 _ (I4.hok.fresh (As _))⟩;exact⟨by rw[CT];exact hz,_,0,r.reverse,Au _ rfl⟩
structure Def(P:AR)(w:Bk)(K:AN)(mg:Str->Option Value)(base:Bg)(CX:CXT)(k:Nat)(x:Str)(ps:List Str)(sp:Sp):Prop where
 ex:∃f fd,mg x=ak (.ref f)/\Gi K (.ref f)=aq/\Binds K fd ps []/\Zap P w K mg base CX k f fd ps sp
variable{CX:CXT}
theorem Zro{k:Nat}{E:XK}{p:Pos}{e:Expr}{t:TA}(D:Def X.prog X.w X.K X.mg X.base CX k x ps sp)(hr:Zcd k X.A)(hg:Gl X x)(hx:Zdk CX X E)
  (ha:PA X (e::es) t) (hdb:(x==("__debug__":Str))=false:=by decide) (he:Ad (e::es) X.env=(ar,A6 e X.env)::Ad es X.env:=by rfl) (hpl:(BL pos (Ad es X.env)).any (·.1)=false:=by rfl) :
  PE X (.Call (.Name x p) (e::es) [] pos) (Zkj sp [] E t):=by
 obtain⟨f,fd,m,kp,b,F⟩:=D.ex;exact Xos F hr hg m kp b .nil hx ha hdb he hpl
variable{C:Int->Int->Prop}{e:Addr}{g:Int->Int->V}{hi lo:Option Expr}{v:V}
section
variable{Q:VK}{D:Ends}
theorem rd_I(c:C i j)(q:Q (g i j) H):rI C g (.int i) (.int j) H Q:=⟨i,j,rfl,rfl,c,q⟩
theorem rd_I0(q:Q (g i j) H):rI0 g (.int i) (.int j) H Q:=⟨i,j,rfl,rfl,q⟩
theorem rd_U{g:Int->V}(q:Q (g i) H):rU g (.int i) H Q:=⟨i,rfl,q⟩
theorem Xxe(q:Q (.int (i+j)) H):Zto (.int i) (.int j) H Q:=.inl ⟨i,j,rfl,rfl,q⟩
theorem Xsz(c:Xrw i j)(q:Q (.int (i*j)) H):Xgf (.int i) (.int j) H Q:=.inl ⟨i,j,rfl,rfl,c,q⟩
theorem Zxe{E:XK}{t:TA}(q:t σ H fun vs H1=>sp vs H1 Q E):Zkj sp [] E t σ H Q:=by
 show t σ H fun vs H1=>sp (vs++[]) H1 Q E;have e:(fun vs H1=>sp (vs++[]) H1 Q E)=fun vs H1=>sp vs H1 Q E:=by funext vs H1;rw[Dy]
 rw[e];exact q
theorem Xwv(h:SqL K H p xs)(e:atI xs i=ak v)(q:Q v H):rIx K (.ref p) (.int i) H Q:=.inl ⟨p,xs,i,v,rfl,rfl,h,e,q⟩
theorem Xxl(h:SqT K H p xs)(e:atI xs i=ak v)(q:Q v H):rIx K (.ref p) (.int i) H Q:=.inr (.inl ⟨p,xs,i,v,rfl,rfl,h,e,q⟩)
theorem Zxl(h:SqL K H p ys)(q:Q (.int ys.length) H):Zbq K [.ref p] H Q:=.inl ⟨p,ys,rfl,.inl h,q⟩
theorem Xnz(h:SqT K H p ys)(q:Q (.int ys.length) H):Zbq K [.ref p] H Q:=.inl ⟨p,ys,rfl,.inr h,q⟩
theorem Xqc{z:Str}(h:z.length<=Ar)(q:Q (.int z.length) H):Zbq K [.str z] H Q:=.inr ⟨z,rfl,h,q⟩
theorem Xvx{l:Addr}{y:V}(h:H l=ak (.lst xs))(hz:xs.length<Ar)(q:Q .non (upd H l (.lst (xs++[y])))):Zdl (.ref l) [y] H Q:=⟨l,xs,y,rfl,rfl,h,hz,q⟩
theorem Xbi{a:Addr}{lo hi:Option Int}(h:SqL K H a xs)(q:∀p,H p=ao->Q (.ref p) (upd H p (.lst (cutV xs lo hi)))):Xrh K (.ref a) lo hi H Q:=⟨a,xs,rfl,h,q⟩
theorem Xjh{a b:Addr}{zs:List V}(h1:H a=ak (.lst xs))(h2:H b=ak (.lst zs))(hz:xs.length+zs.length<=Ar)(q:∀p,H p=ao->Q (.ref p) (upd H p (.lst (xs++zs)))):Zto (.ref a) (.ref b) H Q:=.inr (.inr ⟨a,b,xs,zs,rfl,rfl,h1,h2,hz,q⟩)
theorem Xsm{l:Addr}{k:Int}(h:H l=ak (.lst xs))(h1:-(2^63)<=k)(h2:k<2^63)(hz:xs.length*k.toNat<=Ar)(q:∀p,H p=ao->Q (.ref p) (upd H p (.lst (Ab k.toNat xs).flatten))):Xgf (.ref l) (.int k) H Q:=.inr ⟨l,k,xs,rfl,rfl,h,h1,h2,hz,q⟩
theorem Xxj(h:SqL K H p (ns.map V.int))(q:Q (.int ns.sum) H):Xrq K [.ref p] H Q:=⟨p,ns,rfl,h,q⟩
theorem Xia(h:SqL K H p ys)(q:∀l,H l=ao->Q (.ref l) (upd H l (.lst ys))):Zcc K [.ref p] H Q:=.inl ⟨p,ys,rfl,.inl h,q⟩
theorem Xdb(h:H p=ak (.rng i j))(h1:-(2^62)<=i)(h2:i<2^62)(h3:-(2^62)<=j)(h4:j<2^62)(h5:(j-i).toNat<=1000000)(q:∀l,H l=ao->Q (.ref l) (upd H l (.lst (Zpb i (j-i).toNat)))):Zcc K [.ref p] H Q:=.inr ⟨p,i,j,rfl,h,h1,h2,h3,h4,h5,q⟩
end
structure QE(X:Cx)(e:Expr)(t:TE):Prop where
 out:PE X e t
structure QT(X:Cx)(e:Expr)(t:TT):Prop where
 out:PT X e t
structure QW(X:Cx)(e:Expr)(t:TT):Prop where
 out:PW X e t
structure QA(X:Cx)(es:List Expr)(t:TA):Prop where
 out:PA X es t
structure QO(X:Cx)(e:Option Expr)(t:TO):Prop where
 out:PO X e t
structure QG(X:Cx)(e:Expr)(t:TG):Prop where
 out:PG X e t
structure QGs(X:Cx)(es:List Expr)(t:TGs):Prop where
 out:PGs X es t
structure QI(X:Cx)(tg iter:Expr)(wi:TI):Prop where
 out:PI X tg iter wi
structure QS(X:Cx)(st:Stmt)(t:TS):Prop where
 out:PS X st t
structure QSs(X:Cx)(st:List Stmt)(t:TS):Prop where
 out:PSs X st t
variable{j:Nat}
theorem Xyi :QE X (.Constant (.int i) j pos) (tC (.int i)):=⟨Xsf⟩
theorem qe_bl{i:Bool}:QE X (.Constant (.bool i) j pos) (tC (.bl i)):=⟨pe_bl⟩
theorem Xti :QE X (.Constant (.str x) j pos) (tC (.str x)):=⟨Xxs⟩
theorem qv(i:Nat)(hN:X.N[i]?=ak x:=by rfl)(hv:autoParam (Vis X.env.scope x) aT3._auto_1)(hd:(x==("__debug__":Str))=false:=by decide)
  (hcd:(x==("__classdict__":Str))=false:=by decide):QE X (.Name x pos) (Zil i):=⟨pv i hN hv hd hcd⟩
theorem Xpl(hg:Gl X x)(hm:X.mg x=ak u)(r:RelV v u)(hd:(x==("__debug__":Str))=false:=by decide):QE X (.Name x pos) (tC v):=⟨Xkr hg hm r hd⟩
variable{ta tb:TE}
theorem Xsw{r:R2}(ho:OpR X (Co op) r)(ha:QE X a ta)(hb:QE X b tb):QE X (.BinOp a op b pos) (tOp r ta tb):=⟨pe_op ho ha.out hb.out⟩
theorem qe_un{op:UnaryOp}{r:V->Hp->VK->Prop}(ho:UnR X (unaryOp op) r)(ha:QE X a ta):QE X (.UnaryOp op a pos) (tUn r ta):=⟨pe_un ho ha.out⟩
theorem Xkz{op:MH}{r:R2}(ho:OpR X (B8 op) r)(ha:QE X a ta)(hb:QE X b tb)(hm:Dg op b=ar):QE X (.Compare a [op] [b] pos) (tOp r ta tb):=⟨Xqy ho ha.out hb.out hm⟩
theorem Xlf{op:MH}{r:R2}(ho:OpR X (B8 op) r)(ha:QE X a ta)(hb:QE X b tb)(hm:Dg op b=ar):QT X (.Compare a [op] [b] pos) (Xdu (tOp r ta tb)):=⟨Xml ho ha.out hb.out hm⟩
variable{c:Expr}{tA:TT}
theorem Xid(hc:QT X c tA)(ha:QE X a ta)(hb:QE X b tb):QE X (.IfExp c a b pos) (tIf tA ta tb):=⟨Xge hc.out ha.out hb.out⟩
variable{e:Expr}
theorem Xud(h:QE X e te)(he:∀whole,isTrue e X.env whole=(do let v <- whole;E4 e.pos;B6 [v] (HS v)):=by intro _;rfl):QT X e (tB te):=⟨Xtm h.out he⟩
theorem Xpx(ha:QT X a tA):QW X (.BoolOp .And [a] pos) tA:=⟨Xok ha.out⟩
theorem Xvr(ha:QT X a tA):QW X (.BoolOp .Or [a] pos) tA:=⟨Xup ha.out⟩
variable{rest:List Expr}{tB':TT}
theorem Xtg(ha:QT X a tA)(hb:QW X (.BoolOp .And (b::rest) pos) tB'):QW X (.BoolOp .And (a::b::rest) pos) (tAnd tA tB'):=⟨Xsn ha.out hb.out⟩
theorem qw_or(ha:QT X a tA)(hb:QW X (.BoolOp .Or (b::rest) pos) tB'):QW X (.BoolOp .Or (a::b::rest) pos) (tOr tA tB'):=⟨pw_or ha.out hb.out⟩
theorem qt_w(h:QW X a tA):QT X a tA:=⟨h.out.pt⟩
theorem Zre:QA X [] Zoq:=⟨Ziz⟩
variable{t:TA}
theorem Zdv(ha:QE X e te)(hr:QA X es t)(hs:Ad (e::es) X.env=(ar,A6 e X.env)::Ad es X.env):QA X (e::es) (Zbk te t):=⟨Zdt ha.out hr.out hs⟩
variable{x1:Nat}
theorem Xis(h:QA X es t):QE X (.Tuple es x1 pos) (Xyc t):=⟨Xub h.out⟩
theorem Xjn(h:QA X es t):QE X (.List es pos) (Xrr t):=⟨Xtq h.out⟩
theorem qe_ix{r:R2}(hr:IxR X r)(ha:QE X a ta)(hb:QE X b tb)(hs:Zcg b):QE X (.Subscript a b pos) (tOp r ta tb):=⟨pe_ix hr ha.out hb.out hs⟩
theorem Xpz:QO X ao Zll:=⟨Xof⟩
theorem Xmf(h:QE X e te):QO X (ak e) (Xdg te):=⟨Xmc h.out⟩
theorem Zkm{r:V->Option Int->Option Int->Hp->VK->Prop}{tl th:TO}(hr:SlR X r)(he:QE X e te)(hl:QO X lo tl)(hu:QO X hi th):QE X (.Subscript e (.Slice lo hi ao p2) pos) (tSl r te tl th):=⟨Xgg hr he.out hl.out hu.out⟩
theorem Xyh(he:QE X e te)(hst:QE X st ts):QE X (.Subscript e (.Slice ao ao (ak st) p2) pos) (tRev X.K te ts):=⟨Xxv he.out hst.out⟩
variable{p:Pos}
theorem Zsz{k:Nat}{E:XK}(D:Def X.prog X.w X.K X.mg X.base CX k x ps sp)(hr:Zcd k X.A)(hg:Gl X x)(hx:Zdk CX X E)
  (ha:QA X (e::es) t) (hdb:(x==("__debug__":Str))=false:=by decide) (he:Ad (e::es) X.env=(ar,A6 e X.env)::Ad es X.env:=by rfl) (hpl:(BL pos (Ad es X.env)).any (·.1)=false:=by rfl) :
  QE X (.Call (.Name x p) (e::es) [] pos) (Zkj sp [] E t):=⟨Zro D hr hg hx ha.out hdb he hpl⟩
theorem Zsv{id:String}{r:List V->Hp->VK->Prop}(hc:Zae X (.builtin id) r)(hg:Gl X x)(hm:X.mg x=ao)(hv:C3 x=ak (.builtin id))(ha:QA X (e::es) t)(hn:x≠"__name__":=by decide)(hdb:(x==("__debug__":Str))=false:=by decide)
  (he:Ad (e::es) X.env=(ar,A6 e X.env)::Ad es X.env:=by rfl) (hpl:(BL pos (Ad es X.env)).any (·.1)=false:=by rfl):QE X (.Call (.Name x p) (e::es) [] pos) (tCB r t):=⟨Xek hc hg hm hv ha.out hn hdb he hpl⟩
variable{T:String}
theorem Zww{r:List V->Hp->VK->Prop}(hc:Zae X (.type T) r)(hg:Gl X x)(hm:X.mg x=ao)(hv:C3 x=ak (.type T))(ha:QA X (e::es) t)(hn:x≠"__name__":=by decide)(hdb:(x==("__debug__":Str))=false:=by decide)
  (he:Ad (e::es) X.env=(ar,A6 e X.env)::Ad es X.env:=by rfl) (hpl:(BL pos (Ad es X.env)).any (·.1)=false:=by rfl):QE X (.Call (.Name x p) (e::es) [] pos) (tCB r t):=⟨Zwk hc hg hm hv ha.out hn hdb he hpl⟩
variable{apos cpos:Pos}{name:Str}{o:Expr}{to:TE}
theorem Xwh{id:String}{r:V->List V->Hp->VK->Prop}(pa:PlainAttrs T)(slot:Slot T name id)(hty:La (.builtin id)=pure (.type "method_descriptor"))(hm:MtR X id r)(ho:QE X o to)(ha:QA X (e::es) t)
    (hbase:Dh o name X.env (A6 o X.env)=A6 o X.env:=by rfl)
    (hfew:((BL cpos (Ad (e::es) X.env)).all (fun x=>!x.1)&&(Fq cpos (DV [] X.env)).all (fun x=>x.1.isSome)
      && decide ((e::es).length+([]:List CP).length+(if ([]:List CP).isEmpty then 0 else 1)<30))=true:=by rfl)
    (hline:(apos.endLine==cpos.line)=true:=by rfl) (hs:Ad (e::es) X.env=(ar,A6 e X.env)::Ad es X.env:=by rfl) (hplain:(BL cpos (Ad es X.env)).any (·.1)=false:=by rfl) :
    QE X (.Call (.Attribute o name apos) (e::es) [] cpos) (tBM X.K T r to t):=⟨pe_bm pa slot hty hm ho.out ha.out hbase hfew hline hs hplain⟩
theorem Zlk{i:Nat}(hN:X.N.Nodup)(hi:X.N[i]?=ak x)(hx:Loc X.env.scope x)(hf:autoParam (X.fn x=aq\/X.env.scope.names.lookup x=ak .local) aT0._auto_1):QG X (.Name x pos) (Zam i):=⟨Xnh hN hi hx hf⟩
variable{tt:TGs}
theorem Zrm{k:Nat}(hc:X.calm=aq)(h:QGs X es tt)(hn:(AW es X.env).length=n:=by rfl)(hst:(AW es X.env).findIdx? (·.1)=none:=by rfl):QG X (.Tuple es k pos) (Zfg X.K n tt):=⟨Xvd hc h.out hn hst⟩
theorem Zjq:QGs X [] Xcq:=⟨Xql⟩
theorem Zgk{tt:TG}{u:TGs}(h1:QG X e tt)(h2:QGs X es u)(hs:(AW (e::es) X.env).map (·.2)=CL e X.env::(AW es X.env).map (·.2):=by rfl):QGs X (e::es) (Zio tt u):=⟨Xdp h1.out h2.out hs⟩
variable{tg:Expr}
theorem Xlu(hl:QE X e te):QI X tg e (Xap X.K te):=⟨Xlv hl.out⟩
theorem Xce(hg:Gl X "range")(hm:X.mg "range"=ao)(ha:QA X [a] t)(hs:Ad [a] X.env=[(ar,A6 a X.env)]:=by rfl):QI X tg (.Call (.Name "range" p) [a] [] pos) (Xex t):=⟨Zwp hg hm ha.out hs⟩
theorem Zvw(hg:Gl X "range")(hm:X.mg "range"=ao)(ha:QA X [a,b] t)(hs:Ad [a,b] X.env=[(ar,A6 a X.env),(ar,A6 b X.env)]:=by rfl)(hs2:Ad [b] X.env=[(ar,A6 b X.env)]:=by rfl):QI X tg (.Call (.Name "range" p) [a,b] [] pos) (Xgn t):=⟨Xbs hg hm ha.out hs hs2⟩
theorem Zxo:QSs X [] Ztp:=⟨Xpm⟩
variable{s1:Stmt}{ss:List Stmt}{u v:TS}
theorem Zqh(h1:QS X s1 u)(h2:QSs X ss v):QSs X (s1::ss) (Xrj u v):=⟨Xcw h1.out h2.out⟩
theorem Zpu(h1:QS X s1 u):QSs X [s1] u:=⟨Xop h1.out⟩
theorem Xgc:QS X s1 Zsd:=⟨Xhy⟩
theorem Zkk(he:QE X e te)(hs:Cq e ao pos.line X.env=pure false:=by rfl):QS X (.Expr e pos) (Ziq te):=⟨Xnk he.out hs⟩
theorem Xit(he:QE X e te):QS X (.Return (ak e) pos) (Xrl te):=⟨Xsb he.out⟩
variable{body other:List Stmt}
theorem Xst(hc:QT X c tA)(ha:QSs X body u)(hb:QSs X other v):QS X (.If c body other pos) (Xrg tA u v):=⟨ps_if hc.out ha.out hb.out⟩
variable{g:TG}
theorem Zri(he:QE X e te)(hg:QG X tg g)(hs:Ef [tg] e pos.line X.env=pure false:=by rfl)(hw:Eg [tg] e X.env=pure none:=by rfl)(h1:(AW [tg] X.env).map (·.2)=[CL tg X.env]:=by rfl):QS X (.Assign [tg] e pos) (Zin te g):=⟨Xya he.out hg.out hs hw h1⟩
variable{pos':Pos}
theorem Zwy{i:Nat}(hN:X.N.Nodup)(hi:X.N[i]?=ak x)(hx:Loc X.env.scope x)(he:QE X e te)(hs:Cq e (ak (.Name x pos')) pos.line X.env=pure false:=by rfl)(hf:autoParam (X.fn x=aq\/X.env.scope.names.lookup x=ak .local) aT0._auto_1) :
  QS X (.Assign [.Name x pos'] e pos) (Zin te (Zam i)):=⟨Xuw hN hi hx he.out hs hf⟩
variable{iter:Expr}{wi:TI}
theorem Xji(hp:JD (Aw X.prog X.w) X.A X.env X.xe)(hc:X.calm=aq)(hi:QI X tg iter wi)(hg:QG X tg g)(hb:QSs X body u)(hs:∀x,BA iter X.env x=pure x:=by intro _;rfl):QS X (.For tg iter body [] pos) (Xrv wi g u):=⟨Xyj hp hc hi.out hg.out hb.out hs⟩
variable{st:Stmt}
theorem Fun.okQ{base:Bg}{k:Nat}(F:Fun K x qual st f fd)(S:Xc N ps (Zh st))(len:∀vs H Q E,sp vs H Q E->vs.length=ps.length)(hbody:∀(cdv:Value) (A:Ba) (outer:List Env) (s:Af) (H:Hp) (vs:List V) (Q:VK) (E:XK),Zcd k (A.deeper (DT qual (Zh st) s.heap.objs.size f cdv))->sp vs H Q E->∃t,QSs (Zmw CX0 P w K mg base N qual (Zh st) f cdv A outer s H E).nox (Jh st) t/\t {nx:=fun _ H'=>Q .non H',rt:=Q} (start N vs) H):Zap P w K mg base CX0 (k+1) f fd ps sp:=
  F.ok S len fun cdv A outer s H vs Q E hr h=>by obtain⟨t,ht,q⟩:=hbody cdv A outer s H vs Q E hr h;exact⟨t,ht.out,q⟩
variable{H₀:Hp}{pn:List (Addr×Obj)}{s₀:Af}
@[reducible] def Cx.blk(X:Cx)(N2:List Str)(x:Str)(sc:Scope)(cl:List (Str×Addr))(C:Addr)(s0:Af)(H0:Hp)(fp:List Addr):Cx:=
 {X with N:=N2++[x],s₀:=s0,H₀:=H0,env:=Ib sc cl C X.env,outer:=X.stack,ex:=fp,fn:=fun _=>ar,pn:=[],xe:=fun _ _=>False}
variable{own:List Addr}{p:Addr}
structure BlkOk(sc esc:Scope)(x:Str)(N N2:List Str):Prop where
 kind:sc.kind=.function
 cell:∀y∈sc.names,y.2≠.cell
 loc:∀y∈sc.names,y.2=.local->sc.names.lookup y.1=ak .local
 own:sc.names.lookup x=ak .local
 free:∀y∈sc.names,y.2=.free->esc.names.lookup y.1=ak .cell\/esc.names.lookup y.1=ak .free
 out:∀y∈N2,sc.names.lookup y≠ak .local
 nd:N.Nodup
 nd2:N2.Nodup
 len:N2.length=N.length
 ren:∀p∈N.zip N2,p.2=p.1\/sc.names.lookup p.2=ao
theorem lookup_mem{l:List (Str×Cz)}{k:Cz}(h:(y,k)∈l):l.lookup y≠none:=by
 induction l with
 |nil=>simp at h
 |cons p r ih =>
  obtain⟨n,k'⟩:=p;cases hy:y==n with
  |true=>rw[Bh,hy];simp
  |false =>rw[Bh,hy];rcases Aj.mp h with e|e;cases e;simp at hy;exact ih e
def Yz(cells:List (Str×Addr)):List (Str×Cz)->List (Str×Addr)->List (Str×Addr)
 |[],cs=>cs
 |(n,k)::r,cs=>Yz cells r (if k=.free then (n,(cells.lookup n).getD 0)::cs else cs)
variable{c:Const}
theorem Zdi(h:∀y∈sc.names,y.2=.free->∃c,env.cells.lookup y.1=ak c):EW sc env=pure (Yz env.cells sc.names []):=by
  unfold EW;generalize sc.names=l at h ⊢;have key:∀(l:List (Str×Cz)) (cs:List (Str×Addr)),(∀y∈l,y.2=.free->∃c,env.cells.lookup y.1=ak c)->
      (forIn l cs fun (y:Str×Cz) (r:List (Str×Addr))=>(do
        let (name,kind):=y
        if kind==.free then
          let c <- cellOf env name
          pure (EM ((name,c)::r))
        else pure (EM r):Sem (ForInStep (List (Str×Addr)))))=pure (Yz env.cells l cs):=by
    intro l
    induction l with
    |nil=>intro cs _;rfl
    |cons y r ih =>
      intro cs hy;obtain⟨n,k⟩:=y;rw[GQ];have hr:∀y∈r,y.2=.free->∃c,env.cells.lookup y.1=ak c:=fun y h'=>hy y (Cm _ h');by_cases hk:k=.free;subst hk;obtain⟨c,hc⟩:=hy _ Dc rfl;have e:cellOf env n=pure c:=by unfold cellOf;rw[show env.cells.lookup n=ak c from hc]
      simp only[beq_self_eq_true,if_true,e];rw[Yz,aa rfl,show env.cells.lookup n=ak c from hc];exact ih _ hr;have hb:(k==BW)=false:=by simpa using hk
      rw[Yz,ae hk];simp only[hb,if_false,AT];exact ih _ hr
  have q:=key l [] h;exact(ah (fun z:Sem (List (Str×Addr))=>z >>= fun r=>pure r) q).trans rfl
theorem Znr{cells:List (Str×Addr)}:∀{l:List (Str×Cz)} {cs:List (Str×Addr)} {y:Str} {c:Addr},(∀z∈l,z.2=.free->∃c,cells.lookup z.1=ak c)->(∀c,cs.lookup y=ak c->cells.lookup y=ak c)->
  (Yz cells l cs).lookup y=ak c->cells.lookup y=ak c
 |[],_,_,_,_,h0,h=>h0 _ h
 |(n,k)::r,cs,y,c,hl,h0,h=>by
  rw[Yz]at h;refine Znr (l:=r) (fun z hz=>hl z (Cm _ hz)) (fun c' hc'=>?_) h;by_cases hk:k=.free;rw[aa hk]at hc';obtain⟨c0,e0⟩:=hl _ Dc hk;cases hy:y==n with
  |true =>
   have e:y=n:=by simpa using hy
   subst e;rw[Bh,hy]at hc';have e1:(cells.lookup y).getD 0=c':=by simpa using hc'
   have e2:cells.lookup y=ak c0:=e0;rw[e2]at e1 ⊢;simpa using e1
  |false =>rw[Bh,hy]at hc';exact h0 _ hc'
  rw[ae hk]at hc';exact h0 _ hc'
theorem Zno{cells:List (Str×Addr)}:∀{l:List (Str×Cz)} {cs:List (Str×Addr)} {y:Str},(∃c,cs.lookup y=ak c)->∃c,(Yz cells l cs).lookup y=ak c
 |[],_,_,h=>h
 |(n,k)::r,cs,y,h=>by
  rw[Yz];refine Zno ?_;split;cases hy:y==n with
  |true=>exact⟨_,by rw[Bh,hy]⟩
  |false=>rw[Bh,hy];exact h
  exact h
variable{e:Addr}
theorem Zkw{cells:List (Str×Addr)}:∀{l:List (Str×Cz)} {cs:List (Str×Addr)} {y:Str},(y,BW)∈l->∃c,(Yz cells l cs).lookup y=ak c
 |(n,k)::r,cs,y,h=>by rw[Yz];rcases Aj.mp h with e|e;cases e;refine Zno ?_;rw[aa rfl];exact⟨_,by rw[Bh,beq_self_eq_true]⟩;exact Zkw e
theorem Zcm{env:Env}:∀{names:List (Str×Cz)} {y:Str} {k:Cz},(∀z∈names,z.2≠.cell)->(k=.cell\/k=.free)->
  (names.map fun(n,k)=>if (k==BW&&env.scope.kind==.function&&env.kindOf n==ak .cell) then (n,Kj) else (n,k)).lookup y=ak k->(y,BW)∈names
 |[],_,_,_,_,hz=>by simp at hz
 |(n,k0)::r,y,k,hc,hk,h=>by
  rw[AZ]at h;cases hy:y==n with
  |true =>
   have e:y=n:=by simpa using hy
   subst e;by_cases hf:k0=.free;subst hf;exact Dc;have hb:(k0==BW)=false:=by simpa using hf
   simp only[hb,K6,AT,if_false,Bh,beq_self_eq_true]at h;have e1:k0=k:=by simpa using h
   subst e1;rcases hk with z|z;exact af z (hc _ Dc);exact af z hf
  |false =>refine Cm _ (Zcm (env:=env) (k:=k) (fun z hz=>hc z (Cm _ hz)) hk ?_);by_cases hc':(k0==BW&&env.scope.kind==.function&&env.kindOf n==ak .cell)=aq;simp only[hc',if_true,Bh,hy]at h;exact h;simp only[hc',AT,if_false,Bh,hy]at h;exact h
theorem Zij{env:Env}:∀{names:List (Str×Cz)} {y:Str},
  (names.map fun(n,k)=>if (k==BW&&env.scope.kind==.function&&env.kindOf n==ak .cell) then (n,Kj) else (n,k)).lookup y=ak .local->names.lookup y=ak .local
 |[],_,h=>by simp at h
 |(n,kn)::r,y,h=>by
  rw[AZ]at h;cases hy:y==n with
  |true =>rw[Bh,hy];by_cases hc:(kn==BW&&env.scope.kind==.function&&env.kindOf n==ak .cell)=aq;simp only[hc,if_true,Bh,hy]at h;cases h;simp only[hc,AT,if_false,Bh,hy]at h;exact h
  |false =>rw[Bh,hy];refine Zij (env:=env) ?_;by_cases hc:(kn==BW&&env.scope.kind==.function&&env.kindOf n==ak .cell)=aq;simp only[hc,if_true,Bh,hy]at h;exact h;simp only[hc,AT,if_false,Bh,hy]at h;exact h
variable{elt:Expr}{h':Bg}{ifs:List Expr}{it:Addr}{m:Str->Option Value}{scope:Scope}{v:V}
section
variable{R:Kh->Af->Prop}
def Xaz(ifs:List Expr)(env:Env):Sem Bool:=forIn ifs aq fun c r=>if r=aq then do let ok <- isTrue c env (A6 c env);pure (EM ok) else pure (EM r)
theorem Zvg{it ac:Value}(W:Nat->Af->Prop)
    (turn:∀n s,W n s->Ak (Aw P w) A (C1 it) (fun r s₁=>match r with
      |none=>R (.ok .next) s₁
      | some v=>Ak (Aw P w) A (FG tg it v) (fun _ s₁'=>Ak (Aw P w) A (CL tg env v) (fun _ s₂ =>
          Ak (Aw P w) A (Xaz ifs env) (fun ok s₃ =>
            if ok=aq then Ak (Aw P w) A (A6 elt env) (fun z s₄ =>
              Ak (Aw P w) A (call (.builtin "list.append") [ac,z]) (fun _ s₅=>∃m,m<n/\W m s₅) (fun _ _=>False) s₄) (fun _ _=>False) s₃
            else ∃m,m<n/\W m s₃) (fun _ _=>False) s₂) (fun _ _=>False) s₁') (fun _ _=>False) s₁) (fun _ _=>False) s)
    (n:Nat) (h:W n s) :
    Dr (Aw P w) A (.compLoop (.ListComp elt [⟨tg,iter,ifs,0⟩] scope pos) 0 it ac env) R s:=by
  refine codeAny_loop rfl W (fun n s hI=>?_) n h;show Ak _ A ((compTurn (.ListComp elt [⟨tg,iter,ifs,0⟩] scope pos) 0 it ac env).onRaise (fun z=>do Hm z env;theTreesLotGoes z)) _ _ s;refine wpAny_noted ?_;rw[compTurn_list];refine Aa (GD (Aa (BF (turn n s hI) (fun r s₁ h₁=>?_) fun _ _ h'=>h'.elim)));cases r with
  |none=>exact Ac h₁
  |some v =>
    refine Aa (BF h₁ (fun _ s₁' h₁'=>?_) fun _ _ h'=>h'.elim);refine Aa (BF h₁' (fun _ s₂ h₂=>Aa (BF h₂ (fun ok s₃ h₃=>?_) fun _ _ h'=>h'.elim)) fun _ _ h'=>h'.elim);cases ok with
    |false=>exact Ac (And.intro rfl h₃)
    |true =>exact Aa (Aa (BF h₃ (fun x s₄ h₄=>Aa (BF h₄ (fun _ s₅ h₅=>Ac (Ac ⟨rfl,h₅⟩)) fun _ _ h'=>h'.elim)) fun _ _ h'=>h'.elim))
end
def PIf(X:Cx)(ifs:List Expr)(t:TT):Prop:=
 ∀(pins:List (Addr×Obj)) (s:Af) (σ:St) (H:Hp) (Q:Bool->Hp->Prop),Inv X pins σ H s->t σ H Q->Ak (Aw X.prog X.w) X.A (Xaz ifs X.env) (TP X pins σ Q) X.xe s
def tYes:TT:=fun _ H Q=>Q aq H
theorem Xpj :PIf X [] tYes:=fun _ _ _ H _ I h=>Ac ⟨H,I,h⟩
structure QIf(X:Cx)(ifs:List Expr)(t:TT):Prop where
 out:PIf X ifs t
section
variable{c:Expr}
theorem Xqg:QIf X [] tYes:=⟨Xpj⟩
variable{a D:Addr}{Q:VK}{R:Hp->Prop}
end
@[reducible] def Cx.blkN(X:Cx)(N2 xs:List Str)(sc:Scope)(cl:List (Str×Addr))(C:Addr)(s0:Af)(H0:Hp)(fp:List Addr):Cx:=
 {X with N:=N2++xs,s₀:=s0,H₀:=H0,env:=Ib sc cl C X.env,outer:=X.stack,ex:=fp,fn:=fun _=>ar,pn:=[],xe:=fun _ _=>False}
structure Xcr(sc esc:Scope)(xs N N2:List Str):Prop where
 kind:sc.kind=.function
 cell:∀y∈sc.names,y.2≠.cell
 loc:∀y∈sc.names,y.2=.local->sc.names.lookup y.1=ak .local
 free:∀y∈sc.names,y.2=.free->esc.names.lookup y.1=ak .cell\/esc.names.lookup y.1=ak .free
 out:∀y∈N2,sc.names.lookup y≠ak .local
 nd:N.Nodup
 len:N2.length=N.length
 ren:∀p∈N.zip N2,p.2=p.1\/sc.names.lookup p.2=ao
def Zeq(k:Nat)(g:TG)(wi:TI)(tc:TT)(te:TE):TE:=fun σ H Q=>wi σ H fun J H1=>∀D,H1 D=ao->∃W:Nat->Nat->Hp->Prop,(∃m,W 0 m (upd H1 D (.lst [])))/\∀i m H,W i m H->
  (J.stop i H/\Q (.ref D) H)\/(J.go i H/\∃N:Hp->Prop,(∀H',N H'->∃m',m'<m/\W (i+1) m' H')/\∀x H',J.yld i H x H'->∀os:St,os.length=k->g x (σ++os) H' fun σ' Hg=>(∃os',os'.length=k/\σ'=σ++os')/\tc σ' Hg fun b H2 =>
    if b=aq then te σ' H2 fun v H3=>∃ys,H3 D=ak (.lst ys)/\ys.length<Ar/\N (upd H3 D (.lst (ys++[v])))
    else N H2)
variable{N2 xs:List Str}{fp:List Addr}{o:Obj}{tk:Nat}
theorem Zua{s1:Af}(B:Xcr sc X.env.scope xs X.N N2)(I:Inv X pins σ H s)(hf:∀b∈fp,Zoa X pins H b)(hfl:∀b∈fp,b<s.heap.objs.size)(hn:h'.Ns s.heap.objs.size m)(hk:∀b o,s.heap.get? b=ak o->h'.get? b=ak o)(e1:s1={s with heap:=h',toks:=tk}):Inv (X.blkN N2 xs sc (Yz X.env.cells sc.names []) s.heap.objs.size s H fp) [] (σ++Ab xs.length ao) H s1:=by
  subst e1;have hcl:∀y∈sc.names,y.2=.free->∃c,X.env.cells.lookup y.1=ak c:=fun y hy hf=>I.ok.has y.1 (B.free y hy hf);have look:∀y c,(Yz X.env.cells sc.names []).lookup y=ak c->X.env.cells.lookup y=ak c:=fun y c h=>Znr hcl (fun _ z=>by simp at z) h;have isfree:∀y,(Ka sc X.env).names.lookup y=ak .cell\/(Ka sc X.env).names.lookup y=ak .free->(y,BW)∈sc.names:=fun y hy=>by rcases hy with hy|hy;exact Zcm (env:=X.env) B.cell (.inl rfl) hy;exact Zcm (env:=X.env) B.cell (.inr rfl) hy
  refine ⟨⟨I.ok.mod,B.kind,I.ok.glob,I.ok.blt,As _,fun y z c h1 h2=>I.ok.inj y z c (look y c h1) (look z c h2),fun y hy=>Zkw (isfree y hy),fun _ _ h=>(by cases h),I.ok.hd,I.ok.frames,.inl rfl,fun b hb=>?_,fun b o e=>?_,AD I.ok.bsz I.sz,fun b o e hb=>?_,fun b hb hs=>?_,I.stack,I.stkFree⟩,
    rfl,I.bare,Un.kept hk,⟨_,hn,fun i y v h1 h2 h3=>?_⟩,fun y c h=>?_,I.hok.fresh (As _),fun y c h=>I.freeC y c (look y c h),fun p hp=>af (show p∈([]:List (Addr×Obj)) from hp) (by simp),I.hok.kept hk,?_⟩
  exact⟨AY (hfl b hb),fun y c h=>(hf b hb).2.2.2.2.1 y c (look y c h)⟩;exact I.bs b o e;rcases(hf b hb).2.2.2.1 with z|z;exact I.ok.noex b o e z;exact af (AG (AI e) (AD I.ok.bsz z)) (Bm _);rcases Aj.mp (I.stkSub b hs) with z|z;exact(hf b hb).2.1 z;exact(hf b hb).2.2.1 z;have hlen:=I.len;have hl2:=B.len;have h1:(N2++xs)[i]?=ak y:=h1;have h2:(σ++Ab xs.length ao)[i]?=ak (ak v):=h2;have hi:i<X.N.length:=by by_cases hi:i<X.N.length;exact hi;rw[Bs (by omega)]at h2;have hm:=AO h2;rw[Fc]at hm;exact af hm.2 (by intro z;cases z)
  rw[AM (by omega)]at h1;rw[AM (by omega)]at h2;have h3':(Ka sc X.env).names.lookup y=ak .cell\/(Ka sc X.env).names.lookup y=ak .free:=by rcases h3 with z|z;exact af (Zij (env:=X.env) z) (B.out y (AO h1));exact z
  have hfr:=isfree y h3';have h1:X.N[i]?=ak y:=by obtain⟨z,hz⟩:∃z,X.N[i]?=ak z:=⟨X.N[i],Ag hi⟩;rcases B.ren (z,y) (AO (Ds.mpr ⟨hz,h1⟩)) with e|e;rw[hz,show y=z from e];exact af e (lookup_mem hfr)
  obtain⟨m3,hn3,hl3⟩:=I.loc;have hv:X.env.scope.names.lookup y=ak .cell\/X.env.scope.names.lookup y=ak .free:=B.free (y,.free) hfr rfl;obtain⟨u,ru,lk⟩:=hl3 i y v h1 h2 (.inr hv);refine⟨u,ru,.inr ⟨h3',?_⟩⟩;rcases lk with⟨k1,_⟩|⟨k1,c,ec,zc⟩;rcases hv with q|q;rw[show X.env.kindOf y=X.env.scope.names.lookup y from rfl,q]at k1;cases k1;rw[show X.env.kindOf y=X.env.scope.names.lookup y from rfl,q]at k1;cases k1;obtain⟨c',e'⟩:=Zkw (cells:=X.env.cells) (cs:=[]) hfr;have e2:=look y c' e';rw[ec]at e2;cases e2;obtain⟨o,ho,hd⟩:=zc;exact⟨c,e',o,hk _ _ ho,hd⟩;obtain⟨v,o,ho,hd⟩:=I.cell y c (look y c h);exact⟨v,o,hk _ _ ho,hd⟩;show(σ++Ab xs.length ao).length=(N2++xs).length;rw[Av,Av,I.len,B.len,BN]
def Tk(H H':Hp):Prop:=∀b p q,H b=ak (.tbl p q)->H' b=ak (.tbl p q)
variable{RR:Value->Addr->Kh->Af->Prop}{s' s2:Af}{tc:TT}{tn:Nat->Bg->Prop}
theorem Zsf{J:It}{Q:VK}(hc:X.calm=aq)(B:Xcr sc X.env.scope xs X.N N2)(hg:∀cl C s0 H0 fp,Tk X.H₀ H0->PG (X.blkN N2 xs sc cl C s0 H0 fp) tg g)(ht:∀cl C s0 H0 fp,Tk X.H₀ H0->PIf (X.blkN N2 xs sc cl C s0 H0 fp) ifs tc)(he:∀cl C s0 H0 fp,Tk X.H₀ H0->PE (X.blkN N2 xs sc cl C s0 H0 fp) elt te)(I2:Inv X pins σ H2 s2)(T:Turn X.prog X.w X.K tg J fp it tn)(st2:tn 0 s2.heap)(f2:∀b∈fp,Zoa X pins H2 b)(hw:∀D,H2 D=ao->∃W:Nat->Nat->Hp->Prop,(∃m,W 0 m (upd H2 D (.lst [])))/\∀i m H,W i m H->(J.stop i H/\Q (.ref D) H)\/(J.go i H/\∃N:Hp->Prop,(∀H',N H'->∃m',m'<m/\W (i+1) m' H')/\∀x H',J.yld i H x H'->∀os:St,os.length=xs.length->g x (σ++os) H' fun σ' Hg=>(∃os',os'.length=xs.length/\σ'=σ++os')/\tc σ' Hg fun b H2 =>if b=aq then te σ' H2 fun v H3=>∃ys,H3 D=ak (.lst ys)/\ys.length<Ar/\N (upd H3 D (.lst (ys++[v]))) else N H2))(fin:∀(D C:Addr) (H':Hp) (s':Af) (m:Str->Option Value),Inv X pins σ H' s'->s'.heap.Ns C m->Zoa X pins H' C->Q (.ref D) H'->RR (.ref D) C (.ok .next) s'):Ak (Aw X.prog X.w) X.A (newList []) (fun acc s₃=>Ak (Aw X.prog X.w) X.A (newFunctionEnv sc X.env.globals (Yz X.env.cells sc.names []) [] X.env.qual ao .none (ak X.env)) (fun cenv s₄ =>Dr (Aw X.prog X.w) X.A (.compStart (.ListComp elt [⟨tg,iter,ifs,0⟩] sc pos) 0 (.ref it) acc {cenv with scope:=Ka sc X.env}) (RR acc cenv.locals) s₄) E s₃) E s2:=by
  refine A9 (KF B.cell (by intro y hy;simp at hy) (fun h₁ hns₁ hsb₁=>?_) B.kind);have hD:H2 s2.heap.objs.size=none:=I2.fresh;obtain⟨W,⟨m0,w0⟩,turn⟩:=hw _ hD;have I3:Inv X pins σ (upd H2 s2.heap.objs.size (.lst [])) {s2 with heap:=s2.heap.push {cls:=.type "list",data:=.seq ([]:List Value).toArray}}:=I2.lnew (its:=[]) (t':=s2.toks) .nil (Dp _);have fne:∀b∈fp,b<s2.heap.objs.size:=fun b hb=>by obtain⟨o,ho,_⟩:=T.obj _ _ st2 b hb;exact AI ho
  generalize hs3:({s2 with heap:=s2.heap.push {cls:=.type "list",data:=.seq ([]:List Value).toArray}}:Af)=s3 at I3;have hs3h:s3.heap=s2.heap.push {cls:=.type "list",data:=.seq ([]:List Value).toArray}:=by rw[<- hs3]
  have f3:∀b∈fp,Zoa X pins (upd H2 s2.heap.objs.size (.lst [])) b:=fun b hb=>⟨by rw[Zy (AY (fne b hb))];exact(f2 b hb).1,(f2 b hb).2⟩;have fl3:∀b∈fp,b<s3.heap.objs.size:=fun b hb=>by rw[hs3h,EI];exact De (fne b hb)
  have keep3:∀b o,s3.heap.get? b=ak o->h₁.get? b=ak o:=fun b o e=>by rw[hs3h]at e;refine hsb₁.extBut b o ?_ (Ae _ e);exact AY (AI e)
  have hns3:h₁.Ns s3.heap.objs.size (fun z=>([]:List (Str×Value)).reverse.lookup z):=by rw[hs3h];exact hns₁
  have I4:=Zua (xs:=xs) (sc:=sc) (s1:={s3 with heap:=h₁,toks:=s3.toks+([]:List (Str×Value)).length}) B I3 f3 fl3 hns3 keep3 rfl;have st4:tn 0 h₁:=T.keep _ _ _ st2 fun b hb o e=>keep3 b o (by rw[hs3h];exact Ae _ e);have stat:∀{H':Hp},(∀b∈fp,H' b=ao)->∀b∈fp,Zoa (X.blkN N2 xs sc (Yz X.env.cells sc.names []) s3.heap.objs.size s3 (upd H2 s2.heap.objs.size (.lst [])) fp) [] H' b:=fun hn b hb =>
    ⟨hn b hb,(I4.ok.exf b hb).1,I4.ok.exfs b hb,.inl hb,(I4.ok.exf b hb).2,fun p hp=>af (show p∈([]:List (Addr×Obj)) from hp) (by simp)⟩
  have tk:Tk X.H₀ (upd H2 s2.heap.objs.size (.lst [])):=fun b p q h=>I3.base.tbls b p q h;have loop:∀s4:Af,s4={s3 with heap:=h₁,toks:=s3.toks+([]:List (Str×Value)).length}->
      Dr (Aw X.prog X.w) X.A (.compLoop (.ListComp elt [⟨tg,iter,ifs,0⟩] sc pos) 0 (.ref it) (.ref s2.heap.objs.size) (Ib sc (Yz X.env.cells sc.names []) s3.heap.objs.size X.env)) (RR (.ref s2.heap.objs.size) s3.heap.objs.size) s4:=by
    rintro s4 rfl;refine Zvg (fun n s'=>∃(i:Nat) (o:St) (H':Hp),o.length=xs.length/\Inv (X.blkN N2 xs sc (Yz X.env.cells sc.names []) s3.heap.objs.size s3 (upd H2 s2.heap.objs.size (.lst [])) fp) [] (σ++o) H' s'/\tn i s'.heap/\(∀b∈fp,H' b=ao)/\W i n H') ?_ m0
      ⟨0,Ab xs.length ao,_,by simp,I4,st4,fun b hb=>(f3 b hb).1,w0⟩
    rintro n s5 ⟨i,o,H5,ol5,I5,st5,fr5,w5⟩;rcases turn i n H5 w5 with⟨stop,qn⟩|⟨go,N,hN,step⟩;refine thn (T.done (X.blkN N2 xs sc (Yz X.env.cells sc.names []) s3.heap.objs.size s3 (upd H2 s2.heap.objs.size (.lst [])) fp) rfl rfl rfl hc i [] s5 (σ++o) H5 _ I5 (stat fr5) st5 stop) fun r s6 ⟨hr,I6⟩=>?_;subst hr;obtain⟨m6,hn6,_⟩:=I6.loc;refine fin _ _ H5 s6 m6 ?_ hn6 (I3.fpOk (As _) I6.free) qn;exact I3.call' (ch:=fp) I6.os I6.base I6.hok I6.bare fun b hb=>⟨(f3 b hb).2.2.2.1,(f3 b hb).2.1,(f3 b hb).2.2.2.2.1,(f3 b hb).2.2.2.2.2⟩;refine thn (T.item (X.blkN N2 xs sc (Yz X.env.cells sc.names []) s3.heap.objs.size s3 (upd H2 s2.heap.objs.size (.lst [])) fp) rfl rfl rfl hc i [] s5 (σ++o) H5 _ I5 (stat fr5) st5 go) fun r s6 ⟨u,hr,h6⟩=>?_;subst hr;refine thn h6 fun _ s7 hz9=>?_;obtain⟨v,H7,I7,r7,y7,st7,fr7⟩:=hz9;have I7':=I7.pinned (stat fr7) (T.obj _ _ st7);refine thn (hg _ _ _ _ _ tk _ s7 _ H7 v u _ I7' r7 (step v H7 y7 o ol5)) fun _ s8 ⟨σ8,H8,I8,⟨os',ol8,e8⟩,q8⟩=>?_;subst e8;have KJ:∀{H9:Hp} {s9:Af},Inv (X.blkN N2 xs sc (Yz X.env.cells sc.names []) s3.heap.objs.size s3 (upd H2 s2.heap.objs.size (.lst [])) fp) ([]++Zna fp s7.heap) (σ++os') H9 s9->N H9->
        ∃m,m<n/\∃(i:Nat) (o:St) (H':Hp),o.length=xs.length/\Inv (X.blkN N2 xs sc (Yz X.env.cells sc.names []) s3.heap.objs.size s3 (upd H2 s2.heap.objs.size (.lst [])) fp) [] (σ++o) H' s9/\tn i s9.heap/\(∀b∈fp,H' b=ao)/\W i m H':=fun {H9 s9} I9 n9=>by
      obtain⟨m',hm,w9⟩:=hN H9 n9;refine⟨m',hm,i+1,os',H9,ol8,I9.unpinned,T.keep _ _ _ st7 fun b hb o e=>(I9.pin (b,o) (Ah _ (Ah _ (Zcv hb e)))).1,fun b hb=>?_,w9⟩;obtain⟨o,e,d⟩:=T.obj _ _ st7 b hb;exact(I9.pin (b,o) (Ah _ (Ah _ (Zcv hb e)))).2.1
    refine thn (ht _ _ _ _ _ tk _ s8 _ H8 _ I8 q8) fun ok s9 ⟨H9,I9,q9⟩=>?_;cases ok with
    |false =>rw[ae Ao]at q9 ⊢;exact KJ I9 q9
    |true =>rw[aa rfl]at q9 ⊢;refine thn (he _ _ _ _ _ tk _ s9 _ H9 _ I9 q9) fun ue s10 hz9=>?_;obtain⟨ve,H10,I10,r10,ys,hy,hz,q10⟩:=hz9;refine thn (Zgw _ s10 _ H10 (.ref s2.heap.objs.size) [ve] (.ref s2.heap.objs.size) [ue] (fun _ H'=>N H') I10 rfl (.cons r10 .nil) ⟨_,ys,ve,rfl,rfl,hy,hz,q10⟩) fun _ s11 hz9=>?_;obtain⟨_,H11,I11,_,q11⟩:=hz9;exact KJ I11 q11
  have fin':Dr (Aw X.prog X.w) X.A (.compStart (.ListComp elt [⟨tg,iter,ifs,0⟩] sc pos) 0 (.ref it) (.ref s2.heap.objs.size) (Ib sc (Yz X.env.cells sc.names []) s3.heap.objs.size X.env)) (RR (.ref s2.heap.objs.size) s3.heap.objs.size) {s3 with heap:=h₁,toks:=s3.toks+([]:List (Str×Value)).length}:=codeAny_compStart_list (loop _ rfl) (T.self _ 0 _ _ _ st4 (loop _ rfl));exact fin'
theorem Xgi(hc:X.calm=aq)(B:Xcr sc X.env.scope xs X.N N2)(hi:PI X tg iter wi)(hg:∀cl C s0 H0 fp,Tk X.H₀ H0->PG (X.blkN N2 xs sc cl C s0 H0 fp) tg g)(ht:∀cl C s0 H0 fp,Tk X.H₀ H0->PIf (X.blkN N2 xs sc cl C s0 H0 fp) ifs tc)(he:∀cl C s0 H0 fp,Tk X.H₀ H0->PE (X.blkN N2 xs sc cl C s0 H0 fp) elt te)
  (hs:∀v,BA iter X.env v=pure v:=by intro _;rfl):PE X (.ListComp elt [⟨tg,iter,ifs,0⟩] sc pos) (Zeq xs.length g wi tc te):=by
 intro pins s σ H Q I h;rw[eval_ListComp];have hcl:∀y∈sc.names,y.2=.free->∃c,X.env.cells.lookup y.1=ak c:=fun y hy hf=>I.ok.has y.1 (B.free y hy hf);refine IH (use:=ao) rfl hs (Zdi hcl) B.kind B.loc (thn (hi pins s σ H _ I h) fun v s1 h1=>thn h1 fun itv s2 h2=>?_);obtain⟨it,fp,tn,J,H2,e,I2,T,st2,f2,hw⟩:=h2;subst e;refine Zsf (RR:=fun acc C=>compPost (Aw X.prog X.w) X.A X.xe ao (EP X pins σ Q) acc C) hc B hg ht he I2 T st2 f2 hw ?_;intro D C H' s' m I' hn hC q;obtain⟨c0,c1,c2,c3,c4,c5⟩:=hC;refine⟨m,hn,fun h'' hs''=>⟨.ref D,H',?_,rfl,q⟩⟩;exact I'.turned (t':=s'.toks) (fun b o hb e=>hs''.extBut b o hb e) c0 c1 c3 c4 c5
variable{py spos:Pos}
theorem Xdj{i:Nat}(hc:X.calm=aq)(B:Xcr sc X.env.scope xs X.N N2)(hi:PI X tg iter wi)(hg:∀cl C s0 H0 fp,Tk X.H₀ H0->PG (X.blkN N2 xs sc cl C s0 H0 fp) tg g)(ht:∀cl C s0 H0 fp,Tk X.H₀ H0->PIf (X.blkN N2 xs sc cl C s0 H0 fp) ifs tc)(he:∀cl C s0 H0 fp,Tk X.H₀ H0->PE (X.blkN N2 xs sc cl C s0 H0 fp) elt te)
    (hy:X.N[i]?=ak y) (hl:X.env.scope.names.lookup y=ak .local) (hsw:Cq (.ListComp elt [⟨tg,iter,ifs,0⟩] sc pos) (ak (.Name y py)) spos.line X.env=pure true:=by rfl)
    (hs:∀v,BA iter X.env v=pure v:=by intro _;rfl):PS X (.Assign [.Name y py] (.ListComp elt [⟨tg,iter,ifs,0⟩] sc pos) spos) (Zin (Zeq xs.length g wi tc te) (Zam i)):=by
  intro pins s σ H D I h;have hx:=exec_Assign_Name_used (env:=X.env) _ _ _ _ hsw;rw [hx];refine Aa (GD ?_);refine Aa ?_;show Ak _ X.A (do let _ <- comprehension (.ListComp elt [⟨tg,iter,ifs,0⟩] sc pos) sc X.env _ (newList []) ar (A6 iter X.env) (ak (CL (.Name y py) X.env))) _ _ s;have hcl:∀y∈sc.names,y.2=.free->∃c,X.env.cells.lookup y.1=ak c:=fun y hy hf=>I.ok.has y.1 (B.free y hy hf);refine Aa (BF (IH (use:=ak (CL (.Name y py) X.env)) (Q:=fun _ s'=>SP X pins D .next s') rfl hs (Zdi hcl) B.kind B.loc
    (thn (hi pins s σ H _ I h) fun v s1 h1=>thn h1 fun itv s2 h2=>?_)) (fun _ s' hq=>Ac (Ac hq)) fun _ _ e=>e)
  obtain⟨it,fp,tn,J,H2,e,I2,T,st2,f2,hw⟩:=h2;subst e;refine Zsf (Q:=fun v H1=>Zam i v σ H1 D.nx) (RR:=fun acc C=>compPost (Aw X.prog X.w) X.A X.xe (ak (CL (.Name y py) X.env)) (fun _ s'=>SP X pins D .next s') acc C) hc B hg ht he I2 T st2 f2 hw ?_;intro E C H' s' m I' hn hC q;obtain⟨c0,c1,c2,c3,c4,c5⟩:=hC;show Ak _ X.A (CL (.Name y py) X.env (.ref E)) _ _ _;refine Lr (Zmd (v:=.ref E) I' B.nd hy (.inl hl) rfl (fun s8 I8 ⟨a,sb,ha⟩=>?_) (.inr hl));have hCa:C≠a:=by rcases ha with z|z;rw[z];exact c1;exact fun z'=>c4 _ _ z z'.symm
  refine⟨m,hn.sameBut sb hCa,fun h'' hs''=>⟨_,H',?_,q⟩⟩;exact I8.turned (t':=s8.toks) (fun b o hb e=>hs''.extBut b o hb e) c0 c1 c3 c4 c5
theorem Zzy(esc:Scope)(N N2 xs:List Str)(B:Xcr sc esc xs N N2)(hi:QI X tg iter wi)(hg:∀cl C s0 H0 fp,Tk X.H₀ H0->QG (X.blkN N2 xs sc cl C s0 H0 fp) tg g)(ht:∀cl C s0 H0 fp,Tk X.H₀ H0->QIf (X.blkN N2 xs sc cl C s0 H0 fp) ifs tc)(he:∀cl C s0 H0 fp,Tk X.H₀ H0->QE (X.blkN N2 xs sc cl C s0 H0 fp) elt te)
  (hesc:X.env.scope=esc:=by rfl) (hN:X.N=N:=by rfl) (hc:X.calm=true:=by rfl) (hs:∀v,BA iter X.env v=pure v:=by intro _;rfl):QE X (.ListComp elt [⟨tg,iter,ifs,0⟩] sc pos) (Zeq xs.length g wi tc te):=by
 subst hesc hN;exact⟨Xgi hc B hi.out (fun cl C s0 H0 fp z=>(hg cl C s0 H0 fp z).out) (fun cl C s0 H0 fp z=>(ht cl C s0 H0 fp z).out) (fun cl C s0 H0 fp z=>(he cl C s0 H0 fp z).out) hs⟩
theorem Xfn(esc:Scope)(N N2 xs:List Str)(B:Xcr sc esc xs N N2)(hi:QI X tg iter wi)(hg:∀cl C s0 H0 fp,QG (X.blkN N2 xs sc cl C s0 H0 fp) tg g)(ht:∀cl C s0 H0 fp,QIf (X.blkN N2 xs sc cl C s0 H0 fp) ifs tc)(he:∀cl C s0 H0 fp,QE (X.blkN N2 xs sc cl C s0 H0 fp) elt te)
  (hesc:X.env.scope=esc:=by rfl) (hN:X.N=N:=by rfl) (hc:X.calm=true:=by rfl) (hs:∀v,BA iter X.env v=pure v:=by intro _;rfl):QE X (.ListComp elt [⟨tg,iter,ifs,0⟩] sc pos) (Zeq xs.length g wi tc te):=
 Zzy esc N N2 xs B hi (fun cl C s0 H0 fp _=>hg cl C s0 H0 fp) (fun cl C s0 H0 fp _=>ht cl C s0 H0 fp) (fun cl C s0 H0 fp _=>he cl C s0 H0 fp) hesc hN hc hs
theorem Xbc{i:Nat}(esc:Scope)(N N2 xs:List Str)(B:Xcr sc esc xs N N2)(hy:N[i]?=ak y)(hl:esc.names.lookup y=ak .local)(hi:QI X tg iter wi)(hg:∀cl C s0 H0 fp,Tk X.H₀ H0->QG (X.blkN N2 xs sc cl C s0 H0 fp) tg g)(ht:∀cl C s0 H0 fp,Tk X.H₀ H0->QIf (X.blkN N2 xs sc cl C s0 H0 fp) ifs tc)(he:∀cl C s0 H0 fp,Tk X.H₀ H0->QE (X.blkN N2 xs sc cl C s0 H0 fp) elt te)
  (hesc:X.env.scope=esc:=by rfl) (hN:X.N=N:=by rfl) (hc:X.calm=true:=by rfl) (hsw:Cq (.ListComp elt [⟨tg,iter,ifs,0⟩] sc pos) (ak (.Name y py)) spos.line X.env=pure true:=by rfl)
  (hs:∀v,BA iter X.env v=pure v:=by intro _;rfl):QS X (.Assign [.Name y py] (.ListComp elt [⟨tg,iter,ifs,0⟩] sc pos) spos) (Zin (Zeq xs.length g wi tc te) (Zam i)):=by
 subst hesc hN;exact⟨Xdj hc B hi.out (fun cl C s0 H0 fp z=>(hg cl C s0 H0 fp z).out) (fun cl C s0 H0 fp z=>(ht cl C s0 H0 fp z).out) (fun cl C s0 H0 fp z=>(he cl C s0 H0 fp z).out) hy hl hsw hs⟩
theorem Xhs{i:Nat}(esc:Scope)(N N2 xs:List Str)(B:Xcr sc esc xs N N2)(hy:N[i]?=ak y)(hl:esc.names.lookup y=ak .local)(hi:QI X tg iter wi)(hg:∀cl C s0 H0 fp,QG (X.blkN N2 xs sc cl C s0 H0 fp) tg g)(ht:∀cl C s0 H0 fp,QIf (X.blkN N2 xs sc cl C s0 H0 fp) ifs tc)(he:∀cl C s0 H0 fp,QE (X.blkN N2 xs sc cl C s0 H0 fp) elt te)
  (hesc:X.env.scope=esc:=by rfl) (hN:X.N=N:=by rfl) (hc:X.calm=true:=by rfl) (hsw:Cq (.ListComp elt [⟨tg,iter,ifs,0⟩] sc pos) (ak (.Name y py)) spos.line X.env=pure true:=by rfl)
  (hs:∀v,BA iter X.env v=pure v:=by intro _;rfl):QS X (.Assign [.Name y py] (.ListComp elt [⟨tg,iter,ifs,0⟩] sc pos) spos) (Zin (Zeq xs.length g wi tc te) (Zam i)):=
 Xbc esc N N2 xs B hy hl hi (fun cl C s0 H0 fp _=>hg cl C s0 H0 fp) (fun cl C s0 H0 fp _=>ht cl C s0 H0 fp) (fun cl C s0 H0 fp _=>he cl C s0 H0 fp) hesc hN hc hsw hs
theorem Xbf(bt:Nat->Nat->Bool):∀k,DD bt k<=k
 |0=>As _
 |k+1=>by rw[DD];have:=Xbf bt k;split<;>omega
variable{tp:TIp}
section
variable{Q:VK}{D:Ends}
variable{c e o i':Expr}{ti:TE}{tb:TS}
theorem Xtn{i:Nat}(hN:X.N.Nodup)(hi:X.N[i]?=ak x)(hx:Loc X.env.scope x)(he:QE X e te)(ho:PIp X op tp)(hf:autoParam (X.fn x=aq\/X.env.scope.names.lookup x=ak .local) aT0._auto_1):QS X (.AugAssign (.Name x pos') op e pos) (tAug i te tp):=⟨Xvn hN hi hx he.out ho hf⟩
theorem Xby{t:TSet}(ho:QE X o to)(hi:QE X i' ti)(hs:PSet X t)
    (ha:∀v,CL (.Subscript o i' pos) X.env v=(do
      let ov <- B6 [v] (A6 o X.env)
      let iv <- B6 [v,ov] (A6 i' X.env)
      E4 pos
      B6 [v,ov,iv] (G1 ov iv v)
      J9 [v,ov,iv] []):=by intro _;rfl):QG X (.Subscript o i' pos) (Zia to ti t):=⟨Xwa ho.out hi.out hs ha⟩
end
theorem Xlr:HR (.type "list_reverseiterator") "__len__"=pure none:=by rw[LS,Ks];kernel_rfl
theorem Xha:HR (.type "list_reverseiterator") "__length_hint__"=pure (ak (.builtin "list_reverseiterator.__length_hint__")):=by rw[LS,Ks];kernel_rfl
theorem Xgh{l:Addr}{Q:Bool->Af->Prop}(hit:s.heap.IsRevIter it l i)(h:Q ar s):Ak (Aw P w) A (FU (.ref it)) Q E s:=by
 delta FU
 refine Aa (Es hit.typeIs Xlr ?_);refine DM (fun z=>af z (by decide+kernel)) fun _=>?_;refine DM (fun z=>af z (by decide+kernel)) fun _=>?_;refine Aa (Es hit.typeIs Xha ?_);generalize hid:("list_reverseiterator.__length_hint__":String)=id0
 wp_delta
 rw[show splitId id0=ak ("list_reverseiterator","__length_hint__") from by subst hid;decide+kernel];subst hid;refine Aa (Eb (T:="list_reverseiterator") (b:=aq) hit.typeIs (by rw[isSubtype_type];kernel_rfl) ?_);refine DM (fun z=>af z (by decide)) fun _=>?_;refine DM (fun _=>?_) fun z=>af (by decide+kernel) z;refine DM (fun z=>af z (by decide+kernel)) fun _=>?_;exact Ac h
variable{cls ev fl:Value}{items:Array Value}
theorem Zvc{R:Kh->Af->Prop}{l:Addr}(hh:A.handled=ao)(hit:s.heap.IsRevIter it l ((items.size:Int)-1))(hl:s.heap.IsList l items)(hne:l≠it)(hn:items.size<=Ar)(S:Addr)(res:Value)(c₀:Nat)
    (hN:s.heap.get? S=ak {cls:=.type "list",data:=.seq #[] c₀}) (hSi:S≠it) (hSl:S≠l)
    (hR:∀h' tk acc' c',(∀b o,b≠S->b≠it->s.heap.get? b=ak o->h'.get? b=ak o)->h'.get? S=ak {cls:=.type "list",dict:=ao,data:=.seq acc' c',slots:=#[]}->
      ItemsOf (fun i v=>items[items.size-1-i]?=ak v) acc' items.size->R (.ok (.ret res)) {s with heap:=h',toks:=tk}) :
    Ak (Aw P w) A.in1 (CN (.ref S) (.ref it) res)
      (fun fi s1=>match fi with| .done fl=>R (.ok fl) s1| .again cd=>cd.quiet=aq/\Dr (Aw P w) A cd R s1) (fun ev s1=>R (.error ev) s1) s:=by
  have W:=(Walks.listRev (prog:=P) (w:=w) (A:=A.in1) hh it l hne items).toS;have key:Dr (Aw P w) A (.builtin "list.extend.loop" ⟨[.ref S,.ref it,res],[]⟩) R s:=by refine codeAny_extend_loopS W hn S (by simp[hSi,hSl]) res items.size 0 s #[] c₀ rfl (Dp _) ⟨Dp _,by simpa using hit,hl⟩ hN (ItemsOf.nil _) fun s' acc' c' hm hN1 hacc=>?_;rw[Moved.eq_with hm];exact hR s'.heap s'.toks acc' c' (fun b o hb hbi e=>hm.heap b o (by simp[hb,hbi]) e) hN1 hacc
  delta CN
  refine Aa (JZ (T:="list_reverseiterator") hit.typeIs ?_);have h1:Gv (.ref S) (.ref it)=false:=by simp[Gv,hSi]
  have h2:(FQ "list_reverseiterator"==FQ "list")=false:=by decide
  have h3:(FQ "list_reverseiterator"==FQ "tuple")=false:=by decide
  simp only[h1,h2,h3,Ln,if_false,AT];refine Aa (wpAny_pyIter_revIter hit ?_);refine Aa (Bp (Xgh hit ?_));exact DM (fun z=>af z (by decide+kernel)) (fun _=>Ac ⟨Ce F.plain_extend_loop _,key⟩)
theorem Zkx{Q:Value->Af->Prop}{l:Addr}(hh:A.handled=ao)(hit:s.heap.IsRevIter it l ((items.size:Int)-1))(hl:s.heap.IsList l items)(hne:l≠it)(hn:items.size<=Ar)(hQ:∀h' tk acc' c',(∀b o,b≠it->s.heap.get? b=ak o->h'.get? b=ak o)->h'.get? s.heap.objs.size=ak {cls:=.type "list",dict:=ao,data:=.seq acc' c',slots:=#[]}->ItemsOf (fun i v=>items[items.size-1-i]?=ak v) acc' items.size->Q (.ref s.heap.objs.size) {s with heap:=h',toks:=tk}):Ak (Aw P w) A (call (.type "list") [.ref it]) Q E s:=by
  have hit0:=hit;obtain⟨oi,hoi,_⟩:=id hit;obtain⟨ol,hol,_⟩:=id hl;have hi:it<s.heap.objs.size:=AI hoi;have hLl:l<s.heap.objs.size:=AI hol;refine Ml (Q₁:=fun ob z=>ob=.ref s.heap.objs.size/\z={s with heap:=s.heap.push {cls:=.type "list",data:=.seq #[]}}) F.called_list (F.typeCall_list_1 _) F.entry_list_init
    (code_list_new _ ⟨rfl,rfl⟩) fun ob z h1=>?_
  obtain⟨rfl,rfl⟩:=h1;have hN:(s.heap.push {cls:=.type "list",data:=.seq #[]}).get? s.heap.objs.size=ak {cls:=.type "list",data:=.seq #[]}:=Au _ rfl;refine⟨⟨_,hN,rfl⟩,F.args_list_init_2 _ _,?_⟩;show Ak _ _ (do let old <- GN (.ref s.heap.objs.size);GB (.ref s.heap.objs.size) (fun _=>#[]);letGo old.toList.reverse;CN (.ref s.heap.objs.size) (.ref it) .none) _ _ _;refine Aa ?_;unfold GN;refine Aa (Bu hN rfl (Ac ?_));show Ak _ _ (Hl s.heap.objs.size (fun _=>#[]) >>= fun _=>letGo (#[]:Array Value).toList.reverse >>= fun _=>CN (.ref s.heap.objs.size) (.ref it) .none) _ _ _;refine Aa (C7 hN rfl ?_);have hN2:=Cb (Bc (fun _=>(#[]:Array Value))) hN rfl;have oth:∀b o,b≠s.heap.objs.size->s.heap.get? b=ak o->((s.heap.push {cls:=.type "list",data:=.seq #[]}).update s.heap.objs.size (Bc (fun _=>(#[]:Array Value)))).get? b=ak o:=fun b o hb e=>(BP _ _ (Ne.symm hb)).trans (Ae _ e);refine Aa (Cg ?_);refine Zvc (A:=A.in1) hh (hit0.at fun o e=>oth it o (AY hi) e) (hl.at fun o e=>oth l o (AY hLl) e) hne hn _ .none _ hN2 (ES hi) (ES hLl) fun h' tk acc' c' hk hN1 hacc=>?_;exact⟨rfl,hQ h' tk acc' c' (fun b o hb e=>hk b o (AY (AI e)) hb (oth b o (AY (AI e)) e)) hN1 hacc⟩
variable{xs:List V}
def Xhf(K:AN)(te:TE):TE:=fun σ H Q=>Zbk te Zoq σ H fun vs H1=>∃a xs,vs=[.ref a]/\SqL K H1 a xs/\∀r,H1 r=ao->Q (.ref r) (upd H1 r (.lst xs.reverse))
variable{e:Expr}{p p':Pos}
theorem Xoa(hc:X.calm=aq)(hg:Gl X "list")(hm:X.mg "list"=ao)(hg':Gl X "reversed")(hm':X.mg "reversed"=ao)(he:PE X e te)(hs2:Ad [e] X.env=(ar,A6 e X.env)::Ad [] X.env):PE X (.Call (.Name "list" p) [.Call (.Name "reversed" p') [e] [] pos'] [] pos) (Xhf X.K te):=by
 intro pins s σ H Q I h;refine Cs (Zdh I hg hm boot_list ?_ (by decide) (by decide));refine BC ?_ Xp rfl;rw[Xp];show Ak _ _ (spliced ((ar,A6 (.Call (.Name "reversed" p') [e] [] pos') X.env)::BL pos (Ad [] X.env))) _ _ s;refine IV ?_;refine Cs (Zdh I hg' hm' boot_reversed ?_ (by decide) (by decide));refine BC (thn (Zdt he Ziz hs2 pos' pins s σ H _ I h) fun us s1 hz9=>?_) hs2 rfl;obtain⟨vs,H1,I1,r1,q1⟩:=hz9;obtain⟨a,xs,rfl,hq,q⟩:=q1;obtain⟨u,rfl,rx⟩:=vals1 r1;cases rx;obtain⟨its,rv,pl,hz⟩:=I1.list hq;have hlen:=rv.length;have hl:=pl.isList;obtain⟨oa,hoa,_⟩:=id hl;have ha:a<s1.heap.objs.size:=AI hoa;refine call_reversed_list hl (JY ?_);refine Zkx (it:=s1.heap.objs.size) (l:=a) (items:=its.toArray) (I1.ok.hd hc) ⟨_,Au _ rfl,rfl,rfl⟩ (hl.push _) (AY ha) (by rw[Ay];omega) fun h' tk acc' c' hk hN1 hacc=>?_;have hsz:(s1.heap.push (revObj a ((its.toArray.size:Int)-1))).objs.size=s1.heap.objs.size+1:=EI ..;have hle:s1.heap.objs.size<=(s1.heap.push (revObj a ((its.toArray.size:Int)-1))).objs.size:=by rw[hsz];exact G3 _
 have hk1:∀b o,s1.heap.get? b=ak o->h'.get? b=ak o:=fun b o e=>hk b o (AY (AI e)) (Ae _ e);have hrev:acc'.toList=its.reverse:=by
  obtain⟨h1,h2⟩:=hacc;have h0:acc'.size=its.length:=h1.trans (Ay ..);refine List.ext_getElem? fun j=>?_;by_cases hj:j<its.length;have hj':j<acc'.size:=by omega
  have e1:=h2 j acc'[j] (B3 hj');have e2:its.toArray[its.toArray.size-1-j]?=its[its.length-1-j]?:=by simp
  rw[DO,B3 hj',List.getElem?_reverse hj,<- e2];exact e1.symm;rw[DX (by simp;omega),DX (by simp;omega)]
 refine⟨.ref _,_,I1.laid (o:=.lst xs.reverse) (t':=tk) hk1 hle ?_,rfl,q _ (I1.hok.fresh hle)⟩;refine⟨by rw[CT];exact hz,acc'.toList,c',?_,?_⟩;rw[hrev];exact rv.reverse;rw[hN1]
theorem Xlh(hg:Gl X "list")(hm:X.mg "list"=ao)(hg':Gl X "reversed")(hm':X.mg "reversed"=ao)(he:QE X e te)(hs2:Ad [e] X.env=(ar,A6 e X.env)::Ad [] X.env)(hc:X.calm=true:=by rfl) :
  QE X (.Call (.Name "list" p) [.Call (.Name "reversed" p') [e] [] pos'] [] pos) (Xhf X.K te):=⟨Xoa hc hg hm hg' hm' he.out hs2⟩
theorem range_any(bs:List Bool):(AX bs.length).any (fun i=>bs.getD i ar)=bs.any id:=by
 refine DF.mpr ⟨fun h=>DZ.mpr ?_,fun h=>DZ.mpr ?_⟩
 all_goals obtain⟨i,hi,h⟩:=DZ.mp h
 ·have hl:i<bs.length:=Bi.mp hi;refine⟨bs[i],Ca hl,?_⟩;simpa[CA,hl] using h
 ·obtain⟨j,hj,e⟩:=D7.mp hi;refine⟨j,Bi.mpr hj,?_⟩;have e2:bs.getD j ar=bs[j]:=by simp[CA,hj]
  rw[e2,e];exact h
variable{p:Addr}
def Xdh(K:AN):List V->Hp->VK->Prop:=fun xs H Q=>∃(p:Addr) (bs:List Bool),xs=[.ref p]/\SqL K H p (bs.map V.bl)/\Q (.bl (bs.any id)) H
variable{prog:AR}
theorem Xul{bs:List Bool}(rv:Yl (bs.map V.bl) its):TruthOf prog w A (fun i v=>its.toArray[i]?=ak v) (fun i=>bs.getD i ar):=by
  intro i v s Q E hv hQ;have hl:=rv.length;rw[Ai]at hl;have hv':its[i]?=ak v:=by simpa using hv
  have hi:i<its.length:=(Am.mp hv').1;obtain ⟨u,e,ru⟩:=rv.get (i:=i) (x:=V.bl (bs.getD i ar)) (by
    rw [AS,Ag (by omega)];simp [CA,show i<bs.length by omega])
  rw[hv']at e;cases e;cases (show v=En (bs.getD i ar) from ru);exact CD hQ
theorem Zzt(hc:X.calm=aq):Zae X (.builtin "any") (Xdh X.K):=by intro pins s σ H xs us Q I r h;obtain⟨p,bs,rfl,hq,q⟩:=h;obtain⟨u,rfl,rx⟩:=vals1 r;cases rx;obtain⟨its,rv,pl,hz⟩:=I.list hq;have hl:=pl.isList;have hlen:=rv.length;rw[Ai]at hlen;obtain⟨oa,hoa,_⟩:=id hl;have hlt:p<s.heap.objs.size:=AI hoa;refine call_any_walk (E3 pl.isList ⟨_,_,_,_,_,_,fun i=>bs.getD i ar,rfl,G7 (A:=X.A.in1) (I.ok.hd hc) s.heap.objs.size p (AY hlt) its.toArray,⟨⟨_,Au _ rfl,rfl,rfl⟩,hl.push _⟩,Xul rv,fun h' tk hk=>⟨.bl (bs.any id),H,I.kept (old_kept hk),?_,q⟩⟩);show En _=En _;rw[Ay,<- hlen,range_any]
variable{Q:VK}
theorem Xqt{bs:List Bool}(h:SqL K H p (bs.map V.bl))(q:Q (.bl (bs.any id)) H):Xdh K [.ref p] H Q:=⟨p,bs,rfl,h,q⟩
variable{Q:Unit->Af->Prop}
def rInD(K:AN)(neg:Bool):R2:=fun x y H Q=>∃d xs,Dn K H y (.list xs)/\Dn K H x d/\FW xs=aq/\d.canLay0=aq/\d.depth<=20/\Q (.bl (if neg then !(xs.any fun z=>DW z d) else xs.any fun z=>DW z d)) H
theorem Zyq(hu:X.A.units+64<BE):OpR X (B8 .NotIn) (rInD X.K aq):=by intro pins s σ H x y v u Q I rx ry h;obtain⟨d,xs,h1,h2,c1,c2,dd,q⟩:=h;obtain⟨as,ra⟩:=h1.reads I ry;obtain⟨bs,rb⟩:=h2.reads I rx;exact SeqAt.notIn_list_reads ra rb c1 c2 (by have:=KO (GJ xs) d.depth;omega) ⟨.bl _,H,I,rfl,q⟩
def Dk{α:Type}:Sem α->Prop
 | .pure _=>True
 | .raise _=>True
 | .unsupported _=>True
 | .finish _=>True
 | .rule _ k=>Dk (k ())
 | .at _ k=>Dk (k ())
 | .load _ _ k=>∀o,Dk (k o)
 | .update _ _ f k=>(∀o:Obj,o.isFreed=ar->(f o).isFreed=ar/\(f o).dict=o.dict)/\Dk (k ())
 | .alloc _ k=>∀a,Dk (k a)
 | .loadIfAlive _ k=>∀o,Dk (k o)
 | .point _ k=>Dk (k ())
 | .fresh k=>∀a,Dk (k a)
 | .ask k=>∀a,Dk (k a)
 | .choose _ _ k=>∀a,Dk (k a)
 | .os _ _ k=>∀a,Dk (k a)
 | .handled _ k=>∀a,Dk (k a)
 | .stack k=>∀a,Dk (k a)
 | .thread k=>∀a,Dk (k a)
 | .register _ _=>False
 | .call ..=>False
 | .newGen ..=>False
 | .genState ..=>False
 | .resume ..=>False
 | .yield ..=>False
 | .fork ..=>False
 | .await ..=>False
theorem Dk.bind{α β:Type}{f:α->Sem β}(hf:∀a,Dk (f a)){t:Sem α}(h:Dk t):Dk (t.bind f):=by
 induction t with
 |pure a=>exact hf a
 |raise _=>trivial
 |unsupported _=>trivial
 |finish _=>trivial
 |rule _ k ih=>exact ih () h
 |«at» _ k ih=>exact ih () h
 |load _ _ k ih=>exact fun o=>ih o (h o)
 |update _ _ _ k ih=>exact⟨h.1,ih () h.2⟩
 |alloc _ k ih=>exact fun o=>ih o (h o)
 |loadIfAlive _ k ih=>exact fun o=>ih o (h o)
 |point _ k ih=>exact ih () h
 |register _ _ _=>exact h.elim
 |fresh k ih=>exact fun o=>ih o (h o)
 |ask k ih=>exact fun o=>ih o (h o)
 |choose _ _ k ih=>exact fun o=>ih o (h o)
 |os _ _ k ih=>exact fun o=>ih o (h o)
 |call _ _ _ _ _ _=>exact h.elim
 |handled _ k ih=>exact fun o=>ih o (h o)
 |newGen _ _ _=>exact h.elim
 |genState _ _ _=>exact h.elim
 |resume _ _ _ _ _=>exact h.elim
 |yield _ _ _ _ _=>exact h.elim
 |stack k ih=>exact fun o=>ih o (h o)
 |fork _ _ _=>exact h.elim
 |thread k ih=>exact fun o=>ih o (h o)
 |await _ _ _ _ _ _=>exact h.elim
def Zfv(s:Af)(e:Addr)(d:Option Addr):Prop:=∃o,s.heap.get? e=ak o/\o.dict=d
variable{e:Addr}
theorem Zoh{a:Addr}{f:Obj->Obj}(he:h.get? e=ak o)(hf:∀o:Obj,o.isFreed=ar->(f o).isFreed=ar/\(f o).dict=o.dict):∃o',(h.update a f).get? e=ak o'/\o'.dict=o.dict:=by by_cases q:a=e;subst q;have nf:o.isFreed=false:=(Heap.get?_some_iff.mp he).2;exact⟨f o,Cb f he (hf o nf).1,(hf o nf).2⟩;exact⟨o,by rw[BP _ _ q];exact he,rfl⟩
theorem Dk.wp{α:Type}{M:Model}{Γ:PySem.Ctx}{e:Addr}{d:Option Addr}{t:Sem α}{Q:α->Pos->Af->Prop}{E:Value->Pos->Af->Prop}{p:Pos}{s:Af}(hk:Dk t)(h:Sem.wp M Γ t Q E p s)(hd:Zfv s e d):Sem.wp M Γ t (fun a p' s'=>Q a p' s'/\Zfv s' e d) (fun x p' s'=>E x p' s'/\Zfv s' e d) p s:=by
 induction t generalizing p s with
 |pure a=>exact⟨h,hd⟩
 |raise _=>exact⟨h,hd⟩
 |unsupported _=>exact h.elim
 |finish _=>exact h.elim
 |rule _ k ih=>exact ih () hk h hd
 |«at» _ k ih=>exact ih () hk h hd
 |load _ _ k ih =>obtain⟨o,h1,h2⟩:=h;exact⟨o,h1,ih o (hk o) h2 hd⟩
 |update a _ f k ih =>obtain⟨o,h1,h2⟩:=hd;obtain⟨o',g1,g2⟩:=Zoh (a:=a) h1 hk.1;exact⟨h.1,ih () hk.2 h.2 ⟨o',g1,g2.trans h2⟩⟩
 |alloc _ k ih =>obtain⟨o,h1,h2⟩:=hd;exact ih _ (hk _) h ⟨o,Ae _ h1,h2⟩
 |loadIfAlive _ k ih=>exact ih _ (hk _) h hd
 |point _ k ih=>exact ih () hk h hd
 |register _ _ _=>exact hk.elim
 |fresh k ih=>exact ih _ (hk _) h hd
 |ask k ih=>exact ih _ (hk _) h hd
 |choose _ _ k ih=>exact⟨h.1,ih _ (hk _) h.2 hd⟩
 |os _ _ k ih=>exact ih _ (hk _) h hd
 |call _ _ _ _ _ _=>exact hk.elim
 |handled _ k ih=>exact ih _ (hk _) h hd
 |newGen _ _ _=>exact hk.elim
 |genState _ _ _=>exact hk.elim
 |resume _ _ _ _ _=>exact hk.elim
 |yield _ _ _ _ _=>exact hk.elim
 |stack k ih=>exact ih _ (hk _) h hd
 |fork _ _ _=>exact hk.elim
 |thread k ih=>exact ih _ (hk _) h hd
 |await _ _ _ _ _ _=>exact hk.elim
variable{M:Model}{α:Type}
theorem Dk.any{t:Sem α}{Q:α->Af->Prop}(hk:Dk t)(h:Ak M A t Q E s)(hd:Zfv s e d):Ak M A t (fun a s'=>Q a s'/\Zfv s' e d) (fun x s'=>E x s'/\Zfv s' e d) s:=fun Γ p hΓ=>hk.wp (h Γ p hΓ) hd
theorem Zoj(v:Value):Dk (fieldsOf v):=by
 unfold fieldsOf;cases v<;>first|trivial|skip
 refine Dk.bind (t:=PySem.load _) (fun o=>?_) (fun _=>trivial);cases o.data<;>trivial
theorem Zgs(v:Value)(i:Nat):Dk (HZ v i):=Dk.bind (fun vs=>by
  cases vs[i]?<;>trivial) (Zoj v)
theorem Xhw(f:Array Value->Array Value)(o:Obj)(h:o.isFreed=ar):(FX f o).isFreed=ar/\(FX f o).dict=o.dict:=by rcases o with⟨c,d,data,sl⟩;cases data<;>exact⟨h,rfl⟩
theorem Zdq(v:Value)(i:Nat)(x:Value):Dk (Gg v i x):=by
 unfold Gg;cases v<;>first|trivial|skip
 rename_i a;show Dk (updateField a i x);unfold updateField;refine Dk.bind (t:=PySem.load _) (fun o=>?_) (fun _=>trivial);cases o.data<;>first|trivial|skip
 rename_i vs;show Dk (if i<vs.size then _ else _);split;exact⟨fun o h=>Xhw _ o h,trivial⟩;trivial
theorem Zlz(e:Value)(f:Option Addr):Dk (setFlight e f):=Dk.bind (fun tb=>by
  show Dk (if (tb != BI)=aq then _ else _);split;exact Zdq _ _ _
  · trivial) (Zgs e 1)
theorem Xbm(env:Env)(outer:List Env):Dk (Mm env outer):=by unfold Mm;split;trivial;split;trivial;refine Dk.bind (fun _=>?_) (Zgs _ _);trivial
theorem Xmw(env:Env)(b:Bool):∀l:List Env,Dk (keptBack env b l)
 |[]=>by show Dk (if (env.scope.isGenerator||env.scope.isCoroutine)=aq then _ else _);split;trivial;refine Dk.bind (t:=underTheClaimsCaller) (fun _=>?_) (Dk.bind (t:=PySem.stack) (fun _=>?_) fun _=>trivial);trivial;trivial
 |_::_=>trivial
theorem Zse:∀l:List Env,Dk (readyFrames l)
 |[]=>trivial
 |env::outer=>by
  unfold readyFrames;cases env.frame with
  |none=>trivial
  |some f =>refine Dk.bind (t:=PySem.load f) (fun o=>?_) fun _=>trivial;split;trivial;refine Dk.bind (fun b=>?_) (Xbm env outer);refine Dk.bind (fun k=>?_) (Xmw env b outer);refine Dk.bind (t:=PySem.update f _) (fun _=>Zse outer) ⟨fun o h=>by rcases o with⟨c,d,data,sl⟩;cases data<;>exact⟨h,rfl⟩,trivial⟩
theorem Zip(l:List Env):Dk (frameObject l):=by
 cases l with
 |nil=>trivial
 |cons e l =>refine Dk.bind (fun _=>?_) (Zse (e::l));trivial
theorem Ztn(env:Env):Dk (PySem.frameOf env):=by unfold PySem.frameOf;refine Dk.bind (t:=frameEnvs) (fun l=>?_) (Dk.bind (t:=PySem.stack) (fun _=>?_) fun _=>trivial);refine Dk.bind (fun o=>?_) (Zip _);cases o<;>trivial;trivial
theorem Xdw(f:Addr)(b:Bool):Dk (Kf f b):=by unfold Kf;refine Dk.bind (t:=PySem.stack) (fun acts=>?_) fun _=>trivial;split<;>trivial
theorem Zns(ty:String)(vs:List Value):Dk (newFields ty vs):=by
 have h:Dk (newObjAsIs (.type ty) (.fields vs.toArray)):=by unfold newObjAsIs;refine Dk.bind (t:=PySem.alloc _) (fun _=>?_) fun _=>trivial;trivial
 show Dk (if vs.toArray.size > Ar+2 then _ else _);split;trivial;exact h
theorem Xlw(e:Value)(env:Env):Dk (Hm e env):=by
 unfold Hm;cases env.frame with
 |none=>trivial
 |some f =>
  have last:∀head:Value,Dk (do Gg e 1 (<- MB head (<- PySem.frameOf env) .none (Cu f) .none (<- Kf f (head != .none)))):=fun head =>
   Dk.bind (fun fr=>Dk.bind (fun pl=>Dk.bind (fun b=>Zdq _ _ _) (Zns _ _)) (Xdw _ _)) (Ztn env)
  refine Dk.bind (fun head=>?_) (Zgs e 1);split;refine Dk.bind (fun x=>?_) (Zgs head 3);split;trivial;exact Dk.bind (fun _=>last head) (Zdq _ _ _);exact last head
theorem Zug(env:Env)(e:Value):Dk (Kc env e):=Dk.bind (fun _=>Zlz _ _) (Xlw e env)
theorem Je.ob{P:AR}{w:Bk}{H:Hp}{h:Bg}{a:Addr}{o:HO}(x:Je P w H h a o):∃ob,h.get? a=ak ob:=by
 cases o with
 |lst xs=>obtain⟨_,its,n,_,e⟩:=x;exact⟨_,e⟩
 |tup xs=>obtain⟨_,its,_,ob,e,_⟩:=x;exact⟨ob,e⟩
 |dK kvs=>obtain⟨_,_,vs,_,ob,es,ep,e,_⟩:=x;exact⟨ob,e⟩
 |dT kvs=>obtain⟨_,_,xs,_,ob,es,ep,e,_⟩:=x;exact⟨ob,e⟩
 |set S n=>obtain⟨ob,es,ep,t,e,_⟩:=x;exact⟨ob,e⟩
 |ins C dx fs=>obtain⟨_,_,_,e,_⟩:=x;exact⟨_,e⟩
 |own y=>exact x
 |xd fs=>obtain⟨mA,⟨od,es,ep,e,_⟩,_⟩:=x;exact⟨od,e⟩
 |rng lo hi=>obtain⟨t,u,v,e⟩:=x;exact⟨_,e⟩
 |frz ob u=>obtain⟨e,_⟩:=x;exact⟨_,e⟩
 |tbl p q=>obtain⟨_,e,_⟩:=x;exact⟨_,e⟩
 |met f y=>exact⟨_,x⟩
 |ext φ=>obtain⟨_,⟨ob,e⟩,_⟩:=x;exact⟨ob,e⟩
variable{ch:List Addr}{d':LA}{g':Array G8}{t':Nat}{u:Value}
theorem Inv.step'(I:Inv X pins σ H s)(hch:∀b∈ch,X.s₀.heap.get? b=ao/\b≠X.env.locals/\(∀x c,X.env.cells.lookup x=ak c->c≠b)/\∀p∈X.pn++pins,p.1≠b)(keep:∀b o,b≠X.env.locals->b∉X.fs->b∉ch->s.heap.get? b=ak o->H b=ao->h'.get? b=ak o)(slot:∀b o,b≠X.env.locals->b∈X.fs->b∉ch->s.heap.get? b=ak o->H b=ao->∃sl,h'.get? b=ak {o with slots:=sl})(free:∀b o,b∉ch->s.heap.get? b=ak o->H b=ao->H' b=ao)(there:∀b o,b∉ch->s.heap.get? b=ak o->∃o',h'.get? b=ak o')(tups:∀b xs,H b=ak (.tup xs)->H' b=ak (.tup xs))(frzs:∀b o u,H b=ak (.frz o u)->H' b=ak (.frz o u))(tbls:∀b p n,H b=ak (.tbl p n)->H' b=ak (.tbl p n))(ns:∀m,s.heap.Ns X.env.locals m->h'.Ns X.env.locals m)(hok:HOk X.prog X.w H' h')(hg:EH g'):Inv X pins σ H' {s with heap:=h',gens:=g',drawn:=d',toks:=t'}:=by
 have neL:∀b o,X.s₀.heap.get? b=ak o->b≠X.env.locals:=fun b o e=>AY (AG (AI e) I.ok.above);have neC:∀b o,X.s₀.heap.get? b=ak o->b∉X.ex->b∉ch:=fun b o e hx hb=>by have z:=(hch b hb).1;rw[z]at e;cases e
 have cellK:∀x c,X.env.cells.lookup x=ak c->∀v,s.heap.IsCell c v->h'.IsCell c v:=fun x c e v ⟨o,ho,hd⟩=>by have nch:c∉ch:=fun z=>(hch c z).2.2.1 x c e rfl;by_cases hc:c∈X.fs;obtain⟨sl,q⟩:=slot c o (I.cne x c e) hc nch ho (I.freeC x c e);exact⟨_,q,hd⟩;exact⟨o,keep c o (I.cne x c e) hc nch ho (I.freeC x c e),hd⟩
 refine⟨I.ok,I.os,hg,⟨fun b o e n hb hx=>?_,fun b o e n hb hx=>?_,fun b o e n hx=>?_,fun b o e hx=>?_,fun b xs e=>tups b xs (I.base.tups b xs e),fun b o xs e=>frzs b o xs (I.base.frzs b o xs e),fun b p n e=>tbls b p n (I.base.tbls b p n e)⟩,?_,fun x c e=>?_,?_,fun x c e=>?_,fun p hp=>?_,hok,I.len⟩;exact keep b o (neL b o e) hb (neC b o e hx) (I.base.keep b o e n hb hx) (I.base.free b o e n hx);obtain⟨sl,e1⟩:=I.base.slot b o e n hb hx;obtain⟨sl',e2⟩:=slot b _ (neL b o e) hb (neC b o e hx) e1 (I.base.free b o e n hx);exact⟨sl',e2⟩;obtain⟨o',e1⟩:=I.base.there b o e hx;exact free b o' (neC b o e hx) e1 (I.base.free b o e n hx);obtain⟨o',e1⟩:=I.base.there b o e hx;exact there b o' (neC b o e hx) e1;obtain⟨m,hn,hl⟩:=I.loc;refine⟨m,ns m hn,fun i x v e1 e2 e3=>?_⟩;obtain⟨u,r,l⟩:=hl i x v e1 e2 e3;refine⟨u,r,?_⟩;rcases l with l|⟨k,c,e,z⟩;exact .inl l;exact .inr ⟨k,c,e,cellK x c e _ z⟩;obtain⟨v,z⟩:=I.cell x c e;exact⟨v,cellK x c e v z⟩;obtain⟨m,⟨o,_,_,ho,_⟩,_⟩:=I.loc;exact free _ o (fun z=>(hch _ z).2.1 rfl) ho I.free;obtain⟨v,o,ho,hd⟩:=I.cell x c e;exact free c o (fun z=>(hch c z).2.2.1 x c e rfl) ho (I.freeC x c e);obtain⟨e,n,ne,nf,d⟩:=I.pin p hp;have nch:p.1∉ch:=fun z=>(hch p.1 z).2.2.2 p hp rfl;exact⟨keep p.1 p.2 ne nf nch e n,free p.1 p.2 nch e n,ne,nf,d⟩
variable{oT:Obj}{ts:Array Value}
def Xeh(h:Bg)(e:Addr)(cls:Value)(own:List Addr)(z:Option Value):Prop:=
 ∃oe vs a0,h.get? e=ak oe/\oe.cls=cls/\oe.data=.fields vs/\vs[0]?=ak a0/\
  ((z=ao/\own=[e]/\vs[1]?=ak .none)\/∃T oT ts fl,z=ak fl/\own=[e,T]/\vs[1]?=ak (.ref T)/\T≠e/\h.get? T=ak oT/\oT.data=.fields ts/\ts[3]?=ak fl)
def Zjx(X:Cx)(pins:List (Addr×Obj))(H:Hp)(own:List Addr):Prop:=
 ∀b∈own,H b=ao/\X.s₀.heap.get? b=ao/\b≠X.env.locals/\(∀x c,X.env.cells.lookup x=ak c->c≠b)/\∀p∈X.pn++pins,p.1≠b
def CXE0(P:AR)(w:Bk):CXT:=fun outer H s E ev s' =>
 ∃e T cls H',ev=.ref e/\s'.os=s.os/\EH s'.gens/\Un (frs outer) [] H H' s.heap s'.heap/\HOk P w H' s'.heap/\(∃B,s'.heap.FunFrames B outer)/\Xeh s'.heap e cls [e,T] (ak .none)/\
  s.heap.get? e=ao/\s.heap.get? T=ao/\H' e=ao/\H' T=ao/\E cls ao H'
def ER0(X:Cx)(E:XK)(ev:Value)(s':Af):Prop:=
 ∃pins e own cls z σ H,ev=.ref e/\Inv X pins σ H s'/\Xeh s'.heap e cls own z/\(z=ao\/z=ak .none\/∃L,X.env.frame=ak L/\z=ak (Cu L))/\Zjx X pins H own/\E cls ao H
theorem Inv.noteOf(I:Inv X pins σ H s):∀b∈frs X.stack,∃o,s.heap.get? b=ak o/\∀vs,o.data≠.fields vs:=fun b hb=>(I.stack.mem hb).2
theorem Inv.hide(I:Inv X pins σ H s)(own:List Addr):(Ei s.heap (own++frs X.stack)).StaysIn s.heap/\s.heap.FunFrames (Ei s.heap (own++frs X.stack)) X.stack:=⟨fun _ _ q=>PySem.W.of_hideAll _ q,PySem.W.funFrames_hide I.stack fun _ he _ ha=>Ah _ (FZ.mpr ⟨_,he,ha⟩)⟩
structure Kept(X:Cx)(own:List Addr)(h h':Bg):Prop where
 st:(Ei h (own++frs X.stack)).StaysIn h'
 fr:h'.FunFrames (Ei h (own++frs X.stack)) X.stack
 up:h.UpToSlots h'
theorem Kept.get{own:List Addr}{h h':Bg}(k:Kept X own h h'){b:Addr}{o:Obj}(e:h.get? b=ak o)(n1:b∉own)(n2:b∉frs X.stack):h'.get? b=ak o:=k.st b o (Hy _ e fun z=>(Al.mp z).elim n1 n2)
theorem Kept.hok{own:List Addr}{h':Bg}(k:Kept X own s.heap h')(I:Inv X pins σ H s)(oo:∀b∈own,H b=ao):HOk X.prog X.w H h':=fun a o e=>by
 refine(I.hok a o e).stay (fun b u hb q=>?_) (fun _ q=>q) (fun _ _ q=>q) fun _ _ _ q=>q;have tr:∃u',H b=ak u':=by rcases hb with rfl|hb;exact⟨_,e⟩;exact⟨_,hb⟩
 obtain⟨u',eu⟩:=tr;exact k.get q (fun z=>by rw[oo b z]at eu;cases eu) (fun z=>by rw[I.stkFree b z]at eu;cases eu)
variable{b:Addr}
theorem Kept.there(k:Kept X own s.heap h')(I:Inv X pins σ H s)(e:s.heap.get? b=ak o)(n1:b∉own):∃sl,h'.get? b=ak {o with slots:=sl}:=by by_cases n2:b∈frs X.stack;obtain⟨o',e',hd⟩:=I.noteOf b n2;rw[e]at e';cases e';exact k.up b o e hd;exact⟨o.slots,k.get e n1 n2⟩
theorem Kept.inv(k:Kept X own s.heap h')(I:Inv X pins σ H s)(oo:Zjx X pins H own):Inv X pins σ H {s with heap:=h',toks:=t'}:=by
 refine I.step' (g':=s.gens) (d':=s.drawn) (ch:=own) (fun b hb=>(oo b hb).2) (fun b o h1 h2 h3 e n=>?_) (fun b o _ _ h3 e n=>k.there I e h3) (fun _ _ _ _ n=>n) (fun b o h3 e=>?_) (fun _ _ e=>e) (fun _ _ _ e=>e) (fun _ _ _ e=>e)
  (fun m hm=>k.up.ns hm) (k.hok I fun b hb=>(oo b hb).1) I.bare
 exact k.get e h3 fun z=>(Aj.mp (I.stkSub b z)).elim h1 h2;obtain⟨sl,q⟩:=k.there I e h3;exact⟨_,q⟩
theorem Kept.new(k:Kept X own s.heap h'){T:Addr}(hn:(Ei s.heap (own++frs X.stack)).get? T=ao)(hT:h'.get? T=ak oT)(hd:oT.data=.fields ts)(no:T∉own):s.heap.get? T=none:=by
 cases q:s.heap.get? T with
 |none=>rfl
 |some o =>
  have nf:T∉frs X.stack:=fun z=>by obtain⟨_,o',e',hd'⟩:=k.fr.mem z;rw[hT]at e';cases e';exact hd' ts hd
  rw[Hy _ q fun z=>(Al.mp z).elim no nf]at hn;cases hn
theorem Zuj{E:XK}{R:Value->Af->Prop}(h:ER0 X E ev s')(hP:X.prog=P)(hw:X.w=w)(hs:X.s₀=s₀)(hH:X.H₀=H₀)(ho:X.outer=outer)(hx:X.ex=[])(hst:X.stack=X.env::outer)(hf:X.env.frame=ak X.env.locals):Ak (Aw P w) X.A (Kc X.env ev) (fun _ s''=>CXE0 P w outer H₀ s₀ E ev s'') R s':=by
  obtain⟨pins,e,own,cls,z,σ,H,rfl,I,x,hz,oo,q⟩:=h;subst hP hw hs hH ho;have hfr:X.A.frames=ak (X.env::X.outer):=by rw[<- hst];exact I.ok.frames
  obtain⟨hkb,hfl⟩:=I.hide own;obtain⟨B,hB⟩:∃B,B=Ei s'.heap (own++frs X.stack):=⟨_,rfl⟩;rw[<- hB]at hkb hfl;have hen:B.get? e=none:=by rw[hB];refine D2 _ (Aq _ ?_);obtain⟨_,_,_,_,_,_,_,(⟨_,r,_⟩|⟨_,_,_,_,_,r,_⟩)⟩:=x<;>(rw[r];simp)
  have fin:∀(h':Bg) (a0:Value),B.StaysIn h'->h'.FunFrames B X.stack->h'.TracedW B e cls a0->s'.heap.UpToSlots h'->
      CXE0 X.prog X.w X.outer X.H₀ X.s₀ E (.ref e) {s' with heap:=h'}:=fun h' a0 k1 k2 k3 k4=>by
    have k2':h'.FunFrames B X.outer:=by rw[hst]at k2;exact k2.2.2
    subst hB;have K:Kept X own s'.heap h':=⟨k1,k2,k4⟩;obtain⟨oe,vs,T,oT,ts,he,⟨hc,h0⟩,hd,h1,hnT,hTe,hT,hdT,h3⟩:=k3;have eo:e∈own:=by obtain⟨_,_,_,_,_,_,_,(⟨_,r,_⟩|⟨_,_,_,_,_,r,_⟩)⟩:=x<;>(rw[r];simp)
    have newT:X.s₀.heap.get? T=ao/\H T=none:=by
      by_cases no:T∈own;exact⟨(oo T no).2.1,(oo T no).1⟩;have hn:=K.new hnT hT hdT no;refine⟨?_,?_⟩;cases qq:X.s₀.heap.get? T with
      |none=>rfl
      |some o =>obtain⟨o',e'⟩:=I.base.there T o qq (by rw[hx];simp);rw[hn]at e';cases e'
      cases qq:H T with
      |none=>rfl
      |some o =>obtain⟨o',e'⟩:∃o',s'.heap.get? T=ak o':=(I.hok T o qq).ob;rw[hn]at e';cases e'
    have neL:∀b o,X.s₀.heap.get? b=ak o->b≠X.env.locals:=fun b o e=>AY (AG (AI e) I.ok.above);have neO:∀b o,X.s₀.heap.get? b=ak o->b∉own:=fun b o e z=>by rw[(oo b z).2.1]at e;cases e
    have nx:∀b:Addr,b∉X.ex:=fun b z=>by rw[hx]at z;simp at z
    refine ⟨e,T,cls,H,rfl,I.os,I.bare,⟨fun b o e n hb _=>?_,fun b o e n hb _=>?_,fun b o e n _=>I.base.free b o e n (nx b),fun b o e _=>?_,I.base.tups,I.base.frzs,I.base.tbls⟩,K.hok I fun b hb=>(oo b hb).1,⟨Ei s'.heap (own++frs X.stack),?_⟩,
      ⟨oe,vs,a0,he,hc,hd,h0,.inr ⟨T,oT,ts,.none,rfl,rfl,h1,hTe,hT,hdT,h3⟩⟩,(oo e eo).2.1,newT.1,(oo e eo).1,newT.2,q⟩
    exact K.get (I.base.keep b o e n hb (nx b)) (neO b o e) fun z=>(Aj.mp (I.stkSub b z)).elim (neL b o e) hb;obtain⟨sl,e1⟩:=I.base.slot b o e n hb (nx b);obtain⟨sl',e2⟩:=K.there I e1 (neO b o e);exact⟨sl',e2⟩;obtain⟨o',e1⟩:=I.base.there b o e (nx b);obtain⟨sl',e2⟩:=K.there I e1 (neO b o e);exact⟨_,e2⟩;exact k2'
  rw[hst]at hfl;obtain⟨oe,vs,a0,he,hc,hd,h0,r⟩:=x;subst hc;rcases r with⟨_,_,h1⟩|⟨T,oT,ts,fl,rfl,ro,h1,hTe,hT,hdT,h3⟩;exact wpAny_leaving_firstW hfr hfl hf he hkb hen hd h1 h0 fun h' L=>fin h' a0 L.1 (by rw[hst];exact L.2.1) L.2.2.1 L.2.2.2;have hnT:B.get? T=none:=by rw[hB];exact D2 _ (Aq _ (by rw[ro];simp))
  have tr:s'.heap.TracedAtW B e oe.cls a0 fl:=⟨oe,vs,T,oT,ts,he,⟨rfl,h0⟩,hd,h1,hnT,hTe,hT,hdT,h3⟩;rcases hz with hz|hz|⟨L,hL,hz⟩;cases hz;cases hz;exact wpAny_leaving_nextW hfr hfl hf tr hkb hen fun h' L=>fin h' a0 L.1 (by rw[hst];exact L.2.1) L.2.2.1 L.2.2.2;cases hz;unfold Kc;refine Aa (J6 hL tr ?_);exact wpAny_landsW ⟨hkb,hen,hfl,tr⟩ fun h' F up=>fin h' a0 F.1 (by rw[hst];exact F.2.2.1) F.2.2.2 up
def CXE(P:AR)(w:Bk):CXT:=fun outer H s E ev s'=>∃e dx,ev=.ref e/\Zfv s' e dx/\CXE0 P w outer H s (fun cls _ H'=>E cls dx H') ev s'
def ER(X:Cx)(E:XK)(ev:Value)(s':Af):Prop:=∃e dx,ev=.ref e/\Zfv s' e dx/\ER0 X (fun cls _ H'=>E cls dx H') ev s'
theorem Xag{E:XK}{R:Value->Af->Prop}(h:ER X E ev s')(hP:X.prog=P)(hw:X.w=w)(hs:X.s₀=s₀)(hH:X.H₀=H₀)(ho:X.outer=outer)(hx:X.ex=[])(hst:X.stack=X.env::outer)(hf:X.env.frame=ak X.env.locals):Ak (Aw P w) X.A (Kc X.env ev) (fun _ s''=>CXE P w outer H₀ s₀ E ev s'') R s':=by
 obtain⟨e,dx,rfl,hd,h⟩:=h;exact BF ((Zug X.env (.ref e)).any (Zuj (R:=R) h hP hw hs hH ho hx hst hf) hd) (fun _ s'' q=>⟨e,dx,rfl,q.2,q.1⟩) fun _ _ q=>q.1
theorem Inv.ownNew(I:Inv X pins σ H s)(hx:X.ex=[])(hb:s.heap.get? b=ao):H b=ao/\X.s₀.heap.get? b=ao/\b≠X.env.locals/\(∀x c,X.env.cells.lookup x=ak c->c≠b)/\∀p∈X.pn++pins,p.1≠b:=by
 refine⟨?_,?_,?_,fun x c e z=>?_,fun p hp z=>?_⟩;cases q:H b with
 |none=>rfl
 |some o =>obtain⟨ob,e⟩:=(I.hok b o q).ob;rw[hb]at e;cases e
 cases q:X.s₀.heap.get? b with
 |none=>rfl
 |some o =>obtain⟨o',e⟩:=I.base.there b o q (by rw[hx];simp);rw[hb]at e;cases e
 rintro rfl;obtain⟨m,⟨o,_,_,ho,_⟩,_⟩:=I.loc;rw[hb]at ho;cases ho;obtain⟨v,o,ho,_⟩:=I.cell x c e;rw[z,hb]at ho;cases ho;have e:=(I.pin p hp).1;rw[z,hb]at e;cases e
variable{E':Value->Af->Prop}
theorem PSs.weak{st:List Stmt}{t:TS}(h:PSs (X.wish E') st t)(hE:∀e s,E' e s->X.xe e s):PSs X st t:=fun pins s σ H D I hw =>
 BF (h pins s σ H D (I.wish E') hw) (fun _ _ q=>q.unwish) hE
theorem Fun.okE{base:Bg}{k:Nat}(F:Fun K x qual st f fd)(S:Xc N ps (Zh st))(len:∀vs H Q E,sp vs H Q E->vs.length=ps.length)(hbody:∀(cdv:Value) (A:Ba) (outer:List Env) (s:Af) (H:Hp) (vs:List V) (Q:VK) (E:XK),Zcd k (A.deeper (DT qual (Zh st) s.heap.objs.size f cdv))->sp vs H Q E->∃t,PSs ((Zmw (CXE P w) P w K mg base N qual (Zh st) f cdv A outer s H E).wish (ER (Zmw (CXE P w) P w K mg base N qual (Zh st) f cdv A outer s H E) E)) (Jh st) t/\t {nx:=fun _ H'=>Q .non H',rt:=Q} (start N vs) H):Zap P w K mg base (CXE P w) (k+1) f fd ps sp:=by
  obtain⟨oc,od,kV,doc,pm,an,cdv,ct,osl,rfl,lk,hcd⟩:=F.ex;refine Xqw lk hcd S len fun A outer s H vs Q E hr hsp=>?_;obtain⟨t,h,q⟩:=hbody cdv A outer s H vs Q E hr hsp;exact⟨t,h.weak fun e s' x=>Xag x rfl rfl rfl rfl rfl rfl rfl rfl,q⟩
variable{E:XK}
theorem Xwo(hx:X.ex=[]:=by rfl):Zdk (CXE0 X.prog X.w) (X.wish (ER0 X E)) E:=fun pins σ H s ev s' I h=>by obtain⟨e,T,cls,H',rfl,os,bare,un,hok,fr,x,ne,nT,hH1,hH2,q⟩:=h;have J:Inv X pins σ H s:=I.unwish;have I':Inv X pins σ H' s':=J.call' (ch:=[]) os un hok bare (by simp);refine⟨pins,e,[e,T],cls,ak .none,σ,H',rfl,I',x,.inr (.inl rfl),fun b hb=>?_,q⟩;simp only[Aj,or_false,BO]at hb;rcases hb with rfl|rfl;exact⟨hH1,(J.ownNew hx ne).2⟩;exact⟨hH2,(J.ownNew hx nT).2⟩
theorem passE(hx:X.ex=[]:=by rfl):Zdk (CXE X.prog X.w) (X.wish (ER X E)) E:=fun pins σ H s ev s' I h=>by obtain⟨e,dx,rfl,hd,h⟩:=h;exact⟨e,dx,rfl,hd,Xwo (X:=X) (E:=fun cls _ H'=>E cls dx H') hx pins σ H s (.ref e) s' (I.unwish.wish _) h⟩
abbrev bmV:List Value:=[.type "ValueError",.type "Exception",.type "BaseException",.type "object"]
variable{C:Addr}{bmB:List Value}{newId:String}
theorem Xxo(X:K.In h)(q:G4 K C bmB newId=aq):∃bm N nm q bs hdct sn sub ab col dd k0 k1 k2 k3 k5 mN,h.get? C=ak (excClassObj nm q C N bs bm hdct sn sub ab col dd k0 k1 k2 k3 k5 newId)/\h.Ns N mN/\mN "__init__"=ao/\OwnTail h bmB bm:=by
 unfold G4 at q;split at q
 next dct cls slots look =>
  split at q
  next _ above z0 z1 z2 z3 maker z5 isMro isSlots =>
   rw[AC,AC,AC,AC,AC]at q;obtain⟨⟨⟨⟨⟨q1,q2⟩,q3⟩,q4⟩,q5⟩,q6⟩:=q;have same:=beq_iff_eq.mp q1;have mk:=beq_iff_eq.mp q2;have nodel:=(Kp _).mp q3;subst same mk;have all6:slots=#[z0,z1,z2,z3,ak (.builtin maker),z5]:=Array.ext' isSlots;rcases cls with⟨c1,c2,c3,c4,c5,c6,c7,c8,c9,c10,c11⟩;cases (show c11=ar from nodel);cases (show c3=_ from isMro);cases all6;exact⟨_,c4,c1,c5,c2,c6,c7,c8,c9,c10,dct,z0,z1,z2,z3,z5,_,X _ _ look,.of_isNs (PySem.W.isNs_of_in X q5),PySem.W.nsMap_none_of_in X q5 (beq_iff_eq.mp q6),PySem.W.tail_of_in X q4⟩
  next=>cases q
 next=>cases q
def Zry(cls:Value)(E:XK)(t:TA):TS:=fun _ σ H=>t σ H fun vs H1=>vs.length<=Ar/\E cls ao H1
theorem Xhx{e:Expr}{t:TA}{np:Pos}(hq:G4 X.K C bmV "ValueError.__new__"=aq)(hm:X.mg x=ak (.ref C))(ha:PA (X.wish (ER X E)) (e::es) t)(hg:Gl X x:=by rfl)(hc:X.calm=true:=by rfl)(hx:X.ex=[]:=by rfl)
  (hdb:(x==("__debug__":Str))=false:=by decide) (he:Ad (e::es) X.env=(ar,A6 e X.env)::Ad es X.env:=by rfl) (hpl:(BL cpos (Ad es X.env)).any (·.1)=false:=by rfl) :
  PS (X.wish (ER X E)) (.Raise (ak (.Call (.Name x np) (e::es) [] cpos)) ao pos) (Zry (.ref C) E t):=by
 intro pins s σ H D I h;obtain⟨bm,N,nm,q,bs,hdct,sn,sub,ab,col,dd,k0,k1,k2,k3,k5,mN,hC,hN,hni,T⟩:=Xxo (h:=X.base) I.ok.mod.kin hq;refine wpAny_Raise_call_subT (C:=C) (nm:=nm) (q:=q) (N:=N) (bs:=bs) (bm:=bm) (hdct:=hdct) (sn:=sn) (sub:=sub) (ab:=ab) (col:=col) (dd:=dd) (k0:=k0) (k1:=k1) (k2:=k2) (k3:=k3) (k5:=k5)
  PySem.F.excBase_ValueError (mN:=mN) (T.hasType PySem.F.excBase_ValueError.hasBase) (I.ok.hd hc) (by rw[show Ad (e::es) (X.wish (ER X E)).env=(ar,A6 e X.env)::Ad es X.env from he];show(ar||(BL cpos (Ad es X.env)).any (·.1))=ar;rw[hpl];rfl) hni (Zju I hg hm ⟨rfl,?_⟩ hdb)
 have hA:=ha cpos pins s σ H _ I h;rw[show Ad (e::es) (X.wish (ER X E)).env=(ar,A6 e X.env)::Ad es X.env from he]at hA ⊢;refine Iw (thn hA fun us s2 ⟨vs,H2,I2,r2,hl,q2⟩=>⟨rfl,by rw[<- r2.length];exact hl,I2.bk _ _ hC,hN.keeps I2.bk,T.keeps I2.bk,fun h' e hm=>?_⟩);obtain⟨t,he',htn,ht⟩:=hm.there;have J2:Inv X pins σ H2 s2:=I2.unwish;have I3:Inv X pins σ H2 {s2 with heap:=h'}:=J2.kept (t':=s2.toks) hm.keeps;refine⟨e,ao,rfl,⟨_,he',rfl⟩,pins,e,[e],.ref C,ao,σ,H2,rfl,I3,⟨_,_,_,he',rfl,rfl,rfl,.inl ⟨rfl,rfl,rfl⟩⟩,.inl rfl,fun b hb=>?_,q2⟩;rw[Ap.mp hb];exact J2.ownNew hx hm.new
theorem Xeh.mem(x:Xeh h e cls own z):e∈own:=by obtain⟨_,_,_,_,_,_,_,(⟨_,r,_⟩|⟨_,_,_,_,_,r,_⟩)⟩:=x<;>(rw[r];simp)
theorem Zis{a0:Value}(I:Inv X pins σ H s)(oo:Zjx X pins H own)(eo:e∈own)(hx:X.ex=[])(K:Kept X own s.heap h')(tr:h'.TracedAtW (Ei s.heap (own++frs X.stack)) e cls a0 fl):∃T,Xeh h' e cls [e,T] (ak fl)/\Zjx X pins H [e,T]:=by
 obtain⟨oe,vs,T,oT,ts,he,⟨hc,h0⟩,hd,h1,hnT,hTe,hT,hdT,h3⟩:=tr;refine⟨T,⟨oe,vs,a0,he,hc,hd,h0,.inr ⟨T,oT,ts,fl,rfl,rfl,h1,hTe,hT,hdT,h3⟩⟩,fun b hb=>?_⟩;simp only[Aj,or_false,BO]at hb;rcases hb with rfl|rfl;exact oo _ eo;by_cases no:b∈own;exact oo _ no;exact I.ownNew hx (K.new hnT hT hdT no)
variable{A':Ba}
theorem Xod{R:Value->Af->Prop}(I:Inv X pins σ H s)(x:Xeh s.heap e cls own z)(hz:z=ao\/z=ak .none\/∃L,X.env.frame=ak L/\z=ak (Cu L))(oo:Zjx X pins H own)(hx:X.ex=[])(hfr:A'.frames=ak X.stack)(hst:X.stack=X.env::X.outer)(hf:X.env.frame=ak X.env.locals)(k:∀s2 T,Inv X pins σ H s2->Xeh s2.heap e cls [e,T] (ak (Cu X.env.locals))->Zjx X pins H [e,T]->Q () s2):Ak (Aw X.prog X.w) A' (Hm (.ref e) X.env) Q R s:=by
 obtain⟨hkb,hfl⟩:=I.hide own;obtain⟨B,hB⟩:∃B,B=Ei s.heap (own++frs X.stack):=⟨_,rfl⟩;rw[<- hB]at hkb hfl;have eo:=x.mem;have hen:B.get? e=none:=by rw[hB];exact D2 _ (Aq _ eo)
 have fin:∀(h':Bg) (a0:Value),Heap.NotedW B X.stack e cls a0 (Cu X.env.locals) s.heap h'->Q () {s with heap:=h'}:=fun h' a0 N=>by subst hB;obtain⟨k1,k2,k3,k4⟩:=N;have K:Kept X own s.heap h':=⟨k1,k2,k4⟩;obtain⟨T,x',oo'⟩:=Zis I oo eo hx K k3;exact k _ T (K.inv I oo (t':=s.toks)) x' oo'
 obtain⟨oe,vs,a0,he,hc,hd,h0,r⟩:=x;subst hc;rw[hst]at hfr hfl;rcases r with⟨_,_,h1⟩|⟨T,oT,ts,fl,rfl,ro,h1,hTe,hT,hdT,h3⟩;unfold Hm;simp only[hf];refine(Aa (Bq he hd h1 ?_));rw[ae (by decide)];exact wpAny_entryW hfr hfl hf he hkb hen hd (Hf.mp h1).1 h0 fun h' N=>fin h' a0 (by rw[hst];exact N);have hnT:B.get? T=none:=by rw[hB];exact D2 _ (Aq _ (by rw[ro];simp))
 have tr:s.heap.TracedAtW B e oe.cls a0 fl:=⟨oe,vs,T,oT,ts,he,⟨rfl,h0⟩,hd,h1,hnT,hTe,hT,hdT,h3⟩;rcases hz with hz|hz|⟨L,hL,hz⟩;cases hz;cases hz;exact wpAny_noteFrame_onW hfr hfl hf tr hkb hen fun h' N=>fin h' a0 (by rw[hst];exact N);cases hz;obtain rfl:X.env.locals=L:=AE (hf.symm.trans hL);refine J6 hf tr ?_;subst ro;exact k s T I ⟨oe,vs,a0,he,rfl,hd,h0,.inr ⟨T,oT,ts,_,rfl,rfl,h1,hTe,hT,hdT,h3⟩⟩ oo
theorem Zyi{T:Addr}{R:Value->Af->Prop}(I:Inv X pins σ H s)(x:Xeh s.heap e cls [e,T] (ak fl))(oo:Zjx X pins H [e,T])(hx:X.ex=[])(k:∀s2 T',Inv X pins σ H s2->Xeh s2.heap e cls [e,T'] (ak .none)->Zjx X pins H [e,T']->Q () s2):Ak (Aw X.prog X.w) A' (setFlight (.ref e) ao) Q R s:=by
 obtain⟨hkb,hfl⟩:=I.hide [e,T];have eo:=x.mem;obtain⟨oe,vs,a0,he,hc,hd,h0,r⟩:=x;rcases r with⟨z,_⟩|⟨T',oT,ts,fl',z,ro,h1,hTe,hT,hdT,h3⟩;cases z;cases z;have hnT:(Ei s.heap ([e,T]++frs X.stack)).get? T'=none:=D2 _ (Aq _ (by rw[ro];simp));refine wpAny_setFlight_noneW hkb hfl ⟨oe,vs,T',oT,ts,he,⟨hc,h0⟩,hd,h1,hnT,hTe,hT,hdT,h3⟩ fun h' k1 k2 k3 k4=>?_;have K:Kept X [e,T] s.heap h':=⟨k1,k2,fun b o q hn=>⟨o.slots,k4 b o q hn⟩⟩;obtain⟨T2,x',oo'⟩:=Zis I oo eo hx K k3;exact k _ T2 (K.inv I oo (t':=s.toks)) x' oo'
def exO(e:Addr)(cls:Value)(dx:Option Addr):HO:=.ext fun h=>∃o vs,h.get? e=ak o/\o.cls=cls/\o.data=.fields vs/\o.dict=dx
theorem Cx.Ok.setPn(ok:X.Ok)(pn:List (Addr×Obj)):({X with pn:=pn}:Cx).Ok:=⟨ok.mod,ok.kind,ok.glob,ok.blt,ok.above,ok.inj,ok.has,ok.cab,ok.hd,ok.frames,ok.stk,ok.exf,ok.bs,ok.bsz,ok.noex,ok.exfs,ok.funs,ok.frf⟩
theorem Cx.Ok.unsetPn(ok:({X with pn:=pn}:Cx).Ok):X.Ok:=⟨ok.mod,ok.kind,ok.glob,ok.blt,ok.above,ok.inj,ok.has,ok.cab,ok.hd,ok.frames,ok.stk,ok.exf,ok.bs,ok.bsz,ok.noex,ok.exfs,ok.funs,ok.frf⟩
theorem Inv.inpin(I:Inv X pins σ H s):Inv {X with pn:=X.pn++pins} [] σ H s:=⟨I.ok.setPn _,I.os,I.bare,I.base,I.loc,I.cell,I.free,I.freeC,fun p hp=>I.pin p (by simpa using hp),I.hok,I.len⟩
variable{pins':List (Addr×Obj)}
theorem Inv.outpin(I:Inv {X with pn:=X.pn++pins} pins' σ H s):Inv X pins σ H s:=⟨I.ok.unsetPn,I.os,I.bare,I.base,I.loc,I.cell,I.free,I.freeC,fun p hp=>I.pin p (Aq _ hp),I.hok,I.len⟩
abbrev Cx.hand(X:Cx)(e:Addr):Cx:={X with A:=X.A.mark (ak (.ref e)),calm:=ar,xe:=fun _ _=>False}
theorem Inv.hand(I:Inv X pins σ H s)(e:Addr):Inv (X.hand e) pins σ H s:=
  ⟨⟨I.ok.mod,I.ok.kind,I.ok.glob,I.ok.blt,I.ok.above,I.ok.inj,I.ok.has,I.ok.cab,(fun z=>by cases z),I.ok.frames,I.ok.stk,I.ok.exf,I.ok.bs,I.ok.bsz,I.ok.noex,I.ok.exfs,I.ok.funs,I.ok.frf⟩,
    I.os,I.bare,I.base,I.loc,I.cell,I.free,I.freeC,I.pin,I.hok,I.len⟩
theorem Inv.unhand(I:Inv (X.hand e) pins σ H s)(hd:X.calm=aq->X.A.handled=ao):Inv X pins σ H s:=
  ⟨⟨I.ok.mod,I.ok.kind,I.ok.glob,I.ok.blt,I.ok.above,I.ok.inj,I.ok.has,I.ok.cab,hd,I.ok.frames,I.ok.stk,I.ok.exf,I.ok.bs,I.ok.bsz,I.ok.noex,I.ok.exfs,I.ok.funs,I.ok.frf⟩,
    I.os,I.bare,I.base,I.loc,I.cell,I.free,I.freeC,I.pin,I.hok,I.len⟩
end L2
namespace L2
open PySem PySem.Spec
section
variable{t:Nat}{a C:Addr}
open PySem.W (Looks)
end
end L2
namespace L2
open PySem PySem.Spec PyProof.Rows
abbrev TJ:=St->Hp->(Hp->Prop)->Prop
variable{H:Hp}{Q:Value->Af->Prop}{pins:List (Addr×Obj)}{s:Af}{σ:St}
def PJ(X:Cx)(es:List Expr)(t:TJ):Prop:=
 ∀(out:Str) (pins:List (Addr×Obj)) (s:Af) (σ:St) (H:Hp) (Q:VK),Inv X pins σ H s->out.length+2000*es.length<=Ar->t σ H (fun H1=>∀z,Q (.str z) H1)->
  Ak (Aw X.prog X.w) X.A (joinParts out (evalEach es X.env)) (EP X pins σ Q) X.xe s
structure QJ(X:Cx)(es:List Expr)(t:TJ):Prop where
 out:PJ X es t
open PySem.W (Looks)
variable{ty:TE}
structure Zph(K:AN)(C:Addr):Prop where
 exc:G4 K C bmV "ValueError.__new__"=aq
 ty:Fw K (.ref C)=ak (.type "type")
 cl:∃c,Gk K C=ak c
 ga:CK K (.ref C) "__getattribute__"=ak (ak (.builtin "BaseException.__getattribute__"))
 ge:CK K (.ref C) "__getattr__"=ak ao
 lk:CK K (.ref C) "__class__"=ak (ak (.builtin "object.__class__"))
 so:Dq K (.ref C) (.type "object")=ak aq
 sb:Dq K (.ref C) (.type "BaseException")=ak aq
 se:Dq K (.ref C) (.ref C)=ak aq
variable{C b:Addr}{E:Value->Af->Prop}{K:AN}{e:Expr}{h:Bg}
section
variable{D e:Addr}{b:Bool}
structure Xvf(K:AN)(C:Addr):Prop where
 ob:∃dd cd sl,K.lookup C=ak ⟨.type "type",dd,.cls cd,sl⟩
 ty:Fw K (.ref C)=ak (.type "type")
 cl:∃c,Gk K C=ak c
 ga:CK K (.ref C) "__getattribute__"=ak (ak (.builtin "BaseException.__getattribute__"))
 ge:CK K (.ref C) "__getattr__"=ak ao
 lk:CK K (.ref C) "__class__"=ak (ak (.builtin "object.__class__"))
 so:Dq K (.ref C) (.type "object")=ak aq
 sb:Dq K (.ref C) (.type "BaseException")=ak aq
 se:Dq K (.ref C) (.ref C)=ak aq
theorem Zph.ob(E:Zph K C):∃dd cd sl,K.lookup C=ak ⟨.type "type",dd,.cls cd,sl⟩:=by
 have q:=E.exc;unfold G4 at q;split at q
 next dct cls slots look=>exact⟨_,_,_,look⟩
 next=>cases q
theorem Zph.k(E:Zph K C):Xvf K C:=⟨E.ob,E.ty,E.cl,E.ga,E.ge,E.lk,E.so,E.sb,E.se⟩
theorem Xvf.kitC(E:Xvf K C)(h:Dq K (.ref D) (.ref C)=ak b):PySem.W.kitCls K (.ref D) (.ref C)=ak b:=by obtain⟨c,hc⟩:=E.cl;show(if ((Gk K C).isSome&&Fw K (.ref C)==ak (.type "type"))=aq then Dq K (.ref D) (.ref C) else ao)=ak b;rw[hc,E.ty,aa (by simp)];exact h
theorem Xvf.exm(E:Xvf K C)(h:Dq K (.ref D) (.ref C)=ak b):Hq K (.ref D) (.ref C)=ak b:=by unfold Hq;rw[E.sb,aa (by simp)];exact E.kitC h
end
variable{X:Cx}{a:Addr}{cpos pos:Pos}{es:List Expr}{x:Str}
section
variable{Q:VK}{D:Ends}
variable{a b c d:Expr}{ta tb tc:TE}
variable{t:TA}{np hpos:Pos}
theorem Xif{E:XK}(hq:G4 X.K C bmV "ValueError.__new__"=aq)(hm:X.mg x=ak (.ref C))(ha:QA (X.wish (ER X E)) (e::es) t)(hg:Gl X x:=by rfl)(hc:X.calm=true:=by rfl)(hx:X.ex=[]:=by rfl)
  (hdb:(x==("__debug__":Str))=false:=by decide) (he:Ad (e::es) X.env=(ar,A6 e X.env)::Ad es X.env:=by rfl) (hpl:(BL cpos (Ad es X.env)).any (·.1)=false:=by rfl) :
  QS (X.wish (ER X E)) (.Raise (ak (.Call (.Name x np) (e::es) [] cpos)) ao pos) (Zry (.ref C) E t):=⟨Xhx hq hm ha.out hg hc hx hdb he hpl⟩
end
variable{A:Ba}{H':Hp}{N ps:List Str}{P:AR}{f:Addr}{fd:CH}{mg:Str->Option Value}{st:Stmt}{vs:List (Key×Value)}{w:Bk}
theorem Fun.okEQ{base:Bg}{qual:Str}{k:Nat}{sp:Sp}(F:Fun K x qual st f fd)(S:Xc N ps (Zh st))(len:∀vs H Q E,sp vs H Q E->vs.length=ps.length)(hbody:∀(cdv:Value) (A:Ba) (outer:List Env) (s:Af) (H:Hp) (vs:List V) (Q:VK) (E:XK),Zcd k (A.deeper (DT qual (Zh st) s.heap.objs.size f cdv))->sp vs H Q E->∃t,QSs ((Zmw (CXE P w) P w K mg base N qual (Zh st) f cdv A outer s H E).wish (ER (Zmw (CXE P w) P w K mg base N qual (Zh st) f cdv A outer s H E) E)) (Jh st) t/\t {nx:=fun _ H'=>Q .non H',rt:=Q} (start N vs) H):Zap P w K mg base (CXE P w) (k+1) f fd ps sp:=
  F.okE S len fun cdv A outer s H vs Q E hr h=>by obtain⟨t,ht,q⟩:=hbody cdv A outer s H vs Q E hr h;exact⟨t,ht.out,q⟩
structure Pl(n:Nat)(x:Str):Prop where
 len:x.length<=n
 asc:∀c∈x.cps.toList,c<128
variable{kvs:List (List Key×V)}{o:Option V}{u:Value}{v y:V}{κ:Type}
section
variable[DecidableEq κ]
def Zoz(kvs:List (κ×V))(k:κ):Option V:=(kvs.find? fun kv=>decide (kv.1=k)).map (·.2)
def putK(kvs:List (κ×V))(k:κ)(v:V):List (κ×V):=
 if (kvs.any fun kv=>decide (kv.1=k))=aq then kvs.map (fun kv=>if kv.1=k then (kv.1,v) else kv) else kvs++[(k,v)]
theorem Zdy{p:κ×V}{r:List (κ×V)}{k:κ}(e:p.1=k):Zoz (p::r) k=ak p.2:=by simp[Zoz,EV,e]
theorem Zew{p:κ×V}{r:List (κ×V)}{k:κ}(e:¬p.1=k):Zoz (p::r) k=Zoz r k:=by simp[Zoz,EV,e]
theorem Zgj(k:κ):∀kvs:List (κ×V),(kvs.any fun kv=>decide (kv.1=k))=(Zoz kvs k).isSome
 |[]=>rfl
 |p::r=>by rw[Gm];by_cases e:p.1=k;simp only[Zdy e,aj e,Bool.true_or,Option.isSome_some];rw[Zew e,ai e,Bool.false_or];exact Zgj k r
theorem Zhg(kvs:List (κ×V))(k:κ)(v:V):(putK kvs k v).length<=kvs.length+1:=by unfold putK;split;rw[Ai];omega;rw[Av,BK,GS];omega
theorem Xcp.isSome_eq{u:Option Value}(r:Xcp o u):o.isSome=u.isSome:=by
 cases o with
 |none=>cases u with
  |none=>rfl
  |some _=>exact(show False from r).elim
 |some _=>cases u with
  |none=>exact(show False from r).elim
  |some _=>rfl
theorem KV.val{kvs:List (κ×V)}{vs:List (κ×Value)}(r:KV kvs vs)(k:κ):Xcp (Zoz kvs k) (GZ vs k):=by
 unfold KV at r
 induction r with
 |nil=>exact Ep
 |@cons p q ps qs h t ih =>
  obtain⟨h1,h2⟩:=h;by_cases e:p.1=k;have e':q.1=k:=h1.symm.trans e;have b:GZ (q::qs) k=ak q.2:=by simp[GZ,EV,e']
  rw[Zdy e,b];exact h2;have e':¬q.1=k:=fun z=>e (h1.trans z);have b:GZ (q::qs) k=GZ qs k:=by simp[GZ,EV,e']
  rw[Zew e,b];exact ih
theorem KV.any{kvs:List (κ×V)}{vs:List (κ×Value)}(r:KV kvs vs)(k:κ):(kvs.any fun kv=>decide (kv.1=k))=vs.any fun kv=>decide (kv.1=k):=by
 unfold KV at r
 induction r with
 |nil=>rfl
 |cons h t ih=>rw[Gm,Gm,ih,h.1]
theorem KV.repl{kvs:List (κ×V)}{vs:List (κ×Value)}(r:KV kvs vs)(k:κ)(ry:RelV y u):KV (kvs.map fun kv=>if kv.1=k then (kv.1,y) else kv) (vs.map fun kv=>if kv.1=k then (kv.1,u) else kv):=by
 unfold KV at r ⊢
 induction r with
 |nil=>exact .nil
 |@cons p q ps qs h t ih =>rw[AZ,AZ];refine .cons ?_ ih;obtain⟨h1,h2⟩:=h;by_cases e:p.1=k;rw[aa e,aa (h1.symm.trans e)];exact⟨h1,ry⟩;rw[ae e,ae (fun z=>e (h1.trans z))];exact⟨h1,h2⟩
theorem KV.put{kvs:List (κ×V)}{vs:List (κ×Value)}(r:KV kvs vs)(k:κ)(ry:RelV y u):KV (putK kvs k y) (stored vs k u):=by unfold putK stored;rw[r.any k];by_cases e:(vs.any fun kv=>decide (kv.1=k))=aq;rw[aa e,aa e];exact r.repl k ry;rw[ae e,ae e];exact Paired.snoc r ⟨rfl,ry⟩
theorem KV.length{kvs:List (κ×V)}{vs:List (κ×Value)}(r:KV kvs vs):kvs.length=vs.length:=Paired.length r
end
theorem Xil{k:Key}(r:RelV (kV k) u):(Yi P w).is k u=true:=by
 cases k with
 |inl i=>obtain⟨t,e⟩:=(show ∃t,u=Gx i t from r);subst e;exact Zol P w i t
 |inr x=>obtain⟨t,e⟩:=(show ∃t,u=Hz x t from r);subst e;exact Zor P w x t
variable{ks:List Key}
theorem Zmu{P:AR}{w:Bk}:∀{ks:List Key} {us:List Value},Yl (ks.map kV) us->ItemsAre (Yi P w) ks us
 |[],_,r=>by rw[Ls]at r;cases r;exact .nil
 |k::ks,_,r=>by
  rw[AZ]at r;cases r with
  |cons h t=>exact .cons (Xil h) (Zmu t)
abbrev KT(H:Hp):List (List Key×V)->List (List Key×Addr×Value)->Prop:=Paired fun p q=>p.1=q.1/\H q.2.1=ak (.tup (p.1.map kV))/\RelV p.2 q.2.2
variable{xs:List (List Key×Addr×Value)}
theorem KT.val(r:KT H kvs xs)(k:List Key):Xcp (Zoz kvs k) ((Ig xs k).map (·.2)):=by
 induction r with
 |nil=>exact Ep
 |@cons p q ps qs h t ih =>
  obtain⟨h1,_,h2⟩:=h;by_cases e:p.1=k;have e':q.1=k:=h1.symm.trans e;have b:Ig (q::qs) k=ak q.2:=by simp[Ig,EV,e']
  rw[Zdy e,b];exact h2;have e':¬q.1=k:=fun z=>e (h1.trans z);have b:Ig (q::qs) k=Ig qs k:=by simp[Ig,EV,e']
  rw[Zew e,b];exact ih
theorem KT.repl(r:KT H kvs xs)(k:List Key)(ry:RelV y u):KT H (kvs.map fun kv=>if kv.1=k then (kv.1,y) else kv) (xs.map (putAt k u)):=by
 induction r with
 |nil=>exact .nil
 |@cons p q ps qs h t ih =>rw[AZ,AZ];refine .cons ?_ ih;obtain⟨h1,h2,h3⟩:=h;unfold putAt;by_cases e:p.1=k;rw[aa e,aa (h1.symm.trans e)];exact⟨h1,h2,ry⟩;rw[ae e,ae (fun z=>e (h1.trans z))];exact⟨h1,h2,h3⟩
theorem KT.put(r:KT H kvs xs)(k:List Key)(hb:H b=ak (.tup (k.map kV)))(ry:RelV y u):KT H (putK kvs k y) (storedH xs k b u):=by
 have e:(kvs.any fun kv=>decide (kv.1=k))=(Ig xs k).isSome:=by rw[Zgj,(r.val k).isSome_eq,IL]
 unfold putK storedH;rw[e];by_cases q:(Ig xs k).isSome=aq;rw[aa q,aa q];exact r.repl k ry;rw[ae q,ae q];exact Paired.snoc r ⟨rfl,hb,ry⟩
theorem KT.keeps(r:KT H kvs xs)(ht:∀b ys,H b=ak (.tup ys)->H' b=ak (.tup ys)):KT H' kvs xs:=Paired.mapP r fun _ _ z=>⟨z.1,ht _ _ z.2.1,z.2.2⟩
theorem Xfs{u:HO}(ok:HOk P w H h)(e:Rd H a u):Je P w H h a u:=e.ok ok
theorem Zyc{kvs:List (Key×V)}(ok:HOk P w H h)(e:Rd H a (.dK kvs)):kvs.length<=Ar/\(a==Ck)=ar/\∃vs,KV kvs vs/\h.DictOf (Yi P w) a vs:=show Je P w H h a (.dK kvs) from Xfs ok e
theorem dk_of{kvs:List (Key×V)}(ok:HOk P w H h)(e:H a=ak (.dK kvs)):kvs.length<=Ar/\(a==Ck)=ar/\∃vs,KV kvs vs/\h.DictOf (Yi P w) a vs:=Zyc ok (.inl e)
theorem Znq(ok:HOk P w H h)(e:H a=ak (.tup (ks.map kV))):(C9 (Yi P w)).is h ks a:=by obtain⟨_,its,r,o,h1,h2,n,h3⟩:=(show Je P w H h a (.tup (ks.map kV)) from ok a _ e);exact⟨o,its.toArray,n,h1,h2,h3,by simpa using Zmu r⟩
theorem Zzu(ok:HOk P w H h)(e:Rd H a (.dT kvs)):kvs.length<=Ar/\(a==Ck)=ar/\ ∃xs,KT H kvs xs/\h.DictOfH (C9 (Yi P w)) a xs:=by
 obtain⟨z,y,xs,r,o,es,ep,h1,h2,h3,h4,h5⟩:=(show Je P w H h a (.dT kvs) from Xfs ok e);refine⟨z,y,xs,r,o,es,ep,h1,h2,h3,h4,fun x hx=>?_,h5⟩;have all:∀{l:List (List Key×V)} {m:List (List Key×Addr×Value)},KT H l m->∀x∈m,(C9 (Yi P w)).is h x.1 x.2.1:=by
  intro l m q
  induction q with
  |nil=>intro x hx;exact nomatch hx
  |@cons p q ps qs hq t ih =>intro x hx;rcases Aj.mp hx with e|hx;subst e;exact Znq ok (by rw[<- hq.1];exact hq.2.1);exact ih x hx
 exact all r x hx
theorem Xun(ok:HOk P w H h)(e:H a=ak (.dT kvs)):kvs.length<=Ar/\(a==Ck)=ar/\ ∃xs,KT H kvs xs/\h.DictOfH (C9 (Yi P w)) a xs:=Zzu ok (.inl e)
def Zuz(H:Hp)(a:Addr)(y:V)(r:Option V):Prop:=
 (∃kvs k,Rd H a (.dK kvs)/\y=kV k/\r=Zoz kvs k)\/∃kvs k b,Rd H a (.dT kvs)/\y=.ref b/\H b=ak (.tup (k.map kV))/\r=Zoz kvs k
def Xre(H:Hp)(a:Addr)(y v:V)(H':Hp):Prop:=
 (∃kvs k,H a=ak (.dK kvs)/\y=kV k/\kvs.length<Ar/\H'=upd H a (.dK (putK kvs k v)))\/
 ∃kvs k b,H a=ak (.dT kvs)/\y=.ref b/\H b=ak (.tup (k.map kV))/\kvs.length<Ar/\H'=upd H a (.dT (putK kvs k v))
protected theorem Zuz.t{k:List Key}(e:H a=ak (.dT kvs))(eb:H b=ak (.tup (k.map kV))):Zuz H a (.ref b) (Zoz kvs k):=.inr ⟨kvs,k,b,.inl e,rfl,eb,rfl⟩
protected theorem Xre.t{k:List Key}(e:H a=ak (.dT kvs))(eb:H b=ak (.tup (k.map kV)))(hl:kvs.length<Ar):Xre H a (.ref b) v (upd H a (.dT (putK kvs k v))):=.inr ⟨kvs,k,b,e,rfl,eb,hl,rfl⟩
theorem Inv.big(I:Inv X pins σ H s):Ck<s.heap.objs.size:=by have h:An<s.heap.objs.size:=(I.mod.glob.keeps I.bk).lt;exact Im (by decide) h
theorem Zwm(hu:A.units+1<BE)(I:Inv X pins σ H s)(g:Zuz H a y (ak v))(ry:RelV y u)(h:∀w' s',Inv X pins σ H s'->RelV v w'->Q w' s'):Ak (Aw X.prog X.w) A (Gq (.ref a) u) Q E s:=by
 rcases g with⟨kvs,k,e,ey,l⟩|⟨kvs,k,b,e,ey,eb,l⟩;subst ey;obtain⟨z,hd,vs,rel,dd⟩:=Zyc I.hok e;obtain⟨w',hw,rw'⟩:=Xcp.some_of (v:=v) (o:=GZ vs k) (by rw[l];exact rel.val k);exact wpAny_getItem_of (Xil ry) dd.mapOf hw (h w' _ (I.tok _) rw');subst ey;cases (show u=AQ b from ry);obtain⟨z,hd,xs,rel,dd⟩:=Zzu I.hok e;obtain⟨w',hw,rw'⟩:=Xcp.some_of (v:=v) (o:=(Ig xs k).map (·.2)) (by rw[l];exact rel.val k);obtain⟨p,hp,hp2⟩:=AH.mp hw;refine wpAny_getItem_heap (GO hu) (Znq I.hok eb) dd hp ?_;rw[hp2];exact h w' _ (I.tok _) rw'
theorem Xor(hu:A.units+1<BE)(I:Inv X pins σ H s)(g:Zuz H a y o)(ry:RelV y u)(h:∀s',Inv X pins σ H s'->Q (.bool (!o.isSome)) s'):Ak (Aw X.prog X.w) A (B8 .NotIn u (.ref a)) Q E s:=by
 rcases g with⟨kvs,k,e,ey,l⟩|⟨kvs,k,b,e,ey,eb,l⟩;subst ey;obtain⟨z,hd,vs,rel,dd⟩:=Zyc I.hok e;refine wpAny_notIn_of (Xil ry) hd dd.mapOf ?_;rw[<- (rel.val k).isSome_eq,<- l];exact h _ (I.tok _);subst ey;cases (show u=AQ b from ry);obtain⟨z,hd,xs,rel,dd⟩:=Zzu I.hok e;refine wpAny_notIn_heap (GO hu) (Znq I.hok eb) hd dd ?_;have q:=(rel.val k).isSome_eq;rw[IL]at q;rw[<- q,<- l];exact h _ (I.tok _)
variable{h':Bg}{t':Nat}
theorem Zpi{ob:HO}(I:Inv X pins σ H s)(mu:Mut (H a))(hs:BZ a s.heap h')(he:∃q,h'.get? a=ak q)(new:Je X.prog X.w (upd H a ob) h' a ob):Inv X pins σ (upd H a ob) {s with heap:=h',toks:=t'}:=
 I.write (x:=a) (e:=a) mu (.inl rfl) (fun b q hb z=>(hs.2 b hb).trans z) he new
theorem Xuy{kvs:List (Key×V)}(z:kvs.length<=Ar)(hd:(a==Ck)=ar)(rel:KV kvs vs)(dd:h'.DictOf (Yi P w) a vs):Je P w H' h' a (.dK kvs):=⟨z,hd,vs,rel,dd⟩
variable{r:Value}
theorem Xai{Q:Unit->Af->Prop}(hu:A.units+1<BE)(I:Inv X pins σ H s)(g:Xre H a y v H')(ry:RelV y u)(rv:RelV v r)(h:∀s',Inv X pins σ H' s'->Q () s'):Ak (Aw X.prog X.w) A (G1 (.ref a) u r) Q E s:=by
 rcases g with⟨kvs,k,e,ey,l,eH⟩|⟨kvs,k,b,e,ey,eb,l,eH⟩;subst ey eH;obtain⟨z,hd,vs,rel,dd⟩:=dk_of I.hok e;have hz:vs.length<=Ar:=by rw[<- rel.length];exact z
 have hl:(putK kvs k v).length<=Ar:=by have:=Zhg kvs k v;omega
 refine wpAny_setItem_pairs (hsz:=hz) (Xil ry) dd fun h' dd' hs=>h _ ?_;have he:∃q,h'.get? a=ak q:=let ⟨q,_,_,hq,_⟩:=dd';⟨q,hq⟩
 exact Zpi I (by rw[e];exact Ep) hs he (Xuy hl hd (rel.put k rv) dd');subst ey eH;cases (show u=AQ b from ry);obtain⟨z,hd,xs,rel,dd⟩:=Xun I.hok e;have hz:xs.length<=Ar:=by rw[<- Paired.length rel];exact z
 have hl:(putK kvs k v).length<=Ar:=by have:=Zhg kvs k v;omega
 refine wpAny_setItem_heap (hsz:=hz) (GO hu) (Znq I.hok eb) dd fun h' dd' hs=>h _ ?_;obtain⟨q,es,ep,hq,h2,h3,h4,_,h5⟩:=dd';refine Zpi I (by rw[e];exact Ep) hs ⟨q,hq⟩ ⟨hl,hd,_,(rel.put k eb rv).keeps fun c ys ec=>?_,q,es,ep,hq,h2,h3,h4,h5⟩;rw[Zy (Xrz ec e (fun z=>nomatch z))];exact ec
def NoSl(i:Expr):Prop:=∀ov iv,Hx i ar ov iv=operate [ov,iv] (Gq ov iv)
variable{env:Env}{prog:AR}{value:Expr}
theorem Xoo{slice:Expr}{T id:String}(hl:HR (.type T) "__getitem__"=pure (ak (.builtin id)))(hs:NoSl slice)(h:Ak (Aw prog w) A (A6 value env) (fun o s₁=>Ak (Aw prog w) A (A6 slice env) (fun i s₂=>s₂.TypeIs o T/\Ak (Aw prog w) A (Gq o i) Q E s₂) E s₁) E s):Ak (Aw prog w) A (A6 (.Subscript value slice pos) env) Q E s:=by
 refine Ii (BF h (fun o s₁ h₁=>BF h₁ (fun i s₂ h₂=>?_) fun _ _ x=>x) fun _ _ x=>x);obtain⟨hT,h₂⟩:=h₂;unfold GG;refine Aa ?_;rw[getitemInPython_of_ne hT.not_modules];refine Aa (Es hT hl ?_);have fin:Ak (Aw prog w) A (Hx slice ar o i) (fun r s₃=>Ak (Aw prog w) A (letTemporaryGo value o r >>= fun _=>pure r) Q E s₃) E s₂:=by rw[hs o i];exact wpAny_operating (BF h₂ (fun r s₃ h₃=>Aa (wpAny_letTemporaryGo (Ac h₃))) fun _ _ x=>x)
 first
  |exact Ac (Aa fin)
  |exact Aa (Ac (Aa fin))
  |exact Aa fin
theorem Zpa(I:Inv X pins σ H s)(g:Zuz H a y o):s.TypeIs (.ref a) "dict":=by rcases g with⟨kvs,k,e,_,_⟩|⟨kvs,k,b,e,_,_,_⟩;obtain⟨_,_,vs,_,dd⟩:=Zyc I.hok e;exact dd.typeIs;obtain⟨_,_,xs,_,dd⟩:=Zzu I.hok e;exact dd.typeIs
def Zyz(td ty:TE):TE:=fun σ H Q=>td σ H fun x H1=>ty σ H1 fun y H2=>∃a v,x=.ref a/\Zuz H2 a y (ak v)/\Q v H2
variable{i o:Expr}{td:TE}
theorem Zvs(hu:X.A.units+1<BE)(ho:PE X o td)(hi:PE X i ty)(hs:NoSl i):PE X (.Subscript o i pos) (Zyz td ty):=by intro pins s σ H Q I h;refine Xoo PySem.F.slot_dict_getitem.lookup hs (thn (ho pins s σ H _ I h) fun u s1 ⟨x,H1,I1,rx,q1⟩=>thn (hi pins s1 σ H1 _ I1 q1) fun iv s2 ⟨y,H2,I2,ry,a,v,ex,g,q2⟩=>?_);subst ex;obtain rfl:u=AQ a:=rx;exact⟨Zpa I2 g,Zwm hu I2 g ry fun w' s3 I3 rw'=>⟨v,H2,I3,rw',q2⟩⟩
theorem Zsw(h:Bg)(hb:Ck<h.objs.size):Je P w H (h.push {cls:=.type "dict",data:=.dict #[]}) h.objs.size (.dT []):=⟨Dp _,beq_eq_false_iff_ne.mpr (Ne.symm (AY hb)),[],.nil,_,#[],0,Au _ rfl,⟨rfl,rfl,rfl⟩,rfl,rfl,Bb⟩
def Xco:TE:=fun _ H Q=>∀p,H p=ao->Q (.ref p) (upd H p (.dT []))
theorem Xdt:PE X (.Dict [] [] pos) Xco:=fun pins s σ H Q I h =>
 wpAny_Dict_empty ⟨.ref s.heap.objs.size,_,I.laid (a:=s.heap.objs.size) (o:=.dT []) (t':=s.toks) (fun _ _ q=>Ae _ q) (As _) (Zsw s.heap I.big),rfl,h _ (I.hok.fresh (As _))⟩
structure M1(X:Cx)(o:Expr)(m:Str)(apos:Pos)(e:Expr)(cpos:Pos):Prop where
  base:Dh o m X.env (A6 o X.env)=A6 o X.env
  few:((BL cpos (Ad [e] X.env)).all (fun x=>!x.1)&&(Fq cpos (DV [] X.env)).all (fun x=>x.1.isSome)
    && decide (([e]:List Expr).length+([]:List CP).length+(if ([]:List CP).isEmpty then 0 else 1)<30))=aq
  line:(apos.endLine==cpos.line)=aq
  trees:BL cpos (Ad [e] X.env)=[(ar,A6 e X.env)]
structure M2(X:Cx)(o:Expr)(m:Str)(apos:Pos)(e f:Expr)(cpos:Pos):Prop where
  base:Dh o m X.env (A6 o X.env)=A6 o X.env
  few:((BL cpos (Ad [e,f] X.env)).all (fun x=>!x.1)&&(Fq cpos (DV [] X.env)).all (fun x=>x.1.isSome)
    && decide (([e,f]:List Expr).length+([]:List CP).length+(if ([]:List CP).isEmpty then 0 else 1)<30))=aq
  line:(apos.endLine==cpos.line)=aq
  trees:BL cpos (Ad [e,f] X.env)=[(ar,A6 e X.env),(ar,A6 f X.env)]
def IsD(H:Hp)(a:Addr):Prop:=(∃kvs,Rd H a (.dK kvs))\/∃kvs,Rd H a (.dT kvs)
theorem Xxp(I:Inv X pins σ H s)(d:IsD H a):s.TypeIs (.ref a) "dict"/\(∀b,AQ a=.ref b->∃ob,s.heap.get? b=ak ob/\ob.dict=ao)/\(a==Ck)=false:=by
 rcases d with⟨kvs,e⟩|⟨kvs,e⟩;obtain⟨_,hd,vs,_,dd⟩:=Zyc I.hok e;refine⟨dd.typeIs,fun b q=>?_,hd⟩;cases q;obtain⟨ob,_,_,h1,h2,_⟩:=dd;exact⟨ob,h1,h2.2.1⟩;obtain⟨_,hd,xs,_,dd⟩:=Zzu I.hok e;refine⟨dd.typeIs,fun b q=>?_,hd⟩;cases q;obtain⟨ob,_,_,h1,h2,_⟩:=dd;exact⟨ob,h1,h2.2.1⟩
end L2
namespace Dl
open PySem
set_option genInjectivity true in
inductive D where
 |non
 |bl (b:Bool)
 |int (i:Int)
 |str (x:Str)
 |lst (xs:List D)
 |tup (xs:List D)
 |scr (ns:List Int)
 |rng (lo hi:Int)
 |exc (c:String) (f:Option Int)
 |obj (c:String) (ns:List Str) (xs:List D)
 |dct (ks:List (Int ⊕ Str)) (xs:List D)
 |dtt (ks:List (List (Int ⊕ Str))) (xs:List D)
 |flst (xs:List D)
 |fdt (ks:List (List (Int ⊕ Str))) (xs:List D)
 deriving Inhabited
set_option genInjectivity true in
inductive R(α:Type) where
 |ok (a:α)
 |err (c:String) (f:Option Int)
 |bad
abbrev Env:=List (Option D)
set_option genInjectivity true in
inductive Fl where
 |nx (ρ:Env)
 |ret (d:D)
 |brk (ρ:Env)
 |cnt (ρ:Env)
def R.bind{α β:Type}:R α->(α->R β)->R β
 | .ok a,f=>f a
 | .err c x,_=>.err c x
 | .bad,_=>.bad
variable{α β:Type}
@[simp] theorem Ys(a:α)(f:α->R β):(R.ok a).bind f=f a:=(rfl)
@[simp] theorem bind_err(c:String)(x:Option Int)(f:α->R β):(R.err c x:R α).bind f=.err c x:=(rfl)
@[simp] theorem bind_bad(f:α->R β):(R.bad:R α).bind f=.bad:=(rfl)
abbrev FE:=Env->R D
abbrev FT:=Env->R Bool
abbrev FA:=Env->R (List D)
abbrev FO:=Env->R (Option Int)
abbrev FS:=Env->R Fl
def fC(d:D):FE:=fun _=>.ok d
def fV(i:Nat):FE:=fun ρ=>match ρ[i]? with
 |some (ak d)=>.ok d
 |_=>.bad
def oR{α:Type}:Option α->R α
 |some a=>.ok a
 |none=>.bad
@[simp] theorem oR_some(a:α):oR (ak a)=.ok a:=(rfl)
@[simp] theorem oR_none :(oR (ao:Option α))=.bad:=(rfl)
def f1(g:D->Option D)(a:FE):FE:=fun ρ=>(a ρ).bind fun x=>oR (g x)
def f2(g:D->D->Option D)(a b:FE):FE:=fun ρ=>(a ρ).bind fun x=>(b ρ).bind fun y=>oR (g x y)
def Zt:FA:=fun _=>.ok []
def Zc(a:FE)(r:FA):FA:=fun ρ=>(a ρ).bind fun x=>(r ρ).bind fun xs=>.ok (x::xs)
def fA(g:List D->Option D)(a:FA):FE:=fun ρ=>(a ρ).bind fun xs=>oR (g xs)
def Ya(F:List D->R D)(a:FA):FE:=fun ρ=>(a ρ).bind F
abbrev lim:Nat:=1000000
def Jp(xs:List D):Option D:=if xs.length<=lim then ak (.lst xs) else ao
def Zfg(xs:List D):Option D:=if xs.length<=lim then ak (.tup xs) else ao
mutual
def flat:D->Bool
 | .lst _=>ar
 | .tup xs=>Zr xs
 | .non=>aq
 | .bl _=>aq
 | .int _=>aq
 | .str _=>aq
 | .scr _=>aq
 | .rng _ _=>aq
 | .exc _ _=>aq
 | .obj _ _ _=>ar
 | .dct _ _=>ar
 | .dtt _ _=>ar
 | .flst _=>aq
 | .fdt _ _=>aq
def Zr:List D->Bool
 |[]=>aq
 |x::xs=>flat x&&Zr xs
end
def Jd(d:D):Option D:=if flat d then ak d else ao
def Jn:D->D->Option D
 | .int i,.int j=>ak (.int (i+j))
 | .str x,.str y=>if x.length+y.length<=lim then ak (.str (x++y)) else ao
 | .lst xs,.lst ys=>if xs.length+ys.length<=lim/\Zr xs/\Zr ys then ak (.lst (xs++ys)) else ao
 |_,_=>ao
def Zia:D->D->Option D
 | .int i,.int j=>ak (.int (i-j))
 |_,_=>ao
def short(i:Int):Bool:=decide (-(2^64)<i)&&decide (i<2^64)
def Zag:D->D->Option D
 | .int i,.int j=>if short i||short j then ak (.int (i*j)) else ao
 | .lst xs,.int k=>if k<=1000000/\xs.length*k.toNat<=lim/\-1000000<=k/\Zr xs then ak (.lst (Ab k.toNat xs).flatten) else ao
 |_,_=>ao
def Zfb:D->D->Option D
 | .int i,.int j=>if 0<j then ak (.int (i%j)) else ao
 |_,_=>ao
def Xrn:D->D->Option D
 | .int i,.int j=>if 0<j/\j<2^200 then ak (.int (i/j)) else ao
 |_,_=>ao
def Zjj:D->D->Option D
 | .int i,.int j=>if 0<=j/\j<=1000000/\i.natAbs<2^64 then ak (.int (i^j.toNat)) else ao
 |_,_=>ao
def Xru:D->Option D
 | .int i=>ak (.int (-i))
 |_=>ao
def gLt:D->D->Option D
 | .int i,.int j=>ak (.bl (decide (i<j)))
 |_,_=>ao
def gLe:D->D->Option D
 | .int i,.int j=>ak (.bl (decide (i<=j)))
 |_,_=>ao
def gGt:D->D->Option D
 | .int i,.int j=>ak (.bl (decide (j<i)))
 |_,_=>ao
mutual
def dep:D->Nat
 | .lst xs=>Zgy xs+1
 | .tup xs=>Zgy xs+1
 | .scr _=>100
 | .rng _ _=>100
 | .exc _ _=>100
 | .obj _ _ _=>100
 | .dct _ _=>100
 | .dtt _ _=>100
 | .flst _=>100
 | .fdt _ _=>100
 | .non=>0
 | .bl _=>0
 | .int _=>0
 | .str _=>0
def Zgy:List D->Nat
 |[]=>0
 |x::xs=>max (dep x) (Zgy xs)
end
mutual
def eqv:D->D->Bool
 | .non,.non=>aq
 | .bl a,.bl b=>a==b
 | .bl a,.int j=>(if a then 1 else 0)==j
 | .int i,.bl b=>i==(if b then 1 else 0)
 | .int i,.int j=>i==j
 | .str x,.str y=>x==y
 | .lst xs,.lst ys=>Xph xs ys
 | .tup xs,.tup ys=>Xph xs ys
 |_,_=>ar
def Xph:List D->List D->Bool
 |[],[]=>aq
 |x::xs,y::ys=>eqv x y&&Xph xs ys
 |_,_=>ar
end
def gEq(a b:D):Option D:=if dep a<=20/\dep b<=20 then ak (.bl (eqv a b)) else ao
def gNe(a b:D):Option D:=if dep a<=20/\dep b<=20 then ak (.bl (!eqv a b)) else ao
def Zqt(x:D):D->Option D
 | .lst ys=>if dep x<=20/\Zgy ys<=20 then ak (.bl (!(ys.any fun y=>eqv y x))) else ao
 |_=>ao
def ixD(n:Nat)(i:Int):Option Nat:=if 0<=i then (if i<n then ak i.toNat else ao) else if -(n:Int)<=i then ak (i+n).toNat else ao
def atD{α:Type}(xs:List α)(i:Int):Option α:=(ixD xs.length i).bind fun j=>xs[j]?
def Zpj(n d:Nat):Option Int->Nat
 |none=>d
 |some v=>if v<0 then (max (v+(n:Int)) 0).toNat else min v.toNat n
def cut{α:Type}(xs:List α)(lo hi:Option Int):List α:=(xs.drop (Zpj xs.length 0 lo)).take (Zpj xs.length xs.length hi-Zpj xs.length 0 lo)
def gIx:D->D->Option D
 | .lst xs,.int i=>(atD xs i)
 | .tup xs,.int i=>(atD xs i)
 | .scr ns,.int i=>((atD ns i).map D.int)
 | .str z,.int i=>if z.length<=lim then ((atD z.cps.toList i).map fun c=>D.str ⟨#[c]⟩) else ao
 |_,_=>ao
def gIxL(x y:D):Option D:=match x with
 | .lst _=>gIx x y
 |_=>ao
def Zdd:FO:=fun _=>.ok ao
def Zbu(a:FE):FO:=fun ρ=>(a ρ).bind fun d=>match d with
 | .int i=>.ok (ak i)
 |_=>.bad
def fSl(g:D->Option Int->Option Int->Option D)(a:FE)(l h:FO):FE:=fun ρ=>(a ρ).bind fun x=>(l ρ).bind fun lo=>(h ρ).bind fun hi=>oR (g x lo hi)
def gSl:D->Option Int->Option Int->Option D
 | .lst xs,lo,hi=>if Zr xs then ak (.lst (cut xs lo hi)) else ao
 | .scr ns,lo,hi=>ak (.lst ((cut ns lo hi).map D.int))
 |_,_,_=>ao
def Xdm:D->Option Int->Option Int->Option D
 | .lst xs,lo,hi=>ak (.lst (cut xs lo hi))
 |_,_,_=>ao
def Zgd:D->D->Option D
 | .lst xs,.lst ys=>if xs.length+ys.length<=lim then ak (.lst (xs++ys)) else ao
 |_,_=>ao
def Xan:D->D->Option D
 | .lst xs,.int i=>if i=-1 then ak (.lst xs.reverse) else ao
 |_,_=>ao
def Xdi:D->Option Int->Option Int->Option D
 | .tup xs,lo,hi=>if Zr xs=aq/\¬(Zpj xs.length 0 lo=0/\Zpj xs.length xs.length hi=xs.length) then ak (.tup (cut xs lo hi)) else ao
 |_,_,_=>ao
def plain(n:Nat)(z:Str):Bool:=decide (z.length<=n)&&z.cps.toList.all (fun c=>decide (c<128))
def Zzf:D->Option D
 | .lst xs=>if Zr xs then ak (.lst xs.reverse) else ao
 |_=>ao
def intsOf:List D->Option (List Int)
 |[]=>ak []
 | .int i::r=>(intsOf r).map (i::·)
 |_::_=>ao
def bools:List D->Option (List Bool)
 |[]=>ak []
 | .bl i::r=>(bools r).map (i::·)
 |_::_=>ao
def Zbp:List D->Option D
 |[.lst xs]=>ak (.int xs.length)
 |[.tup xs]=>ak (.int xs.length)
 |[.scr xs]=>ak (.int xs.length)
 |[.str z]=>if z.length<=lim then ak (.int z.length) else ao
 |_=>ao
def Xir:List D->Option D
 |[.lst xs]=>(intsOf xs).bind fun ns=>ak (.int ns.sum)
 |_=>ao
def maxL:List Int->Int
 |[]=>0
 |x::r=>r.foldl max x
def Xfe:List D->Option D
 |[.int i,.int j]=>ak (.int (if j<i then j else i))
 |_=>ao
def Xkd:List Int->Int
 |[]=>0
 |x::r=>r.foldl min x
def gAny:List D->Option D
 |[.lst xs]=>(bools xs).bind fun bs=>ak (.bl (bs.any id))
 |_=>ao
def Zgt(lo:Int)(n:Nat):List D:=(AX n).map fun(k:Nat)=>D.int (lo+(k:Int))
def Yw:List D->Option D
 |[.lst xs]=>if Zr xs then ak (.lst xs) else ao
 |[.tup xs]=>if Zr xs then ak (.lst xs) else ao
 |[.rng i j]=>if -1000000000<=i/\i<=1000000000/\-1000000000<=j/\j<=1000000000/\(j-i).toNat<=lim then ak (.lst (Zgt i (j-i).toNat)) else ao
 |_=>ao
def Xsk:List D->Option D
 |[.lst xs]=>ak (.lst xs)
 |_=>ao
def cE(a:FE):FT:=fun ρ=>(a ρ).bind fun d=>match d with
 | .bl b=>.ok b
 |_=>.bad
def cNot(a:FT):FT:=fun ρ=>(a ρ).bind fun b=>.ok (!b)
def Xpn(a b:FT):FT:=fun ρ=>(a ρ).bind fun x=>if x then b ρ else .ok ar
def cOr(a b:FT):FT:=fun ρ=>(a ρ).bind fun x=>if x then .ok aq else b ρ
def fAnd(a b:FE):FE:=fun ρ=>(a ρ).bind fun x=>match x with
 | .bl aq=>b ρ
 | .bl ar=>.ok (.bl ar)
 |_=>.bad
def fOr(a b:FE):FE:=fun ρ=>(a ρ).bind fun x=>match x with
 | .bl aq=>.ok (.bl aq)
 | .bl ar=>b ρ
 |_=>.bad
def fIf(c:FT)(a b:FE):FE:=fun ρ=>(c ρ).bind fun x=>if x then a ρ else b ρ
def Xuf(g g':D->D->Option D)(a b c:FE):FE:=fun ρ=>(a ρ).bind fun x=>(b ρ).bind fun y=>(oR (g x y)).bind fun z=>match z with
 | .bl aq=>(c ρ).bind fun w=>oR (g' y w)
 | .bl ar=>.ok (.bl ar)
 |_=>.bad
abbrev FB:=D->Env->R Env
def Zv(i:Nat):FB:=fun d ρ=>.ok (ρ.set i (ak d))
def Zef:List D->Env->R Env
 |[],ρ=>.ok ρ
 |_,_=>.bad
def Xx(b:FB)(r:List D->Env->R Env):List D->Env->R Env
 |d::ds,ρ=>(b d ρ).bind fun ρ'=>r ds ρ'
 |_,_=>.bad
def Zfc(r:List D->Env->R Env):FB:=fun d ρ=>match d with
 | .tup ds=>r ds ρ
 |_=>.bad
def R.calm{α:Type}:R α->R α
 | .ok a=>.ok a
 | .err _ _=>.bad
 | .bad=>.bad
@[simp] theorem Xaw(a:α):(R.ok a).calm=.ok a:=(rfl)
def Zbd(k:Nat)(b:FB)(c:FT)(e:FE)(ρ:Env):List D->R (List D)
 |[]=>.ok []
 |x::xs=>(b x (ρ++Ab k ao)).calm.bind fun ρ1=>(c ρ1).bind fun t=>if t then (e ρ1).bind fun y=>(Zbd k b c e ρ xs).bind fun ys=>.ok (y::ys) else Zbd k b c e ρ xs
def Zcr:FT:=fun _=>.ok aq
abbrev FI:=Env->R (List D)
def Zai(a:FE):FI:=fun ρ=>(a ρ).bind fun d=>match d with
 | .lst xs=>if xs.length<=lim then .ok xs else .bad
 | .scr ns=>if ns.length<=lim then .ok (ns.map D.int) else .bad
 |_=>.bad
def jTup(a:FE):FI:=fun ρ=>(a ρ).bind fun d=>match d with
 | .tup xs=>if xs.length<=lim then .ok xs else .bad
 |_=>.bad
def Zmq(a:FA):FI:=fun ρ=>(a ρ).bind fun ds=>match ds with
 |[.int j]=>if -1000000000<=j/\j<=1000000 then .ok (Zgt 0 j.toNat) else .bad
 |_=>.bad
def Zyk(a:FA):FI:=fun ρ=>(a ρ).bind fun ds=>match ds with
 |[.int i,.int j]=>if -1000000000<=i/\i<=1000000000/\-1000000000<=j/\j<=1000000000/\(j-i).toNat<=lim then .ok (Zgt i (j-i).toNat) else .bad
 |_=>.bad
def Zln(ds:List D):List D:=ds.mapIdx fun i d=>D.tup [.int (i:Int),d]
def Xpv(a:FE):FI:=fun ρ=>(a ρ).bind fun d=>match d with
 | .lst xs=>if xs.length<=lim then .ok (Zln xs) else .bad
 |_=>.bad
def Jm(n k:Nat)(it:FI)(b:FB)(c:FT)(e:FE):FE:=fun ρ=>if ρ.length=n then (it ρ).bind fun xs=>(Zbd k b c e ρ xs).calm.bind fun ys=>.ok (.lst ys) else .bad
def sNx:FS:=fun ρ=>.ok (.nx ρ)
def Zjh:FS:=fun _=>.bad
def Xu(a b:FS):FS:=fun ρ=>(a ρ).bind fun fl=>match fl with
 | .nx ρ'=>b ρ'
 |fl=>.ok fl
def Yq(i:Nat)(e:FE):FS:=fun ρ=>(e ρ).bind fun d=>.ok (.nx (ρ.set i (ak d)))
def Zcb(e:FE):FS:=fun ρ=>(e ρ).bind fun d=>.ok (.ret d)
def sIf(c:FT)(a b:FS):FS:=fun ρ=>(c ρ).bind fun x=>if x then a ρ else b ρ
def sCnt:FS:=fun ρ=>.ok (.cnt ρ)
def Zxf(i:Nat)(e:FE):FS:=fun ρ=>match ρ[i]? with
 |some (ak (.lst xs))=>(e ρ).bind fun d=>if xs.length<lim then .ok (.nx (ρ.set i (ak (.lst (xs++[d]))))) else .bad
 |_=>.bad
def Xro(i:Nat)(k e:FE):FS:=fun ρ=>(e ρ).bind fun d=>match ρ[i]? with
 |some (ak (.lst xs))=>(k ρ).bind fun z=>match z with
  | .int n=>if flat d=aq/\Zr xs=aq then match ixD xs.length n with
    |some j=>.ok (.nx (ρ.set i (ak (.lst (xs.set j d)))))
    |none=>.bad
   else .bad
  |_=>.bad
 |_=>.bad
def Xma(i:Nat)(g:D->D->Option D)(e:FE):FS:=fun ρ=>match ρ[i]? with
 |some (ak x)=>(e ρ).bind fun y=>(oR (g x y)).bind fun z=>.ok (.nx (ρ.set i (ak z)))
 |_=>.bad
def Xxg(i j:Nat)(g:D->D->Option D)(x:D)(ρ:Env):R Fl:=match x,ρ[j]? with
 | .int k,ak (ak (.lst ds))=>match ds.getLast? with
  |some (.int n)=>match g (.int k) (.int n) with
   |some (.int z)=>if Zr ds=aq then .ok (.nx ((ρ.set j (ak (.lst ds.dropLast))).set i (ak (.int z)))) else .bad
   |_=>.bad
  |_=>.bad
 |_,_=>.bad
def Xvc(i j:Nat)(g:D->D->Option D)(a:FE):FS:=fun ρ=>(a ρ).bind fun x=>Xxg i j g x ρ
def Zvj(e:FE):FS:=fun ρ=>(e ρ).bind fun _=>.ok (.nx ρ)
def Xrf(e:FE)(b:FB):FS:=fun ρ=>(e ρ).bind fun d=>(b d ρ).calm.bind fun ρ'=>.ok (.nx ρ')
def Zkb(b:FB)(s:FS):List D->Env->R Fl
 |[],ρ=>.ok (.nx ρ)
 |x::xs,ρ=>(b x ρ).calm.bind fun ρ1=>(s ρ1).bind fun fl=>match fl with
  | .nx ρ2=>Zkb b s xs ρ2
  | .cnt ρ2=>Zkb b s xs ρ2
  | .brk ρ2=>.ok (.nx ρ2)
  | .ret d=>.ok (.ret d)
def Zkz(it:FI)(b:FB)(s:FS):FS:=fun ρ=>(it ρ).bind fun xs=>Zkb b s xs ρ
def Zrt(c:FT)(s:FS):Nat->Env->R Fl
 |0,_=>.bad
 |n+1,ρ=>(c ρ).bind fun b=>if b then (s ρ).bind fun fl=>match fl with
  | .nx ρ2=>Zrt c s n ρ2
  | .cnt ρ2=>Zrt c s n ρ2
  | .brk ρ2=>.ok (.nx ρ2)
  | .ret d=>.ok (.ret d)
  else .ok (.nx ρ)
def Xwg(n:Nat)(c:FT)(s:FS):FS:=fun ρ=>Zrt c s n ρ
def Zrw(c:String)(words:FA):FS:=fun ρ=>(words ρ).bind fun _=>.err c ao
def strsOf:List D->Option (List Str)
 |[]=>ak []
 | .str i::r=>(strsOf r).map (i::·)
 |_::_=>ao
def Xtk:D->D->Option D
 | .str s,.lst ds=>(strsOf ds).bind fun ts=>if (ts.map (·.length)).sum+ts.length*s.length<=lim then ak (.str (Str.join s ts)) else ao
 |_,_=>ao
def Xkc:D->D->Option D
 | .lst ds,.int n=>(intsOf ds).bind fun ns=>if n∈ns then ak (D.int (ns.idxOf n:Nat)) else ao
 |_,_=>ao
def Xso(a b:FE):FE:=fun ρ=>(a ρ).bind fun x=>match x with
 | .lst ds=>(b ρ).bind fun y=>oR (Xkc (.lst ds) y)
 |_=>.bad
def fJoin(a b:FE):FE:=fun ρ=>(a ρ).bind fun x=>match x with
 | .str s=>(b ρ).bind fun y=>oR (Xtk (.str s) y)
 |_=>.bad
def Zkv(cs:List String)(N:Nat)(b h:FS):FS:=fun ρ=>match b ρ with
 | .err c _=>if cs.contains c then (h (Ab N ao)).calm else .bad
 |r=>r
def Ztm:D->D->Option D
 | .int i,.int j=>if i.natAbs<2^4000/\j.natAbs<2^4000 then ak (.int (i*j)) else ao
 |_,_=>ao
abbrev FM:=Env->R (D×Env)
abbrev FMT:=Env->R (Bool×Env)
def Znf(a:FM):FS:=fun ρ=>(a ρ).bind fun p=>.ok (.nx p.2)
def Zxr(s:FS)(r:FM):FM:=fun ρ=>(s ρ).bind fun fl=>match fl with
 | .nx ρ'=>r ρ'
 |_=>.bad
def Xlc(s:FS):FM:=Zxr s fun ρ=>.ok (.non,ρ)
def Xrx(N:Nat)(G:FM)(ds:List D):R (D×D):=(G (ds.map ak++Ab (N-ds.length) ao)).bind fun p=>match p.2[0]? with
 |some (ak d)=>.ok (p.1,d)
 |_=>.bad
def run(N:Nat)(b:FS)(ds:List D):R D:=(b (ds.map ak++Ab (N-ds.length) ao)).bind fun fl=>match fl with
 | .nx _=>.ok .non
 | .ret d=>.ok d
 |_=>.bad
def keyD:D->Option (Int ⊕ Str)
 | .int i=>ak (.inl i)
 | .str x=>ak (.inr x)
 |_=>ao
def catO:Str->List D->Option D
 |out,[]=>ak (.str out)
 |out,.str y::r=>if y.length<=2000 then catO (out++y) r else ao
 |_,_=>ao
def Zuf:List D->Option (List (Int ⊕ Str))
 |[]=>ak []
 |d::r=>(keyD d).bind fun k=>(Zuf r).bind fun ks=>ak (k::ks)
def Ztc:D->Option (List (Int ⊕ Str))
 | .tup ds=>Zuf ds
 |_=>ao
def tAt:List (List (Int ⊕ Str))->List D->List (Int ⊕ Str)->Option D
 |j::ks,x::xs,k=>if j=k then ak x else tAt ks xs k
 |_,_,_=>ao
def Xgd(ks:List (List (Int ⊕ Str)))(k:List (Int ⊕ Str)):Bool:=ks.any fun j=>decide (j=k)
def Xrp(ks:List (List (Int ⊕ Str)))(xs:List D)(k:List (Int ⊕ Str))(d:D):D:=if Xgd ks k then .dtt ks (A8 (fun j x=>if j=k then d else x) ks xs) else .dtt (ks++[k]) (xs++[d])
def Zme(i:Nat)(k e:FE):FS:=fun ρ=>(e ρ).bind fun d=>match ρ[i]? with
 |some (ak (.dtt ks xs))=>(k ρ).bind fun z=>match Ztc z with
  |some q=>if flat d=aq/\Zr xs=aq/\ks.length<lim then .ok (.nx (ρ.set i (ak (Xrp ks xs q d)))) else .bad
  |none=>.bad
 |_=>.bad
def Xri:D->D->Option D
 | .dtt ks xs,y=>if Zr xs then (Ztc y).bind fun k=>tAt ks xs k else ao
 |_,_=>ao
abbrev Pc:=Int×Str
def sLt(x y:Str):Bool:=decide (x.cps.toList<y.cps.toList)
def pcLt(p q:Pc):Bool:=if p.1=q.1 then (if p.2=q.2 then ar else sLt p.2 q.2) else decide (p.1<q.1)
def ctLt:List Pc->List Pc->Bool
 |[],[]=>ar
 |[],_::_=>aq
 |_::_,[]=>ar
 |p::c,q::d=>if p=q then ctLt c d else pcLt p q
def Zgc:List Nat->FA
 |[]=>Zt
 |j::r=>Zc (fV j) (Zgc r)
def Zde(fb:FE)(fr:Env):List D->R (List Int)
 |[]=>.ok []
 |x::r=>(fb (ak x::fr)).calm.bind fun k=>match k with
  | .int k=>(Zde fb fr r).bind fun ks=>.ok (k::ks)
  |_=>.bad
def Zgu(lt:Int->Int->Bool)(ks:List Int)(i:Nat):Bool:=(AX ks.length).all (fun j=>!lt (ks.getD j 0) (ks.getD i 0))&&(AX i).all (fun j=>lt (ks.getD i 0) (ks.getD j 0))
def Zpk(lt:Int->Int->Bool)(ds:List D)(ks:List Int):R D:=match (AX ks.length).find? (Zgu lt ks) with
 |some i=>oR ds[i]?
 |none=>.bad
def Ziy(lt:Int->Int->Bool)(fe:FE)(js:List Nat)(fb:FE):FE:=fun ρ=>(fe ρ).bind fun d=>match d with
 | .lst ds=>if ds.isEmpty then .bad else (Zgc js ρ).calm.bind fun fs=>(Zde fb (fs.map ak) ds).bind (Zpk lt ds)
 |_=>.bad
abbrev Pr:=Int×(Int ⊕ Str)
def kLt:Int ⊕ Str->Int ⊕ Str->Bool
 | .inl a,.inl b=>decide (a<b)
 | .inr a,.inr b=>sLt a b
 |_,_=>ar
def Xvi(p q:Pr):Bool:=if p.1=q.1 then kLt p.2 q.2 else decide (p.1<q.1)
def insP(c:Pr):List Pr->List Pr
 |[]=>[c]
 |d::r=>if Xvi c d=aq then c::d::r else d::insP c r
def sortP:List Pr->List Pr
 |[]=>[]
 |c::r=>insP c (sortP r)
def kdD:Int ⊕ Str->D
 | .inl i=>.int i
 | .inr x=>.str x
def prOfD:D->Option Pr
 | .tup [.int i,.int j]=>ak (i,.inl j)
 | .tup [.int i,.str z]=>ak (i,.inr z)
 |_=>ao
def prsOf:List D->Option (List Pr)
 |[]=>ak []
 |d::r=>(prOfD d).bind fun c=>(prsOf r).bind fun cs=>ak (c::cs)
def Zfk(x y:D):Option D:=match y with
 | .dtt ks _=>(Ztc x).map fun k=>.bl (!Xgd ks k)
 |_=>ao
def kOk:Int ⊕ Str->Bool
 | .inl _=>aq
 | .inr z=>z.cps.all fun c=>decide (c<0x110000)
def Xox(ks:List Int)(k:Int):List Int:=if k∈ks then ks else ks++[k]
def Xaq(ks:List Int):List Int->List Int
 |[]=>ks
 |n::ns=>Xaq (Xox ks n) ns
def Xjz:D->Option D
 | .lst ds=>if Zr ds=aq then ak (.flst ds) else ao
 |_=>ao
def Xva:D->Option D
 | .dtt ks ds=>if Zr ds=aq then ak (.fdt ks ds) else ao
 |_=>ao
def Zja(i:Nat):FS:=fun ρ=>match ρ[i]? with
 |some (ak (.dtt ks ds))=>if Zr ds=aq then .ok (.ret (.fdt ks ds)) else .bad
 |_=>.bad
def Zji(i j:Nat):FS:=fun ρ=>match ρ[i]?,ρ[j]? with
 |some (ak (.lst xs)),ak (ak (.dtt ks ds))=>if Zr ds=aq/\Zr xs=aq/\i≠j/\xs.length<lim then .ok (.nx ((ρ.set j ao).set i (ak (.lst (xs++[.fdt ks ds]))))) else .bad
 |_,_=>.bad
def Zdu(k:List (Int ⊕ Str)):D:=.tup (k.map kdD)
def Zih(a:FE):FI:=fun ρ=>(a ρ).bind fun d=>match d with
 | .fdt ks xs=>if ks.length<=lim/\(ks.all fun k=>k.all kOk)=aq then .ok (A8 (fun k x=>.tup [Zdu k,x]) ks xs) else .bad
 |_=>.bad
def Zjf(a:FE):FI:=fun ρ=>(a ρ).bind fun d=>match d with
 | .fdt ks _=>if ks.length<=lim/\(ks.all fun k=>k.all kOk)=aq then .ok (ks.map Zdu) else .bad
 |_=>.bad
def Zix(fk fv:FE):FE:=fun ρ=>(fk ρ).bind fun y=>(fv ρ).bind fun v=>match Ztc y with
 |some k=>if flat v=aq then .ok (.dtt [k] [v]) else .bad
 |none=>.bad
def smK:Int ⊕ Str->Bool
 | .inl i=>decide (0<=i)&&decide (i<1000)
 | .inr _=>ar
def vlK:Int ⊕ Str->Int
 | .inl i=>i
 | .inr _=>0
def thK(k:List (Int ⊕ Str)):Int:=Dw (CW (k.map vlK))
def Xws:D->Option D
 | .fdt ks xs=>if ks≠[]/\(ks.all fun k=>k.all smK)=aq/\(ks.map thK).Nodup/\Zr xs=aq then ak (.dtt ks xs) else ao
 |_=>ao
end Dl
namespace Dl
def Zzo:List D->Option D
 |[d]=>Xws d
 |_=>ao
def Zif:List D->Option D
 |[.lst xs]=>if Zr xs=aq then ak (.tup xs) else ao
 |_=>ao
def Zqa:D->D->Option D
 | .tup xs,.tup ys=>if xs.length+ys.length<=lim/\Zr xs=aq/\Zr ys=aq then ak (.tup (xs++ys)) else ao
 |_,_=>ao
def Zuw:D->D->Option D
 | .flst xs,.lst ys=>if xs.length+ys.length<=lim/\Zr ys=aq then ak (.lst (xs++ys)) else ao
 |_,_=>ao
def Zvi(a:FE):FT:=fun ρ=>(a ρ).bind fun d=>match d with
 | .flst xs=>.ok (!xs.isEmpty)
 |_=>.bad
def Ziv(i:Nat)(G:List D->R (D×D))(args:FA):FM:=fun ρ=>match ρ[i]? with
 |some (ak d0)=>(args ρ).bind fun ys=>(G (d0::ys)).bind fun p=>.ok (p.1,ρ.set i (ak p.2))
 |_=>.bad
def Zpe(f:FS):FS:=fun ρ=>(f ρ).bind fun fl=>match fl with
 | .nx ρ'=>.ok (.nx ρ')
 |_=>.bad
def Zth(a b:FE):FI:=fun ρ=>(a ρ).bind fun x=>(b ρ).bind fun y=>match x,y with
 | .tup xs,.tup ys=>if xs.length<=lim/\Zr xs=aq/\Zr ys=aq then .ok (A8 (fun x y=>.tup [x,y]) xs ys) else .bad
 |_,_=>.bad
def ilt(p q:Int):Bool:=decide (p<q)
def Zby:List Int->List Int->Bool
 |[],[]=>ar
 |[],_::_=>aq
 |_::_,[]=>ar
 |p::c,q::d=>if p=q then Zby c d else ilt p q
def Xrk(a:List Int):List (List Int)->List (List Int)
 |[]=>[a]
 |b::r=>if Zby a b=aq then a::b::r else b::Xrk a r
def Xn:List (List Int)->List (List Int)
 |[]=>[]
 |a::r=>Xrk a (Xn r)
def ilD(c:List Int):D:=.lst (c.map .int)
def Xbr:D->Option (List Int)
 | .lst xs=>intsOf xs
 |_=>ao
def Zfy:List D->Option (List (List Int))
 |[]=>ak []
 |d::r=>(Xbr d).bind fun a=>(Zfy r).bind fun l=>ak (a::l)
def Zqb(a b:FE):FE:=fun ρ=>(a ρ).bind fun t=>match t with
 | .tup xs=>match intsOf xs with
  |some l=>(b ρ).bind fun d=>match d with
   | .int i=>.ok (.int (if l=[] then i else Xkd l))
   |_=>.bad
  |none=>.bad
 |_=>.bad
end Dl
namespace Dl
open PySem
def Zzg:D->D->Option D
 | .fdt ks xs,y=>(Ztc y).bind fun k=>tAt ks xs k
 |_,_=>ao
def Znb(x y:D):Option D:=match y with
 | .fdt ks _=>(Ztc x).map fun k=>.bl (!Xgd ks k)
 |_=>ao
def Zqr:List D->Option D
 |[.fdt ks _]=>if ks.length<=lim/\(ks.all fun k=>k.all kOk)=aq then ak (.lst (ks.map Zdu)) else ao
 |_=>ao
def Zxn(a b:FE):FI:=fun ρ=>(a ρ).bind fun x=>(b ρ).bind fun y=>match x,y with
 | .tup xs,.lst ys=>if xs.length<=lim/\Zr xs=aq/\Zr ys=aq then .ok (A8 (fun x y=>.tup [x,y]) xs ys) else .bad
 |_,_=>.bad
def Zhb(a b:FE):FI:=fun ρ=>(a ρ).bind fun x=>(b ρ).bind fun y=>match x,y with
 | .lst xs,.lst ys=>if xs.length<=lim/\Zr xs=aq/\Zr ys=aq then .ok (A8 (fun x y=>.tup [x,y]) xs ys) else .bad
 |_,_=>.bad
def Zib:List D->Option D
 |[.lst ds]=>(Zfy ds).bind fun cs=>if cs.length<=63 then ak (.lst ((Xn cs).map ilD)) else ao
 |_=>ao
end Dl
namespace L2
open PySem PySem.Spec PyProof.Rows
open Dl (D R FE FT FA FO FS FI FB Fl)
variable{its:List Value}{n:Nat}{o:Expr}
def FzL(K:AN)(H:Hp)(a:Addr)(xs:List V):Prop:=
 (∃o,H a=ak (.frz o (.lst xs)))\/∃(o:Obj) (its:Array Value) (n:Nat),K.lookup a=ak o/\o.cls=.type "list"/\o.dict=ao/\o.data=.seq its n/\its.size<=Ar/\Yl xs its.toList
variable{H:Hp}{K:AN}{a:Addr}{xs:List V}
theorem FzL.sq(h:FzL K H a xs):SqL K H a xs:=by rcases h with⟨o,h⟩|h;exact .inl (.inr ⟨o,h⟩);exact .inr h
def fnm(c:String):Str:=if c="TooMany" then "most" else "at"
variable{d:D}{i:Nat}
def FOk(H:Hp)(c:String)(f:Option Int)(dx:Option Addr):Prop:=match f with
 |none=>True
 |some i=>∃d,dx=ak d/\H d=ak (.xd [(fnm c,.int i)])
variable{A:Nat->List Addr}{B B':List Addr}{C:String->Addr}{b c e:Expr}{ds:List D}{f:FA}{hi lo:Option Expr}{ns:List Int}{v:V}{x:Str}
section
variable(K:AN)(C:String->Addr)
mutual
def Rp(H:Hp):D->V->List Addr->Prop
 | .non,v,A=>v=.non/\A=[]
 | .bl b,v,A=>v=.bl b/\A=[]
 | .int i,v,A=>v=.int i/\A=[]
 | .str x,v,A=>v=.str x/\Di x=aq/\A=[]
 | .lst ds,v,A=>∃a xs B,v=.ref a/\H a=ak (.lst xs)/\RpA H ds xs B/\A=a::B
 | .tup ds,v,A=>∃a xs,v=.ref a/\H a=ak (.tup xs)/\RpA H ds xs A
 | .scr ns,v,A=>∃a,v=.ref a/\FzL K H a (ns.map V.int)/\A=[]
 | .rng lo hi,v,A=>∃a,v=.ref a/\H a=ak (.rng lo hi)/\A=[]
 | .exc c f,v,A=>∃e dx,v=.ref e/\H e=ak (exO e (.ref (C c)) dx)/\FOk H c f dx/\A=[]
 | .obj c ns ds,v,A=>∃a dx xs B,v=.ref a/\H a=ak (.ins (C c) dx (ns.zip xs))/\ns.length=ds.length/\RpA H ds xs B/\A=a::B
 | .dct ks ds,v,A=>∃a xs B,v=.ref a/\H a=ak (.dK (ks.zip xs))/\ks.length=ds.length/\RpA H ds xs B/\A=a::B
 | .dtt ks ds,v,A=>∃a xs B,v=.ref a/\H a=ak (.dT (ks.zip xs))/\ks.length=ds.length/\RpA H ds xs B/\A=a::B
 | .flst ds,v,A=>∃a o xs,v=.ref a/\H a=ak (.frz o (.lst xs))/\RpA H ds xs []/\A=[]
 | .fdt ks ds,v,A=>∃a o xs,v=.ref a/\H a=ak (.frz o (.dT (ks.zip xs)))/\ks.length=ds.length/\RpA H ds xs []/\A=[]
def RpA(H:Hp):List D->List V->List Addr->Prop
 |[],xs,A=>xs=[]/\A=[]
 |d::ds,xs,A=>∃x r B B',xs=x::r/\Rp H d x B/\RpA H ds r B'/\A=B++B'
end
end
inductive IsM:HO->Prop where
 |lst {xs:List V}:IsM (.lst xs)
 |ins {C dx:Addr} {fs:List (Str×V)}:IsM (.ins C dx fs)
 |dct {kvs:List (Key×V)}:IsM (.dK kvs)
 |dtt {kvs:List (List Key×V)}:IsM (.dT kvs)
def Ext(W:Addr->Prop)(H H':Hp):Prop:=∀b o,H b=ak o->H' b=ak o\/(W b/\IsM o)
variable{H':Hp}
theorem Ext.same(h:Xf H H'):Ext (fun _=>False) H H':=fun b o q=>.inl (h b o q)
variable{h:Bg}{q:AR}{vs:List V}
mutual
theorem Rp.ext{W:Addr->Prop}(h:Ext W H H'):∀{d:D} {v:V} {A:List Addr},(∀a∈A,¬W a)->Rp K C H d v A->Rp K C H' d v A
 | .non,_,_,_,r=>r
 | .bl _,_,_,_,r=>r
 | .int _,_,_,_,r=>r
 | .str _,_,_,_,r=>r
 | .lst ds,v,A,hw,r=>by obtain⟨a,xs,B,e1,e2,e3,e4⟩:=r;subst e4;refine⟨a,xs,B,e1,?_,RpA.ext h (fun b hb=>hw b (.tail _ hb)) e3,rfl⟩;rcases h a _ e2 with q|⟨q,_⟩;exact q;exact af q (hw a (.head _))
 | .tup ds,v,A,hw,r=>by obtain⟨a,xs,e1,e2,e3⟩:=r;refine⟨a,xs,e1,?_,RpA.ext h hw e3⟩;rcases h a _ e2 with q|⟨_,q⟩;exact q;cases q
 | .scr ns,v,A,_,r=>by obtain⟨a,e1,e2,e3⟩:=r;refine⟨a,e1,?_,e3⟩;rcases e2 with⟨o,e2⟩|e2;rcases h a _ e2 with q|⟨_,q⟩;exact .inl ⟨o,q⟩;cases q;exact .inr e2
 | .rng lo hi,v,A,_,r=>by obtain⟨a,e1,e2,e3⟩:=r;refine⟨a,e1,?_,e3⟩;rcases h a _ e2 with q|⟨_,q⟩;exact q;cases q
 | .exc c f,v,A,_,r=>by
  obtain⟨a,dx,e1,e2,e3,e4⟩:=r;refine⟨a,dx,e1,?_,?_,e4⟩;rcases h a _ e2 with q|⟨_,q⟩;exact q;cases q;cases f with
  |none=>trivial
  |some i =>obtain⟨d,z1,z2⟩:=e3;refine⟨d,z1,?_⟩;rcases h d _ z2 with q|⟨_,q⟩;exact q;cases q
 | .obj c ns ds,v,A,hw,r=>by obtain⟨a,dx,xs,B,e1,e2,e0,e3,e4⟩:=r;subst e4;refine⟨a,dx,xs,B,e1,?_,e0,RpA.ext h (fun b hb=>hw b (.tail _ hb)) e3,rfl⟩;rcases h a _ e2 with q|⟨q,_⟩;exact q;exact af q (hw a (.head _))
 | .dct ks ds,v,A,hw,r=>by obtain⟨a,xs,B,e1,e2,e0,e3,e4⟩:=r;subst e4;refine⟨a,xs,B,e1,?_,e0,RpA.ext h (fun b hb=>hw b (.tail _ hb)) e3,rfl⟩;rcases h a _ e2 with q|⟨q,_⟩;exact q;exact af q (hw a (.head _))
 | .dtt ks ds,v,A,hw,r=>by obtain⟨a,xs,B,e1,e2,e0,e3,e4⟩:=r;subst e4;refine⟨a,xs,B,e1,?_,e0,RpA.ext h (fun b hb=>hw b (.tail _ hb)) e3,rfl⟩;rcases h a _ e2 with q|⟨q,_⟩;exact q;exact af q (hw a (.head _))
 | .flst ds,v,A,hw,r=>by obtain⟨a,o,xs,e1,e2,e3,e4⟩:=r;refine⟨a,o,xs,e1,?_,RpA.ext h (fun _ hb=>nomatch hb) e3,e4⟩;rcases h a _ e2 with q|⟨_,q⟩;exact q;cases q
 | .fdt ks ds,v,A,hw,r=>by obtain⟨a,o,xs,e1,e2,e0,e3,e4⟩:=r;refine⟨a,o,xs,e1,?_,e0,RpA.ext h (fun _ hb=>nomatch hb) e3,e4⟩;rcases h a _ e2 with q|⟨_,q⟩;exact q;cases q
theorem RpA.ext{W:Addr->Prop}(h:Ext W H H'):∀{ds:List D} {vs:List V} {A:List Addr},(∀a∈A,¬W a)->RpA K C H ds vs A->RpA K C H' ds vs A
 |[],_,_,_,r=>r
 |d::ds,vs,A,hw,r=>by obtain⟨x,l,B,B',e1,e2,e3,e4⟩:=r;subst e4;exact⟨x,l,B,B',e1,Rp.ext h (fun a ha=>hw a (Aq _ ha)) e2,RpA.ext h (fun a ha=>hw a (Ah _ ha)) e3,rfl⟩
end
theorem Rp.same(h:Xf H H'){d:D}{v:V}{A:List Addr}(r:Rp K C H d v A):Rp K C H' d v A:=r.ext (Ext.same h) (fun _ _ q=>q)
theorem RpA.same(h:Xf H H'){d:List D}{v:List V}{A:List Addr}(r:RpA K C H d v A):RpA K C H' d v A:=r.ext (Ext.same h) (fun _ _ q=>q)
def Agree(W:List Addr)(H Hb:Hp):Prop:=(∀a∈W,Hb a=H a)/\∀b o,H b=ak o->¬IsM o->Hb b=ak o
theorem Agree.ext{W:List Addr}(h:Agree W H H'):Ext (fun a=>a∉W) H H':=fun b o q=>by by_cases hb:b∈W;exact .inl ((h.1 b hb).trans q);by_cases ho:IsM o;exact .inr ⟨hb,ho⟩;exact .inl (h.2 b o q ho)
theorem RpA.agree{W:List Addr}(h:Agree W H H'){A:List Addr}(hA:∀a∈A,a∈W)(r:RpA K C H ds vs A):RpA K C H' ds vs A:=r.ext h.ext fun a ha z=>z (hA a ha)
variable{z:Str}
mutual
theorem Rp.isl:∀{d:D} {v:V} {A:List Addr},Rp K C H d v A->∀a∈A,∃o,H a=ak o/\IsM o
 | .non,_,_,r,a,ha=>by rw[r.2]at ha;cases ha
 | .bl _,_,_,r,a,ha=>by rw[r.2]at ha;cases ha
 | .int _,_,_,r,a,ha=>by rw[r.2]at ha;cases ha
 | .str _,_,_,r,a,ha=>by rw[r.2.2]at ha;cases ha
 | .lst ds,_,_,r,a,ha=>by obtain⟨b,xs,B,e1,e2,e3,e4⟩:=r;rw[e4]at ha;rcases Aj.mp ha with z|z;rw[z];exact⟨_,e2,.lst⟩;exact RpA.isl e3 a z
 | .tup ds,_,_,r,a,ha=>by obtain⟨b,xs,e1,e2,e3⟩:=r;exact RpA.isl e3 a ha
 | .scr _,_,_,r,a,ha=>by obtain⟨_,_,_,e⟩:=r;rw[e]at ha;cases ha
 | .rng _ _,_,_,r,a,ha=>by obtain⟨_,_,_,e⟩:=r;rw[e]at ha;cases ha
 | .exc _ _,_,_,r,a,ha=>by obtain⟨_,_,_,_,_,e⟩:=r;rw[e]at ha;cases ha
 | .obj c ns ds,_,_,r,a,ha=>by obtain⟨b,dx,xs,B,e1,e2,e0,e3,e4⟩:=r;rw[e4]at ha;rcases Aj.mp ha with z|z;rw[z];exact⟨_,e2,.ins⟩;exact RpA.isl e3 a z
 | .dct ks ds,_,_,r,a,ha=>by obtain⟨b,xs,B,e1,e2,e0,e3,e4⟩:=r;rw[e4]at ha;rcases Aj.mp ha with z|z;rw[z];exact⟨_,e2,.dct⟩;exact RpA.isl e3 a z
 | .dtt ks ds,_,_,r,a,ha=>by obtain⟨b,xs,B,e1,e2,e0,e3,e4⟩:=r;rw[e4]at ha;rcases Aj.mp ha with z|z;rw[z];exact⟨_,e2,.dtt⟩;exact RpA.isl e3 a z
 | .flst ds,_,_,r,a,ha=>by obtain⟨b,o,xs,e1,e2,e3,e4⟩:=r;rw[e4]at ha;cases ha
 | .fdt ks ds,_,_,r,a,ha=>by obtain⟨b,o,xs,e1,e2,e0,e3,e4⟩:=r;rw[e4]at ha;cases ha
theorem RpA.isl:∀{ds:List D} {vs:List V} {A:List Addr},RpA K C H ds vs A->∀a∈A,∃o,H a=ak o/\IsM o
 |[],_,_,r,a,ha=>by rw[r.2]at ha;cases ha
 |d::ds,_,_,r,a,ha=>by obtain⟨x,l,B,B',e1,e2,e3,e4⟩:=r;rw[e4]at ha;rcases Al.mp ha with z|z;exact Rp.isl e2 a z;exact RpA.isl e3 a z
end
mutual
theorem Rp.flat:∀{d:D} {v:V} {A:List Addr},Dl.flat d=aq->Rp K C H d v A->A=[]
 | .non,_,_,_,r=>r.2
 | .bl _,_,_,_,r=>r.2
 | .int _,_,_,_,r=>r.2
 | .str _,_,_,_,r=>r.2.2
 | .lst _,_,_,h,_=>by simp[Dl.flat]at h
 | .tup ds,_,_,h,r=>by obtain⟨b,xs,e1,e2,e3⟩:=r;exact RpA.flat (by simpa[Dl.flat] using h) e3
 | .scr _,_,_,_,r=>by obtain⟨_,_,_,e⟩:=r;exact e
 | .rng _ _,_,_,_,r=>by obtain⟨_,_,_,e⟩:=r;exact e
 | .exc _ _,_,_,_,r=>by obtain⟨_,_,_,_,_,e⟩:=r;exact e
 | .obj _ _ _,_,_,h,_=>by simp[Dl.flat]at h
 | .dct _ _,_,_,h,_=>by simp[Dl.flat]at h
 | .dtt _ _,_,_,h,_=>by simp[Dl.flat]at h
 | .flst _,_,_,_,r=>by obtain⟨_,_,_,_,_,_,e⟩:=r;exact e
 | .fdt _ _,_,_,_,r=>by obtain⟨_,_,_,_,_,_,_,e⟩:=r;exact e
theorem RpA.flat:∀{ds:List D} {vs:List V} {A:List Addr},Dl.Zr ds=aq->RpA K C H ds vs A->A=[]
 |[],_,_,_,r=>r.2
 |d::ds,_,_,h,r=>by obtain⟨x,l,B,B',e1,e2,e3,e4⟩:=r;simp only[Dl.Zr,AC]at h;rw[e4,Rp.flat h.1 e2,RpA.flat h.2 e3];rfl
end
theorem RpA.len:∀{ds:List D} {vs:List V} {A:List Addr},RpA K C H ds vs A->vs.length=ds.length
 |[],_,_,r=>by rw[r.1];rfl
 |d::ds,_,_,r=>by obtain⟨x,l,B,B',e1,e2,e3,e4⟩:=r;rw[e1,BK,BK,RpA.len e3]
theorem RpA.get:∀{ds:List D} {vs:List V} {A:List Addr} {i:Nat} {d:D},RpA K C H ds vs A->ds[i]?=ak d->∃v B,vs[i]?=ak v/\Rp K C H d v B/\∀a∈B,a∈A
 |[],_,_,_,_,_,h=>by simp at h
 |d::ds,_,_,0,_,r,h=>by obtain⟨x,l,B,B',e1,e2,e3,e4⟩:=r;simp only[List.getElem?_cons_zero,Fs]at h;subst h e1 e4;exact⟨x,B,rfl,e2,fun a ha=>Aq _ ha⟩
 |d::ds,_,_,i+1,_,r,h=>by obtain⟨x,l,B,B',e1,e2,e3,e4⟩:=r;simp only[DI]at h;obtain⟨v,B2,q1,q2,q3⟩:=RpA.get e3 h;subst e1 e4;exact⟨v,B2,by simpa using q1,q2,fun a ha=>Ah _ (q3 a ha)⟩
theorem RpA.get':∀{ds:List D} {vs:List V} {A:List Addr} {i:Nat} {v:V},RpA K C H ds vs A->vs[i]?=ak v->∃d B,ds[i]?=ak d/\Rp K C H d v B/\∀a∈B,a∈A:=fun {ds vs A i v} r h=>by
 have hl:=r.len;have hi:i<ds.length:=by have:=(Am.mp h).1;omega
 obtain⟨v',B,q1,q2,q3⟩:=r.get (Ag hi);rw[h]at q1;cases q1;exact⟨_,B,Ag hi,q2,q3⟩
variable{es:List Expr}
theorem RpA.app:∀{ds es:List D} {vs ws:List V} {A B:List Addr},RpA K C H ds vs A->RpA K C H es ws B->RpA K C H (ds++es) (vs++ws) (A++B)
 |[],_,_,_,_,_,r,q=>by obtain⟨e1,e2⟩:=r;subst e1 e2;exact q
 |d::ds,_,_,_,_,_,r,q=>by obtain⟨x,l,B,B',e1,e2,e3,e4⟩:=r;subst e1 e4;exact⟨x,_,B,_,rfl,e2,RpA.app e3 q,DE ..⟩
variable{A:List Addr}
theorem RpA.one(r:Rp K C H d v A):RpA K C H [d] [v] A:=⟨v,[],A,[],rfl,r,⟨rfl,rfl⟩,(Dy _).symm⟩
theorem RpA.flatRev :Dl.Zr ds=aq->RpA K C H ds vs A->RpA K C H ds.reverse vs.reverse []:=by
 intro h r
 induction ds generalizing vs A with
 |nil=>rw[r.1];exact⟨rfl,rfl⟩
 |cons d ds ih =>obtain⟨x,l,B,B',e1,e2,e3,e4⟩:=r;simp only[Dl.Zr,AC]at h;have z:=Rp.flat h.1 e2;subst e1 z;rw[DB,DB];exact(ih h.2 e3).app (RpA.one e2)
theorem RpA.flatDrop :Dl.Zr ds=aq->RpA K C H ds vs A->∀n,RpA K C H (ds.drop n) (vs.drop n) []:=by
 intro h r n
 induction ds generalizing vs A n with
 |nil=>rw[r.1];simp;exact⟨rfl,rfl⟩
 |cons d ds ih =>
  have r0:=r;obtain⟨x,l,B,B',e1,e2,e3,e4⟩:=r;cases n with
  |zero =>have z:=RpA.flat h r0;subst z;exact r0
  |succ n =>simp only[Dl.Zr,AC]at h;subst e1;exact ih h.2 e3 n
theorem RpA.flatTake :Dl.Zr ds=aq->RpA K C H ds vs A->∀n,RpA K C H (ds.take n) (vs.take n) []:=by
 intro h r n
 induction ds generalizing vs A n with
 |nil=>rw[r.1];simp;exact⟨rfl,rfl⟩
 |cons d ds ih =>
  obtain⟨x,l,B,B',e1,e2,e3,e4⟩:=r;simp only[Dl.Zr,AC]at h;have z:=Rp.flat h.1 e2;subst e1 z;cases n with
  |zero=>exact⟨rfl,rfl⟩
  |succ n=>exact⟨x,_,[],_,rfl,e2,ih h.2 e3 n,rfl⟩
theorem Ztx(h:Dl.Zr ds=aq):∀n,Dl.Zr (ds.drop n)=true:=by
 intro n
 induction ds generalizing n with
 |nil=>simp;rfl
 |cons d ds ih =>
  cases n with
  |zero=>exact h
  |succ n =>simp only[Dl.Zr,AC]at h;exact ih h.2 n
theorem RpA.ints :RpA K C H (ns.map D.int) (ns.map V.int) []:=by
 induction ns with
 |nil=>exact⟨rfl,rfl⟩
 |cons n ns ih=>exact⟨_,_,[],[],rfl,⟨rfl,rfl⟩,ih,rfl⟩
variable{A:Nat->List Addr}
theorem RpA.ofInts:∀{ds:List D} {vs:List V} {A:List Addr} {ns:List Int},RpA K C H ds vs A->Dl.intsOf ds=ak ns->vs=ns.map V.int
 |[],_,_,ns,r,h=>by simp only[Dl.intsOf,Fs]at h;rw[r.1,<- h];rfl
 |d::ds,_,_,ns,r,h=>by
  obtain⟨x,l,B,B',e1,e2,e3,e4⟩:=r;cases d<;>simp only[Dl.intsOf]at h<;>try cases h
  obtain⟨ms,h1,h2⟩:=AH.mp h;rw[e1,e2.1,RpA.ofInts e3 h1,<- h2];rfl
theorem RpA.ofBools:∀{ds:List D} {vs:List V} {A:List Addr} {ns:List Bool},RpA K C H ds vs A->Dl.bools ds=ak ns->vs=ns.map V.bl
 |[],_,_,ns,r,h=>by simp only[Dl.bools,Fs]at h;rw[r.1,<- h];rfl
 |d::ds,_,_,ns,r,h=>by
  obtain⟨x,l,B,B',e1,e2,e3,e4⟩:=r;cases d<;>simp only[Dl.bools]at h<;>try cases h
  obtain⟨ms,h1,h2⟩:=AH.mp h;rw[e1,e2.1,RpA.ofBools e3 h1,<- h2];rfl
mutual
def toPy:D->Fd
 | .non=>.none
 | .bl b=>.bool b
 | .int i=>.int i
 | .str x=>.str x
 | .lst ds=>.list (Zcp ds)
 | .tup ds=>.tuple (Zcp ds)
 | .scr _=>.none
 | .rng _ _=>.none
 | .exc _ _=>.none
 | .obj _ _ _=>.none
 | .dct _ _=>.none
 | .dtt _ _=>.none
 | .flst _=>.none
 | .fdt _ _=>.none
def Zcp:List D->List Fd
 |[]=>[]
 |d::ds=>toPy d::Zcp ds
end
variable{p1 p2:Pos}
mutual
theorem Rp.dn:∀{d:D} {v:V} {A:List Addr} {n:Nat},Dl.dep d<=n->n<100->Rp K C H d v A->Dn K H v (toPy d)/\(toPy d).canLay0=aq/\(toPy d).depth=Dl.dep d
 | .non,_,_,_,_,_,r=>by rw[r.1];exact⟨.non,rfl,rfl⟩
 | .bl _,_,_,_,_,_,r=>by rw[r.1];exact⟨.bl _,rfl,rfl⟩
 | .int _,_,_,_,_,_,r=>by rw[r.1];exact⟨.int _,rfl,rfl⟩
 | .str _,_,_,_,_,_,r=>by rw[r.1];exact⟨.str _,by simpa[toPy,Fg] using r.2.1,by simp[toPy,FV,Dl.dep]⟩
 | .lst ds,_,_,n,h,hn,r=>by obtain⟨a,xs,B,e1,e2,e3,e4⟩:=r;simp only[Dl.dep]at h;obtain⟨q1,q2,q3⟩:=RpA.dn (n:=n) (by omega) hn e3;rw[e1];exact⟨.lst (SqL.of e2) q1,by simpa[toPy,Fg] using q2,by simp[toPy,FV,Dl.dep,q3]⟩
 | .tup ds,_,_,n,h,hn,r=>by obtain⟨a,xs,e1,e2,e3⟩:=r;simp only[Dl.dep]at h;obtain⟨q1,q2,q3⟩:=RpA.dn (n:=n) (by omega) hn e3;rw[e1];exact⟨.tup (SqT.of e2) q1,by simpa[toPy,Fg] using q2,by simp[toPy,FV,Dl.dep,q3]⟩
 | .scr _,_,_,n,h,hn,_=>by simp only[Dl.dep]at h;omega
 | .rng _ _,_,_,n,h,hn,_=>by simp only[Dl.dep]at h;omega
 | .exc _ _,_,_,n,h,hn,_=>by simp only[Dl.dep]at h;omega
 | .obj _ _ _,_,_,n,h,hn,_=>by simp only[Dl.dep]at h;omega
 | .dct _ _,_,_,n,h,hn,_=>by simp only[Dl.dep]at h;omega
 | .dtt _ _,_,_,n,h,hn,_=>by simp only[Dl.dep]at h;omega
 | .flst _,_,_,n,h,hn,_=>by simp only[Dl.dep]at h;omega
 | .fdt _ _,_,_,n,h,hn,_=>by simp only[Dl.dep]at h;omega
theorem RpA.dn:∀{ds:List D} {vs:List V} {A:List Addr} {n:Nat},Dl.Zgy ds<=n->n<100->RpA K C H ds vs A->DnA K H vs (Zcp ds)/\FW (Zcp ds)=aq/\GJ (Zcp ds)=Dl.Zgy ds
 |[],_,_,_,_,_,r=>by rw[r.1];exact⟨.nil,rfl,rfl⟩
 |d::ds,_,_,n,h,hn,r=>by obtain⟨x,l,B,B',e1,e2,e3,e4⟩:=r;simp only[Dl.Zgy]at h;obtain⟨q1,q2,q3⟩:=Rp.dn (n:=n) (by omega) hn e2;obtain⟨p1,p2,p3⟩:=RpA.dn (n:=n) (by omega) hn e3;rw[e1];exact⟨.cons q1 p1,by simp[Zcp,FW,q2,p2],by simp[Zcp,GJ,Dl.Zgy,q3,p3]⟩
end
mutual
theorem Zru:∀{d e:D},Dl.dep d<100->Dl.dep e<100->DW (toPy d) (toPy e)=Dl.eqv d e
 | .non,e,_,h=>by cases e<;>first|rfl|exact af h (Bm 100)
 | .bl _,e,_,h=>by cases e<;>first|rfl|exact af h (Bm 100)
 | .int _,e,_,h=>by cases e<;>first|rfl|exact af h (Bm 100)
 | .str _,e,_,h=>by cases e<;>first|rfl|exact af h (Bm 100)
 | .lst ds,e,h1,h=>by
  cases e with
  |lst es=>exact Zpx (EK h1) (EK h)
  |_=>rfl
 | .tup ds,e,h1,h=>by
  cases e with
  |tup es=>exact Zpx (EK h1) (EK h)
  |_=>rfl
 | .scr _,_,h,_=>af h (Bm 100)
 | .rng _ _,_,h,_=>af h (Bm 100)
 | .exc _ _,_,h,_=>af h (Bm 100)
 | .obj _ _ _,_,h,_=>af h (Bm 100)
 | .dct _ _,_,h,_=>af h (Bm 100)
 | .dtt _ _,_,h,_=>af h (Bm 100)
 | .flst _,_,h,_=>af h (Bm 100)
 | .fdt _ _,_,h,_=>af h (Bm 100)
theorem Zpx:∀{d e:List D},Dl.Zgy d<100->Dl.Zgy e<100->KL (Zcp d) (Zcp e)=Dl.Xph d e
 |[],[],_,_=>rfl
 |[],_::_,_,_=>rfl
 |_::_,[],_,_=>rfl
 |d::ds,e::es,h1,h=>by have a1:Dl.dep d<100/\Dl.Zgy ds<100:=Mo.mp h1;have a2:Dl.dep e<100/\Dl.Zgy es<100:=Mo.mp h;show(DW (toPy d) (toPy e)&&KL (Zcp ds) (Zcp es))=(Dl.eqv d e&&Dl.Xph ds es);rw[Zru a1.1 a2.1,Zpx a1.2 a2.2]
end
abbrev Xr:=Dl.Env
variable{A':List Addr}{E:XK}{H0 Hb:Hp}{Q:VK}{er:String->Option Int->Prop}{fl:FO}{j m mr:Nat}{p:Pos}{Γ Γ' Γl Δ Δ' Δl:List Nat}{α:Type}{ρ:Xr}{σ:St}
section
variable(K:AN)(C:String->Addr)
structure Zo(H0 Hb H:Hp)(Γ Δ:List Nat)(σ:St)(ρ:Xr)(A:Nat->List Addr):Prop where
 s0:Xf H0 Hb
 same:Xf Hb H
 len:σ.length=ρ.length
 rep:∀i d,ρ[i]?=ak (ak d)->∃v,σ[i]?=ak (ak v)/\Rp K C H d v (A i)
 nil:∀i,(∀d,ρ[i]?≠ak (ak d))->A i=[]
 loc:∀i∈Γ,∀a∈A i,H0 a=ao
 top:∀i∈Γ,∀a r,A i=a::r->Hb a=ao/\a∉r/\∀j,j≠i->a∉A j
 deep:∀i∈Δ,(A i).Nodup/\(∀j,j≠i->∀a∈A i,a∉A j)/\∀a∈A i,Hb a=ao
def InS(A:Nat->List Addr)(S:List (Nat×Bool))(a:Addr):Prop:=∃p∈S,if p.2=aq then a∈(A p.1).tail else a∈A p.1
def Res(m:Nat)(S:List (Nat×Bool))(H:Hp)(A:Nat->List Addr)(d:D)(v:V)(H':Hp):Prop:=
 ∃B,Rp K C H' d v B/\(∀a∈B,H a=ao\/InS A S a)/\(m=1->∀a r,B=a::r->H a=ao/\a∉r)/\(m=2->B.Nodup)
def ResA(m:Nat)(S:List (Nat×Bool))(H:Hp)(A:Nat->List Addr)(ds:List D)(vs:List V)(H':Hp):Prop:=
 ∃B,RpA K C H' ds vs B/\(∀a∈B,H a=ao\/InS A S a)/\(m=2->B.Nodup)
def EC(E:XK)(c:String)(x:Option Int)(H:Hp):Prop:=∀dx,FOk H c x dx->E (.ref (C c)) dx H
def Xd{α:Type}(r:R α)(ok:α->Prop)(er:String->Option Int->Prop):Prop:=match r with
 | .ok a=>ok a
 | .err c x=>er c x
 | .bad=>False
def EOk(E:XK)(Γ Δ:List Nat)(m:Nat)(S:List (Nat×Bool))(t:TE)(f:FE):Prop:=∀(H0 Hb H:Hp) (σ:St) (ρ:Xr) (A:Nat->List Addr) (Q:VK),Zo K C H0 Hb H Γ Δ σ ρ A->
 Xd (f ρ) (fun d=>∀v H',Xf H H'->Res K C m S H A d v H'->Q v H') (fun c x=>∀H',Xf H H'->EC C E c x H')->t σ H Q
def AOk(E:XK)(Γ Δ:List Nat)(m:Nat)(S:List (Nat×Bool))(t:TA)(f:FA):Prop:=∀(H0 Hb H:Hp) (σ:St) (ρ:Xr) (A:Nat->List Addr) (Q:List V->Hp->Prop),Zo K C H0 Hb H Γ Δ σ ρ A->
 Xd (f ρ) (fun d=>∀v H',Xf H H'->ResA K C m S H A d v H'->Q v H') (fun c x=>∀H',Xf H H'->EC C E c x H')->t σ H Q
def TOk(E:XK)(Γ Δ:List Nat)(t:TT)(f:FT):Prop:=∀(H0 Hb H:Hp) (σ:St) (ρ:Xr) (A:Nat->List Addr) (Q:Bool->Hp->Prop),Zo K C H0 Hb H Γ Δ σ ρ A->
 Xd (f ρ) (fun b=>∀H',Xf H H'->Q b H') (fun c x=>∀H',Xf H H'->EC C E c x H')->t σ H Q
def OOk(E:XK)(Γ Δ:List Nat)(t:TO)(f:FO):Prop:=∀(H0 Hb H:Hp) (σ:St) (ρ:Xr) (A:Nat->List Addr) (Q:Option Int->Hp->Prop),Zo K C H0 Hb H Γ Δ σ ρ A->
 Xd (f ρ) (fun b=>∀H',Xf H H'->Q b H') (fun c x=>∀H',Xf H H'->EC C E c x H')->t σ H Q
def Zve(E:XK)(mr:Nat)(Γl Δl Γ' Δ':List Nat)(H0 Hb:Hp)(D:Ends)(r:R Fl):Prop:=Xd r (fun fl=>match fl with
    | .nx ρ'=>∀σ' H' A',Zo K C H0 Hb H' Γ' Δ' σ' ρ' A'->D.nx σ' H'
    | .ret d=>∀v H',Xf H0 H'->Res K C mr [] H0 (fun _=>[]) d v H'->D.rt v H'
    | .brk ρ'=>∀σ' H' A',Zo K C H0 Hb H' Γl Δl σ' ρ' A'->D.bk σ' H'
    | .cnt ρ'=>∀σ' H' A',Zo K C H0 Hb H' Γl Δl σ' ρ' A'->D.ct σ' H')
  (fun c x=>∀H',Xf H0 H'->EC C E c x H')
def SOk(E:XK)(mr:Nat)(Γl Δl Γ Δ Γ' Δ':List Nat)(t:TS)(f:FS):Prop:=∀(H0 Hb H:Hp) (σ:St) (ρ:Xr) (A:Nat->List Addr) (D:Ends),Zo K C H0 Hb H Γ Δ σ ρ A->
 Zve K C E mr Γl Δl Γ' Δ' H0 Hb D (f ρ)->t D σ H
end
theorem Zo.mono(h:Zo K C H0 Hb H Γ Δ σ ρ A)(g:Xf H H'):Zo K C H0 Hb H' Γ Δ σ ρ A:=⟨h.s0,h.same.trans g,h.len,fun i d e=>let ⟨v,q1,q2⟩:=h.rep i d e;⟨v,q1,q2.same g⟩,h.nil,h.loc,h.top,h.deep⟩
theorem Zo.weak(h:Zo K C H0 Hb H Γ Δ σ ρ A)(h1:∀i∈Γ',i∈Γ)(h2:∀i∈Δ',i∈Δ):Zo K C H0 Hb H Γ' Δ' σ ρ A:=⟨h.s0,h.same,h.len,h.rep,h.nil,fun i hi=>h.loc i (h1 i hi),fun i hi=>h.top i (h1 i hi),fun i hi=>h.deep i (h2 i hi)⟩
theorem Zo.is(h:Zo K C H0 Hb H Γ Δ σ ρ A)(ha:a∈A j):∃o,H a=ak o/\IsM o:=by by_cases q:∃d,ρ[j]?=ak (ak d);obtain⟨d,q⟩:=q;obtain⟨v,_,r⟩:=h.rep j d q;exact r.isl a ha;rw[h.nil j fun d e=>q ⟨d,e⟩]at ha;cases ha
theorem Zo.ne(h:Zo K C H0 Hb H Γ Δ σ ρ A)(ha:a∈A j)(hn:H a=ao):False:=by obtain⟨xs,q,_⟩:=h.is ha;rw[q]at hn;cases hn
variable{S:List (Nat×Bool)}
theorem InS.mem(h:InS A S a):∃p∈S,a∈A p.1:=by obtain⟨p,hp,q⟩:=h;refine⟨p,hp,?_⟩;split at q;exact IC q;exact q
variable{S1 S2:List (Nat×Bool)}
theorem InS.mono(h:InS A S1 a)(hs:∀p∈S1,p∈S2):InS A S2 a:=let ⟨p,hp,q⟩:=h;⟨p,hs p hp,q⟩
variable{er':String->Option Int->Prop}
theorem Xd.imp{r:R α}{ok ok':α->Prop}(h:Xd r ok er)(h1:∀a,ok a->ok' a)(h2:∀c x,er c x->er' c x):Xd r ok' er':=by
 cases r with
 |ok a=>exact h1 a h
 |err c x=>exact h2 c x h
 |bad=>exact h
theorem Xd.bind{α β:Type}{r:R α}{g:α->R β}{ok:β->Prop}{er:String->Option Int->Prop}(h:Xd (r.bind g) ok er):Xd r (fun a=>Xd (g a) ok er) er:=by
 cases r with
 |ok a=>exact h
 |err c x=>exact h
 |bad=>exact h
theorem Res.flat(r:Rp K C H' d v []):Res K C m S H A d v H':=⟨[],r,fun _ h=>(nomatch h),fun _ _ _ e=>(nomatch e),fun _=>Bb⟩
theorem Xev(h:∀H,Rp K C H d v []):EOk K C E Γ Δ 2 [] (tC v) (Dl.fC d):=fun _ _ H _ _ _ _ _ p=>p v H (Xf.refl _) (Res.flat (h H))
theorem Xsu{ok:D->Prop}(h:Xd (Dl.fV i ρ) ok er):∃d,ρ[i]?=ak (ak d)/\ok d:=by unfold Dl.fV at h;split at h;rename_i d e;exact⟨d,e,h⟩;exact h.elim
theorem eok_v :EOk K C E Γ Δ 0 [(i,ar)] (Zil i) (Dl.fV i):=fun H0 Hb H σ ρ A Q I p=>by obtain⟨d,e,p⟩:=Xsu p;obtain⟨v,e1,r⟩:=I.rep i d e;exact⟨v,e1,p v H (Xf.refl _) ⟨A i,r,fun a ha=>.inr ⟨(i,ar),.head _,ha⟩,(fun z=>nomatch z),(fun z=>nomatch z)⟩⟩
theorem Xsh(hi:i∈Δ):EOk K C E Γ Δ 2 [(i,ar)] (Zil i) (Dl.fV i):=fun H0 Hb H σ ρ A Q I p=>by obtain⟨d,e,p⟩:=Xsu p;obtain⟨v,e1,r⟩:=I.rep i d e;exact⟨v,e1,p v H (Xf.refl _) ⟨A i,r,fun a ha=>.inr ⟨(i,ar),.head _,ha⟩,(fun z=>nomatch z),fun _=>(I.deep i hi).1⟩⟩
theorem Xhj{t:TE}{f:FE}(h:EOk K C E Γ Δ m S t f):EOk K C E Γ Δ 2 [] t (Dl.f1 Dl.Jd f):=fun H0 Hb H σ ρ A Q I p =>
  h H0 Hb H σ ρ A Q I (p.bind.imp (fun d q v H' g r=>by
    unfold Dl.Jd at q;split at q;rename_i hf;obtain⟨B,r1,_⟩:=r;have e:=r1.flat hf;subst e;exact q v H' g (Res.flat r1)
    · exact q.elim) fun _ _ q=>q)
variable{H1 H2:Hp}
theorem Res.later{H3:Hp}(g1:Xf H0 H1)(g2:Xf H2 H3)(r:Res K C m S H1 A d v H2):Res K C m S H0 A d v H3:=by obtain⟨B,r1,r2,r3,r4⟩:=r;exact⟨B,r1.same g2,fun a ha=>(r2 a ha).imp (fun h=>g1.free h) id,fun hm a l e=>⟨g1.free (r3 hm a l e).1,(r3 hm a l e).2⟩,r4⟩
theorem Res.new(r:Rp K C H' d v B)(h1:B.Nodup)(h2:∀a∈B,H a=ao):Res K C m S H A d v H':=⟨B,r,fun a ha=>.inl (h2 a ha),fun _ a l e=>by subst e;exact⟨h2 a (.head _),(AB.mp h1).1⟩,fun _=>h1⟩
theorem Zbm{o:Option α}{ok:α->Prop}(h:Xd (Dl.oR o) ok er):∃a,o=ak a/\ok a:=by
 cases o with
 |none=>exact h.elim
 |some a=>exact⟨a,rfl,h⟩
variable{Bx By:List Addr}{y:Str}
def GOk(K:AN)(C:String->Addr)(r:R2)(g:D->D->Option D):Prop:=
 ∀(H:Hp) (x y d:D) (vx vy:V) (Bx By:List Addr) (Q:VK),Rp K C H x vx Bx->Rp K C H y vy By->g x y=ak d->(∀v H' B,Xf H H'->Rp K C H' d v B->B.Nodup->(∀a∈B,H a=ao)->Q v H')->r vx vy H Q
def GAk(K:AN)(C:String->Addr)(r:List V->Hp->VK->Prop)(g:List D->Option D):Prop:=
 ∀(H:Hp) (xs:List D) (d:D) (vs:List V) (Bx:List Addr) (Q:VK),RpA K C H xs vs Bx->g xs=ak d->(∀v H' B,Xf H H'->Rp K C H' d v B->B.Nodup->(∀a∈B,H a=ao)->Q v H')->r vs H Q
variable{fa fb:FE}{g:D->D->Option D}{m1 m2:Nat}{ta tb:TE}
theorem Xbd{r:R2}(hg:GOk K C r g)(ha:EOk K C E Γ Δ m1 S1 ta fa)(hb:EOk K C E Γ Δ m2 S2 tb fb):EOk K C E Γ Δ 2 [] (tOp r ta tb) (Dl.f2 g fa fb):=
  fun H0 Hb H σ ρ A Q I p=>ha H0 Hb H σ ρ A _ I (p.bind.imp (fun x q vx H1 g1 r1=>hb H0 Hb H1 σ ρ A _ (I.mono g1) (q.bind.imp (fun y q vy H2 g2 r2=>by
    obtain ⟨d,e,q⟩:=Zbm q;obtain ⟨Bx,r1,_⟩:=r1;obtain ⟨By,r2,_⟩:=r2;exact hg H2 x y d vx vy Bx By Q (r1.same g2) r2 e fun v H' B g3 r3 h1 h2=>q v H' (g1.trans (g2.trans g3)) (Res.new r3 h1 fun a ha=>(g1.trans g2).free (h2 a ha))) fun c x q H' g'=>q H' (g1.trans g'))) fun c x q H' g'=>q H' g')
theorem Xyf{r:V->Hp->VK->Prop}{g:D->Option D}(hg:∀(H:Hp) (x d:D) (vx:V) (Bx:List Addr) (Q:VK),Rp K C H x vx Bx->g x=ak d->(∀v H' B,Xf H H'->Rp K C H' d v B->B.Nodup->(∀a∈B,H a=ao)->Q v H')->r vx H Q)(ha:EOk K C E Γ Δ m1 S1 ta fa):EOk K C E Γ Δ 2 [] (tUn r ta) (Dl.f1 g fa):=
  fun H0 Hb H σ ρ A Q I p=>ha H0 Hb H σ ρ A _ I (p.bind.imp (fun x q vx H1 g1 r1=>by
    obtain ⟨d,e,q⟩:=Zbm q;obtain ⟨Bx,r1,_⟩:=r1;exact hg H1 x d vx Bx Q r1 e fun v H' B g3 r3 h1 h2=>q v H' (g1.trans g3) (Res.new r3 h1 fun a ha=>g1.free (h2 a ha))) fun c x q H' g'=>q H' g')
theorem Ja{d:α}{P:Prop}(e:(ao:Option α)=ak d):P:=nomatch e
theorem Zrl{F:List D->Option D}(hn:F []=ao)(hc:∀x y r,F (x::y::r)=ao):∀{ds:List D} {d:D},F ds=ak d->∃x,ds=[x]
 |[],_,e=>Ja (hn.symm.trans e)
 |[x],_,_=>⟨x,rfl⟩
 |x::y::r,_,e=>Ja ((hc x y r).symm.trans e)
variable{y:D}
theorem Xqu(e:Dl.gIx (.lst ds) y=ak d):∃i,y=.int i/\atI ds i=ak d:=by
 cases y with
 |int i=>exact⟨i,rfl,e⟩
 |_=>exact Ja e
theorem Xlm(e:Dl.gIx (.tup ds) y=ak d):∃i,y=.int i/\atI ds i=ak d:=by
 cases y with
 |int i=>exact⟨i,rfl,e⟩
 |_=>exact Ja e
theorem Xmj(e:Dl.gIx (.scr ns) y=ak d):∃i,y=.int i/\(atI ns i).map D.int=ak d:=by
 cases y with
 |int i=>exact⟨i,rfl,e⟩
 |_=>exact Ja e
theorem Xov(e:Dl.gIx (.str z) y=ak d):∃i,y=.int i/\z.length<=Dl.lim/\(atI z.cps.toList i).map (fun c=>D.str ⟨#[c]⟩)=ak d:=by
 cases y with
 |int i =>have e':(if z.length<=Dl.lim then ((Dl.atD z.cps.toList i).map fun c=>D.str ⟨#[c]⟩) else ao)=ak d:=e;by_cases h:z.length<=Dl.lim;rw[aa h]at e';exact⟨i,rfl,h,e'⟩;rw[ae h]at e';exact Ja e'
 |_=>exact Ja e
theorem Xwj{x:D}(e:Dl.gIx x y=ak d):∃i,y=.int i/\((∃ds,x=.lst ds/\atI ds i=ak d)\/(∃ds,x=.tup ds/\atI ds i=ak d)\/(∃ns,x=.scr ns/\(atI ns i).map D.int=ak d)\/∃z,x=.str z/\z.length<=Dl.lim/\(atI z.cps.toList i).map (fun c=>D.str ⟨#[c]⟩)=ak d):=by
 cases x with
 |lst ds=>exact(Xqu e).imp fun _ h=>⟨h.1,.inl ⟨ds,rfl,h.2⟩⟩
 |tup ds=>exact(Xlm e).imp fun _ h=>⟨h.1,.inr (.inl ⟨ds,rfl,h.2⟩)⟩
 |scr ns=>exact(Xmj e).imp fun _ h=>⟨h.1,.inr (.inr (.inl ⟨ns,rfl,h.2⟩))⟩
 |str z=>exact(Xov e).imp fun _ h=>⟨h.1,.inr (.inr (.inr ⟨z,rfl,h.2⟩))⟩
 |_=>exact Ja e
theorem Xcj{β:Type}{ds:List α}{xs:List β}{i:Int}{d:α}{v:β}(hl:xs.length=ds.length)(e:atI ds i=ak d)(h1:LF i ds.length=ak j)(hv:xs[j]?=ak v):atI xs i=ak v:=by
 unfold atI at e ⊢;rw[hl];cases hx:ixN ds.length i with
 |none=>rw[hx]at e;cases e
 |some k =>obtain⟨z1,_⟩:=Zpr hx;rw[h1]at z1;cases z1;exact hv
theorem Xtb{x:D}{vx vy:V}(rx:Rp K C H x vx Bx)(ry:Rp K C H y vy By)(e:Dl.gIx x y=ak d)(q:∀v B,Rp K C H d v B->(∀a∈B,a∈Bx)->((∃ds,x=.lst ds)->∀a∈B,a∈Bx.tail)->Q v H):rIx K vx vy H Q:=by obtain⟨i,rfl,h⟩:=Xwj e;cases ry.1;rcases h with⟨ds,rfl,e'⟩|⟨ds,rfl,e'⟩|⟨ns,rfl,e'⟩|⟨z,rfl,hz,e'⟩;obtain⟨a,xs,B,rfl,e2,e3,rfl⟩:=rx;obtain⟨j,h1,h2,_⟩:=Zdo e';obtain⟨v,B',q1,q2,q3⟩:=e3.get h2;exact Xwv (SqL.of e2) (v:=v) (Xcj e3.len e' h1 q1) (q v B' q2 (fun a ha=>.tail _ (q3 a ha)) fun _ a ha=>q3 a ha);obtain⟨a,xs,rfl,e2,e3⟩:=rx;obtain⟨j,h1,h2,_⟩:=Zdo e';obtain⟨v,B',q1,q2,q3⟩:=e3.get h2;exact Xxl (SqT.of e2) (v:=v) (Xcj e3.len e' h1 q1) (q v B' q2 q3 fun z=>by obtain⟨_,z⟩:=z;cases z);obtain⟨a,rfl,e2,rfl⟩:=rx;obtain⟨n,h1,rfl⟩:=AH.mp e';obtain⟨j,h2,h3,_⟩:=Zdo h1;exact .inl ⟨a,ns.map V.int,i,.int n,rfl,rfl,e2.sq,Xcj (Ai _) h1 h2 (by rw[AS,h3];rfl),q (.int n) [] ⟨rfl,rfl⟩ (fun _ h=>(nomatch h)) fun _ _ h=>(nomatch h)⟩;obtain⟨rfl,e2,rfl⟩:=rx;obtain⟨c,h1,rfl⟩:=AH.mp e';refine .inr (.inr ⟨z,i,c,rfl,rfl,AD hz (by decide),h1,q _ [] ⟨rfl,?_,rfl⟩ (fun _ h=>(nomatch h)) fun _ _ h=>(nomatch h)⟩);obtain⟨j,_,h3,_⟩:=Zdo h1;have hm:c∈z.cps:=Array.mem_toList_iff.mp (AO h3);have ho:z.cps.all (·<0x110000)=true:=e2;have:=(Array.all_eq_true_iff_forall_mem.mp ho) c hm;unfold Di;simpa using this
theorem Xsq(ha:EOk K C E Γ Δ m1 S1 ta fa)(hb:EOk K C E Γ Δ m2 S2 tb fb):EOk K C E Γ Δ 0 S1 (tOp (rIx K) ta tb) (Dl.f2 Dl.gIx fa fb):=
  fun H0 Hb H σ ρ A Q I p=>ha H0 Hb H σ ρ A _ I (p.bind.imp (fun x q vx H1 g1 r1=>hb H0 Hb H1 σ ρ A _ (I.mono g1) (q.bind.imp (fun y q vy H2 g2 r2=>by
    obtain ⟨d,e,q⟩:=Zbm q;obtain ⟨Bx,r1,r1',_⟩:=r1;obtain ⟨By,r2,_⟩:=r2;exact Xtb (r1.same g2) r2 e fun v B r3 h _=>q v H2 (g1.trans g2) ⟨B,r3,fun a ha=>r1' a (h a ha),(fun z=>nomatch z),(fun z=>nomatch z)⟩) fun c x q H' g'=>q H' (g1.trans g'))) fun c x q H' g'=>q H' g')
def gIxL(x y:D):Option D:=match x with
 | .lst _=>Dl.gIx x y
 |_=>ao
theorem sameNew{p:Addr}(h:H p=ao)(o:HO):Xf H (upd H p o):=fun b u q=>by rw[Zy (Xe q h)];exact q
abbrev Out(K:AN)(C:String->Addr)(H:Hp)(d:D)(Q:VK):Prop:=∀v H' B,Xf H H'->Rp K C H' d v B->B.Nodup->(∀a∈B,H a=ao)->Q v H'
theorem Out.flat(q:Out K C H d Q)(r:Rp K C H d v []):Q v H:=q v H [] (Xf.refl _) r Bb (fun _ h=>nomatch h)
theorem Out.lst{ds:List D}{vs:List V}{p:Addr}(q:Out K C H (.lst ds) Q)(r:RpA K C H ds vs [])(hp:H p=ao):Q (.ref p) (upd H p (.lst vs)):=q _ _ [p] (sameNew hp _) ⟨p,vs,[],rfl,Zw,r.same (sameNew hp _),rfl⟩ (by simp) (fun a ha=>by rw[Ap.mp ha];exact hp)
theorem Out.tup{ds:List D}{vs:List V}{p:Addr}(q:Out K C H (.tup ds) Q)(r:RpA K C H ds vs [])(hp:H p=ao):Q (.ref p) (upd H p (.tup vs)):=q _ _ [] (sameNew hp _) ⟨p,vs,rfl,Zw,r.same (sameNew hp _)⟩ Bb (fun _ h=>nomatch h)
theorem Zbe(h:n<=Dl.lim):n<=Ar:=AD h (by decide)
theorem Zes(h:n<Dl.lim):n<Ar:=AG h (by decide)
variable{y:Str}
theorem Zwc(h1:Di x=aq)(h2:Di y=aq):Di (x++y)=true:=by unfold Di at *;show(x.cps++y.cps).all _=aq;rw[Array.all_append,h1,h2];rfl
theorem RpA.nil:RpA K C H [] [] []:=⟨rfl,rfl⟩
theorem RpA.flat'{A:List Addr}(h:Dl.Zr ds=aq)(r:RpA K C H ds vs A):RpA K C H ds vs []:=by have e:=RpA.flat h r;subst e;exact r
theorem RpA.rep{ds:List D}{vs:List V}(r:RpA K C H ds vs []):∀n,RpA K C H (Ab n ds).flatten (Ab n vs).flatten []
 |0=>RpA.nil
 |n+1=>by rw[Bn,Bn,B7,B7];exact r.app (RpA.rep r n)
theorem Xb:GOk K C Zto Dl.Jn:=by intro H x y d vx vy Bx By Q rx ry e q;unfold Dl.Jn at e;split at e;cases e;obtain⟨rfl,_⟩:=rx;obtain⟨rfl,_⟩:=ry;exact Xxe (Out.flat q ⟨rfl,rfl⟩);split at e;rename_i hz;cases e;obtain⟨rfl,h1,_⟩:=rx;obtain⟨rfl,h2,_⟩:=ry;exact .inr (.inl ⟨_,_,rfl,rfl,Zbe hz,Out.flat q ⟨rfl,Zwc h1 h2,rfl⟩⟩);cases e;split at e;rename_i hz;cases e;obtain⟨a,xs,B,rfl,e2,e3,_⟩:=rx;obtain⟨a',xs',B',rfl,e2',e3',_⟩:=ry;obtain⟨hz,f1,f2⟩:=hz;refine Xjh e2 e2' (by rw[e3.len,e3'.len];exact Zbe hz) fun p hp=>?_;exact Out.lst q ((e3.flat' f1).app (e3'.flat' f2)) hp;cases e;cases e
variable{g:Int->Int->D}{gv:Int->Int->V}
theorem Zrx{f:D->D->Option D}(hf:∀x y d,f x y=ak d->∃i j,x=.int i/\y=.int j/\d=g i j)(hr:∀H i j,Rp K C H (g i j) (gv i j) []):GOk K C (rI0 gv) f:=by intro H x y d vx vy Bx By Q rx ry e q;obtain⟨i,j,rfl,rfl,rfl⟩:=hf x y d e;obtain⟨rfl,_⟩:=rx;obtain⟨rfl,_⟩:=ry;exact rd_I0 (Out.flat q (hr H i j))
variable{Cd:Int->Int->Prop}
theorem Xlk{f:D->D->Option D}(hf:∀x y d,f x y=ak d->∃i j,x=.int i/\y=.int j/\d=g i j/\Cd i j)(hr:∀H i j,Rp K C H (g i j) (gv i j) []):GOk K C (rI Cd gv) f:=by intro H x y d vx vy Bx By Q rx ry e q;obtain⟨i,j,rfl,rfl,rfl,hc⟩:=hf x y d e;obtain⟨rfl,_⟩:=rx;obtain⟨rfl,_⟩:=ry;exact rd_I hc (Out.flat q (hr H i j))
theorem rpI{i:Int}:Rp K C H (.int i) (.int i) []:=⟨rfl,rfl⟩
theorem rpB{i:Bool}:Rp K C H (.bl i) (.bl i) []:=⟨rfl,rfl⟩
theorem Zhv:GOk K C (rI0 fun i j=>.int (i-j)) Dl.Zia:=Zrx (fun x y d e=>by unfold Dl.Zia at e;split at e<;>cases e;exact⟨_,_,rfl,rfl,rfl⟩) fun _ _ _=>rpI
theorem Zeo:GOk K C (rI0 fun i j=>.bl (decide (i<j))) Dl.gLt:=Zrx (fun x y d e=>by unfold Dl.gLt at e;split at e<;>cases e;exact⟨_,_,rfl,rfl,rfl⟩) fun _ _ _=>rpB
theorem Xvh:GOk K C (rI0 fun i j=>.bl (decide (i<=j))) Dl.gLe:=Zrx (fun x y d e=>by unfold Dl.gLe at e;split at e<;>cases e;exact⟨_,_,rfl,rfl,rfl⟩) fun _ _ _=>rpB
theorem Zca:GOk K C (rI0 fun i j=>.bl (decide (j<i))) Dl.gGt:=Zrx (fun x y d e=>by unfold Dl.gGt at e;split at e<;>cases e;exact⟨_,_,rfl,rfl,rfl⟩) fun _ _ _=>rpB
theorem Jb:GOk K C (rI (fun _ j=>0<j) fun i j=>.int (i%j)) Dl.Zfb:=Xlk (fun x y d e=>by
  unfold Dl.Zfb at e;split at e;split at e;rename_i h;cases e;exact⟨_,_,rfl,rfl,rfl,h⟩;cases e
  · cases e) fun _ _ _=>rpI
theorem Xac:GOk K C (rI Xxw fun i j=>.int (i/j)) Dl.Xrn:=Xlk (fun x y d e=>by
  unfold Dl.Xrn at e;split at e;split at e;rename_i h;cases e;exact⟨_,_,rfl,rfl,rfl,h⟩;cases e
  · cases e) fun _ _ _=>rpI
theorem Zbt:GOk K C (rI CPow fun i j=>.int (i^j.toNat)) Dl.Zjj:=Xlk (fun x y d e=>by
  unfold Dl.Zjj at e;split at e;split at e;rename_i h;cases e;exact⟨_,_,rfl,rfl,rfl,h⟩;cases e
  · cases e) fun _ _ _=>rpI
theorem Zvo{i j:Int}(h:(Dl.short i||Dl.short j)=aq):Xrw i j:=by unfold Dl.short at h;simp only[Bool.or_eq_true,AC,decide_eq_true_eq]at h;exact h
theorem Xw:GOk K C Xgf Dl.Zag:=by intro H x y d vx vy Bx By Q rx ry e q;unfold Dl.Zag at e;split at e;split at e;rename_i h;cases e;obtain⟨rfl,_⟩:=rx;obtain⟨rfl,_⟩:=ry;exact Xsz (Zvo h) (Out.flat q rpI);cases e;split at e;rename_i h;cases e;obtain⟨a,xs,B,rfl,e2,e3,_⟩:=rx;obtain⟨rfl,_⟩:=ry;obtain⟨h1,h2,h3,h4⟩:=h;refine Xsm e2 (by omega) (by omega) (by rw[e3.len];exact Zbe h2) fun p hp=>?_;exact Out.lst q ((e3.flat' h4).rep _) hp;cases e;cases e
theorem Zee{A:List Addr}(h:Dl.dep d<=20)(r:Rp K C H d v A):Dn K H v (toPy d)/\Ed (toPy d)=true:=by obtain⟨q1,q2,q3⟩:=r.dn h (by decide);refine⟨q1,?_⟩;unfold Ed;rw[q2,q3];simp only[Bool.true_and,decide_eq_true_eq];omega
theorem Zrr:GOk K C (Xrt K) Dl.gEq:=by intro H x y d vx vy Bx By Q rx ry e q;unfold Dl.gEq at e;split at e;rename_i h;cases e;obtain⟨a1,a2⟩:=Zee h.1 rx;obtain⟨b1,b2⟩:=Zee h.2 ry;refine .inr ⟨_,_,a1,b1,a2,b2,?_⟩;rw[Zru (by omega) (by omega)];exact Out.flat q rpB;cases e
theorem Xat:GOk K C (Xsx K) Dl.gNe:=by intro H x y d vx vy Bx By Q rx ry e q;unfold Dl.gNe at e;split at e;rename_i h;cases e;obtain⟨a1,a2⟩:=Zee h.1 rx;obtain⟨b1,b2⟩:=Zee h.2 ry;refine .inr ⟨_,_,a1,b1,a2,b2,?_⟩;rw[Zru (by omega) (by omega)];exact Out.flat q rpB;cases e
variable{ys:List V}
theorem Xju{x:D}(hx:Dl.dep x<100):∀{ys:List D},Dl.Zgy ys<100->((Zcp ys).any fun z=>DW z (toPy x))=ys.any fun y=>Dl.eqv y x
 |[],_=>rfl
 |y::ys,h=>by simp only[Dl.Zgy]at h;simp only[Zcp,Gm];rw[Zru (by omega) hx,Xju hx (by omega)]
theorem Zzp:GOk K C (rInD K aq) Dl.Zqt:=by intro H x y d vx vy Bx By Q rx ry e q;unfold Dl.Zqt at e;split at e;split at e;rename_i h;cases e;obtain⟨a1,a2,a3⟩:=rx.dn h.1 (by decide);obtain⟨b1,b2,b3⟩:=ry.dn (n:=21) (by simp only[Dl.dep];omega) (by decide);refine⟨_,_,b1,a1,by simpa[toPy,Fg] using b2,a2,by omega,?_⟩;simp only[if_true];rw[Xju (by omega) (by omega)];exact Out.flat q rpB;cases e;cases e
theorem Xle:AOk K C E Γ Δ 2 [] Zoq Dl.Zt:=fun _ _ H _ _ _ _ _ p=>p [] H (Xf.refl _) ⟨[],RpA.nil,(fun _ h=>nomatch h),fun _=>Bb⟩
theorem InS.left(h:InS A S1 a):InS A (S1++S2) a:=h.mono fun _ hp=>Aq _ hp
theorem InS.right(h:InS A S2 a):InS A (S1++S2) a:=h.mono fun _ hp=>Ah _ hp
variable{fe:FE}{te:TE}
theorem Xfm{t:TA}(he:EOk K C E Γ Δ m1 S1 te fe)(ha:AOk K C E Γ Δ m2 S2 t f):AOk K C E Γ Δ 0 (S1++S2) (Zbk te t) (Dl.Zc fe f):=
  fun H0 Hb H σ ρ A Q I p=>he H0 Hb H σ ρ A _ I (p.bind.imp (fun x q vx H1 g1 r1=>ha H0 Hb H1 σ ρ A _ (I.mono g1) (q.bind.imp (fun ys q vs H2 g2 r2=>by
    obtain ⟨Bx,r1,r1',_⟩:=r1;obtain ⟨By,r2,r2',_⟩:=r2;exact q _ H2 (g1.trans g2) ⟨Bx++By,⟨vx,vs,Bx,By,rfl,r1.same g2,r2,rfl⟩,fun a h=>(Al.mp h).elim (fun h=>(r1' a h).imp id InS.left) (fun h=>(r2' a h).imp (fun h=>g1.free h) InS.right),(fun z=>nomatch z)⟩)
    fun c x q H' g'=>q H' (g1.trans g'))) fun c x q H' g'=>q H' g')
theorem Zmj{t:TA}(he:EOk K C E Γ Δ 2 S1 te fe)(ha:AOk K C E Γ Δ 2 S2 t f)(h1:∀p∈S1,p.1∈Δ:=by decide)(h2:∀p∈S1,∀q∈S2,p.1≠q.1:=by decide):AOk K C E Γ Δ 2 (S1++S2) (Zbk te t) (Dl.Zc fe f):=
  fun H0 Hb H σ ρ A Q I p=>he H0 Hb H σ ρ A _ I (p.bind.imp (fun x q vx H1 g1 r1=>ha H0 Hb H1 σ ρ A _ (I.mono g1) (q.bind.imp (fun ys q vs H2 g2 r2=>by
    obtain⟨Bx,r1,r1',_,n1⟩:=r1;obtain⟨By,r2,r2',n2⟩:=r2;refine q _ H2 (g1.trans g2) ⟨Bx++By,⟨vx,vs,Bx,By,rfl,r1.same g2,r2,rfl⟩,fun a h=>(Al.mp h).elim (fun h=>(r1' a h).imp id InS.left) (fun h=>(r2' a h).imp (fun h=>g1.free h) InS.right),fun _=>?_⟩;refine DR.mpr ⟨n1 rfl,n2 rfl,fun a ha b hb e=>?_⟩;subst e;rcases r2' a hb with z|z;obtain⟨xs,w,_⟩:=r1.isl a ha;rw[w]at z;cases z
    · obtain⟨p2,hp2,z⟩:=z.mem;rcases r1' a ha with w|w;exact I.ne z w
      · obtain ⟨p1,hp1,w⟩:=w.mem;exact (I.deep p1.1 (h1 p1 hp1)).2.1 p2.1 (fun e=>h2 p1 hp1 p2 hp2 e.symm) a w z)
    fun c x q H' g'=>q H' (g1.trans g'))) fun c x q H' g'=>q H' g')
theorem Xnu{t:TA}(ha:AOk K C E Γ Δ 2 S t f):EOk K C E Γ Δ 2 S (Xrr t) (Dl.fA Dl.Jp f):=
  fun H0 Hb H σ ρ A Q I p=>ha H0 Hb H σ ρ A _ I (p.bind.imp (fun ds q vs H1 g1 r1=>by
    obtain⟨d,e,q⟩:=Zbm q;unfold Dl.Jp at e;split at e;rename_i hz;cases e;obtain⟨B,r1,r1',n1⟩:=r1;refine⟨by rw[r1.len];exact Zbe hz,fun p hp=>?_⟩;have g2:=sameNew hp (.lst vs);refine q _ _ (g1.trans g2) ⟨p::B,⟨p,vs,B,rfl,Zw,r1.same g2,rfl⟩,fun a ha=>?_,(fun z=>nomatch z),fun _=>AB.mpr ⟨fun h=>?_,n1 rfl⟩⟩;rcases Aj.mp ha with z|z;rw[z];exact .inl (g1.free hp);exact r1' a z;obtain⟨xs,w,_⟩:=r1.isl p h;rw[w]at hp;cases hp
    · cases e) fun c x q H' g'=>q H' g')
theorem Xep{t:TA}(ha:AOk K C E Γ Δ m S t f):EOk K C E Γ Δ 1 S (Xrr t) (Dl.fA Dl.Jp f):=
  fun H0 Hb H σ ρ A Q I p=>ha H0 Hb H σ ρ A _ I (p.bind.imp (fun ds q vs H1 g1 r1=>by
    obtain⟨d,e,q⟩:=Zbm q;unfold Dl.Jp at e;split at e;rename_i hz;cases e;obtain⟨B,r1,r1',n1⟩:=r1;refine⟨by rw[r1.len];exact Zbe hz,fun p hp=>?_⟩;have g2:=sameNew hp (.lst vs);refine q _ _ (g1.trans g2) ⟨p::B,⟨p,vs,B,rfl,Zw,r1.same g2,rfl⟩,fun a ha=>?_,fun _ a r e=>?_,(fun z=>nomatch z)⟩;rcases Aj.mp ha with z|z;rw[z];exact .inl (g1.free hp);exact r1' a z;cases e;refine⟨g1.free hp,fun h=>?_⟩;obtain⟨xs,w,_⟩:=r1.isl p h;rw[w]at hp;cases hp
    · cases e) fun c x q H' g'=>q H' g')
theorem Xbj(hm:m=0\/m=2){t:TA}(ha:AOk K C E Γ Δ m S t f):EOk K C E Γ Δ m S (Xyc t) (Dl.fA Dl.Zfg f):=
  fun H0 Hb H σ ρ A Q I p=>ha H0 Hb H σ ρ A _ I (p.bind.imp (fun ds q vs H1 g1 r1=>by
    obtain⟨d,e,q⟩:=Zbm q;unfold Dl.Zfg at e;split at e;rename_i hz;cases e;obtain⟨B,r1,r1',n1⟩:=r1;refine⟨by rw[r1.len];exact Zbe hz,fun p hp=>?_⟩;have g2:=sameNew hp (.tup vs);exact q _ _ (g1.trans g2) ⟨B,⟨p,vs,rfl,Zw,r1.same g2⟩,r1',(fun z=>by omega),n1⟩
    · cases e) fun c x q H' g'=>q H' g')
theorem Xjb{r:List V->Hp->VK->Prop}{g:List D->Option D}{t:TA}(hg:GAk K C r g)(ha:AOk K C E Γ Δ m S t f):EOk K C E Γ Δ 2 [] (tCB r t) (Dl.fA g f):=
  fun H0 Hb H σ ρ A Q I p=>ha H0 Hb H σ ρ A _ I (p.bind.imp (fun ds q vs H1 g1 r1=>by
    obtain ⟨d,e,q⟩:=Zbm q;obtain ⟨B,r1,_⟩:=r1;exact hg H1 ds d vs B Q r1 e fun v H' B' g2 r2 h1 h2=>q v H' (g1.trans g2) (Res.new r2 h1 fun a ha=>g1.free (h2 a ha))) fun c x q H' g'=>q H' g')
theorem RpA.one'{A:List Addr}(r:RpA K C H [d] vs A):∃v,vs=[v]/\Rp K C H d v A:=by obtain⟨x,l,B,B',e1,e2,e3,e4⟩:=r;obtain⟨e5,e6⟩:=e3;subst e1 e4 e5 e6;rw[Dy];exact⟨x,rfl,e2⟩
variable{w:Bk}
theorem RpA.two'{e:D}{A:List Addr}(r:RpA K C H [d,e] vs A):∃v w B B',vs=[v,w]/\Rp K C H d v B/\Rp K C H e w B':=by obtain⟨x,l,B,B',e1,e2,e3,e4⟩:=r;obtain⟨w,e5,e6⟩:=e3.one';subst e1 e5;exact⟨x,w,B,B',rfl,e2,e6⟩
theorem Jl:GAk K C (Zbq K) Dl.Zbp:=by
 intro H xs d vs B Q r e q;obtain⟨x,rfl⟩:=Zrl (F:=Dl.Zbp) rfl (fun x _ _=>by cases x<;>rfl) e;obtain⟨v,rfl,r1⟩:=r.one';cases x with
 |lst xs =>cases (show ak (D.int xs.length)=ak d from e);obtain⟨a,ys,B,rfl,e2,e3,_⟩:=r1;refine Zxl (SqL.of e2) ?_;rw[e3.len];exact Out.flat q rpI
 |tup xs =>cases (show ak (D.int xs.length)=ak d from e);obtain⟨a,ys,rfl,e2,e3⟩:=r1;refine Xnz (SqT.of e2) ?_;rw[e3.len];exact Out.flat q rpI
 |scr xs =>cases (show ak (D.int xs.length)=ak d from e);obtain⟨a,rfl,e2,_⟩:=r1;refine Zxl e2.sq ?_;rw[Ai];exact Out.flat q rpI
 |str z =>have e:(if z.length<=Dl.lim then ak (D.int z.length) else ao)=ak d:=e;by_cases hz:z.length<=Dl.lim;rw[aa hz]at e;cases e;obtain⟨rfl,_⟩:=r1;exact Xqc (Zbe hz) (Out.flat q rpI);rw[ae hz]at e;exact Ja e
 |_=>exact Ja e
theorem Zpm:GAk K C (Xrq K) Dl.Xir:=by
 intro H xs d vs B Q r e q;obtain⟨x,rfl⟩:=Zrl (F:=Dl.Xir) rfl (fun x _ _=>by cases x<;>rfl) e;obtain⟨v,rfl,r1⟩:=r.one';cases x with
 |lst xs =>obtain⟨ns,h1,h2⟩:=A7.mp e;cases h2;obtain⟨a,ys,B,rfl,e2,e3,_⟩:=r1;have h:=e3.ofInts h1;subst h;exact Xxj (SqL.of e2) (Out.flat q rpI)
 |_=>exact Ja e
def Zye:List V->Hp->VK->Prop:=fun xs H Q=>∃i j,xs=[.int i,.int j]/\Q (.int (if j<i then j else i)) H
variable{X:Cx}
theorem Zhx(hc:X.calm=aq):Zae X (.builtin "min") Zye:=Zvn hc
theorem Zoc:GAk K C Zye Dl.Xfe:=by intro H xs d vs B Q r e q;unfold Dl.Xfe at e;split at e;cases e;obtain⟨v,w,B,B',rfl,r1,r2⟩:=r.two';obtain⟨rfl,_⟩:=r1;obtain⟨rfl,_⟩:=r2;exact⟨_,_,rfl,Out.flat q rpI⟩;cases e
theorem Xng:GAk K C (Xdh K) Dl.gAny:=by
 intro H xs d vs B Q r e q;obtain⟨x,rfl⟩:=Zrl (F:=Dl.gAny) rfl (fun x _ _=>by cases x<;>rfl) e;obtain⟨v,rfl,r1⟩:=r.one';cases x with
 |lst xs =>obtain⟨ns,h1,h2⟩:=A7.mp e;cases h2;obtain⟨a,ys,B,rfl,e2,e3,_⟩:=r1;have h:=e3.ofBools h1;subst h;exact Xqt (SqL.of e2) (Out.flat q rpB)
 |_=>exact Ja e
theorem RpA.rng{lo:Int}:RpA K C H (Dl.Zgt lo n) (Zpb lo n) []:=by
 unfold Dl.Zgt Zpb;generalize AX n=l
 induction l with
 |nil=>exact RpA.nil
 |cons k l ih=>exact⟨_,_,[],[],rfl,rpI,ih,rfl⟩
theorem Yt:GAk K C (Zcc K) Dl.Yw:=by
 intro H xs d vs B Q r e q;obtain⟨x,rfl⟩:=Zrl (F:=Dl.Yw) rfl (fun x _ _=>by cases x<;>rfl) e;obtain⟨v,rfl,r1⟩:=r.one';cases x with
 |lst xs =>have e:(if Dl.Zr xs then ak (D.lst xs) else ao)=ak d:=e;split at e;rename_i hf;cases e;obtain⟨a,ys,B,rfl,e2,e3,_⟩:=r1;exact Xia (SqL.of e2) fun l hl=>Out.lst q (e3.flat' hf) hl;exact Ja e
 |tup xs =>have e:(if Dl.Zr xs then ak (D.lst xs) else ao)=ak d:=e;split at e;rename_i hf;cases e;obtain⟨a,ys,rfl,e2,e3⟩:=r1;exact .inl ⟨a,ys,rfl,.inr (SqT.of e2),fun l hl=>Out.lst q (e3.flat' hf) hl⟩;exact Ja e
 |rng i j =>have e:(if -1000000000<=i/\i<=1000000000/\-1000000000<=j/\j<=1000000000/\(j-i).toNat<=Dl.lim then ak (D.lst (Dl.Zgt i (j-i).toNat)) else ao)=ak d:=e;split at e;rename_i hf;cases e;obtain⟨a,rfl,e2,_⟩:=r1;obtain⟨h1,h2,h3,h4,h5⟩:=hf;exact Xdb e2 (by omega) (by omega) (by omega) (by omega) h5 fun l hl=>Out.lst q RpA.rng hl;exact Ja e
 |_=>exact Ja e
theorem Xgy:OOk K C E Γ Δ Zll Dl.Zdd:=fun _ _ H _ _ _ _ _ p=>p H (Xf.refl _)
variable{f:FE}
theorem Xfj{t:TE}(h:EOk K C E Γ Δ m S t f):OOk K C E Γ Δ (Xdg t) (Dl.Zbu f):=fun H0 Hb H σ ρ A Q I p=>h H0 Hb H σ ρ A _ I (p.bind.imp (fun d q v H' g r=>by
  obtain⟨B,r,_⟩:=r;cases d with
  |int i =>obtain⟨rfl,_⟩:=r;exact⟨i,rfl,q H' g⟩
  | _=>exact q.elim) fun c x q H' g'=>q H' g')
theorem Zfu(n d:Nat)(o:Option Int):Dl.Zpj n d o=HT.sIx n d o:=by
 cases o with
 |none=>rfl
 |some v =>have h:=HT.clip_eq v n d;show(if v<0 then (max (v+(n:Int)) 0).toNat else min v.toNat n)=_;by_cases hv:v<0;rw[aa hv]at h ⊢;omega;rw[ae hv]at h ⊢;omega
theorem RpA.cut{ds:List D}{vs:List V}{A:List Addr}(h:Dl.Zr ds=aq)(r:RpA K C H ds vs A)(lo hi:Option Int):RpA K C H (Dl.cut ds lo hi) (cutV vs lo hi) []:=by unfold Dl.cut cutV;rw[Zfu,Zfu,r.len];exact(r.flatDrop h _).flatTake (Ztx h _) _
theorem Xfg(ns:List Int)(lo hi:Option Int):cutV (ns.map V.int) lo hi=(Dl.cut ns lo hi).map V.int:=by unfold Dl.cut cutV;rw[Zfu,Zfu,Ai,Fo,G2]
variable{fh:FO}{th tl:TO}
theorem Xto(ha:EOk K C E Γ Δ m S ta fa)(hl:OOk K C E Γ Δ tl fl)(hh:OOk K C E Γ Δ th fh):EOk K C E Γ Δ 2 [] (tSl (Xrh K) ta tl th) (Dl.fSl Dl.gSl fa fl fh):=
  fun H0 Hb H σ ρ A Q I p=>ha H0 Hb H σ ρ A _ I (p.bind.imp (fun x q vx H1 g1 r1=>hl H0 Hb H1 σ ρ A _ (I.mono g1) (q.bind.imp (fun lo q H2 g2=>hh H0 Hb H2 σ ρ A _ (I.mono (g1.trans g2)) (q.bind.imp (fun hi q H3 g3=>by
    obtain⟨d,e,q⟩:=Zbm q;obtain⟨B,r1,_⟩:=r1;have r1:=r1.same (g2.trans g3);have g13:=g1.trans (g2.trans g3);have out:Out K C H3 d Q:=fun v H' B g4 r h1 h2=>q v H' (g13.trans g4) (Res.new r h1 fun a ha=>g13.free (h2 a ha));unfold Dl.gSl at e;split at e;split at e;rename_i hf;cases e;obtain⟨a,ys,B,rfl,e2,e3,_⟩:=r1;exact Xbi (SqL.of e2) fun p hp=>Out.lst out (e3.cut hf _ _) hp;cases e;cases e;obtain⟨a,rfl,e2,_⟩:=r1;refine Xbi e2.sq fun p hp=>?_;rw[Xfg];exact Out.lst out RpA.ints hp
    · cases e) fun c x q H' g'=>q H' ((g1.trans g2).trans g'))) fun c x q H' g'=>q H' (g1.trans g'))) fun c x q H' g'=>q H' g')
theorem Xfr(ha:EOk K C E Γ Δ m1 S1 ta fa):EOk K C E Γ Δ 2 [] (Xhf K ta) (Dl.f1 Dl.Zzf fa):=
  fun H0 Hb H σ ρ A Q I p=>ha H0 Hb H σ ρ A _ I (p.bind.imp (fun x q vx H1 g1 r1=>by
    obtain⟨d,e,q⟩:=Zbm q;obtain⟨Bx,r1,_⟩:=r1;have out:Out K C H1 d Q:=fun v H' B g4 r h1 h2=>q v H' (g1.trans g4) (Res.new r h1 fun a ha=>g1.free (h2 a ha));unfold Dl.Zzf at e;split at e;split at e;rename_i hf;cases e;obtain⟨a,ys,B,rfl,e2,e3,_⟩:=r1;exact⟨a,ys,rfl,SqL.of e2,fun p hp=>Out.lst out (RpA.flatRev hf e3) hp⟩;cases e
    · cases e) fun c x q H' g'=>q H' g')
theorem Xjv{t:TE}(h:EOk K C E Γ Δ m S t f):∀(H0 Hb H:Hp) (σ:St) (ρ:Xr) (A:Nat->List Addr) (Q:Bool->Hp->Prop),Zo K C H0 Hb H Γ Δ σ ρ A->Xd (Dl.cE f ρ) (fun b=>∀H',Xf H H'->Q b H') (fun c x=>∀H',Xf H H'->EC C E c x H')->t σ H fun x H'=>∃k,x=.bl k/\Q k H':=fun H0 Hb H σ ρ A Q I p=>h H0 Hb H σ ρ A _ I (p.bind.imp (fun d q v H' g r=>by
  obtain⟨B,r,_⟩:=r;cases d with
  |bl b =>obtain⟨rfl,_⟩:=r;exact⟨b,rfl,q H' g⟩
  | _=>exact q.elim) fun c x q H' g'=>q H' g')
theorem Xdd{t:TE}(h:EOk K C E Γ Δ m S t f):TOk K C E Γ Δ (Xdu t) (Dl.cE f):=Xjv h
theorem tok_B{t:TE}(h:EOk K C E Γ Δ m S t f):TOk K C E Γ Δ (tB t) (Dl.cE f):=Xjv h
theorem Xmk{t u:TT}{f g:FT}(h:TOk K C E Γ Δ t f)(h':TOk K C E Γ Δ u g):TOk K C E Γ Δ (tAnd t u) (Dl.Xpn f g):=fun H0 Hb H σ ρ A Q I p=>h H0 Hb H σ ρ A _ I (p.bind.imp (fun b q H' g'=>by
  cases b with
  |true=>exact h' H0 Hb H' σ ρ A Q (I.mono g') (Xd.imp q (fun b q H2 g2=>q H2 (g'.trans g2)) fun c x q H2 g2=>q H2 (g'.trans g2))
  | false=>exact q H' g') fun c x q H' g'=>q H' g')
theorem Xte{t u:TT}{f g:FT}(h:TOk K C E Γ Δ t f)(h':TOk K C E Γ Δ u g):TOk K C E Γ Δ (tOr t u) (Dl.cOr f g):=fun H0 Hb H σ ρ A Q I p=>h H0 Hb H σ ρ A _ I (p.bind.imp (fun b q H' g'=>by
  cases b with
  |false=>exact h' H0 Hb H' σ ρ A Q (I.mono g') (Xd.imp q (fun b q H2 g2=>q H2 (g'.trans g2)) fun c x q H2 g2=>q H2 (g'.trans g2))
  | true=>exact q H' g') fun c x q H' g'=>q H' g')
theorem Xnt:TOk K C E Γ Δ tYes Dl.Zcr:=fun _ _ H _ _ _ _ _ p=>p H (Xf.refl _)
theorem EOk.run{t:TE}(h:EOk K C E Γ Δ m S t f)(I:Zo K C H0 Hb H Γ Δ σ ρ A)(g:Xf H H1)(p:Xd (f ρ) (fun d=>∀v H',Xf H H'->Res K C m S H A d v H'->Q v H') (fun c x=>∀H',Xf H H'->EC C E c x H')):t σ H1 Q:=
 h H0 Hb H1 σ ρ A Q (I.mono g) (p.imp (fun d q v H2 g2 r=>q v H2 (g.trans g2) (r.later g (Xf.refl _))) fun c x q H2 g2=>q H2 (g.trans g2))
variable{fc:FT}{tc:TT}
theorem Xvs(hc:TOk K C E Γ Δ tc fc)(ha:EOk K C E Γ Δ m S ta fa)(hb:EOk K C E Γ Δ m S tb fb):EOk K C E Γ Δ m S (tIf tc ta tb) (Dl.fIf fc fa fb):=
  fun H0 Hb H σ ρ A Q I p=>hc H0 Hb H σ ρ A _ I (p.bind.imp (fun b q H' g=>by
    cases b with
    |true=>exact ha.run I g q
    | false=>exact hb.run I g q) fun c x q H' g'=>q H' g')
def spD(K:AN)(C:String->Addr)(n mr:Nat)(F:List D->R D):Sp:=fun vs H Q E=>∃ds B,ds.length=n/\RpA K C H ds vs B/\
 Xd (F ds) (fun d=>∀v H',Xf H H'->Res K C mr [] H (fun _=>[]) d v H'->Q v H') (fun c x=>∀H',Xf H H'->EC C E c x H')
theorem InS.none(h:InS A [] a):False:=by obtain⟨p,hp,_⟩:=h;cases hp
theorem Res.reA{A':Nat->List Addr}(r:Res K C m [] H A d v H'):Res K C m S H A' d v H':=by obtain⟨B,r1,r2,r3,r4⟩:=r;exact⟨B,r1,fun a ha=>(r2 a ha).imp id fun h=>h.none.elim,r3,r4⟩
variable{F:List D->R D}{f:FA}
theorem Zrv{t:TA}(ha:AOk K C E Γ Δ m S t f)(hn:∀ρ ds,f ρ=.ok ds->ds.length=n):EOk K C E Γ Δ mr [] (Zkj (spD K C n mr F) [] E t) (Dl.Ya F f):=
  fun H0 Hb H σ ρ A Q I p=>Zxe (ha H0 Hb H σ ρ A _ I (by
    have p':=p.bind;cases e:f ρ with
    |bad=>rw[e]at p';exact p'
    |err c x=>rw[e]at p';exact p'
    |ok ds =>
      rw [e] at p';intro vs H1 g1 r1;obtain ⟨B,r1,_⟩:=r1;exact ⟨ds,B,hn ρ ds e,r1,Xd.imp p' (fun d q v H' g2 r=>q v H' (g1.trans g2) ((r.later g1 (Xf.refl _)).reA)) fun c x q H' g'=>q H' (g1.trans g')⟩))
theorem Xmp(ρ:Xr)(ds:List D)(h:Dl.Zt ρ=.ok ds):ds.length=0:=by cases h;rfl
theorem Zjp(hf:∀ρ ds,f ρ=.ok ds->ds.length=n)(ρ:Xr)(ds:List D)(h:Dl.Zc fe f ρ=.ok ds):ds.length=n+1:=by
 unfold Dl.Zc at h;cases e:fe ρ with
 |ok x =>
  rw[e]at h;cases e':f ρ with
  |ok xs =>rw[e']at h;cases h;rw[BK,hf ρ xs e']
  |err c x=>rw[e']at h;cases h
  |bad=>rw[e']at h;cases h
 |err c x=>rw[e]at h;cases h
 |bad=>rw[e]at h;cases h
def Goes(K:AN)(C:String->Addr)(J:It)(ds:List D)(Hb:Hp):Prop:=∀H2,Xf Hb H2->(∀i,i<ds.length->J.go i H2)/\(∀i,ds.length<=i->J.stop i H2)/\
 ∀i x H3,i<ds.length->J.yld i H2 x H3->Xf H2 H3/\∃d B,ds[i]?=ak d/\Rp K C H3 d x B/\∀a∈B,Hb a≠ao
variable{Hc:Hp}{J:It}{Rr:Hp->Prop}
def IOk(K:AN)(C:String->Addr)(E:XK)(Γ Δ:List Nat)(S:List (Nat×Bool))(wi:TI)(f:FI):Prop:=∀(H0 Hb H:Hp) (σ:St) (ρ:Xr) (A:Nat->List Addr) (Rr:It->Hp->Prop),Zo K C H0 Hb H Γ Δ σ ρ A->
  Xd (f ρ) (fun ds=>∀J H' W,Xf H H'->(∀a∈W,(∃o,H' a=ak o/\IsM o)/\(H a=ao\/InS A S a))->ds.length<=Dl.lim->
    (∀Hc,Agree W H' Hc->Goes K C J ds Hc)->Rr J H') (fun c x=>∀H',Xf H H'->EC C E c x H')->wi σ H Rr
theorem Zxg(r:RpA K C Hc ds vs B)(h:∀H2,Xf Hc H2->(∀i,i<vs.length->J.go i H2)/\(∀i,vs.length<=i->J.stop i H2)/\∀i x H3,J.yld i H2 x H3->H3=H2/\(i<vs.length->vs[i]?=ak x)):Goes K C J ds Hc:=fun H2 g=>by obtain⟨h1,h2,h3⟩:=h H2 g;have hl:=r.len;refine⟨fun i hi=>h1 i (by omega),fun i hi=>h2 i (by omega),fun i x H3 hi y=>?_⟩;obtain⟨e,y2⟩:=h3 i x H3 y;subst e;obtain⟨d,Bd,q1,q2,q3⟩:=r.get' (y2 (by omega));refine⟨Xf.refl _,d,Bd,q1,q2.same g,fun a ha z=>?_⟩;obtain⟨xs,e,_⟩:=q2.isl a ha;rw[e]at z;cases z
theorem Zlo(r:RpA K C Hc ds vs B)(h:∀H2,Xf Hc H2->SqL K H2 a vs):Goes K C (Itl K a) ds Hc:=Zxg r fun H2 g=>by have q:=h H2 g;exact⟨fun i hi=>⟨vs,vs[i],q,by simp[hi]⟩,fun i hi=>⟨vs,q,hi⟩,fun i x H3 y=>⟨y.1,fun _=>y.2 vs q⟩⟩
theorem Zqp{lo:Int}:Goes K C (Itr lo n) (Dl.Zgt lo n) Hc:=Zxg (vs:=Zpb lo n) RpA.rng fun H2 _=>by
 have hl:(Zpb lo n).length=n:=by simp[Zpb]
 refine⟨fun i hi=>by rw[hl]at hi;exact hi,fun i hi=>by rw[hl]at hi;exact hi,fun i x H3 y=>⟨y.1,fun hi=>?_⟩⟩;rw[hl]at hi;rw[y.2];simp[Zpb,hi]
theorem FzL.keep(h:FzL K H a xs)(hk:∀b o,H b=ak o->¬IsM o->Hb b=ak o):FzL K Hb a xs:=by rcases h with⟨o,h⟩|h;exact .inl ⟨o,hk a _ h (fun z=>by cases z)⟩;exact .inr h
theorem FzL.same(h:FzL K H a xs)(g:Xf H Hb):FzL K Hb a xs:=h.keep fun b o q _=>g b o q
theorem Xfa{t:TE}{f:FE}(h:EOk K C E Γ Δ m S t f):IOk K C E Γ Δ S (Xap K t) (Dl.Zai f):=fun H0 Hb H σ ρ A Rr I p=>h H0 Hb H σ ρ A _ I (p.bind.imp (fun d q v H' g r=>by
  obtain⟨B,r,r',_⟩:=r;cases d with
  |lst ds =>obtain⟨a,xs,B',rfl,e2,e3,e4⟩:=r;subst e4;simp only at q;split at q;rename_i hl;refine⟨a,rfl,⟨xs,SqL.of e2⟩,q _ H' (a::B') g (fun b hb=>?_) hl fun Hc h1=>Zlo (e3.agree h1 fun b hb=>.tail _ hb) fun H2 g2=>SqL.of (g2 _ _ ((h1.1 a (.head _)).trans e2))⟩;rcases Aj.mp hb with z|z;rw[z];exact⟨⟨_,e2,.lst⟩,r' a (.head _)⟩;exact⟨e3.isl b z,r' b (.tail _ z)⟩;exact q.elim
  |scr ns =>obtain⟨a,rfl,e2,_⟩:=r;simp only at q;split at q;rename_i hl;exact⟨a,rfl,⟨_,e2.sq⟩,q _ H' [] g (fun b hb=>nomatch hb) (by rw[Ai];exact hl) fun Hc h2=>Zlo RpA.ints fun H2 g2=>((e2.keep h2.2).same g2).sq⟩;exact q.elim
  | _=>exact q.elim) fun c x q H' g'=>q H' g')
theorem Zrp(lo:Int)(n:Nat):(Dl.Zgt lo n).length=n:=by simp[Dl.Zgt]
theorem Xeq{t:TA}(h:AOk K C E Γ Δ m S t f):IOk K C E Γ Δ [] (Xex t) (Dl.Zmq f):=fun H0 Hb H σ ρ A Rr I p=>h H0 Hb H σ ρ A _ I (p.bind.imp (fun ds q vs H' g r=>by
  obtain⟨B,r,_⟩:=r;split at q;split at q;rename_i hl;obtain⟨v,rfl,r1⟩:=r.one';obtain⟨rfl,_⟩:=r1;exact⟨_,rfl,by omega,by omega,q _ H' [] g (fun b hb=>nomatch hb) (by rw[Zrp];show _<=1000000;omega) fun Hc _=>Zqp⟩;exact q.elim
  · exact q.elim) fun c x q H' g'=>q H' g')
theorem Xdl{t:TA}(h:AOk K C E Γ Δ m S t f):IOk K C E Γ Δ [] (Xgn t) (Dl.Zyk f):=fun H0 Hb H σ ρ A Rr I p=>h H0 Hb H σ ρ A _ I (p.bind.imp (fun ds q vs H' g r=>by
  obtain⟨B,r,_⟩:=r;split at q;split at q;rename_i hl;obtain⟨v,w,B,B',rfl,r1,r2⟩:=r.two';obtain⟨rfl,_⟩:=r1;obtain⟨rfl,_⟩:=r2;obtain⟨h1,h2,h3,h4,h5⟩:=hl;exact⟨_,_,rfl,⟨by omega,by omega,by omega,by omega⟩,q _ H' [] g (fun b hb=>nomatch hb) (by rw[Zrp];exact h5) fun Hc _=>Zqp⟩;exact q.elim
  · exact q.elim) fun c x q H' g'=>q H' g')
variable{Dd:Addr}{N:Nat}{g:TG}{os:Ly}
theorem Xgo{k:Nat}(go:Goes K C J ds Hc)(Pv:Nat->Hp->Prop)(h0:Pv 0 (upd H Dd (.lst [])))(hb:∀i H,Pv i H->Xf Hc H)(hs:∀i d x B H H3,ds[i]?=ak d->Pv i H->Xf H H3->Rp K C H3 d x B->(∀a∈B,Hc a≠ao)->∀os:St,os.length=k->g x (σ++os) H3 fun σ' Hg=>(∃os',os'.length=k/\σ'=σ++os')/\tc σ' Hg fun b H2=>if b=aq then te σ' H2 fun v H3=>∃ys,H3 Dd=ak (.lst ys)/\ys.length<Ar/\Pv (i+1) (upd H3 Dd (.lst (ys++[v]))) else Pv (i+1) H2)(hd:∀H,Pv ds.length H->Rr H):∃W:Nat->Nat->Hp->Prop,(∃m,W 0 m (upd H Dd (.lst [])))/\∀i m H,W i m H->(J.stop i H/\Rr H)\/(J.go i H/\∃N:Hp->Prop,(∀H',N H'->∃m',m'<m/\W (i+1) m' H')/\∀x H',J.yld i H x H'->∀os:St,os.length=k->g x (σ++os) H' fun σ' Hg=>(∃os',os'.length=k/\σ'=σ++os')/\tc σ' Hg fun b H2 =>if b=aq then te σ' H2 fun v H3=>∃ys,H3 Dd=ak (.lst ys)/\ys.length<Ar/\N (upd H3 Dd (.lst (ys++[v]))) else N H2):=by
  refine⟨fun i m H=>m=ds.length-i/\i<=ds.length/\Pv i H,⟨ds.length,by simp,Dp _,h0⟩,?_⟩;rintro i m H1 ⟨rfl,hi,p⟩;obtain⟨g1,g2,g3⟩:=go H1 (hb i H1 p);by_cases hlt:i<ds.length;refine .inr ⟨g1 i hlt,Pv (i+1),fun H' p'=>⟨ds.length-(i+1),by omega,rfl,hlt,p'⟩,fun x H' y=>?_⟩;obtain⟨e,d,B,y1,y2,y3⟩:=g3 i x H' hlt y;exact hs i d x B H1 H' y1 p e y2 y3;have e:i=ds.length:=by omega
  subst e;exact .inl ⟨g2 _ (As _),hd H1 p⟩
theorem Zys{tb:TS}{Dd:Ends}(go:Goes K C J ds Hc)(Pv:Nat->St->Hp->Prop)(h0:Pv 0 σ H)(hb:∀i σ H,Pv i σ H->Xf Hc H)(hs:∀i d x B σ H H3,ds[i]?=ak d->Pv i σ H->Xf H H3->Rp K C H3 d x B->(∀a∈B,Hc a≠ao)->g x σ H3 fun σ2 H2=>tb {Dd with nx:=Pv (i+1),ct:=Pv (i+1),bk:=Dd.nx} σ2 H2)(hd:∀σ H,Pv ds.length σ H->Dd.nx σ H):∃W:Nat->Nat->St->Hp->Prop,(∃m,W 0 m σ H)/\∀i m σ H,W i m σ H->(J.stop i H/\Dd.nx σ H)\/(J.go i H/\∃N:St->Hp->Prop,(∀σ' H',N σ' H'->∃m',m'<m/\W (i+1) m' σ' H')/\∀x H',J.yld i H x H'->g x σ H' fun σ2 H2=>tb {Dd with nx:=N,ct:=N,bk:=Dd.nx} σ2 H2):=by
 refine⟨fun i m σ H=>m=ds.length-i/\i<=ds.length/\Pv i σ H,⟨ds.length,by simp,Dp _,h0⟩,?_⟩;rintro i m σ H1 ⟨rfl,hi,p⟩;obtain⟨g1,g2,g3⟩:=go H1 (hb i σ H1 p);by_cases hlt:i<ds.length;refine .inr ⟨g1 i hlt,Pv (i+1),fun σ' H' p'=>⟨ds.length-(i+1),by omega,rfl,hlt,p'⟩,fun x H' y=>?_⟩;obtain⟨e,d,B,y1,y2,y3⟩:=g3 i x H' hlt y;exact hs i d x B σ H1 H' y1 p e y2 y3;have e:i=ds.length:=by omega
 subst e;exact .inl ⟨g2 _ (As _),hd σ H1 p⟩
theorem Zo.more(I:Zo K C H0 Hb H Γ Δ σ ρ A)(os:St):Zo K C H H H [] [] (σ++os) (ρ++Ab os.length ao) A:=by refine⟨Xf.refl _,Xf.refl _,by rw[Av,Av,I.len,BN],fun i e h=>?_,fun i h=>?_,(fun _ h=>nomatch h),(fun _ h=>nomatch h),(fun _ h=>nomatch h)⟩;by_cases hi:i<ρ.length;rw[AM hi]at h;obtain⟨w,q1,q2⟩:=I.rep i e h;refine⟨w,?_,q2⟩;rw[AM (by rw[I.len];exact hi)];exact q1;rw[Bs (by omega)]at h;have hm:=AO h;rw[Fc]at hm;exact af hm.2 (by intro z;cases z);refine I.nil i fun e h'=>h e ?_;rw[AM (Am.mp h').1];exact h'
def NOk(K:AN)(C:String->Addr)(n k:Nat)(g:TG)(b:FB):Prop:=∀(H:Hp) (σ os:St) (ρ:Xr) (A:Nat->List Addr) (d:D) (v:V) (B:List Addr) (Rr:St->Hp->Prop),σ.length=n->os.length=k->Zo K C H H H [] [] (σ++os) ρ A->Rp K C H d v B->
 Xd (b d ρ) (fun ρ'=>∀os' A',os'.length=k->Zo K C H H H [] [] (σ++os') ρ' A'->Rr (σ++os') H) (fun _ _=>False)->g v (σ++os) H Rr
def Xwu(K:AN)(C:String->Addr)(n k:Nat)(g:TGs)(b:List D->Xr->R Xr):Prop:=∀(H:Hp) (σ os:St) (ρ:Xr) (A:Nat->List Addr) (d:List D) (v:List V) (B:List Addr) (Rr:St->Hp->Prop),σ.length=n->os.length=k->Zo K C H H H [] [] (σ++os) ρ A->RpA K C H d v B->
 Xd (b d ρ) (fun ρ'=>∀os' A',os'.length=k->Zo K C H H H [] [] (σ++os') ρ' A'->Rr (σ++os') H) (fun _ _=>False)->g v (σ++os) H Rr
theorem Zub(k:Nat)(b:FB)(c:FT)(e:FE)(ρ:Xr)(xs:List D){x:D}(h:xs[i]?=ak x):Dl.Zbd k b c e ρ (xs.drop i)=(b x (ρ++Ab k ao)).calm.bind fun ρ1=>(c ρ1).bind fun t=>if t then (e ρ1).bind fun y=>(Dl.Zbd k b c e ρ (xs.drop (i+1))).bind fun ys=>.ok (y::ys) else Dl.Zbd k b c e ρ (xs.drop (i+1)):=by obtain⟨hi,rfl⟩:=Am.mp h;rw[BD hi];rfl
theorem Zbi{r:R α}{ok:α->Prop}(h:Xd r.calm ok er):Xd r ok (fun _ _=>False):=by
 cases r with
 |ok a=>exact h
 |err c x=>exact h
 |bad=>exact h
theorem get_set{l:List α}{x y:α}(h:(l.set i x)[j]?=ak y):(j=i/\i<l.length/\y=x)\/(j≠i/\l[j]?=ak y):=by by_cases e:i=j;subst e;rw[List.getElem?_set_self']at h;by_cases hi:i<l.length;rw[Ag hi]at h;simp at h;exact .inl ⟨rfl,hi,h.symm⟩;rw[DX (by omega)]at h;cases h;rw[BV e]at h;exact .inr ⟨fun z=>e z.symm,h⟩
theorem Zo.put(I:Zo K C H0 Hb H Γ Δ σ ρ A)(r:Rp K C H d v B)(h1:∀j∈Γ',j≠i->j∈Γ/\∀a l,A j=a::l->a∉B)(h2:i∈Γ'->(∀a∈B,H0 a=ao)/\∀a l,B=a::l->Hb a=ao/\a∉l/\∀j,j≠i->a∉A j)(h3:∀j∈Δ',j≠i->j∈Δ/\∀a∈A j,a∉B)(h4:i∈Δ'->B.Nodup/\(∀j,j≠i->∀a∈B,a∉A j)/\∀a∈B,Hb a=ao):∃A',Zo K C H0 Hb H Γ' Δ' (σ.set i (ak v)) (ρ.set i (ak d)) A'/\∀j a,a∈A' j->a∈B\/a∈A j:=by
 by_cases hi:i<ρ.length;refine⟨fun j=>if j=i then B else A j,⟨I.s0,I.same,by rw[Dx,Dx,I.len],fun j e h=>?_,fun j h=>?_,fun j hj a ha=>?_,fun j hj a l e=>?_,fun j hj=>?_⟩,fun j a ha=>?_⟩;rcases get_set h with⟨e1,_,e2⟩|⟨e1,e2⟩;subst e1;cases e2;refine⟨v,?_,by rw[aa rfl];exact r⟩;rw[CG (by rw[I.len];exact hi)];obtain⟨w,q1,q2⟩:=I.rep j e e2;refine⟨w,?_,by rw[ae e1];exact q2⟩;rw[BV (fun z=>e1 z.symm)];exact q1;by_cases e:j=i;subst e;exact af (CG hi) (h d);rw[ae e];refine I.nil j fun x hx=>h x ?_;rw[BV (fun z=>e z.symm)];exact hx;by_cases e:j=i;subst e;rw[aa rfl]at ha;exact(h2 hj).1 a ha;rw[ae e]at ha;exact I.loc j (h1 j hj e).1 a ha;by_cases e':j=i;subst e';rw[aa rfl]at e;obtain⟨q0,q1,q2⟩:=(h2 hj).2 a l e;refine⟨q0,q1,fun k hk=>?_⟩;rw[ae hk];exact q2 k hk;rw[ae e']at e;obtain⟨q0,q⟩:=h1 j hj e';obtain⟨q3,q1,q2⟩:=I.top j q0 a l e;refine⟨q3,q1,fun k hk=>?_⟩;by_cases ek:k=i;rw[aa ek];exact q a l e;rw[ae ek];exact q2 k hk;by_cases e:j=i;subst e;rw[aa rfl];obtain⟨q1,q2,q3⟩:=h4 hj;refine⟨q1,fun k hk a ha=>?_,q3⟩;rw[ae hk];exact q2 k hk a ha;rw[ae e];obtain⟨q0,q⟩:=h3 j hj e;obtain⟨q1,q2,q3⟩:=I.deep j q0;refine⟨q1,fun k hk a ha=>?_,q3⟩;by_cases ek:k=i;rw[aa ek];exact q a ha;rw[ae ek];exact q2 k hk a ha;have ha:a∈(if j=i then B else A j):=ha;by_cases e:j=i;rw[aa e]at ha;exact .inl ha;rw[ae e]at ha;exact .inr ha;have e1:ρ.set i (ak d)=ρ:=HA (by omega);have e2:σ.set i (ak v)=σ:=HA (by rw[I.len];omega);have e3:A i=[]:=I.nil i fun x h=>by have:=(Am.mp h).1;omega
 refine⟨A,?_,fun j a ha=>.inr ha⟩;rw[e1,e2];refine⟨I.s0,I.same,I.len,I.rep,I.nil,fun j hj a ha=>?_,fun j hj a l e=>?_,fun j hj=>?_⟩;by_cases e:j=i;subst e;rw[e3]at ha;cases ha;exact I.loc j (h1 j hj e).1 a ha;by_cases e':j=i;subst e';rw[e3]at e;cases e;exact I.top j (h1 j hj e').1 a l e;by_cases e:j=i;subst e;rw[e3];exact⟨Bb,fun _ _ _ h=>(nomatch h),fun _ h=>(nomatch h)⟩;exact I.deep j (h3 j hj e).1
variable{d':D}{o':HO}
theorem Zo.writeA{es:List D}{l:List Addr}(I:Zo K C H0 Hb H Γ Δ σ ρ A)(hi:i∈Γ)(hA:A i=a::l)(hl:i<ρ.length)(hs:σ[i]?=ak (ak (.ref a)))(mk:∀H',H' a=ak o'->RpA K C H' es ys B'->Rp K C H' d' (.ref a) (a::B'))(r:RpA K C H es ys B')(hn:∀b∈B',H0 b=ao)(ha:a∉B')(h1:∀j∈Γ',j≠i->j∈Γ/\∀b l,A j=b::l->b∉B')(h2:∀j∈Δ',j≠i->j∈Δ/\∀b∈A j,b∉B')(h3:i∈Δ'->B'.Nodup/\(∀j,j≠i->∀b∈B',b∉A j)/\∀b∈B',Hb b=ao):∃A',Zo K C H0 Hb (upd H a o') Γ' Δ' σ (ρ.set i (ak d')) A'/\∀j b,b∈A' j->b∈a::B'\/b∈A j:=by
 obtain⟨xs,hxs,hm⟩:=I.is (j:=i) (a:=a) (by rw[hA];exact .head _);have hne:∀j,j≠i->a∉A j:=(I.top i hi a l hA).2.2;have hb0:Hb a=none:=(I.top i hi a l hA).1;have h0:H0 a=none:=I.loc i hi a (by rw[hA];exact .head _);have ext:Ext (fun b=>b=a) H (upd H a o'):=fun b o h=>by by_cases e:b=a;subst e;rw[hxs]at h;cases h;exact .inr ⟨rfl,hm⟩;rw[Zy e];exact .inl h
 refine⟨fun j=>if j=i then a::B' else A j,⟨I.s0,fun b o h=>?_,by rw[Dx,I.len],fun j e h=>?_,fun j h=>?_,fun j hj b hb=>?_,fun j hj b l' e=>?_,fun j hj=>?_⟩,fun j b hb=>?_⟩;rw[Zy (Xe h hb0)];exact I.same b o h;rcases get_set h with⟨e1,_,e2⟩|⟨e1,e2⟩;subst e1;cases e2;refine⟨.ref a,hs,?_⟩;rw[aa rfl];exact mk _ Zw (r.ext ext (fun b hb h=>ha (by rw[h]at hb;exact hb)));obtain⟨w,q1,q2⟩:=I.rep j e e2;refine⟨w,q1,?_⟩;rw[ae e1];exact q2.ext ext fun b hb h=>hne j e1 (by rw[h]at hb;exact hb);by_cases e:j=i;subst e;exact af (CG hl) (h _);rw[ae e];refine I.nil j fun x hx=>h x ?_;rw[BV (fun z=>e z.symm)];exact hx;by_cases e:j=i;subst e;rw[aa rfl]at hb;rcases Aj.mp hb with z|z;rw[z];exact h0;exact hn b z;rw[ae e]at hb;exact I.loc j (h1 j hj e).1 b hb;by_cases e':j=i;subst e';rw[aa rfl]at e;cases e;refine⟨hb0,ha,fun k hk=>?_⟩;rw[ae hk];exact hne k hk;rw[ae e']at e;obtain⟨q0,q⟩:=h1 j hj e';obtain⟨q3,q1,q2⟩:=I.top j q0 b l' e;refine⟨q3,q1,fun k hk=>?_⟩;by_cases ek:k=i;rw[aa ek];intro z;rcases Aj.mp z with z|z;exact hne j e' (by rw[e,z];exact .head _);exact q b l' e z;rw[ae ek];exact q2 k hk;by_cases e:j=i;subst e;rw[aa rfl];obtain⟨q1,q2,q3⟩:=h3 hj;refine⟨AB.mpr ⟨ha,q1⟩,fun k hk b hb=>?_,fun b hb=>?_⟩;rw[ae hk];rcases Aj.mp hb with z|z;rw[z];exact hne k hk;exact q2 k hk b z;rcases Aj.mp hb with z|z;rw[z];exact hb0;exact q3 b z;rw[ae e];obtain⟨q0,q⟩:=h2 j hj e;obtain⟨q1,q2,q3⟩:=I.deep j q0;refine⟨q1,fun k hk b hb=>?_,q3⟩;by_cases ek:k=i;rw[aa ek];intro z;rcases Aj.mp z with z|z;exact hne j e (by rw[<- z];exact hb);exact q b hb z;rw[ae ek];exact q2 k hk b hb;by_cases e:j=i;simp only[aa e]at hb;exact .inl hb;simp only[ae e]at hb;exact .inr hb
theorem Zo.writeO{es:List D}{l:List Addr}(I:Zo K C H0 Hb H Γ Δ σ ρ A)(hi:i∈Γ)(hA:A i=a::l)(hl:i<ρ.length)(hs:σ[i]?=ak (ak (.ref a)))(mk:∀H',H' a=ak o'->RpA K C H' es ys B'->Rp K C H' d' (.ref a) (a::B'))(r:RpA K C H es ys B')(hn:∀b∈B',H0 b=ao)(ha:a∉B')(h1:∀j∈Γ',j≠i->j∈Γ/\∀b l,A j=b::l->b∉B')(h2:∀j∈Δ',j≠i->j∈Δ/\∀b∈A j,b∉B')(h3:i∈Δ'->B'.Nodup/\(∀j,j≠i->∀b∈B',b∉A j)/\∀b∈B',Hb b=ao):∃A',Zo K C H0 Hb (upd H a o') Γ' Δ' σ (ρ.set i (ak d')) A':=
 let ⟨A',h,_⟩:=I.writeA hi hA hl hs mk r hn ha h1 h2 h3;⟨A',h⟩
theorem Zo.write{es:List D}{l:List Addr}(I:Zo K C H0 Hb H Γ Δ σ ρ A)(hi:i∈Γ)(hA:A i=a::l)(hl:i<ρ.length)(hs:σ[i]?=ak (ak (.ref a)))(r:RpA K C H es ys B')(hn:∀b∈B',H0 b=ao)(ha:a∉B')(h1:∀j∈Γ',j≠i->j∈Γ/\∀b l,A j=b::l->b∉B')(h2:∀j∈Δ',j≠i->j∈Δ/\∀b∈A j,b∉B')(h3:i∈Δ'->B'.Nodup/\(∀j,j≠i->∀b∈B',b∉A j)/\∀b∈B',Hb b=ao):∃A',Zo K C H0 Hb (upd H a (.lst ys)) Γ' Δ' σ (ρ.set i (ak (.lst es))) A':=I.writeO hi hA hl hs (fun _ q1 q2=>⟨a,_,_,rfl,q1,q2,rfl⟩) r hn ha h1 h2 h3
theorem Xea{k:Nat}(i:Nat)(h1:n<=i)(h2:i<n+k):NOk K C n k (Zam i) (Dl.Zv i):=fun H σ os ρ A d v B Rr hσ hos I r p=>by
 have e:(σ++os).set i (ak v)=σ++os.set (i-n) (ak v):=by rw[<- hσ,DA _ _ (by omega)]
 obtain⟨A',I',_⟩:=I.put (Γ':=[]) (Δ':=[]) (i:=i) r (fun _ h=>nomatch h) (fun h=>nomatch h) (fun _ h=>nomatch h) (fun h=>nomatch h);show Rr ((σ++os).set i (ak v)) H;rw[e]at I' ⊢;exact p _ A' (by rw[Dx];exact hos) I'
theorem Xqo{k:Nat}:Xwu K C n k Xcq Dl.Zef:=fun H σ os ρ A d v B Rr hσ hos I r p=>by
 cases d with
 |nil=>exact⟨r.1,p _ A hos I⟩
 |cons _ _=>exact p.elim
variable{gs:TGs}
theorem Xcv{k:Nat}{b:FB}{bs:List D->Xr->R Xr}(h1:NOk K C n k g b)(h2:Xwu K C n k gs bs):Xwu K C n k (Zio g gs) (Dl.Xx b bs):=fun H σ os ρ A d v B Rr hσ hos I r p=>by
 cases d with
 |nil=>exact p.elim
 |cons d ds =>obtain⟨x,l,B1,B2,e1,e2,e3,e4⟩:=r;subst e1 e4;exact⟨x,l,rfl,h1 H σ os ρ A d x B1 _ hσ hos I e2 (Xd.imp (Xd.bind p) (fun ρ1 q os1 A1 ho1 I1=>h2 H σ os1 ρ1 A1 ds l B2 Rr hσ ho1 I1 e3 q) fun _ _ z=>z)⟩
theorem Xmu{k:Nat}{bs:List D->Xr->R Xr}{l:Nat}(hn:∀ds ρ ρ',bs ds ρ=.ok ρ'->ds.length=l)(h:Xwu K C n k gs bs):NOk K C n k (Zfg K l gs) (Dl.Zfc bs):=fun H σ os ρ A d v B Rr hσ hos I r p=>by
 cases d with
 |tup ds =>
  obtain⟨a,xs,rfl,e2,e3⟩:=r;have p':Xd (bs ds ρ) (fun ρ'=>∀os' A',os'.length=k->Zo K C H H H [] [] (σ++os') ρ' A'->Rr (σ++os') H) (fun _ _=>False):=p;have hl:xs.length=l:=by
   rw[e3.len];cases e:bs ds ρ with
   |ok ρ'=>exact hn ds ρ ρ' e
   |err _ _=>rw[e]at p';exact p'.elim
   |bad=>rw[e]at p';exact p'.elim
  exact⟨a,xs,rfl,SqT.of e2,hl,h H σ os ρ A ds xs B Rr hσ hos I e3 p'⟩
 |_=>exact p.elim
variable{fi:FI}{wi:TI}
theorem Zqg{k:Nat}{fb:FB}(hi:IOk K C E Γ Δ S wi fi)(hg:NOk K C n k g fb)(hc:TOk K C E0 [] [] tc fc)(he:EOk K C E0 [] [] 2 [] te fe):EOk K C E Γ Δ 2 [] (Zeq k g wi tc te) (Dl.Jm n k fi fb fc fe):=fun H0 Hb H σ ρ A Q I p=>by
  unfold Dl.Jm at p;split at p
  · rename_i hn;refine hi H0 Hb H σ ρ A _ I (p.bind.imp (fun ds q J H1 W g1 hW hlen hJ Dd hD=>?_) fun c x q H' g'=>q H' g');have I1:=I.mono g1;have go:Goes K C J ds H1:=hJ H1 ⟨fun _ _=>rfl,fun b o h _=>h⟩;have q':=Zbi q.bind;refine Xgo go (fun i H2=>Xf H1 H2/\∃(us:List D) (ys:List V) (B':List Addr),H2 Dd=ak (.lst ys)/\us.length<=i/\RpA K C H2 us ys B'/\B'.Nodup/\Dd∉B'/\(∀a∈B',H1 a=ao)/\
      Xd (Dl.Zbd k fb fc fe ρ (ds.drop i)) (fun zs=>∀v H',Xf H H'->Res K C 2 [] H A (.lst (us++zs)) v H'->Q v H') (fun _ _=>False)) ⟨sameNew hD _,[],[],[],Zw,As _,RpA.nil,Bb,(fun h=>nomatch h),(fun _ h=>nomatch h),q'⟩ (fun _ _ h=>h.1) ?_ ?_
    · rintro i x v Bx H2a H2 hx ⟨g2a,us,ys,B',hD2,hul,ru,nd,hDB,hnew,pq⟩ g2b rx _ os hos;have g2:=g2a.trans g2b;have hil:=(Am.mp hx).1;rw[Zub _ _ _ _ _ _ hx]at pq;have I2:=(I1.mono g2).more os;have pq':=Zbi pq.bind;rw[<- hos]at pq';refine hg H2 σ os _ A x v Bx _ (by rw[I.len,hn]) hos I2 rx (pq'.imp (fun ρ1 pq os1 A1 ho1 I3=>⟨⟨os1,ho1,rfl⟩,?_⟩) fun _ _ z=>z);refine hc H2 H2 H2 _ _ _ _ I3 (pq.bind.imp (fun b pq H3 g3=>?_) fun _ _ z=>z.elim);have hD2':=g2b _ _ hD2;have ru':=ru.same g2b;cases b with
      |false =>simp only[AT,if_false]at pq ⊢;rw[hos]at pq;exact⟨g2.trans g3,us,ys,B',g3 _ _ hD2',by omega,ru'.same g3,nd,hDB,hnew,pq⟩
      |true =>
        simp only[if_true]at pq ⊢;refine he H2 H2 H3 _ _ _ _ (I3.mono g3) (pq.bind.imp (fun y pq w H4 g4 r4=>?_) fun _ _ z=>z.elim);rw[hos]at pq;obtain⟨By,ry,hy1,_,hy2⟩:=r4;have g24:=g3.trans g4;have hD4:=g24 _ _ hD2';have hnewy:∀a∈By,H3 a=none:=fun a ha=>(hy1 a ha).elim id fun z=>z.none.elim;have hDy:Dd∉By:=fun h=>by have z:=hnewy Dd h;rw[g3 _ _ hD2']at z;cases z
        have ext:Ext (fun a=>a=Dd) H4 (upd H4 Dd (.lst (ys++[w]))):=fun b o h=>by by_cases e:b=Dd;subst e;rw[hD4]at h;cases h;exact .inr ⟨rfl,.lst⟩;rw[Zy e];exact .inl h
        have hDB':Dd∉B'++By:=fun h=>(Al.mp h).elim hDB hDy;refine⟨ys,hD4,?_,?_,us++[y],ys++[w],B'++By,Zw,by rw[Av];simp;omega,?_,?_,hDB',?_,?_⟩;rw[ru.len];exact Zes (by omega);intro b o h;have hb:b≠Dd:=Xe h hD;rw[Zy hb];exact(g2.trans g24) b o h;exact((ru'.same g24).app (RpA.one ry)).ext ext fun a ha h=>hDB' (by rw[h]at ha;exact ha);refine DR.mpr ⟨nd,hy2 rfl,fun a ha b hb e=>?_⟩;subst e;obtain⟨xs,z,_⟩:=(ru'.same g3).isl a ha;rw[hnewy a hb]at z;cases z;intro a ha;rcases Al.mp ha with h|h;exact hnew a h;exact(g2.trans g3).free (hnewy a h)
        · exact pq.bind.imp (fun zs pq v H' g' r=>by
            rw [DE] at r;exact pq v H' g' r) fun _ _ z=>z
    rintro H2 ⟨g2,us,ys,B',hD2,hul,ru,nd,hDB,hnew,pq⟩;rw[GL]at pq;have pq:∀v H',Xf H H'->Res K C 2 [] H A (.lst (us++[])) v H'->Q v H':=pq;rw[Dy]at pq;refine pq _ H2 (g1.trans g2) ⟨Dd::B',⟨Dd,ys,B',rfl,hD2,ru,rfl⟩,fun a ha=>.inl ?_,(fun z=>nomatch z),fun _=>AB.mpr ⟨hDB,nd⟩⟩;rcases Aj.mp ha with h|h;rw[h];exact g1.free hD;exact g1.free (hnew a h)
  exact p.elim
variable{Γ1 Δ1:List Nat}
theorem Zve.weak{H0 Hb:Hp}{D:Ends}{r:R Fl}(h:Zve K C E mr Γl Δl Γ' Δ' H0 Hb D r)(h1:∀i∈Γ',i∈Γ1)(h2:∀i∈Δ',i∈Δ1):Zve K C E mr Γl Δl Γ1 Δ1 H0 Hb D r:=by
 unfold Zve at *;refine Xd.imp h (fun fl q=>?_) fun _ _ q=>q;cases fl with
 |nx ρ'=>exact fun σ' H' A' I=>q σ' H' A' (I.weak h1 h2)
 |ret d=>exact q
 |brk ρ'=>exact q
 |cnt ρ'=>exact q
theorem Xgz{t:TS}{f:FS}(h:SOk K C E mr Γl Δl Γ Δ Γ1 Δ1 t f)(h1:∀i∈Γ',i∈Γ1:=by decide)(h2:∀i∈Δ',i∈Δ1:=by decide):SOk K C E mr Γl Δl Γ Δ Γ' Δ' t f:=fun H0 Hb H σ ρ A D I p =>
 h H0 Hb H σ ρ A D I (p.weak h1 h2)
theorem Xuk:SOk K C E mr Γl Δl Γ Δ Γ Δ Ztp Dl.sNx:=fun _ _ H σ _ A _ I p=>p σ H A I
theorem Zxs:SOk K C E mr Γl Δl Γ Δ Γ' Δ' Zsd Dl.Zjh:=fun _ _ _ _ _ _ _ _ p=>p.elim
theorem Xnw{t u:TS}{f g:FS}(h1:SOk K C E mr Γl Δl Γ Δ Γ1 Δ1 t f)(h2:SOk K C E mr Γl Δl Γ1 Δ1 Γ' Δ' u g):SOk K C E mr Γl Δl Γ Δ Γ' Δ' (Xrj t u) (Dl.Xu f g):=fun H0 Hb H σ ρ A D I p =>
  h1 H0 Hb H σ ρ A _ I (Xd.imp (Xd.bind p) (fun fl q=>by
    cases fl with
    |nx ρ'=>exact fun σ' H' A' I'=>h2 H0 Hb H' σ' ρ' A' D I' q
    |ret d=>exact q
    |brk ρ'=>exact q
    | cnt ρ'=>exact q) fun _ _ q=>q)
theorem Xf.from0(I:Zo K C H0 Hb H Γ Δ σ ρ A)(g:Xf H H'):Xf H0 H':=I.s0.trans (I.same.trans g)
theorem Zo.top_out(I:Zo K C H0 Hb H Γ Δ σ ρ A)(hj:j∈Γ)(hS:(j,ar)∉S){l:List Addr}(e:A j=a::l):¬InS A S a:=fun h=>by
 obtain⟨q0,q1,q2⟩:=I.top j hj a l e;obtain⟨p,hp,q⟩:=h;split at q;by_cases ep:p.1=j;rw[ep,e]at q;exact q1 q;exact q2 p.1 ep (IC q);rename_i hf;by_cases ep:p.1=j;refine hS ?_;have:p=(j,ar):=by obtain⟨p1,p2⟩:=p;simp at ep hf;rw[ep,hf]
 rw[<- this];exact hp;exact q2 p.1 ep q
theorem Zo.deep_out(I:Zo K C H0 Hb H Γ Δ σ ρ A)(hj:j∈Δ)(hS:∀p∈S,p.1≠j)(e:a∈A j):¬InS A S a:=fun h=>by obtain⟨p,hp,q⟩:=h.mem;exact(I.deep j hj).2.1 p.1 (hS p hp) a e q
theorem Zsr(he:EOk K C E Γ Δ 2 [] te fe)(h1:∀j∈Γ',j=i\/j∈Γ:=by decide)(h2:∀j∈Δ',j=i\/j∈Δ:=by decide):SOk K C E mr Γl Δl Γ Δ Γ' Δ' (Zin te (Zam i)) (Dl.Yq i fe):=fun H0 Hb H σ ρ A D I p =>
  he H0 Hb H σ ρ A _ I (Xd.imp (Xd.bind p) (fun d q v H1 g1 r=>by
    obtain⟨B,r1,r2,r3,r4⟩:=r;have hn:∀a∈B,H a=none:=fun a ha=>(r2 a ha).elim id fun z=>z.none.elim;have nd:=r4 rfl;obtain⟨A',I',_⟩:=(I.mono g1).put (Γ':=Γ') (Δ':=Δ') (i:=i) r1 (fun j hj e=>⟨(h1 j hj).elim (fun z=>af z e) id,fun a l e' ha=>I.ne (j:=j) (by rw[e'];exact .head _) (hn a ha)⟩)
      (fun _=>⟨fun a ha=>I.s0.free (I.same.free (hn a ha)),fun a l e=>by subst e;exact⟨I.same.free (hn a (.head _)),(AB.mp nd).1,fun j _ h=>I.ne h (hn a (.head _))⟩⟩)
      (fun j hj e=>⟨(h2 j hj).elim (fun z=>af z e) id,fun a ha hB=>I.ne ha (hn a hB)⟩)
      (fun _=>⟨nd,fun j _ a ha h=>I.ne h (hn a ha),fun a ha=>I.same.free (hn a ha)⟩)
    exact q _ H1 A' I') fun c x q H' g'=>q H' (Xf.from0 I g'))
theorem Xht(he:EOk K C E Γ Δ 1 S te fe)(h0:∀p∈S,p.1∈Γ:=by decide)(h1:∀j∈Γ',j=i\/(j∈Γ/\(j,ar)∉S):=by decide)(h2:∀j∈Δ',j≠i/\j∈Δ/\∀p∈S,p.1≠j:=by decide) :
    SOk K C E mr Γl Δl Γ Δ Γ' Δ' (Zin te (Zam i)) (Dl.Yq i fe):=fun H0 Hb H σ ρ A D I p =>
  he H0 Hb H σ ρ A _ I (Xd.imp (Xd.bind p) (fun d q v H1 g1 r=>by
    obtain ⟨B,r1,r2,r3,r4⟩:=r;obtain ⟨A',I',_⟩:=(I.mono g1).put (Γ':=Γ') (Δ':=Δ') (i:=i) r1 (fun j hj e=>by
        obtain ⟨q1,q2⟩:=(h1 j hj).elim (fun z=>af z e) id;exact ⟨q1,fun a l e' ha=>(r2 a ha).elim (fun z=>I.ne (j:=j) (by rw [e'];exact .head _) z) (I.top_out q1 q2 e')⟩)
      (fun _=>⟨fun a ha=>(r2 a ha).elim (fun z=>I.s0.free (I.same.free z)) fun z=>by
          obtain ⟨p,hp,z⟩:=z.mem;exact I.loc p.1 (h0 p hp) a z,fun a l e=>⟨I.same.free (r3 rfl a l e).1,(r3 rfl a l e).2,fun j _ h=>I.ne h (r3 rfl a l e).1⟩⟩)
      (fun j hj e=>⟨(h2 j hj).2.1,fun a ha hB=>(r2 a hB).elim (fun z=>I.ne ha z) (I.deep_out (h2 j hj).2.1 (h2 j hj).2.2 ha)⟩)
      (fun hj=>af rfl (h2 i hj).1)
    exact q _ H1 A' I') fun c x q H' g'=>q H' (Xf.from0 I g'))
theorem Xeu(he:EOk K C E Γ Δ 2 S te fe)(h0:∀p∈S,p.1∈Δ:=by decide):SOk K C E 2 Γl Δl Γ Δ Γ' Δ' (Xrl te) (Dl.Zcb fe):=fun H0 Hb H σ ρ A D I p =>
  he H0 Hb H σ ρ A _ I (Xd.imp (Xd.bind p) (fun d q v H1 g1 r=>by
    obtain ⟨B,r1,r2,r3,r4⟩:=r;refine q v H1 (Xf.from0 I g1) ⟨B,r1,fun a ha=>.inl ((r2 a ha).elim (fun z=>I.s0.free (I.same.free z)) fun z=>?_),(fun z=>nomatch z),r4⟩;obtain ⟨p,hp,z⟩:=z.mem;exact I.s0.free ((I.deep p.1 (h0 p hp)).2.2 a z)) fun c x q H' g'=>q H' (Xf.from0 I g'))
theorem Xwm{t u:TS}{f g:FS}(hc:TOk K C E Γ Δ tc fc)(h1:SOk K C E mr Γl Δl Γ Δ Γ' Δ' t f)(h2:SOk K C E mr Γl Δl Γ Δ Γ' Δ' u g):SOk K C E mr Γl Δl Γ Δ Γ' Δ' (Xrg tc t u) (Dl.sIf fc f g):=fun H0 Hb H σ ρ A D I p =>
  hc H0 Hb H σ ρ A _ I (Xd.imp (Xd.bind p) (fun b q H1 g1=>by
    cases b with
    |true=>exact h1 H0 Hb H1 σ ρ A D (I.mono g1) q
    | false=>exact h2 H0 Hb H1 σ ρ A D (I.mono g1) q) fun c x q H' g'=>q H' (Xf.from0 I g'))
theorem Zke(I:Zo K C H0 Hb H Γ Δ σ ρ A)(e:ρ[i]?=ak (ak (.lst ds))):∃a xs l,σ[i]?=ak (ak (.ref a))/\H a=ak (.lst xs)/\RpA K C H ds xs l/\A i=a::l/\i<ρ.length:=by obtain⟨v,q1,a,xs,l,rfl,q3,q4,q5⟩:=I.rep i _ e;exact⟨a,xs,l,q1,q3,q4,q5,(Am.mp e).1⟩
theorem Xcz(hi:i∈Γ:=by decide)(he:EOk K C E Γ Δ 2 [] te fe):SOk K C E mr Γl Δl Γ Δ Γ Δ (Ziq (tBM K "list" Zdl (Zil i) (Zbk te Zoq))) (Dl.Zxf i fe):=fun H0 Hb H σ ρ A D I p=>by
  unfold Dl.Zxf at p;split at p
  · rename_i ds e;obtain⟨a,xs,l,s1,h1,r1,hA,hl⟩:=Zke I e;refine⟨.ref a,s1,.inl ⟨rfl,xs,SqL.of h1⟩,he H0 Hb H σ ρ A _ I (Xd.imp (Xd.bind p) (fun d q v H1 g1 r=>?_) fun c x q H' g'=>q H' (Xf.from0 I g'))⟩;split at q
    · rename_i hz;obtain⟨B,r2,r3,_,r4⟩:=r;have hn:∀a∈B,H a=none:=fun a ha=>(r3 a ha).elim id fun z=>z.none.elim;have h1':=g1 _ _ h1;show Zdl (.ref a) [v] H1 fun _ H3=>D.nx σ H3;refine Xvx h1' (by rw[r1.len];exact Zes hz) ?_;obtain⟨tb,ta,tt⟩:=I.top i hi a l hA;have I1:=I.mono g1;have haB:a∉B:=fun z=>by have:=hn a z;rw[h1]at this;cases this
      have w1:∀b∈l++B,H0 b=none:=fun b hb=>by rcases Al.mp hb with z|z;exact I.loc i hi b (by rw[hA];exact .tail _ z);exact I.s0.free (I.same.free (hn b z))
      have w2:∀j∈Γ,j≠i->j∈Γ/\∀b l',A j=b::l'->b∉l++B:=fun j hj e=>⟨hj,fun b l' e' z=>by
        rcases Al.mp z with z|z;exact(I.top j hj b l' e').2.2 i (fun w=>e w.symm) (by rw[hA];exact .tail _ z)
        · exact I.ne (j:=j) (by rw [e'];exact .head _) (hn b z)⟩
      have w3:∀j∈Δ,j≠i->j∈Δ/\∀b∈A j,b∉l++B:=fun j hj e=>⟨hj,fun b hb z=>by
        rcases Al.mp z with z|z;exact(I.deep j hj).2.1 i (fun w=>e w.symm) b hb (by rw[hA];exact .tail _ z)
        · exact I.ne hb (hn b z)⟩
      have w4:i∈Δ->(l++B).Nodup/\(∀j,j≠i->∀b∈l++B,b∉A j)/\∀b∈l++B,Hb b=none:=fun hd=>by obtain⟨d1,d2,d3⟩:=I.deep i hd;rw[hA]at d1 d2 d3;refine⟨DR.mpr ⟨(AB.mp d1).2,r4 rfl,fun x hx y hy e=>?_⟩,fun j hj b hb=>?_,fun b hb=>?_⟩;subst e;exact I.ne (j:=i) (by rw[hA];exact .tail _ hx) (hn x hy);rcases Al.mp hb with z|z;exact d2 j hj b (.tail _ z);exact fun w=>I.ne w (hn b z);rcases Al.mp hb with z|z;exact d3 b (.tail _ z);exact I.same.free (hn b z)
      obtain⟨A',I'⟩:=I1.write (Γ':=Γ) (Δ':=Δ) hi hA hl s1 ((r1.same g1).app (RpA.one r2)) w1 (fun z=>(Al.mp z).elim ta haB) w2 w3 w4;exact q _ _ A' I'
    exact q.elim
  exact p.elim
def BOk(K:AN)(C:String->Addr)(Γ Δ:List Nat)(g:TG)(b:FB):Prop:=∀(H0 Hb H:Hp) (σ:St) (ρ:Xr) (A:Nat->List Addr) (d:D) (v:V) (B:List Addr) (Rr:St->Hp->Prop),Zo K C H0 Hb H Γ Δ σ ρ A->Rp K C H d v B->(∀a∈B,Hb a≠ao)->
 Xd (b d ρ) (fun ρ'=>∀σ' A',Zo K C H0 Hb H Γ Δ σ' ρ' A'->Rr σ' H) (fun _ _=>False)->g v σ H Rr
def Xtd(K:AN)(C:String->Addr)(Γ Δ:List Nat)(g:TGs)(b:List D->Xr->R Xr):Prop:=∀(H0 Hb H:Hp) (σ:St) (ρ:Xr) (A:Nat->List Addr) (d:List D) (v:List V) (B:List Addr) (Rr:St->Hp->Prop),Zo K C H0 Hb H Γ Δ σ ρ A->RpA K C H d v B->(∀a∈B,Hb a≠ao)->
 Xd (b d ρ) (fun ρ'=>∀σ' A',Zo K C H0 Hb H Γ Δ σ' ρ' A'->Rr σ' H) (fun _ _=>False)->g v σ H Rr
theorem Xgs(h1:i∉Γ:=by decide)(h2:i∉Δ:=by decide):BOk K C Γ Δ (Zam i) (Dl.Zv i):=fun H0 Hb H σ ρ A d v B Rr I r hB p=>by obtain⟨A',I',_⟩:=I.put (Γ':=Γ) (Δ':=Δ) (i:=i) r (fun j hj e=>⟨hj,fun a l e' ha=>hB a ha (I.top j hj a l e').1⟩) (fun hj=>af hj h1) (fun j hj e=>⟨hj,fun a ha hb=>hB a hb ((I.deep j hj).2.2 a ha)⟩) (fun hj=>af hj h2);exact p _ A' I'
theorem Xqh:Xtd K C Γ Δ Xcq Dl.Zef:=fun H0 Hb H σ ρ A d v B Rr I r hB p=>by
 cases d with
 |nil=>exact⟨r.1,p _ A I⟩
 |cons _ _=>exact p.elim
theorem Xfx{b:FB}{bs:List D->Xr->R Xr}(h1:BOk K C Γ Δ g b)(h2:Xtd K C Γ Δ gs bs):Xtd K C Γ Δ (Zio g gs) (Dl.Xx b bs):=fun H0 Hb H σ ρ A d v B Rr I r hB p=>by
 cases d with
 |nil=>exact p.elim
 |cons d ds =>obtain⟨x,l,B1,B2,e1,e2,e3,e4⟩:=r;subst e1 e4;refine⟨x,l,rfl,h1 H0 Hb H σ ρ A d x B1 _ I e2 (fun a ha=>hB a (Aq _ ha)) (Xd.imp (Xd.bind p) (fun ρ1 q σ1 A1 I1=>?_) fun _ _ z=>z)⟩;exact h2 H0 Hb H σ1 ρ1 A1 ds l B2 Rr I1 e3 (fun a ha=>hB a (Ah _ ha)) q
theorem Xpc{bs:List D->Xr->R Xr}(hn:∀ds ρ ρ',bs ds ρ=.ok ρ'->ds.length=n)(h:Xtd K C Γ Δ gs bs):BOk K C Γ Δ (Zfg K n gs) (Dl.Zfc bs):=fun H0 Hb H σ ρ A d v B Rr I r hB p=>by
 cases d with
 |tup ds =>
  obtain⟨a,xs,rfl,e2,e3⟩:=r;have hl:xs.length=n:=by
   rw[e3.len];have p':Xd (bs ds ρ) (fun ρ'=>∀σ' A',Zo K C H0 Hb H Γ Δ σ' ρ' A'->Rr σ' H) (fun _ _=>False):=p;cases e:bs ds ρ with
   |ok ρ'=>exact hn ds ρ ρ' e
   |err _ _=>rw[e]at p';exact p'.elim
   |bad=>rw[e]at p';exact p'.elim
  exact⟨a,xs,rfl,SqT.of e2,hl,h H0 Hb H σ ρ A ds xs B Rr I e3 hB p⟩
 |_=>exact p.elim
theorem Zsm(ds:List D)(ρ ρ':Xr)(h:Dl.Zef ds ρ=.ok ρ'):ds.length=0:=by
 cases ds with
 |nil=>rfl
 |cons _ _=>cases h
theorem Zka{b:FB}{bs:List D->Xr->R Xr}(hb:∀ds ρ ρ',bs ds ρ=.ok ρ'->ds.length=n)(ds:List D)(ρ ρ':Xr)(h:Dl.Xx b bs ds ρ=.ok ρ'):ds.length=n+1:=by
 cases ds with
 |nil=>cases h
 |cons d ds =>
  have h:((b d ρ).bind fun ρ'=>bs ds ρ')=.ok ρ':=h;cases e:b d ρ with
  |ok ρ1 =>rw[e]at h;rw[BK,hb ds ρ1 ρ' h]
  |err _ _=>rw[e]at h;cases h
  |bad=>rw[e]at h;cases h
def ownAt(A:Nat->List Addr)(Γ Δ:List Nat):List Addr:=Γ.flatMap (fun i=>(A i).take 1)++Δ.flatMap A
theorem Zce(h:a∈ownAt A Γ Δ):(∃i∈Γ,∃l,A i=a::l)\/∃i∈Δ,a∈A i:=by
 rcases Al.mp h with h|h;obtain⟨i,hi,h⟩:=DY.mp h;left;refine⟨i,hi,?_⟩;cases e:A i with
 |nil=>rw[e]at h;cases h
 |cons b l =>rw[e]at h;simp only[List.take_succ_cons,List.take_zero,Ap]at h;rw[h];exact⟨l,rfl⟩
 obtain⟨i,hi,h⟩:=DY.mp h;exact .inr ⟨i,hi,h⟩
theorem Zyl(hi:i∈Γ){l:List Addr}(e:A i=a::l):a∈ownAt A Γ Δ:=Aq _ (DY.mpr ⟨i,hi,by rw[e];simp⟩)
theorem Zrs(hi:i∈Δ)(h:a∈A i):a∈ownAt A Γ Δ:=Ah _ (DY.mpr ⟨i,hi,h⟩)
theorem Ziw(b:FB)(s:FS)(xs:List D){x:D}(h:xs[i]?=ak x)(ρ:Xr):Dl.Zkb b s (xs.drop i) ρ=(b x ρ).calm.bind fun ρ1=>(s ρ1).bind fun fl=>match fl with
  | .nx ρ2=>Dl.Zkb b s (xs.drop (i+1)) ρ2
  | .cnt ρ2=>Dl.Zkb b s (xs.drop (i+1)) ρ2
  | .brk ρ2=>.ok (.nx ρ2)
  | .ret d=>.ok (.ret d):=by
 obtain⟨hi,rfl⟩:=Am.mp h;rw[BD hi];rfl
variable{Γk Δk:List Nat}
theorem Xpw{tb:TS}{fb:FB}{fs:FS}(hi:IOk K C E Γ Δ S wi fi)(hb:BOk K C Γl Δl g fb)(hs:SOk K C E mr Γl Δl Γl Δl Γl Δl tb fs)
    (h1:∀i∈Γl,i∈Γ:=by decide) (h2:∀i∈Δl,i∈Δ:=by decide) (h3:∀p∈S,p.1∉Γl/\p.1∉Δl:=by decide):SOk K C E mr Γk Δk Γ Δ Γl Δl (Xrv wi g tb) (Dl.Zkz fi fb fs):=fun H0 Hb H σ ρ A D I p=>by
  refine hi H0 Hb H σ ρ A _ I (Xd.imp (Xd.bind p) (fun ds q J H1 W g1 hW hlen hJ=>?_) fun c x q H' g'=>q H' (Xf.from0 I g'));have I1:=(I.mono g1).weak h1 h2;have hlst:∀a∈ownAt A Γl Δl,∃o,H1 a=ak o/\IsM o:=fun a ha=>by rcases Zce ha with⟨i,_,l,e⟩|⟨i,_,e⟩;exact I1.is (j:=i) (by rw[e];exact .head _);exact I1.is e
  have hbn:∀a∈ownAt A Γl Δl,Hb a=none:=fun a ha=>by rcases Zce ha with⟨i,hi,l,e⟩|⟨i,hi,e⟩;exact(I1.top i hi a l e).1;exact(I1.deep i hi).2.2 a e
  have hout:∀a∈W,a∉ownAt A Γl Δl:=fun a ha ho=>by rcases(hW a ha).2 with z|z;rcases Zce ho with⟨i,hi,l,e⟩|⟨i,hi,e⟩;exact I.ne (j:=i) (by rw[e];exact .head _) z;exact I.ne e z;rcases Zce ho with⟨i,hi,l,e⟩|⟨i,hi,e⟩;exact I1.top_out hi (fun h=>(h3 _ h).1 hi) e z;exact I1.deep_out hi (fun p hp e'=>(h3 p hp).2 (by rw[e'];exact hi)) e z
  let Hc:Hp:=fun b=>if b∈ownAt A Γl Δl then ao else H1 b
  have c1:Xf Hc H1:=fun b o h=>by show H1 b=ak o;have h:(if b∈ownAt A Γl Δl then ao else H1 b)=ak o:=h;split at h;cases h;exact h
  have c2:Xf Hb Hc:=fun b o h=>by show(if b∈ownAt A Γl Δl then ao else H1 b)=ak o;rw[ae fun ho=>by rw[hbn b ho]at h;cases h];exact I1.same b o h
  have c3:∀a,a∉ownAt A Γl Δl->Hc a=H1 a:=fun a ha=>ae ha;have c4:∀a∈ownAt A Γl Δl,Hc a=none:=fun a ha=>aa ha;have I2:Zo K C H0 Hc H1 Γl Δl σ ρ A:=⟨I1.s0.trans c2,c1,I1.len,I1.rep,I1.nil,I1.loc,fun i hi a l e=>⟨c4 a (Zyl hi e),(I1.top i hi a l e).2⟩,fun i hi=>⟨(I1.deep i hi).1,(I1.deep i hi).2.1,fun a ha=>c4 a (Zrs hi ha)⟩⟩;have back:∀{σ':St} {ρ':Xr} {H':Hp} {A':Nat->List Addr},Zo K C H0 Hc H' Γl Δl σ' ρ' A'->Zo K C H0 Hb H' Γl Δl σ' ρ' A':=fun I' =>
    ⟨I1.s0,c2.trans I'.same,I'.len,I'.rep,I'.nil,I'.loc,fun i hi a l e=>⟨c2.free (I'.top i hi a l e).1,(I'.top i hi a l e).2⟩,fun i hi=>⟨(I'.deep i hi).1,(I'.deep i hi).2.1,fun a ha=>c2.free ((I'.deep i hi).2.2 a ha)⟩⟩
  have go:Goes K C J ds Hc:=hJ Hc ⟨fun a ha=>c3 a (hout a ha),fun b o h hn=>(c3 b fun ho=>by
    obtain ⟨xs,e,hm⟩:=hlst b ho;rw [e] at h;cases h;exact hn hm).trans h⟩
  refine Zys go (fun k σ' H'=>∃ρ' A',Zo K C H0 Hc H' Γl Δl σ' ρ' A'/\Zve K C E mr Γk Δk Γl Δl H0 Hb D (Dl.Zkb fb fs (ds.drop k) ρ')) ⟨ρ,A,I2,q⟩ (fun _ _ _ ⟨_,_,I',_⟩=>I'.same) ?_ ?_;rintro k d x Bx σ' Ha H' hd ⟨ρ',A',Ia,pq⟩ ga rx hBx;have I':=Ia.mono ga;rw[Ziw _ _ _ hd]at pq;have pq':=Zbi (Xd.bind pq);refine hb H0 Hc H' σ' ρ' A' d x Bx _ I' rx hBx (Xd.imp pq' (fun ρ1 pq σ1 A1 I1'=>?_) fun _ _ z=>z);refine hs H0 Hc H' σ1 ρ1 A1 _ I1' (Xd.imp (Xd.bind pq) (fun fl pq=>?_) fun _ _ z=>z);cases fl with
  |nx ρ2=>exact fun σ2 H2 A2 I2'=>⟨ρ2,A2,I2',pq⟩
  |cnt ρ2=>exact fun σ2 H2 A2 I2'=>⟨ρ2,A2,I2',pq⟩
  |brk ρ2=>exact fun σ2 H2 A2 I2'=>pq σ2 H2 A2 (back I2')
  |ret d=>exact pq
  rintro σ' H' ⟨ρ',A',I',pq⟩;rw[GL]at pq;exact pq σ' H' A' (back I')
theorem Znl(r:RpA K C H ds vs B):∃A,Zo K C H H H [] [] (vs.map ak++Ab (N-vs.length) ao) (ds.map ak++Ab (N-ds.length) ao) A:=by
 have hl:=r.len;have key:∀{ds:List D} {vs:List V} {B:List Addr},RpA K C H ds vs B->∃A:Nat->List Addr,(∀(i:Nat) d,ds[i]?=ak d->∃v,vs[i]?=ak v/\Rp K C H d v (A i))/\∀i,ds.length<=i->A i=[]:=by
  intro ds
  induction ds with
  |nil=>intro vs B r;exact⟨fun _=>[],fun i d h=>by simp at h,fun _ _=>rfl⟩
  |cons d ds ih =>
   intro vs B r;obtain⟨x,l,B1,B2,e1,e2,e3,e4⟩:=r;obtain⟨A,h1,h2⟩:=ih e3;subst e1;refine⟨fun i=>match i with|0=>B1|i+1=>A i,fun i d' h=>?_,fun i h=>?_⟩;cases i with
   |zero=>simp at h;subst h;exact⟨x,rfl,e2⟩
   |succ i=>simp at h;obtain⟨v,q1,q2⟩:=h1 i d' h;exact⟨v,by simpa using q1,q2⟩
   cases i with
   |zero=>simp at h
   |succ i=>exact h2 i (by simpa using h)
 obtain⟨A,h1,h2⟩:=key r;refine⟨A,Xf.refl _,Xf.refl _,by simp[hl],fun i d h=>?_,fun i h=>?_,(fun _ h=>nomatch h),(fun _ h=>nomatch h),(fun _ h=>nomatch h)⟩;by_cases hi:i<ds.length;rw[AM (by simpa using hi),AS]at h;obtain⟨d',hd,e⟩:=AH.mp h;cases e;obtain⟨v,q1,q2⟩:=h1 i d hd;refine⟨v,?_,q2⟩;rw[AM (by simp[hl,hi]),AS,q1];rfl;rw[Bs (by simpa using hi)]at h;have:=AO h;rw[Fc]at this;exact af this.2 (by intro z;cases z);by_cases hi:i<ds.length;exact af (by rw[AM (by simpa using hi),AS,Ag hi];rfl) (h ds[i]);exact h2 i (by omega)
theorem Zgn{t:TS}{f:FS}(h:SOk K C E mr [] [] [] [] Γ' Δ' t f)(r:RpA K C H ds vs B)(p:Xd (Dl.run N f ds) (fun d=>∀v H',Xf H H'->Res K C mr [] H (fun _=>[]) d v H'->Q v H') (fun c x=>∀H',Xf H H'->EC C E c x H')):t {nx:=fun _ H'=>Q .non H',rt:=Q} (vs.map ak++Ab (N-vs.length) ao) H:=by
 obtain⟨A,I⟩:=Znl (N:=N) r;refine h H H H _ _ A _ I (Xd.imp (Xd.bind p) (fun fl q=>?_) fun _ _ q=>q);cases fl with
 |nx ρ'=>exact fun σ' H' A' I'=>q _ H' I'.same (Res.flat ⟨rfl,rfl⟩)
 |ret d=>exact q
 |brk _=>exact q.elim
 |cnt _=>exact q.elim
structure JE(X:Cx)(C:String->Addr)(E:XK)(Γ Δ:List Nat)(m:Nat)(S:List (Nat×Bool))(e:Expr)(t:TE)(f:FE):Prop where
 q:QE X e t
 o:EOk X.K C E Γ Δ m S t f
structure JT(X:Cx)(C:String->Addr)(E:XK)(Γ Δ:List Nat)(e:Expr)(t:TT)(f:FT):Prop where
 q:QT X e t
 o:TOk X.K C E Γ Δ t f
structure JW(X:Cx)(C:String->Addr)(E:XK)(Γ Δ:List Nat)(e:Expr)(t:TT)(f:FT):Prop where
 q:QW X e t
 o:TOk X.K C E Γ Δ t f
structure JA(X:Cx)(C:String->Addr)(E:XK)(Γ Δ:List Nat)(m:Nat)(S:List (Nat×Bool))(e:List Expr)(n:Nat)(t:TA)(f:FA):Prop where
 q:QA X e t
 o:AOk X.K C E Γ Δ m S t f
 n:∀ρ ds,f ρ=.ok ds->ds.length=n
structure JO(X:Cx)(C:String->Addr)(E:XK)(Γ Δ:List Nat)(e:Option Expr)(t:TO)(f:FO):Prop where
 q:QO X e t
 o:OOk X.K C E Γ Δ t f
structure JI(X:Cx)(C:String->Addr)(E:XK)(Γ Δ:List Nat)(S:List (Nat×Bool))(tg e:Expr)(t:TI)(f:FI):Prop where
 q:QI X tg e t
 o:IOk X.K C E Γ Δ S t f
structure JG(X:Cx)(C:String->Addr)(Γ Δ:List Nat)(e:Expr)(t:TG)(f:FB):Prop where
 q:QG X e t
 o:BOk X.K C Γ Δ t f
structure JGs(X:Cx)(C:String->Addr)(Γ Δ:List Nat)(es:List Expr)(n:Nat)(t:TGs)(f:List D->Xr->R Xr):Prop where
 q:QGs X es t
 o:Xtd X.K C Γ Δ t f
 n:∀ds ρ ρ',f ds ρ=.ok ρ'->ds.length=n
structure JS(X:Cx)(C:String->Addr)(E:XK)(mr:Nat)(Γl Δl Γ Δ Γ' Δ':List Nat)(s:Stmt)(t:TS)(f:FS):Prop where
 q:QS X s t
 o:SOk X.K C E mr Γl Δl Γ Δ Γ' Δ' t f
structure JSs(X:Cx)(C:String->Addr)(E:XK)(mr:Nat)(Γl Δl Γ Δ Γ' Δ':List Nat)(s:List Stmt)(t:TS)(f:FS):Prop where
 q:QSs X s t
 o:SOk X.K C E mr Γl Δl Γ Δ Γ' Δ' t f
structure JIf(X:Cx)(C:String->Addr)(E:XK)(Γ Δ:List Nat)(e:List Expr)(t:TT)(f:FT):Prop where
 q:QIf X e t
 o:TOk X.K C E Γ Δ t f
variable{pos:Pos}
theorem Ze{i:Int}:JE X C E Γ Δ 2 [] (.Constant (.int i) j pos) (tC (.int i)) (Dl.fC (.int i)):=⟨Xyi,Xev fun _=>rpI⟩
theorem Zmk{i:Bool}:JE X C E Γ Δ 2 [] (.Constant (.bool i) j pos) (tC (.bl i)) (Dl.fC (.bl i)):=⟨qe_bl,Xev fun _=>rpB⟩
theorem Jx(h:Di x=true:=by decide+kernel):JE X C E Γ Δ 2 [] (.Constant (.str x) j pos) (tC (.str x)) (Dl.fC (.str x)):=⟨Xti,Xev fun _=>⟨rfl,h,rfl⟩⟩
theorem Zl(i:Nat)(hN:X.N[i]?=ak x:=by rfl)(hv:autoParam (Vis X.env.scope x) aT3._auto_1)(hd:(x==("__debug__":Str))=false:=by decide)
  (hcd:(x==("__classdict__":Str))=false:=by decide):JE X C E Γ Δ 0 [(i,ar)] (.Name x pos) (Zil i) (Dl.fV i):=⟨qv i hN hv hd hcd,eok_v⟩
theorem Zkg(i:Nat)(hi:i∈Δ:=by decide)(hN:X.N[i]?=ak x:=by rfl)(hv:autoParam (Vis X.env.scope x) aT3._auto_1)(hd:(x==("__debug__":Str))=false:=by decide)
  (hcd:(x==("__classdict__":Str))=false:=by decide):JE X C E Γ Δ 2 [(i,ar)] (.Name x pos) (Zil i) (Dl.fV i):=⟨qv i hN hv hd hcd,Xsh hi⟩
theorem Yj(h:JE X C E Γ Δ m S e te fe):JE X C E Γ Δ 2 [] e te (Dl.f1 Dl.Jd fe):=⟨h.q,Xhj h.o⟩
variable{a:Expr}{g:D->D->Option D}
theorem Zs{op:Ij}{r:R2}(ho:OpR X (Co op) r)(hg:GOk X.K C r g)(ha:JE X C E Γ Δ m1 S1 a ta fa)(hb:JE X C E Γ Δ m2 S2 b tb fb):JE X C E Γ Δ 2 [] (.BinOp a op b pos) (tOp r ta tb) (Dl.f2 g fa fb):=⟨Xsw ho ha.q hb.q,Xbd hg ha.o hb.o⟩
theorem Zxd(ha:JE X C E Γ Δ m1 S1 a ta fa):JE X C E Γ Δ 2 [] (.UnaryOp .USub a pos) (tUn (rU fun i=>.int (-i)) ta) (Dl.f1 Dl.Xru fa):=⟨qe_un Xtx ha.q,Xyf (fun H x d vx Bx Q r e q=>by
  unfold Dl.Xru at e;split at e;cases e;obtain⟨rfl,_⟩:=r;exact rd_U (Out.flat q rpI)
  · cases e) ha.o⟩
variable{op:MH}
theorem Xkb{r:R2}(ho:OpR X (B8 op) r)(hg:GOk X.K C r g)(ha:JE X C E Γ Δ m1 S1 a ta fa)(hb:JE X C E Γ Δ m2 S2 b tb fb)(hm:Dg op b=ar):JE X C E Γ Δ 2 [] (.Compare a [op] [b] pos) (tOp r ta tb) (Dl.f2 g fa fb):=⟨Xkz ho ha.q hb.q hm,Xbd hg ha.o hb.o⟩
theorem Xy{r:R2}(ho:OpR X (B8 op) r)(hg:GOk X.K C r g)(ha:JE X C E Γ Δ m1 S1 a ta fa)(hb:JE X C E Γ Δ m2 S2 b tb fb)(hm:Dg op b=ar):JT X C E Γ Δ (.Compare a [op] [b] pos) (Xdu (tOp r ta tb)) (Dl.cE (Dl.f2 g fa fb)):=⟨Xlf ho ha.q hb.q hm,Xdd (Xbd hg ha.o hb.o)⟩
variable{tA:TT}
theorem ce_if{fA:FT}(hc:JT X C E Γ Δ c tA fA)(ha:JE X C E Γ Δ m S a ta fa)(hb:JE X C E Γ Δ m S b tb fb):JE X C E Γ Δ m S (.IfExp c a b pos) (tIf tA ta tb) (Dl.fIf fA fa fb):=⟨Xid hc.q ha.q hb.q,Xvs hc.o ha.o hb.o⟩
theorem Xje(h:JE X C E Γ Δ m S e te fe)(he:∀whole,isTrue e X.env whole=(do let v <- whole;E4 e.pos;B6 [v] (HS v)):=by intro _;rfl):JT X C E Γ Δ e (tB te) (Dl.cE fe):=⟨Xud h.q he,tok_B h.o⟩
theorem Xpt{fA:FT}(ha:JT X C E Γ Δ a tA fA):JW X C E Γ Δ (.BoolOp .And [a] pos) tA fA:=⟨Xpx ha.q,ha.o⟩
theorem Zrc{fA:FT}(ha:JT X C E Γ Δ a tA fA):JW X C E Γ Δ (.BoolOp .Or [a] pos) tA fA:=⟨Xvr ha.q,ha.o⟩
variable{fB:FT}{rest:List Expr}{tB':TT}
theorem Xvk{fA:FT}(ha:JT X C E Γ Δ a tA fA)(hb:JW X C E Γ Δ (.BoolOp .And (b::rest) pos) tB' fB):JW X C E Γ Δ (.BoolOp .And (a::b::rest) pos) (tAnd tA tB') (Dl.Xpn fA fB):=⟨Xtg ha.q hb.q,Xmk ha.o hb.o⟩
theorem Zwt{fA:FT}(ha:JT X C E Γ Δ a tA fA)(hb:JW X C E Γ Δ (.BoolOp .Or (b::rest) pos) tB' fB):JW X C E Γ Δ (.BoolOp .Or (a::b::rest) pos) (tOr tA tB') (Dl.cOr fA fB):=⟨qw_or ha.q hb.q,Xte ha.o hb.o⟩
theorem Xvz{fA:FT}(h:JW X C E Γ Δ a tA fA):JT X C E Γ Δ a tA fA:=⟨qt_w h.q,h.o⟩
theorem Zj:JA X C E Γ Δ 2 [] [] 0 Zoq Dl.Zt:=⟨Zre,Xle,Xmp⟩
variable{t:TA}
theorem Zb(ha:JE X C E Γ Δ m1 S1 e te fe)(hr:JA X C E Γ Δ m2 S2 es n t f)(hs:Ad (e::es) X.env=(ar,A6 e X.env)::Ad es X.env):JA X C E Γ Δ 0 (S1++S2) (e::es) (n+1) (Zbk te t) (Dl.Zc fe f):=⟨Zdv ha.q hr.q hs,Xfm ha.o hr.o,Zjp hr.n⟩
theorem Zgl(S:List (Nat×Bool))(ha:JE X C E Γ Δ 2 S1 e te fe)(hr:JA X C E Γ Δ 2 S2 es n t f)(hs:Ad (e::es) X.env=(ar,A6 e X.env)::Ad es X.env)(h1:∀p∈S1,p.1∈Δ:=by decide)(h2:∀p∈S1,∀q∈S2,p.1≠q.1:=by decide)(hS:S1++S2=S:=by rfl):JA X C E Γ Δ 2 S (e::es) (n+1) (Zbk te t) (Dl.Zc fe f):=by subst hS;exact⟨Zdv ha.q hr.q hs,Zmj ha.o hr.o h1 h2,Zjp hr.n⟩
theorem Zi(ha:JE X C E Γ Δ 2 [] e te fe)(hr:JA X C E Γ Δ 2 [] es n t f)(hs:Ad (e::es) X.env=(ar,A6 e X.env)::Ad es X.env):JA X C E Γ Δ 2 [] (e::es) (n+1) (Zbk te t) (Dl.Zc fe f):=⟨Zdv ha.q hr.q hs,Zmj (S1:=[]) (S2:=[]) ha.o hr.o (fun _ h=>nomatch h) (fun _ h=>nomatch h),Zjp hr.n⟩
variable{x1:Nat}
theorem Zma(h:JA X C E Γ Δ 2 S es n t f):JE X C E Γ Δ 2 S (.Tuple es x1 pos) (Xyc t) (Dl.fA Dl.Zfg f):=⟨Xis h.q,Xbj (.inr rfl) h.o⟩
theorem Zyw(h:JA X C E Γ Δ 0 S es n t f):JE X C E Γ Δ 0 S (.Tuple es x1 pos) (Xyc t) (Dl.fA Dl.Zfg f):=⟨Xis h.q,Xbj (.inl rfl) h.o⟩
theorem Yp(h:JA X C E Γ Δ 2 S es n t f):JE X C E Γ Δ 2 S (.List es pos) (Xrr t) (Dl.fA Dl.Jp f):=⟨Xjn h.q,Xnu h.o⟩
theorem Zie(h:JA X C E Γ Δ m S es n t f):JE X C E Γ Δ 1 S (.List es pos) (Xrr t) (Dl.fA Dl.Jp f):=⟨Xjn h.q,Xep h.o⟩
theorem Xg(K:AN)(ha:JE X C E Γ Δ m1 S1 a ta fa)(hb:JE X C E Γ Δ m2 S2 b tb fb)(hs:Zcg b)(hK:X.K=K:=by rfl):JE X C E Γ Δ 0 S1 (.Subscript a b pos) (tOp (rIx K) ta tb) (Dl.f2 Dl.gIx fa fb):=by subst hK;exact⟨qe_ix Xue ha.q hb.q hs,Xsq ha.o hb.o⟩
theorem Zfd:JO X C E Γ Δ ao Zll Dl.Zdd:=⟨Xpz,Xgy⟩
theorem Zck(h:JE X C E Γ Δ m S e te fe):JO X C E Γ Δ (ak e) (Xdg te) (Dl.Zbu fe):=⟨Xmf h.q,Xfj h.o⟩
theorem Xpu(K:AN)(he:JE X C E Γ Δ m S e te fe)(hl:JO X C E Γ Δ lo tl fl)(hu:JO X C E Γ Δ hi th fh)(hK:X.K=K:=by rfl):JE X C E Γ Δ 2 [] (.Subscript e (.Slice lo hi ao p2) pos) (tSl (Xrh K) te tl th) (Dl.fSl Dl.gSl fe fl fh):=by subst hK;exact⟨Zkm Zvu he.q hl.q hu.q,Xto he.o hl.o hu.o⟩
variable{CX:CXT}{ps:List Str}
theorem Xk{k:Nat}(Df:Def X.prog X.w X.K X.mg X.base CX k x ps (spD K C n mr F))(hr:Zcd k X.A)(hg:Gl X x)(hx:Zdk CX X E)
  (ha:JA X C E Γ Δ m S (e::es) n t f) (hdb:(x==("__debug__":Str))=false:=by decide) (he:Ad (e::es) X.env=(ar,A6 e X.env)::Ad es X.env:=by rfl) (hpl:(BL pos (Ad es X.env)).any (·.1)=false:=by rfl) (hK:X.K=K:=by rfl) :
  JE X C E Γ Δ mr [] (.Call (.Name x p) (e::es) [] pos) (Zkj (spD K C n mr F) [] E t) (Dl.Ya F f):=by
 subst hK;exact⟨Zsz Df hr hg hx ha.q hdb he hpl,Zrv ha.o ha.n⟩
variable{g:List D->Option D}
theorem Xo{id:String}{r:List V->Hp->VK->Prop}(hc:Zae X (.builtin id) r)(hgk:GAk X.K C r g)(hg:Gl X x)(hm:X.mg x=ao)(hv:C3 x=ak (.builtin id))(ha:JA X C E Γ Δ m S (e::es) n t f)(hn:x≠"__name__":=by decide)(hdb:(x==("__debug__":Str))=false:=by decide)
  (he:Ad (e::es) X.env=(ar,A6 e X.env)::Ad es X.env:=by rfl) (hpl:(BL pos (Ad es X.env)).any (·.1)=false:=by rfl):JE X C E Γ Δ 2 [] (.Call (.Name x p) (e::es) [] pos) (tCB r t) (Dl.fA g f):=⟨Zsv hc hg hm hv ha.q hn hdb he hpl,Xjb hgk ha.o⟩
variable{T:String}
theorem Xj{r:List V->Hp->VK->Prop}(hc:Zae X (.type T) r)(hgk:GAk X.K C r g)(hg:Gl X x)(hm:X.mg x=ao)(hv:C3 x=ak (.type T))(ha:JA X C E Γ Δ m S (e::es) n t f)(hn:x≠"__name__":=by decide)(hdb:(x==("__debug__":Str))=false:=by decide)
  (he:Ad (e::es) X.env=(ar,A6 e X.env)::Ad es X.env:=by rfl) (hpl:(BL pos (Ad es X.env)).any (·.1)=false:=by rfl):JE X C E Γ Δ 2 [] (.Call (.Name x p) (e::es) [] pos) (tCB r t) (Dl.fA g f):=⟨Zww hc hg hm hv ha.q hn hdb he hpl,Xjb hgk ha.o⟩
variable{apos cpos:Pos}
theorem Xls(K:AN)(hg:Gl X "list")(hm:X.mg "list"=ao)(hg':Gl X "reversed")(hm':X.mg "reversed"=ao)(he:JE X C E Γ Δ m S e te fe)(hs2:Ad [e] X.env=(ar,A6 e X.env)::Ad [] X.env)(hc:X.calm=true:=by rfl)(hK:X.K=K:=by rfl) :
  JE X C E Γ Δ 2 [] (.Call (.Name "list" p) [.Call (.Name "reversed" p2) [e] [] apos] [] cpos) (Xhf K te) (Dl.f1 Dl.Zzf fe):=by
 subst hK;exact⟨Xlh hg hm hg' hm' he.q hs2 hc,Xfr he.o⟩
variable{tg:Expr}
theorem Zar(h:JE X C E Γ Δ m S e te fe):JI X C E Γ Δ S tg e (Xap X.K te) (Dl.Zai fe):=⟨Xlu h.q,Xfa h.o⟩
theorem Zks(hg:Gl X "range")(hm:X.mg "range"=ao)(ha:JA X C E Γ Δ m S [a] n t f)(hs:Ad [a] X.env=[(ar,A6 a X.env)]:=by rfl):JI X C E Γ Δ [] tg (.Call (.Name "range" p) [a] [] pos) (Xex t) (Dl.Zmq f):=⟨Xce hg hm ha.q hs,Xeq ha.o⟩
theorem Xqv(hg:Gl X "range")(hm:X.mg "range"=ao)(ha:JA X C E Γ Δ m S [a,b] n t f)(hs:Ad [a,b] X.env=[(ar,A6 a X.env),(ar,A6 b X.env)]:=by rfl)(hs2:Ad [b] X.env=[(ar,A6 b X.env)]:=by rfl):JI X C E Γ Δ [] tg (.Call (.Name "range" p) [a,b] [] pos) (Xgn t) (Dl.Zyk f):=⟨Zvw hg hm ha.q hs hs2,Xdl ha.o⟩
theorem Jo(h1:i∉Γ:=by decide)(h2:i∉Δ:=by decide)(hN:X.N.Nodup)(hi:X.N[i]?=ak x)(hx:Loc X.env.scope x)(hf:autoParam (X.fn x=aq\/X.env.scope.names.lookup x=ak .local) aT0._auto_1):JG X C Γ Δ (.Name x pos) (Zam i) (Dl.Zv i):=⟨Zlk hN hi hx hf,Xgs h1 h2⟩
theorem Zob:JGs X C Γ Δ [] 0 Xcq Dl.Zef:=⟨Zjq,Xqh,Zsm⟩
variable{fu:List D->Xr->R Xr}{tt:TG}{u:TGs}
theorem Zdc{fb:FB}(h1:JG X C Γ Δ e tt fb)(h2:JGs X C Γ Δ es n u fu)(hs:(AW (e::es) X.env).map (·.2)=CL e X.env::(AW es X.env).map (·.2):=by rfl):JGs X C Γ Δ (e::es) (n+1) (Zio tt u) (Dl.Xx fb fu):=⟨Zgk h1.q h2.q hs,Xfx h1.o h2.o,Zka h2.n⟩
theorem Xbv{k:Nat}(hc:X.calm=aq)(h:JGs X C Γ Δ es n u fu)(hn:(AW es X.env).length=n:=by rfl)(hst:(AW es X.env).findIdx? (·.1)=none:=by rfl):JG X C Γ Δ (.Tuple es k pos) (Zfg X.K n u) (Dl.Zfc fu):=⟨Zrm hc h.q hn hst,Xpc h.n h.o⟩
theorem Jw:JIf X C E Γ Δ [] tYes Dl.Zcr:=⟨Xqg,Xnt⟩
structure JB(X:Cx)(C:String->Addr)(n k:Nat)(e:Expr)(t:TG)(f:FB):Prop where
 q:QG X e t
 o:NOk X.K C n k t f
structure JBs(X:Cx)(C:String->Addr)(n k:Nat)(es:List Expr)(l:Nat)(t:TGs)(f:List D->Xr->R Xr):Prop where
 q:QGs X es t
 o:Xwu X.K C n k t f
 n:∀ds ρ ρ',f ds ρ=.ok ρ'->ds.length=l
theorem Yv{k:Nat}(i:Nat)(hN:X.N.Nodup:=by decide+kernel)(hi:X.N[i]?=ak x:=by rfl)(hx:Loc X.env.scope x:=by exact .inl rfl)(hf:X.fn x=aq\/X.env.scope.names.lookup x=ak .local:=by exact .inr rfl)(h1:n<=i:=by decide)(h2:i<n+k:=by decide):JB X C n k (.Name x pos) (Zam i) (Dl.Zv i):=⟨Zlk hN hi hx hf,Xea i h1 h2⟩
theorem Zjn{k:Nat}:JBs X C n k [] 0 Xcq Dl.Zef:=⟨Zjq,Xqo,Zsm⟩
theorem Zbb{k l:Nat}{fb:FB}(h1:JB X C n k e tt fb)(h2:JBs X C n k es l u fu)(hs:(AW (e::es) X.env).map (·.2)=CL e X.env::(AW es X.env).map (·.2):=by rfl):JBs X C n k (e::es) (l+1) (Zio tt u) (Dl.Xx fb fu):=⟨Zgk h1.q h2.q hs,Xcv h1.o h2.o,Zka h2.n⟩
theorem Zqk(K:AN){k l kk:Nat}(h:JBs X C n k es l u fu)(hc:X.calm=true:=by rfl)(hn:(AW es X.env).length=l:=by rfl)(hst:(AW es X.env).findIdx? (·.1)=none:=by rfl)(hK:X.K=K:=by rfl):JB X C n k (.Tuple es kk pos) (Zfg K l u) (Dl.Zfc fu):=by subst hK;exact⟨Zrm hc h.q hn hst,Xmu h.n h.o⟩
variable{elt iter:Expr}{fg:FB}{gg:TG}{ifs:List Expr}{sc:Scope}
theorem Zao(esc:Scope)(N N2 xs:List Str)(B:Xcr sc esc xs N N2)(hi:JI X C E Γ Δ S tg iter wi fi)(hg:∀cl C' s0 H0 fp,JB (X.blkN N2 xs sc cl C' s0 H0 fp) C n xs.length tg gg fg)(ht:∀cl C' s0 H0 fp,JIf (X.blkN N2 xs sc cl C' s0 H0 fp) C E0 [] [] ifs tc fc)(he:∀cl C' s0 H0 fp,JE (X.blkN N2 xs sc cl C' s0 H0 fp) C E0 [] [] 2 [] elt te fe)
  (hesc:X.env.scope=esc:=by rfl) (hN:X.N=N:=by rfl) (hc:X.calm=true:=by rfl) (hs:∀v,BA iter X.env v=pure v:=by intro _;rfl):JE X C E Γ Δ 2 [] (.ListComp elt [⟨tg,iter,ifs,0⟩] sc pos) (Zeq xs.length gg wi tc te) (Dl.Jm n xs.length fi fg fc fe):=
 ⟨Xfn esc N N2 xs B hi.q (fun cl C' s0 H0 fp=>(hg cl C' s0 H0 fp).q) (fun cl C' s0 H0 fp=>(ht cl C' s0 H0 fp).q) (fun cl C' s0 H0 fp=>(he cl C' s0 H0 fp).q) hesc hN hc hs,Zqg hi.o (hg [] 0 X.s₀ X.H₀ []).o (ht [] 0 X.s₀ X.H₀ []).o (he [] 0 X.s₀ X.H₀ []).o⟩
theorem Xz:JSs X C E mr Γl Δl Γ Δ Γ Δ [] Ztp Dl.sNx:=⟨Zxo,Xuk⟩
variable{g h:FS}{s1:Stmt}{ss:List Stmt}{u v:TS}
theorem Zg(Γ1 Δ1:List Nat)(h1:JS X C E mr Γl Δl Γ Δ Γ1 Δ1 s1 u g)(h2:JSs X C E mr Γl Δl Γ1 Δ1 Γ' Δ' ss v h):JSs X C E mr Γl Δl Γ Δ Γ' Δ' (s1::ss) (Xrj u v) (Dl.Xu g h):=⟨Zqh h1.q h2.q,Xnw h1.o h2.o⟩
theorem Zm(h1:JS X C E mr Γl Δl Γ Δ Γ' Δ' s1 u g):JSs X C E mr Γl Δl Γ Δ Γ' Δ' [s1] u g:=⟨Zpu h1.q,h1.o⟩
theorem Zbw(Γ1 Δ1:List Nat)(h:JSs X C E mr Γl Δl Γ Δ Γ1 Δ1 ss u g)(h1:∀i∈Γ',i∈Γ1:=by decide)(h2:∀i∈Δ',i∈Δ1:=by decide):JSs X C E mr Γl Δl Γ Δ Γ' Δ' ss u g:=⟨h.q,Xgz h.o h1 h2⟩
theorem Zlb:JS X C E mr Γl Δl Γ Δ Γ' Δ' s1 Zsd Dl.Zjh:=⟨Xgc,Zxs⟩
theorem Yc(he:JE X C E Γ Δ 2 S e te fe)(h0:∀p∈S,p.1∈Δ:=by decide):JS X C E 2 Γl Δl Γ Δ Γ' Δ' (.Return (ak e) pos) (Xrl te) (Dl.Zcb fe):=⟨Xit he.q,Xeu he.o h0⟩
variable{body other:List Stmt}
theorem Zab{fA:FT}(hc:JT X C E Γ Δ c tA fA)(ha:JSs X C E mr Γl Δl Γ Δ Γ' Δ' body u g)(hb:JSs X C E mr Γl Δl Γ Δ Γ' Δ' other v h):JS X C E mr Γl Δl Γ Δ Γ' Δ' (.If c body other pos) (Xrg tA u v) (Dl.sIf fA g h):=⟨Xst hc.q ha.q hb.q,Xwm hc.o ha.o hb.o⟩
variable{pos':Pos}
theorem Zx(hN:X.N.Nodup)(hi:X.N[i]?=ak x)(hx:Loc X.env.scope x)(he:JE X C E Γ Δ 2 [] e te fe)(hs:Cq e (ak (.Name x pos')) pos.line X.env=pure false:=by rfl)(hf:autoParam (X.fn x=aq\/X.env.scope.names.lookup x=ak .local) aT0._auto_1)
  (h1:∀j∈Γ',j=i\/j∈Γ:=by decide) (h2:∀j∈Δ',j=i\/j∈Δ:=by decide):JS X C E mr Γl Δl Γ Δ Γ' Δ' (.Assign [.Name x pos'] e pos) (Zin te (Zam i)) (Dl.Yq i fe):=⟨Zwy hN hi hx he.q hs hf,Zsr he.o h1 h2⟩
theorem Xpg(hN:X.N.Nodup)(hi:X.N[i]?=ak x)(hx:Loc X.env.scope x)(he:JE X C E Γ Δ 1 S e te fe)(hs:Cq e (ak (.Name x pos')) pos.line X.env=pure false:=by rfl)(hf:autoParam (X.fn x=aq\/X.env.scope.names.lookup x=ak .local) aT0._auto_1)
  (h0:∀p∈S,p.1∈Γ:=by decide) (h1:∀j∈Γ',j=i\/(j∈Γ/\(j,ar)∉S):=by decide) (h2:∀j∈Δ',j≠i/\j∈Δ/\∀p∈S,p.1≠j:=by decide):JS X C E mr Γl Δl Γ Δ Γ' Δ' (.Assign [.Name x pos'] e pos) (Zin te (Zam i)) (Dl.Yq i fe):=⟨Zwy hN hi hx he.q hs hf,Xht he.o h0 h1 h2⟩
theorem Zyt{py spos:Pos}(esc:Scope)(N N2 xs:List Str)(B:Xcr sc esc xs N N2)(hy:N[i]?=ak y)(hl:esc.names.lookup y=ak .local)(hi:JI X C E Γ Δ S tg iter wi fi)(hg:∀cl C' s0 H0 fp,JB (X.blkN N2 xs sc cl C' s0 H0 fp) C n xs.length tg gg fg)(ht:∀cl C' s0 H0 fp,JIf (X.blkN N2 xs sc cl C' s0 H0 fp) C E0 [] [] ifs tc fc)(he:∀cl C' s0 H0 fp,JE (X.blkN N2 xs sc cl C' s0 H0 fp) C E0 [] [] 2 [] elt te fe)
  (hesc:X.env.scope=esc:=by rfl) (hN:X.N=N:=by rfl) (hc:X.calm=true:=by rfl) (hsw:Cq (.ListComp elt [⟨tg,iter,ifs,0⟩] sc pos) (ak (.Name y py)) spos.line X.env=pure true:=by rfl) (hs:∀v,BA iter X.env v=pure v:=by intro _;rfl)
  (h1:∀j∈Γ',j=i\/j∈Γ:=by decide) (h2:∀j∈Δ',j=i\/j∈Δ:=by decide):JS X C E mr Γl Δl Γ Δ Γ' Δ' (.Assign [.Name y py] (.ListComp elt [⟨tg,iter,ifs,0⟩] sc pos) spos) (Zin (Zeq xs.length gg wi tc te) (Zam i)) (Dl.Yq i (Dl.Jm n xs.length fi fg fc fe)):=
 ⟨Xhs esc N N2 xs B hy hl hi.q (fun cl C' s0 H0 fp=>(hg cl C' s0 H0 fp).q) (fun cl C' s0 H0 fp=>(ht cl C' s0 H0 fp).q) (fun cl C' s0 H0 fp=>(he cl C' s0 H0 fp).q) hesc hN hc hsw hs,Zsr (Zqg hi.o (hg [] 0 X.s₀ X.H₀ []).o (ht [] 0 X.s₀ X.H₀ []).o (he [] 0 X.s₀ X.H₀ []).o) h1 h2⟩
theorem Zni(hi:i∈Γ:=by decide)(hN:X.N[i]?=ak x:=by rfl)(hv:autoParam (Vis X.env.scope x) aT3._auto_1)(hd:(x==("__debug__":Str))=false:=by decide)(hcd:(x==("__classdict__":Str))=false:=by decide)
  (he:JE X C E Γ Δ 2 [] e te fe) (hse:Ad [e] X.env=(ar,A6 e X.env)::Ad [] X.env)
  (hbase:Dh (.Name x p) "append" X.env (A6 (.Name x p) X.env)=A6 (.Name x p) X.env:=by rfl)
  (hfew:((BL cpos (Ad [e] X.env)).all (fun x=>!x.1)&&(Fq cpos (DV [] X.env)).all (fun x=>x.1.isSome)&&decide (([e]:List Expr).length+([]:List CP).length+(if ([]:List CP).isEmpty then 0 else 1)<30))=true:=by rfl)
  (hline:(apos.endLine==cpos.line)=true:=by rfl) (hplain:(BL cpos (Ad ([]:List Expr) X.env)).any (·.1)=false:=by rfl) (hsw:Cq (.Call (.Attribute (.Name x p) "append" apos) [e] [] cpos) ao pos.line X.env=pure false:=by rfl) :
  JS X C E mr Γl Δl Γ Δ Γ Δ (.Expr (.Call (.Attribute (.Name x p) "append" apos) [e] [] cpos) pos) (Ziq (tBM X.K "list" Zdl (Zil i) (Zbk te Zoq))) (Dl.Zxf i fe):=
 ⟨Zkk (Xwh PySem.F.plainAttrs_list PySem.F.slot_list_append PySem.F.type_list_append Zgw (qv i hN hv hd hcd) (Zdv he.q Zre hse) hbase hfew hline hse hplain) hsw,Xcz hi he.o⟩
theorem Zch{fb:FB}(Γl Δl:List Nat)(hp:JD (Aw X.prog X.w) X.A X.env X.xe)(hc:X.calm=aq)(hi:JI X C E Γ Δ S tg iter wi fi)(hg:JG X C Γl Δl tg tt fb)(hb:JSs X C E mr Γl Δl Γl Δl Γl Δl body u g)(hs:∀x,BA iter X.env x=pure x:=by intro _;rfl)
  (h1:∀i∈Γl,i∈Γ:=by decide) (h2:∀i∈Δl,i∈Δ:=by decide) (h3:∀p∈S,p.1∉Γl/\p.1∉Δl:=by decide):JS X C E mr Γk Δk Γ Δ Γl Δl (.For tg iter body [] pos) (Xrv wi tt u) (Dl.Zkz fi fb g):=⟨Xji hp hc hi.q hg.q hb.q hs,Xpw hi.o hg.o hb.o h1 h2 h3⟩
variable{P:AR}{fd:CH}{mg:Str->Option Value}{qual:Str}{s:Af}{st:Stmt}
theorem Fun.okC{base:Bg}{f:Addr}{N:List Str}{k:Nat}(F:Fun K x qual st f fd)(S:Xc N ps (Zh st))(hn:ps.length=n)(hbody:∀(cdv:Value) (A:Ba) (outer:List Env) (s:Af) (H:Hp) (E:XK),Zcd k (A.deeper (DT qual (Zh st) s.heap.objs.size f cdv))->∃t,JSs (Zmw CX0 P w K mg base N qual (Zh st) f cdv A outer s H E).nox C E0 mr [] [] [] [] Γ' Δ' (Jh st) t g):Zap P w K mg base CX0 (k+1) f fd ps (spD K C n mr fun ds=>(Dl.run N.length g ds).calm):=
  F.okQ S (fun vs H Q E h=>by
    obtain ⟨ds,B,h1,h2,_⟩:=h;rw [h2.len,h1,hn]) fun cdv A outer s H vs Q E hr h=>by
    obtain⟨ds,B,h1,h2,h3⟩:=h;obtain⟨t,ht⟩:=hbody cdv A outer s H E hr;exact⟨t,ht.q,Zgn (K:=K) ht.o h2 (Xd.imp (Zbi h3) (fun _ q=>q) fun _ _ z=>z.elim)⟩
variable{a:Addr}
theorem Zo.rewrite{l:List Addr}{es:List D}(I:Zo K C H0 Hb H Γ Δ σ ρ A)(g1:Xf H H1)(hi:i∈Γ)(hA:A i=a::l)(hl:i<ρ.length)(s1:σ[i]?=ak (ak (.ref a)))(r:RpA K C H1 es ys B')(hB:∀b∈B',b∈l\/H b=ao)(hD:i∈Δ->B'.Nodup):∃A',Zo K C H0 Hb (upd H1 a (.lst ys)) Γ Δ σ (ρ.set i (ak (.lst es))) A':=by
  obtain⟨tb,ta,tt⟩:=I.top i hi a l hA;have ha:a∈A i:=by rw[hA];exact .head _
  have w1:∀b∈B',H0 b=none:=fun b hb=>(hB b hb).elim (fun z=>I.loc i hi b (by rw [hA];exact .tail _ z)) fun z=>I.s0.free (I.same.free z);have w0:a∉B':=fun z=>(hB a z).elim ta fun z=>I.ne ha z;have w2:∀j∈Γ,j≠i->j∈Γ/\∀b l',A j=b::l'->b∉B':=fun j hj e=>⟨hj,fun b l' e' z=>(hB b z).elim
    (fun z=>(I.top j hj b l' e').2.2 i (fun w=>e w.symm) (by rw [hA];exact .tail _ z)) fun z=>I.ne (j:=j) (by rw [e'];exact .head _) z⟩
  have w3:∀j∈Δ,j≠i->j∈Δ/\∀b∈A j,b∉B':=fun j hj e=>⟨hj,fun b hb z=>(hB b z).elim
    (fun z=>(I.deep j hj).2.1 i (fun w=>e w.symm) b hb (by rw [hA];exact .tail _ z)) fun z=>I.ne hb z⟩
  have w4:i∈Δ->B'.Nodup/\(∀j,j≠i->∀b∈B',b∉A j)/\∀b∈B',Hb b=none:=fun hd=>by obtain⟨d1,d2,d3⟩:=I.deep i hd;rw[hA]at d2 d3;exact⟨hD hd,fun j hj b hb=>(hB b hb).elim (fun z=>d2 j hj b (.tail _ z)) fun z w=>I.ne w z,fun b hb=>(hB b hb).elim (fun z=>d3 b (.tail _ z)) fun z=>I.same.free z⟩
  exact(I.mono g1).write (Γ':=Γ) (Δ':=Δ) hi hA hl s1 r w1 w0 w2 w3 w4
variable{h:Bg}{v:V}
theorem RpA.set:∀{ds:List D} {vs:List V} {A:List Addr} {j:Nat} {d:D} {v:V},RpA K C H ds vs A->Rp K C H d v []->Dl.Zr ds=aq->RpA K C H (ds.set j d) (vs.set j v) []
 |[],_,_,_,_,_,r,_,_=>by rw[r.1];exact RpA.nil
 |x::ds,_,_,0,d,v,r,q,h=>by obtain⟨y,l,B,B',e1,e2,e3,e4⟩:=r;simp only[Dl.Zr,AC]at h;subst e1;exact⟨v,l,[],[],rfl,q,e3.flat' h.2,rfl⟩
 |x::ds,_,_,j+1,d,v,r,q,h=>by obtain⟨y,l,B,B',e1,e2,e3,e4⟩:=r;simp only[Dl.Zr,AC]at h;subst e1;have z:=e2.flat h.1;subst z;exact⟨y,_,[],[],rfl,e2,RpA.set e3 q h.2,rfl⟩
variable{fk:FE}{tk:TE}
theorem Xob(hi:i∈Γ:=by decide)(he:EOk K C E Γ Δ m1 S1 te fe)(hk:EOk K C E Γ Δ m2 S2 tk fk):SOk K C E mr Γl Δl Γ Δ Γ Δ (Zin te (Zia (Zil i) tk Xlx)) (Dl.Xro i fk fe):=fun H0 Hb H σ ρ A D I p=>by
 refine he H0 Hb H σ ρ A _ I (Xd.imp (Xd.bind p) (fun d q v H1 g1 r=>?_) fun c x q H' g'=>q H' (Xf.from0 I g'));have I1:=I.mono g1;split at q;rename_i ds e;obtain⟨a,xs,l,s1,h1,r1,hA,hl⟩:=Zke I1 e;refine⟨.ref a,s1,hk H0 Hb H1 σ ρ A _ I1 (Xd.imp (Xd.bind q) (fun z q w H2 g2 rz=>?_) fun c x q H' g'=>q H' (Xf.from0 I1 g'))⟩;obtain⟨Bz,rz,_⟩:=rz;obtain⟨B,rd,_⟩:=r;cases z with
 |int n =>obtain⟨rfl,_⟩:=rz;simp only at q;split at q;rename_i hf;split at q;rename_i j ej;have zB:=rd.flat hf.1;subst zB;obtain⟨A',I'⟩:=I1.rewrite g2 hi hA hl s1 (RpA.set (j:=j) (r1.same g2) (rd.same g2) hf.2) (fun _ hb=>nomatch hb) fun _=>Bb;exact⟨a,xs,n,j,rfl,rfl,g2 _ _ h1,by rw[r1.len];exact ej,q _ _ A' I'⟩;exact q.elim;exact q.elim
 |_=>exact q.elim
 exact q.elim
def BsN(K:AN)(C:String->Addr)(Γ Δ Γ' Δ':List Nat)(g:TGs)(b:List D->Xr->R Xr):Prop:=∀(H0 Hb H:Hp) (σ:St) (ρ:Xr) (A:Nat->List Addr) (d:List D) (v:List V) (B:List Addr) (Rr:St->Hp->Prop),Zo K C H0 Hb H Γ Δ σ ρ A->RpA K C H d v B->B.Nodup->(∀a∈B,Hb a=ao/\∀j,a∉A j)->
 Xd (b d ρ) (fun ρ'=>∀σ' A',Zo K C H0 Hb H Γ' Δ' σ' ρ' A'->Rr σ' H) (fun _ _=>False)->g v σ H Rr
theorem Xpq(h1:∀i∈Γ',i∈Γ)(h2:∀i∈Δ',i∈Δ):BsN K C Γ Δ Γ' Δ' Xcq Dl.Zef:=fun H0 Hb H σ ρ A d v B Rr I r _ _ p=>by
 cases d with
 |nil=>exact⟨r.1,p _ A (I.weak h1 h2)⟩
 |cons _ _=>exact p.elim
theorem Xhz{bs:List D->Xr->R Xr}(h2:BsN K C (i::Γ) (i::Δ) Γ' Δ' gs bs):BsN K C Γ Δ Γ' Δ' (Zio (Zam i) gs) (Dl.Xx (Dl.Zv i) bs):=fun H0 Hb H σ ρ A d v B Rr I r nd hB p=>by
  cases d with
  |nil=>exact p.elim
  |cons d ds =>
    obtain⟨x,l,B1,B2,e1,e2,e3,e4⟩:=r;subst e1 e4;obtain⟨n1,n2,n3⟩:=DR.mp nd;have hB1:∀a∈B1,Hb a=ao/\∀j,a∉A j:=fun a ha=>hB a (Aq _ ha);obtain⟨A',I',hA'⟩:=I.put (Γ':=i::Γ) (Δ':=i::Δ) (i:=i) e2
      (fun j hj e=>⟨(Aj.mp hj).elim (fun z=>af z e) id,fun a l' e' ha=>(hB1 a ha).2 j (by rw[e'];exact .head _)⟩)
      (fun _=>⟨fun a ha=>I.s0.free (hB1 a ha).1,fun a l' e=>by
        subst e;exact ⟨(hB1 a (.head _)).1,(AB.mp n1).1,fun j _=>(hB1 a (.head _)).2 j⟩⟩)
      (fun j hj e=>⟨(Aj.mp hj).elim (fun z=>af z e) id,fun a ha hb=>(hB1 a hb).2 j ha⟩)
      (fun _=>⟨n1,fun j _ a ha=>(hB1 a ha).2 j,fun a ha=>(hB1 a ha).1⟩)
    exact⟨x,l,rfl,h2 H0 Hb H _ _ A' ds l B2 Rr I' e3 n2 (fun a ha=>⟨(hB a (Ah _ ha)).1,fun j h=>(hA' j a h).elim (fun z=>n3 a z a ha rfl) fun z=>(hB a (Ah _ ha)).2 j z⟩) p⟩
theorem Zun{bs:List D->Xr->R Xr}(hn:∀ds ρ ρ',bs ds ρ=.ok ρ'->ds.length=n)(he:EOk K C E Γ Δ 2 [] te fe)(hb:BsN K C Γ Δ Γ' Δ' gs bs):SOk K C E mr Γl Δl Γ Δ Γ' Δ' (Zin te (Zfg K n gs)) (Dl.Xrf fe (Dl.Zfc bs)):=fun H0 Hb H σ ρ A D I p=>by
 refine he H0 Hb H σ ρ A _ I (Xd.imp (Xd.bind p) (fun d q v H1 g1 r=>?_) fun c x q H' g'=>q H' (Xf.from0 I g'));obtain⟨B,r1,r2,_,r4⟩:=r;have hn':∀a∈B,H a=none:=fun a ha=>(r2 a ha).elim id fun z=>z.none.elim;have q':=Zbi (Xd.bind q);cases d with
 |tup ds =>
  obtain⟨a,xs,rfl,e2,e3⟩:=r1;have q'':Xd (bs ds ρ) (fun ρ'=>∀σ' H' A',Zo K C H0 Hb H' Γ' Δ' σ' ρ' A'->D.nx σ' H') (fun _ _=>False):=q';have hl:xs.length=n:=by
   rw[e3.len];cases e:bs ds ρ with
   |ok ρ'=>exact hn ds ρ ρ' e
   |err _ _=>rw[e]at q'';exact q''.elim
   |bad=>rw[e]at q'';exact q''.elim
  exact⟨a,xs,rfl,SqT.of e2,hl,hb H0 Hb H1 σ ρ A ds xs B D.nx (I.mono g1) e3 (r4 rfl) (fun a ha=>⟨I.same.free (hn' a ha),fun j z=>I.ne z (hn' a ha)⟩) (Xd.imp q'' (fun ρ' q σ' A' I'=>q σ' H1 A' I') fun _ _ z=>z)⟩
 |_=>exact q'.elim
variable{kx:Expr}
theorem Xtp(hi:i∈Γ:=by decide)(hN:X.N[i]?=ak x:=by rfl)(hv:autoParam (Vis X.env.scope x) aT3._auto_1)(hd:(x==("__debug__":Str))=false:=by decide)(hcd:(x==("__classdict__":Str))=false:=by decide)
    (he:JE X C E Γ Δ m1 S1 e te fe) (hk:JE X C E Γ Δ m2 S2 kx tk fk) (hs:Ef [.Subscript (.Name x p) kx p2] e pos.line X.env=pure false:=by rfl) (hw:Eg [.Subscript (.Name x p) kx p2] e X.env=pure none:=by rfl) (h1:(AW [.Subscript (.Name x p) kx p2] X.env).map (·.2)=[CL (.Subscript (.Name x p) kx p2) X.env]:=by rfl)
    (hq:∀v,CL (.Subscript (.Name x p) kx p2) X.env v=(do
      let ov <- B6 [v] (A6 (.Name x p) X.env)
      let iv <- B6 [v,ov] (A6 kx X.env)
      E4 p2
      B6 [v,ov,iv] (G1 ov iv v)
      J9 [v,ov,iv] []):=by intro _;rfl) :
    JS X C E mr Γl Δl Γ Δ Γ Δ (.Assign [.Subscript (.Name x p) kx p2] e pos) (Zin te (Zia (Zil i) tk Xlx)) (Dl.Xro i fk fe):=⟨Zri he.q (Xby (qv i hN hv hd hcd) hk.q set_list hq) hs hw h1,Xob hi he.o hk.o⟩
structure JN(X:Cx)(C:String->Addr)(Γ Δ Γ' Δ':List Nat)(es:List Expr)(n:Nat)(t:TGs)(f:List D->Xr->R Xr):Prop where
 q:QGs X es t
 o:BsN X.K C Γ Δ Γ' Δ' t f
 n:∀ds ρ ρ',f ds ρ=.ok ρ'->ds.length=n
theorem Xuo(h1:∀i∈Γ',i∈Γ:=by decide)(h2:∀i∈Δ',i∈Δ:=by decide):JN X C Γ Δ Γ' Δ' [] 0 Xcq Dl.Zef:=⟨Zjq,Xpq h1 h2,Zsm⟩
variable{u:TGs}
theorem Xbl(hN:X.N.Nodup)(hi:X.N[i]?=ak x)(hx:Loc X.env.scope x)(h2:JN X C (i::Γ) (i::Δ) Γ' Δ' es n u fu)(hf:autoParam (X.fn x=aq\/X.env.scope.names.lookup x=ak .local) aT0._auto_1)
  (hs:(AW (.Name x p::es) X.env).map (·.2)=CL (.Name x p) X.env::(AW es X.env).map (·.2):=by rfl):JN X C Γ Δ Γ' Δ' (.Name x p::es) (n+1) (Zio (Zam i) u) (Dl.Xx (Dl.Zv i) fu):=⟨Zgk (Zlk hN hi hx hf) h2.q hs,Xhz h2.o,Zka h2.n⟩
theorem Zxv{k:Nat}(hc:X.calm=aq)(he:JE X C E Γ Δ 2 [] e te fe)(hb:JN X C Γ Δ Γ' Δ' es n u fu)(hn:(AW es X.env).length=n:=by rfl)(hst:(AW es X.env).findIdx? (·.1)=none:=by rfl)
  (hs:Ef [.Tuple es k p] e pos.line X.env=pure false:=by rfl) (hw:Eg [.Tuple es k p] e X.env=pure none:=by rfl) (h1:(AW [.Tuple es k p] X.env).map (·.2)=[CL (.Tuple es k p) X.env]:=by rfl) :
  JS X C E mr Γl Δl Γ Δ Γ' Δ' (.Assign [.Tuple es k p] e pos) (Zin te (Zfg X.K n u)) (Dl.Xrf fe (Dl.Zfc fu)):=⟨Zri he.q (Zrm hc hb.q hn hst) hs hw h1,Zun hb.n he.o hb.o⟩
theorem Zyn{i:Int}{u:Value}(hg:Gl X x)(hm:X.mg x=ak u)(r:RelV (.int i) u)(hd:(x==("__debug__":Str))=false:=by decide):JE X C E Γ Δ 2 [] (.Name x pos) (tC (.int i)) (Dl.fC (.int i)):=⟨Xpl hg hm r hd,Xev fun _=>rpI⟩
theorem Xbw{c:String}{t:TA}(ha:AOk K C E Γ Δ m S t f)(hn:∀ρ ds,f ρ=.ok ds->ds.length<=8):SOk K C E mr Γl Δl Γ Δ Γ' Δ' (Zry (.ref (C c)) E t) (Dl.Zrw c f):=fun H0 Hb H σ ρ A D I p=>by
 have p':=Xd.bind p;refine ha H0 Hb H σ ρ A _ I ?_;cases e:f ρ with
 |ok ds =>rw[e]at p';intro vs H' g r;obtain⟨B,r1,_⟩:=r;refine⟨?_,p' H' (Xf.from0 I g) C6 trivial⟩;rw[r1.len];exact AD (hn ρ ds e) (by decide)
 |err c x =>rw[e]at p';exact fun H' g=>p' H' (Xf.from0 I g)
 |bad=>rw[e]at p';exact p'
theorem Zo.base(h:Zo K C Hb Hb H Γ Δ σ ρ A)(s:Xf H0 Hb):Zo K C H0 Hb H Γ Δ σ ρ A:=⟨s,h.same,h.len,h.rep,h.nil,fun i hi a ha=>s.free (h.loc i hi a ha),h.top,h.deep⟩
theorem Zo.fresh(h:Zo K C H0 Hb H Γ Δ σ ρ A):Zo K C Hb Hb H [] [] σ ρ A:=⟨Xf.refl _,h.same,h.len,h.rep,h.nil,fun _ hi=>(nomatch hi),fun _ hi=>(nomatch hi),fun _ hi=>(nomatch hi)⟩
theorem Res.base(s:Xf H0 Hb)(r:Res K C m [] Hb (fun _=>[]) d v H'):Res K C m [] H0 (fun _=>[]) d v H':=by obtain⟨B,r1,r2,r3,r4⟩:=r;exact⟨B,r1,fun a ha=>(r2 a ha).imp s.free id,fun q a l e=>⟨s.free (r3 q a l e).1,(r3 q a l e).2⟩,r4⟩
def JOk(K:AN)(C:String->Addr)(E:XK)(Γ Δ:List Nat)(t:TJ)(f:FA):Prop:=∀(H0 Hb H:Hp) (σ:St) (ρ:Xr) (A:Nat->List Addr) (Q:Hp->Prop),Zo K C H0 Hb H Γ Δ σ ρ A->
 Xd (f ρ) (fun _=>∀H',Xf H H'->Q H') (fun c x=>∀H',Xf H H'->EC C E c x H')->t σ H Q
variable{cn:String}{np:Pos}
theorem Xig(hq:G4 X.K (C cn) bmV "ValueError.__new__"=aq)(hm:X.mg x=ak (.ref (C cn)))(ha:JA (X.wish (ER X E)) C E Γ Δ m S (e::es) n t f)(hn:n<=8:=by decide)(hg:Gl X x:=by rfl)(hc:X.calm=true:=by rfl)(hx:X.ex=[]:=by rfl)
  (hdb:(x==("__debug__":Str))=false:=by decide) (he:Ad (e::es) X.env=(ar,A6 e X.env)::Ad es X.env:=by rfl) (hpl:(BL cpos (Ad es X.env)).any (·.1)=false:=by rfl) :
  JS (X.wish (ER X E)) C E mr Γl Δl Γ Δ Γ' Δ' (.Raise (ak (.Call (.Name x np) (e::es) [] cpos)) ao pos) (Zry (.ref (C cn)) E t) (Dl.Zrw cn f):=
 ⟨Xif hq hm ha.q hg hc hx hdb he hpl,Xbw ha.o fun ρ ds h=>by rw[ha.n ρ ds h];exact hn⟩
theorem Fun.okCE{base:Bg}{f:Addr}{N:List Str}{k:Nat}(F:Fun K x qual st f fd)(S:Xc N ps (Zh st))(hn:ps.length=n)(hbody:∀(cdv:Value) (A:Ba) (outer:List Env) (s:Af) (H:Hp) (E:XK),Zcd k (A.deeper (DT qual (Zh st) s.heap.objs.size f cdv))->∃t,JSs ((Zmw (CXE P w) P w K mg base N qual (Zh st) f cdv A outer s H E).wish (ER (Zmw (CXE P w) P w K mg base N qual (Zh st) f cdv A outer s H E) E)) C E mr [] [] [] [] Γ' Δ' (Jh st) t g):Zap P w K mg base (CXE P w) (k+1) f fd ps (spD K C n mr fun ds=>Dl.run N.length g ds):=
  F.okEQ S (fun vs H Q E h=>by
    obtain ⟨ds,B,h1,h2,_⟩:=h;rw [h2.len,h1,hn]) fun cdv A outer s H vs Q E hr h=>by
    obtain⟨ds,B,h1,h2,h3⟩:=h;obtain⟨t,ht⟩:=hbody cdv A outer s H E hr;exact⟨t,ht.q,Zgn (K:=K) ht.o h2 h3⟩
theorem RpA.drop{ds:List D}{vs:List V}{A:List Addr}(r:RpA K C H ds vs A):∀n,∃B,RpA K C H (ds.drop n) (vs.drop n) B/\∀a∈B,a∈A:=by
 intro n
 induction ds generalizing vs A n with
 |nil=>rw[r.1];exact⟨[],by simp;exact⟨rfl,rfl⟩,fun _ h=>nomatch h⟩
 |cons d ds ih =>
  cases n with
  |zero=>exact⟨A,r,fun _ h=>h⟩
  |succ n =>obtain⟨x,l,B,B',e1,e2,e3,e4⟩:=r;subst e1 e4;obtain⟨B2,q1,q2⟩:=ih e3 n;exact⟨B2,q1,fun a ha=>Ah _ (q2 a ha)⟩
theorem RpA.take{ds:List D}{vs:List V}{A:List Addr}(r:RpA K C H ds vs A):∀n,∃B,RpA K C H (ds.take n) (vs.take n) B/\∀a∈B,a∈A:=by
 intro n
 induction ds generalizing vs A n with
 |nil=>rw[r.1];exact⟨[],by simp;exact⟨rfl,rfl⟩,fun _ h=>nomatch h⟩
 |cons d ds ih =>
  cases n with
  |zero=>exact⟨[],⟨rfl,rfl⟩,fun _ h=>nomatch h⟩
  |succ n =>obtain⟨x,l,B,B',e1,e2,e3,e4⟩:=r;subst e1 e4;obtain⟨B2,q1,q2⟩:=ih e3 n;exact⟨B++B2,⟨x,_,B,B2,rfl,e2,q1,rfl⟩,fun a ha=>(Al.mp ha).elim (fun h=>Aq _ h) fun h=>Ah _ (q2 a h)⟩
theorem RpA.cutV{ds:List D}{vs:List V}{A:List Addr}(r:RpA K C H ds vs A)(lo hi:Option Int):∃B,RpA K C H (Dl.cut ds lo hi) (L2.cutV vs lo hi) B/\∀a∈B,a∈A:=by unfold Dl.cut L2.cutV;rw[Zfu,Zfu,r.len];obtain⟨B1,q1,q2⟩:=r.drop (HT.sIx ds.length 0 lo);obtain⟨B2,p1,p2⟩:=q1.take (HT.sIx ds.length ds.length hi-HT.sIx ds.length 0 lo);exact⟨B2,p1,fun a ha=>q2 a (p2 a ha)⟩
theorem Res.newTop{p:Addr}(g1:Xf H H')(r:RpA K C H' ds vs B)(hB:∀a∈B,H a=ao\/InS A S a)(hp:H' p=ao):Res K C 1 S H A (.lst ds) (.ref p) (upd H' p (.lst vs)):=by have g2:=sameNew hp (.lst vs);refine⟨p::B,⟨p,vs,B,rfl,Zw,r.same g2,rfl⟩,fun b hb=>?_,fun _ b l e=>?_,(fun z=>nomatch z)⟩;rcases Aj.mp hb with z|z;rw[z];exact .inl (g1.free hp);exact hB b z;cases e;refine⟨g1.free hp,fun h=>?_⟩;obtain⟨ys,w,_⟩:=r.isl p h;rw[w]at hp;cases hp
theorem Xpi(ha:EOk K C E Γ Δ m S ta fa)(hl:OOk K C E Γ Δ tl fl)(hh:OOk K C E Γ Δ th fh):EOk K C E Γ Δ 1 S (tSl (Xrh K) ta tl th) (Dl.fSl Dl.Xdm fa fl fh):=
  fun H0 Hb H σ ρ A Q I p=>ha H0 Hb H σ ρ A _ I (p.bind.imp (fun x q vx H1 g1 r1=>hl H0 Hb H1 σ ρ A _ (I.mono g1) (q.bind.imp (fun lo q H2 g2=>hh H0 Hb H2 σ ρ A _ (I.mono (g1.trans g2)) (q.bind.imp (fun hi q H3 g3=>by
    obtain⟨d,e,q⟩:=Zbm q;obtain⟨B,r1,rB,_⟩:=r1;have r1:=r1.same (g2.trans g3);have g13:=g1.trans (g2.trans g3);unfold Dl.Xdm at e;split at e;cases e;obtain⟨a,ys,B',rfl,e2,e3,e4⟩:=r1;subst e4;obtain⟨B2,q1,q2⟩:=e3.cutV lo hi;exact Xbi (SqL.of e2) fun p hp=>q _ _ (g13.trans (sameNew hp _)) (Res.newTop g13 q1 (fun b hb=>rB b (.tail _ (q2 b hb))) hp)
    · cases e) fun c x q H' g'=>q H' ((g1.trans g2).trans g'))) fun c x q H' g'=>q H' (g1.trans g'))) fun c x q H' g'=>q H' g')
theorem InS.l(h:InS A S1 a):InS A (S1++S2) a:=h.mono fun _ hp=>Aq _ hp
theorem InS.r(h:InS A S2 a):InS A (S1++S2) a:=h.mono fun _ hp=>Ah _ hp
theorem Xfo(ha:EOk K C E Γ Δ m1 S1 ta fa)(hb:EOk K C E Γ Δ m2 S2 tb fb):EOk K C E Γ Δ 1 (S1++S2) (tOp Zto ta tb) (Dl.f2 Dl.Zgd fa fb):=
  fun H0 Hb H σ ρ A Q I p=>ha H0 Hb H σ ρ A _ I (p.bind.imp (fun x q vx H1 g1 r1=>hb H0 Hb H1 σ ρ A _ (I.mono g1) (q.bind.imp (fun y q vy H2 g2 r2=>by
    obtain⟨d,e,q⟩:=Zbm q;obtain⟨Bx,r1,rB,_⟩:=r1;obtain⟨By,r2,rB2,_⟩:=r2;have r1:=r1.same g2;have g13:=g1.trans g2;unfold Dl.Zgd at e;split at e;split at e;rename_i hz;cases e;obtain⟨a,xs,B,rfl,e2,e3,e4⟩:=r1;obtain⟨a',xs',B',rfl,e2',e3',e4'⟩:=r2;subst e4 e4';refine Xjh e2 e2' (by rw[e3.len,e3'.len];exact Zbe hz) fun p hp=>?_;exact q _ _ (g13.trans (sameNew hp _)) (Res.newTop g13 (e3.app e3') (fun b hb=>(Al.mp hb).elim (fun h=>(rB b (.tail _ h)).imp id InS.l) fun h=>(rB2 b (.tail _ h)).imp (fun z=>g1.free z) InS.r) hp);cases e
    · cases e) fun c x q H' g'=>q H' (g1.trans g'))) fun c x q H' g'=>q H' g')
theorem Xjg(K:AN)(he:JE X C E Γ Δ m S e te fe)(hl:JO X C E Γ Δ lo tl fl)(hu:JO X C E Γ Δ hi th fh)(hK:X.K=K:=by rfl):JE X C E Γ Δ 1 S (.Subscript e (.Slice lo hi ao p2) pos) (tSl (Xrh K) te tl th) (Dl.fSl Dl.Xdm fe fl fh):=by subst hK;exact⟨Zkm Zvu he.q hl.q hu.q,Xpi he.o hl.o hu.o⟩
variable{a:Expr}
theorem Zpo(ha:JE X C E Γ Δ m1 S1 a ta fa)(hb:JE X C E Γ Δ m2 S2 b tb fb):JE X C E Γ Δ 1 (S1++S2) (.BinOp a .Add b pos) (tOp Zto ta tb) (Dl.f2 Dl.Zgd fa fb):=⟨Xsw Zz ha.q hb.q,Xfo ha.o hb.o⟩
structure ClsIn(K:AN)(C:Addr):Prop where
 ty:Fw K (.ref C)=ak (.type "type")
 cl:∃c,Gk K C=ak c
 se:Dq K (.ref C) (.ref C)=ak aq
theorem Xln{P:α->Prop}:∀c∈([]:List α),P c:=fun _ h=>nomatch h
theorem all_cons{P:α->Prop}{a:α}{l:List α}(h:P a)(hl:∀c∈l,P c):∀c∈a::l,P c:=fun c hc=>(Aj.mp hc).elim (fun e=>by rw[e];exact h) fun hc=>hl c hc
variable{a:Addr}
theorem RpA.rev{A:List Addr}(r:RpA K C H ds vs A):∃B,RpA K C H ds.reverse vs.reverse B/\∀a∈B,a∈A:=by
 induction ds generalizing vs A with
 |nil =>obtain⟨e1,e2⟩:=r;subst e1 e2;exact⟨[],⟨rfl,rfl⟩,fun _ h=>h⟩
 |cons d ds ih =>obtain⟨x,l,B,B',e1,e2,e3,e4⟩:=r;subst e1 e4;obtain⟨B2,q1,q2⟩:=ih e3;refine⟨B2++B,?_,fun a ha=>(Al.mp ha).elim (fun h=>Ah _ (q2 a h)) fun h=>Aq _ h⟩;rw[DB,DB];exact q1.app (RpA.one e2)
variable{ts:TE}
theorem Xfi{fs:FE}(ha:EOk K C E Γ Δ m1 S1 ta fa)(hs:EOk K C E Γ Δ m2 S2 ts fs):EOk K C E Γ Δ 1 S1 (tRev K ta ts) (Dl.f2 Dl.Xan fa fs):=
  fun H0 Hb H σ ρ A Q I p=>ha H0 Hb H σ ρ A _ I (p.bind.imp (fun x q vx H1 g1 r1=>hs H0 Hb H1 σ ρ A _ (I.mono g1) (q.bind.imp (fun y q vy H2 g2 r2=>by
    obtain⟨d,e,q⟩:=Zbm q;obtain⟨Bx,r1,rB,_⟩:=r1;obtain⟨By,r2,_⟩:=r2;have r1:=r1.same g2;have g13:=g1.trans g2;unfold Dl.Xan at e;split at e;split at e;rename_i hf;cases e;obtain⟨a,ys,B,rfl,e2,e3,e4⟩:=r1;subst e4;obtain⟨rfl,_⟩:=r2;obtain⟨B2,q1,q2⟩:=e3.rev;refine⟨a,ys,rfl,by rw[hf],SqL.of e2,fun p hp=>q _ _ (g13.trans (sameNew hp _)) (Res.newTop g13 q1 (fun b hb=>rB b (.tail _ (q2 b hb))) hp)⟩;cases e
    · cases e) fun c x q H' g'=>q H' (g1.trans g'))) fun c x q H' g'=>q H' g')
structure JJ(X:Cx)(C:String->Addr)(E:XK)(Γ Δ:List Nat)(es:List Expr)(t:TJ)(f:FA):Prop where
 q:QJ X es t
 o:JOk X.K C E Γ Δ t f
variable{fs:FE}{st:Expr}
theorem Xkh(K:AN)(he:JE X C E Γ Δ m S e te fe)(hst:JE X C E Γ Δ m2 S2 st ts fs)(hK:X.K=K:=by rfl):JE X C E Γ Δ 1 S (.Subscript e (.Slice ao ao (ak st) p2) pos) (tRev K te ts) (Dl.f2 Dl.Xan fe fs):=by subst hK;exact⟨Xyh he.q hst.q,Xfi he.o hst.o⟩
theorem Xnc(ha:EOk K C E Γ Δ m S ta fa)(hl:OOk K C E Γ Δ tl fl)(hh:OOk K C E Γ Δ th fh):EOk K C E Γ Δ 2 [] (tSl (rSlT K) ta tl th) (Dl.fSl Dl.Xdi fa fl fh):=
  fun H0 Hb H σ ρ A Q I p=>ha H0 Hb H σ ρ A _ I (p.bind.imp (fun x q vx H1 g1 r1=>hl H0 Hb H1 σ ρ A _ (I.mono g1) (q.bind.imp (fun lo q H2 g2=>hh H0 Hb H2 σ ρ A _ (I.mono (g1.trans g2)) (q.bind.imp (fun hi q H3 g3=>by
    obtain⟨d,e,q⟩:=Zbm q;obtain⟨B,r1,_⟩:=r1;have r1:=r1.same (g2.trans g3);have g13:=g1.trans (g2.trans g3);have out:Out K C H3 d Q:=fun v H' B g4 r h1 h2=>q v H' (g13.trans g4) (Res.new r h1 fun a ha=>g13.free (h2 a ha));unfold Dl.Xdi at e;split at e;split at e;rename_i hf;cases e;obtain⟨a,ys,rfl,e2,e3⟩:=r1;refine⟨a,ys,rfl,SqT.of e2,?_⟩;refine⟨?_,fun p hp=>Out.tup out (e3.cut hf.1 _ _) hp⟩;rw[e3.len,<- Zfu,<- Zfu];exact hf.2;cases e
    · cases e) fun c x q H' g'=>q H' ((g1.trans g2).trans g'))) fun c x q H' g'=>q H' (g1.trans g'))) fun c x q H' g'=>q H' g')
theorem Xjk(K:AN)(he:JE X C E Γ Δ m S e te fe)(hl:JO X C E Γ Δ lo tl fl)(hu:JO X C E Γ Δ hi th fh)(hK:X.K=K:=by rfl):JE X C E Γ Δ 2 [] (.Subscript e (.Slice lo hi ao p2) pos) (tSl (rSlT K) te tl th) (Dl.fSl Dl.Xdi fe fl fh):=by subst hK;exact⟨Zkm Xxn he.q hl.q hu.q,Xnc he.o hl.o hu.o⟩
def Xkx(K:AN)(c:Value)(N:Nat)(tb:XK->TS)(th:TS):TS:=fun D σ H=>∃E:XK,tb E D σ H/\∀cls dx H',E cls dx H'->Hq K cls c=ak aq/\∀σ':St,σ'.length=N->th D σ' H'
variable{b₀:Stmt}{hpos:Pos}{suite:List Stmt}{tb:XK->TS}{th:TS}
theorem Xme{c:Str}{C:Addr}(hm:X.mg c=ak (.ref C))
  (hb:∀(E:XK) (pn:List (Addr×Obj)),PSs (({X with pn:=pn}:Cx).wish (ER {X with pn:=pn} E)) body (tb E)) (hh:∀e:Addr,PSs (X.hand e) (b₀::suite) th)
  (hg:Gl X c:=by rfl) (hx:X.ex=[]:=by rfl) (hst:X.stack=X.env::X.outer:=by rfl) (hf:X.env.frame=ak X.env.locals:=by rfl) (hdb:(c==("__debug__":Str))=false:=by decide) :
  PS X (.Try body [.ExceptHandler (ak (.Name c np)) ao (b₀::suite) hpos] [] [] pos) (Xkx X.K (.ref C) X.N.length tb th):=by
 intro pins s σ H D I h;obtain⟨E,h1,h2⟩:=h;refine wpAny_Try_except (BF (hb E (X.pn++pins) [] s σ H D (I.inpin.wish _) h1) (fun f s1 q=>?_) fun ev s1 q=>?_)
 ·have q1:SP ({X with pn:=X.pn++pins}:Cx) [] D f s1:=q.unwish;have q':SP X pins D f s1:=by
   cases f with
   |next=>obtain⟨σ',H',I',z⟩:=q1;exact⟨σ',H',I'.outpin,z⟩
   |brk=>obtain⟨σ',H',I',z⟩:=q1;exact⟨σ',H',I'.outpin,z⟩
   |cont=>obtain⟨σ',H',I',z⟩:=q1;exact⟨σ',H',I'.outpin,z⟩
   |ret u=>obtain⟨v,σ',H',I',r,z⟩:=q1;exact⟨v,σ',H',I'.outpin,r,z⟩
  cases f with
  |next=>exact FF q'
  |brk=>exact q'
  |cont=>exact q'
  |ret u=>exact q'
 ·obtain⟨e0,dx,rfl,hdx,pins',e,own,cls,z,σ1,H1,ee,I1,x,hz,oo,qE⟩:=q;cases ee;have J1:Inv X pins σ1 H1 s1:=I1.outpin;have oo1:Zjx X pins H1 own:=fun b hb=>let ⟨a1,a2,a3,a4,a5⟩:=oo b hb;⟨a1,a2,a3,a4,fun p hp=>a5 p (Aq _ hp)⟩
  obtain⟨hmat,hth⟩:=h2 cls dx H1 qE;refine Xod J1 x hz oo1 hx I.ok.frames hst hf fun s2 T I2 x2 oo2=>?_;refine Zyi I2 x2 oo2 hx fun s3 T3 I3 x3 oo3=>?_;refine wpAny_handleBy_cons (codeAny_handlers_test ?_) (by intro q;cases q);refine Zju (X:=X.hand e0) (I3.hand e0) hg hm ?_ hdb;have ty:PySem.W.Looks (Aw X.prog X.w) s3.heap (La (.ref e0)) cls:=by obtain⟨oe,vs,a0,he,hc,_⟩:=x3;subst hc;exact(PySem.W.Looks.ld he).andThen .now
  refine(PySem.W.exm_one I3.kIn ty hmat).here ?_;refine(codeAny_handlers_suite ?_);refine Zyi (X:=X.hand e0) (I3.hand e0) x3 oo3 hx fun s4 T4 I4 x4 oo4=>?_;refine BF (hh e0 pins s4 _ _ _ I4 (hth σ1 J1.len)) (fun f s6 q=>?_) fun _ _ z=>z.elim;cases f with
  |next=>obtain⟨σ',H',I',z⟩:=q;exact⟨_,_,I'.unhand I.ok.hd,z⟩
  |brk=>obtain⟨σ',H',I',z⟩:=q;exact⟨_,_,I'.unhand I.ok.hd,z⟩
  |cont=>obtain⟨σ',H',I',z⟩:=q;exact⟨_,_,I'.unhand I.ok.hd,z⟩
  |ret u=>obtain⟨v,σ',H',I',r,z⟩:=q;exact⟨v,_,_,I'.unhand I.ok.hd,r,z⟩
theorem Zo.blank(s:Xf H0 Hb)(g:Xf Hb H)(hl:σ.length=N):Zo K C H0 Hb H [] [] σ (Ab N C6) (fun _=>[]):=
  ⟨s,g,by simp [hl],(fun j d q=>by
      rw [DH] at q;split at q<;>cases q),fun _ _=>rfl,fun _ hi=>(nomatch hi),fun _ hi=>(nomatch hi),fun _ hi=>(nomatch hi)⟩
variable{c0:Addr}{cs:List String}
theorem Xgp{fb fh:FS}{Eh:XK}(hb:∀E',SOk K C E' mr Γl Δl [] [] Γ1 Δ1 (tb E') fb)(hh:SOk K C Eh mr Γl Δl [] [] Γ1 Δ1 th fh)(hc:∀c∈cs,Hq K (.ref (C c)) (.ref c0)=ak aq):SOk K C E mr Γl Δl Γ Δ Γ1 Δ1 (Xkx K (.ref c0) N tb th) (Dl.Zkv cs N fb fh):=fun H0 Hb H σ ρ A D I p=>by
 refine⟨fun cls dx H'=>Xf Hb H'/\∃c x,cls=.ref (C c)/\fb ρ=.err c x,?_,?_⟩;refine hb _ Hb Hb H σ ρ A D I.fresh ?_;unfold Dl.Zkv at p;cases e:fb ρ with
 |bad=>rw[e]at p;exact p
 |err c x =>exact fun H' g dx hf=>⟨g,c,x,rfl,rfl⟩
 |ok fl =>
  rw[e]at p;cases fl with
  |nx ρ'=>exact fun σ' H' A' I'=>p σ' H' A' (I'.base I.s0)
  |brk ρ'=>exact fun σ' H' A' I'=>p σ' H' A' (I'.base I.s0)
  |cnt ρ'=>exact fun σ' H' A' I'=>p σ' H' A' (I'.base I.s0)
  |ret d=>exact fun v H' g r=>p v H' (I.s0.trans g) (r.base I.s0)
 rintro cls dx H' ⟨g,c,x,rfl,ef⟩;unfold Dl.Zkv at p;rw[ef]at p;simp only[]at p;by_cases hcs:cs.contains c=aq;rw[aa hcs]at p;refine⟨hc c (by simpa using hcs),fun σ' hl=>?_⟩;refine hh H0 Hb _ _ _ (fun _=>[]) _ (Zo.blank I.s0 g hl) ?_;exact Xd.imp (Zbi p) (fun fl q=>q) fun _ _ z=>z.elim;rw[ae hcs]at p;exact p.elim
theorem Xnf{c:Str}{fb fh:FS}{E0:XK}(cs:List String)(hm:X.mg c=ak (.ref c0))
  (hb:∀(E:XK) (pn:List (Addr×Obj)),JSs (({X with pn:=pn}:Cx).wish (ER {X with pn:=pn} E)) C E mr Γl Δl [] [] Γ1 Δ1 body (tb E) fb) (hh:∀a:Addr,JSs (X.hand a) C E0 mr Γl Δl [] [] Γ1 Δ1 (b₀::suite) th fh)
  (hc:∀c∈cs,Hq X.K (.ref (C c)) (.ref c0)=ak aq)
  (hg:Gl X c:=by rfl) (hx:X.ex=[]:=by rfl) (hst:X.stack=X.env::X.outer:=by rfl) (hf:X.env.frame=ak X.env.locals:=by rfl) (hdb:(c==("__debug__":Str))=false:=by decide) :
  JS X C E mr Γl Δl Γ Δ Γ1 Δ1 (.Try body [.ExceptHandler (ak (.Name c np)) ao (b₀::suite) hpos] [] [] pos) (Xkx X.K (.ref c0) X.N.length tb th) (Dl.Zkv cs X.N.length fb fh):=
 ⟨⟨Xme hm (fun E pn=>(hb E pn).q.out) (fun a=>(hh a).q.out) hg hx hst hf hdb⟩,Xgp (fun E'=>(hb E' []).o) (hh 0).o hc⟩
variable{ch:List Addr}{h':Bg}{pins:List (Addr×Obj)}{t':Nat}
theorem Inv.turnTup{p:Addr}(I:Inv X pins σ H s)(k:∀b o,b∉ch->s.heap.get? b=ak o->h'.get? b=ak o)(hf:∀b∈ch,Zoa X pins H b)(hp:s.heap.objs.size<=p)(hz:xs.length<=Ar)(hv:Yl xs its)(ho:JR h' p its.toArray):Inv X pins σ (upd H p (.tup xs)) {s with heap:=h',toks:=t'}:=by
 have hn:H p=none:=I.hok.fresh hp;have nch:∀b u,H b=ak u->b∉ch:=fun b u e z=>by rw[(hf b z).1]at e;cases e
 refine I.step (g':=s.gens) (d':=s.drawn) (ch:=ch) (fun b hb=>⟨(hf b hb).2.2.2.1,(hf b hb).2.1,(hf b hb).2.2.2.2.1,(hf b hb).2.2.2.2.2⟩) (fun b o _ _ hc e _=>k b o hc e) (fun b o _ _ hc e _=>⟨o.slots,k b o hc e⟩) (fun b o _ e n=>?_)
  (fun b o hc e=>⟨o,k b o hc e⟩) (fun b ys e=>by rw[Zy (Xe e hn)];exact e) (fun b o u e=>by rw[Zy (Xe e hn)];exact e) (fun b p n e=>by rw[Zy (Xe e hn)];exact e) (fun m hm=>?_) (fun b u e=>?_) I.bare
 rw[Zy];exact n;exact AY (AG (AI e) hp);obtain⟨o,es,ep,ho,r⟩:=hm;exact⟨o,es,ep,k _ o (fun z=>(hf _ z).2.1 rfl) ho,r⟩;by_cases hb:b=p;subst hb;rw[Zw]at e;cases e;exact⟨hz,its,hv,ho⟩;rw[Zy hb]at e;refine(I.hok b u e).stay (fun c v hc q=>k c v ?_ q) (fun c q=>by rw[Zy (Xe q hn)];exact q) (fun c ys q=>by rw[Zy (Xe q hn)];exact q) fun c ob u q=>by rw[Zy (Xe q hn)];exact q
 rcases hc with z|z;rw[z];exact nch b u e;exact nch c _ z
theorem Inv.turneds(I:Inv X pins σ H s)(k:∀b o,b∉ch->s.heap.get? b=ak o->h'.get? b=ak o)(hf:∀b∈ch,Zoa X pins H b):Inv X pins σ H {s with heap:=h',toks:=t'}:=by
 have nch:∀b u,H b=ak u->b∉ch:=fun b u e z=>by rw[(hf b z).1]at e;cases e
 refine I.step (g':=s.gens) (d':=s.drawn) (ch:=ch) (fun b hb=>⟨(hf b hb).2.2.2.1,(hf b hb).2.1,(hf b hb).2.2.2.2.1,(hf b hb).2.2.2.2.2⟩) (fun b o _ _ hc e _=>k b o hc e) (fun b o _ _ hc e _=>⟨o.slots,k b o hc e⟩) (fun _ _ _ _ n=>n)
  (fun b o hc e=>⟨o,k b o hc e⟩) (fun _ _ e=>e) (fun _ _ _ e=>e) (fun _ _ _ e=>e) (fun m hm=>?_) (fun b u e=>?_) I.bare
 obtain⟨o,es,ep,ho,r⟩:=hm;exact⟨o,es,ep,k _ o (fun z=>(hf _ z).2.1 rfl) ho,r⟩;refine(I.hok b u e).stay (fun c v hc q=>k c v ?_ q) (fun _ q=>q) (fun _ _ q=>q) fun _ _ _ q=>q;rcases hc with z|z;rw[z];exact nch b u e;exact nch c _ z
def Ite(K:AN)(a:Addr):It:=
  ⟨fun i H=>∃xs x,SqL K H a xs/\xs[i]?=ak x,
   fun i H v H'=>∃p,v=.ref p/\H p=ao/\∀xs,SqL K H a xs->∃x,xs[i]?=ak x/\H'=upd H p (.tup [.int i,x]),
   fun i H=>∃xs,SqL K H a xs/\xs.length<=i⟩
theorem Zjt{x y:V}{u v:Value}(h1:RelV x u)(h2:RelV y v):Yl [x,y] [u,v]:=.cons h1 (.cons h2 .nil)
variable{elts:List Expr}
theorem Xbo{e it:Addr}(hne:e≠it) :
    Turn P w K (.Tuple elts x1 pos) (Ite K a) [e,it] e (fun i h=>(∃old,IsEnum h e it i old)/\h.IsListIter it a i) where
  mem:=by simp
  obj:=fun i h st c hc=>by obtain⟨⟨old,h1⟩,⟨o5,e5,_,d5⟩⟩:=st;simp only[Aj,BO,or_false]at hc;rcases hc with rfl|rfl;exact⟨_,h1,fun v z=>by cases z⟩;exact⟨_,e5,fun v z=>by rw[d5]at z;cases z⟩
  keep:=fun i h h' st k=>by obtain⟨⟨old,h1⟩,h5⟩:=st;exact⟨⟨old,k e (by simp) _ h1⟩,h5.at fun o q=>k it (by simp) o q⟩
  item:=by
    intro X hP hw hK hc i pins s σ H E I hf st hg;subst hP hw hK;obtain ⟨xs,x,hq1,hx⟩:=hg;obtain ⟨⟨old,h1⟩,h4⟩:=st;obtain ⟨its1,rv1,p1,hz1⟩:=I.list hq1;obtain ⟨u,hu,ru⟩:=rv1.get hx;refine wpAny_pyNext_enum_item h1 h4 p1.isList (x:=u) (by simpa using hu) hne fun h' a1 a2 a3 a4 a5=>?_;refine ⟨_,rfl,wpAny_letOwnedTupleGo_enum a1 fun h'' b1 b2=>?_⟩;have hne1:s.heap.objs.size≠e:=fun q=>af (AI h1) (by rw [<- q];exact Bm _);have ht:h''.get? s.heap.objs.size=ak {cls:=.type "tuple",data:=.seq #[.int i s.toks,u]}:=b2.extBut _ _ hne1 a3;have I2:=I.turnTup (t':=s.toks+1) (h':=h'') (ch:=[e,it]) (p:=s.heap.objs.size) (xs:=[.int i,x]) (its:=[.int i s.toks,u]) (fun c o hc q=>by
        simp only [Aj,BO,or_false,not_or] at hc;exact b2.extBut _ _ hc.1 (a5 c o hc.1 hc.2 q)) (fun c hc=>hf c hc) (As _) (by show 2<=Ar;decide) (Zjt ⟨_,rfl⟩ ru) ⟨_,ht,rfl,_,rfl⟩
    refine⟨.ref s.heap.objs.size,_,I2,rfl,⟨_,rfl,I.hok.fresh (As _),fun xs' e1=>⟨x,by rw[I.list_inj e1 hq1];exact hx,rfl⟩⟩,⟨⟨_,b1⟩,a2.extBut b2.extBut hne.symm⟩,fun c hc=>?_⟩;rw[Zy];exact(hf c hc).1;rintro rfl;have:∃o,s.heap.get? s.heap.objs.size=ak o:=by simp only[Aj,BO,or_false]at hc;rcases hc with q|q;exact⟨_,by rw[q];exact h1⟩;obtain⟨o,q',_⟩:=h4;exact⟨o,by rw[q];exact q'⟩
    obtain⟨o,q⟩:=this;exact af (AI q) (Bm _)
  done:=by
    intro X hP hw hK hc i pins s σ H E I hf st hg;subst hP hw hK;obtain ⟨xs,hq1,hl⟩:=hg;obtain ⟨⟨old,h1⟩,h4⟩:=st;obtain ⟨its1,rv1,p1,hz1⟩:=I.list hq1;have l1:=rv1.length;refine wpAny_pyNext_enum_end (I.ok.hd hc) h1 h4 p1.isList (by simp;omega) fun h' k=>⟨rfl,I.turneds (t':=s.toks) (ch:=[e,it]) (fun c o hc q=>by
        simp only [Aj,BO,or_false,not_or] at hc;exact k c o hc.2 q) (fun c hc=>hf c hc)⟩
  self:=fun _ _ _ _ _ st h=>by obtain⟨⟨old,h1⟩,_⟩:=st;exact Lq h1 h
def Xoq(K:AN)(ta:TE):TI:=fun σ H R=>Zbk ta Zoq σ H fun vs H1=>∃p,vs=[.ref p]/\(∃xs,SqL K H1 p xs)/\R (Ite K p) H1
variable{a:Expr}{tpos:Pos}
theorem Xoe(hg:Gl X "enumerate")(hm:X.mg "enumerate"=ao)(ha:PE X a ta)(hs:Ad [a] X.env=(ar,A6 a X.env)::Ad [] X.env)(hs3:Ad ([]:List Expr) X.env=[]:=by rfl) :
  PI X (.Tuple elts x1 tpos) (.Call (.Name "enumerate" p) [a] [] pos) (Xoq X.K ta):=by
 intro pins s σ H R I h;refine Call_ (Zdh I hg hm boot_enumerate (BC (thn (Zdt ha Ziz hs pos pins s σ H _ I h) fun us s1 ⟨vs,H1,I1,r1,q1⟩=>?_) (by rw[hs]) (by rw[hs3];rfl)));obtain⟨l1,rfl,⟨xs,hq1⟩,q⟩:=q1;obtain⟨u,rfl,rx⟩:=vals1 r1;cases rx;obtain⟨its1,rv1,p1,hz1⟩:=I1.list hq1;refine call_enumerate_list p1.isList fun h' z1 z4 z6 z7=>?_;refine Lq z1 ?_;have I2:Inv X pins σ H1 {s1 with heap:=h'}:=I1.kept (t':=s1.toks) z7;refine⟨_,[s1.heap.objs.size+1,s1.heap.objs.size],_,_,H1,rfl,I2,Xbo (a:=l1) (ES (E1 _)),⟨⟨_,z1⟩,z4⟩,fun c hc=>?_,q⟩;have hc':s1.heap.objs.size<=c:=by simp only[Aj,BO,or_false]at hc;rcases hc with rfl|rfl<;>first|exact As _|exact DC _ _
 exact I1.fpOk hc' (I1.hok.fresh hc')
theorem RpA.two{e:D}{w:V}{A:List Addr}(r:Rp K C H d v A)(q:Rp K C H e w B):RpA K C H [d,e] [v,w] (A++B):=(RpA.one r).app (RpA.one q)
variable{a:Addr}
theorem Zwb(r:RpA K C Hc ds vs B)(h:∀H2,Xf Hc H2->SqL K H2 a vs):Goes K C (Ite K a) (Dl.Zln ds) Hc:=fun H2 g=>by
 have q:=h H2 g;have hl:=r.len;have he:(Dl.Zln ds).length=ds.length:=by simp[Dl.Zln]
 refine⟨fun i hi=>⟨vs,vs[i]'(by omega),q,Ag (by omega)⟩,fun i hi=>⟨vs,q,by omega⟩,fun i x H3 hi y=>?_⟩;obtain⟨p,rfl,hp,y⟩:=y;obtain⟨x,hx,rfl⟩:=y vs q;obtain⟨d,Bd,q1,q2,q3⟩:=r.get' hx;have sm:=sameNew hp (.tup [.int i,x]);refine⟨sm,.tup [.int i,d],Bd,by simp[Dl.Zln,List.getElem?_mapIdx,q1],⟨p,[.int i,x],rfl,Zw,?_⟩,fun a ha z=>?_⟩;exact⟨.int i,[x],[],Bd,rfl,⟨rfl,rfl⟩,RpA.one ((q2.same g).same sm),rfl⟩;obtain⟨xs,e,_⟩:=q2.isl a ha;rw[e]at z;cases z
theorem Xhd{t:TE}{f:FE}(h:EOk K C E Γ Δ m S t f):IOk K C E Γ Δ S (Xoq K t) (Dl.Xpv f):=fun H0 Hb H σ ρ A Rr I p=>h H0 Hb H σ ρ A _ I (p.bind.imp (fun d q v H' g r=>by
  obtain⟨B,r,r',_⟩:=r;cases d with
  |lst ds =>obtain⟨a,xs,B',rfl,e2,e3,e4⟩:=r;subst e4;simp only at q;split at q;rename_i hl;refine⟨a,rfl,⟨xs,SqL.of e2⟩,q _ H' (a::B') g (fun b hb=>?_) (by simpa[Dl.Zln] using hl) fun Hc h1=>Zwb (e3.agree h1 fun b hb=>.tail _ hb) fun H2 g2=>SqL.of (g2 _ _ ((h1.1 a (.head _)).trans e2))⟩;rcases Aj.mp hb with z|z;rw[z];exact⟨⟨_,e2,.lst⟩,r' a (.head _)⟩;exact⟨e3.isl b z,r' b (.tail _ z)⟩;exact q.elim
  | _=>exact q.elim) fun c x q H' g'=>q H' g')
variable{a:Expr}
theorem Xnl(hg:Gl X "enumerate")(hm:X.mg "enumerate"=ao)(ha:JE X C E Γ Δ m1 S1 a ta fa)(hs:Ad [a] X.env=(ar,A6 a X.env)::Ad [] X.env):JI X C E Γ Δ S1 (.Tuple elts x1 tpos) (.Call (.Name "enumerate" p) [a] [] pos) (Xoq X.K ta) (Dl.Xpv fa):=⟨⟨Xoe hg hm ha.q.out hs⟩,Xhd ha.o⟩
theorem Xhp(he:EOk K C E Γ Δ m S te fe):SOk K C E mr Γl Δl Γ Δ Γ Δ (Ziq te) (Dl.Zvj fe):=fun H0 Hb H σ ρ A D I p =>
 he H0 Hb H σ ρ A _ I (Xd.imp (Xd.bind p) (fun d q v H1 g1 r=>q σ H1 A (I.mono g1)) fun c x q H' g'=>q H' (Xf.from0 I g'))
theorem Xkf(he:JE X C E Γ Δ m S e te fe)(hs:Cq e ao pos.line X.env=pure false:=by rfl):JS X C E mr Γl Δl Γ Δ Γ Δ (.Expr e pos) (Ziq te) (Dl.Zvj fe):=⟨Zkk he.q hs,Xhp he.o⟩
theorem Zo.dead{σ':St}(I:Zo K C H0 Hb H Γ Δ σ ρ A)(hσ:σ'.length=σ.length)(hk:∀k,k≠j->σ'[k]?=σ[k]?)(h1:j∉Γ)(h2:j∉Δ):Zo K C H0 Hb H Γ Δ σ' (ρ.set j C6) (fun k=>if k=j then [] else A k):=by refine⟨I.s0,I.same,by rw[Dx,hσ,I.len],fun k e h=>?_,fun k h=>?_,fun k hk a ha=>?_,fun k hk a l e=>?_,fun k hk=>?_⟩;rcases get_set h with⟨e1,_,e2⟩|⟨e1,e2⟩;cases e2;obtain⟨w,q1,q2⟩:=I.rep k e e2;exact⟨w,(hk k e1).trans q1,by rw[ae e1];exact q2⟩;by_cases e:k=j;rw[aa e];rw[ae e];exact I.nil k fun x hx=>h x (by rw[BV (fun z=>e z.symm)];exact hx);have e:k≠j:=fun z=>h1 (by rw[<- z];exact hk);rw[ae e]at ha;exact I.loc k hk a ha;have e':k≠j:=fun z=>h1 (by rw[<- z];exact hk);rw[ae e']at e;obtain⟨t1,t2,t3⟩:=I.top k hk a l e;refine⟨t1,t2,fun i hi=>?_⟩;by_cases ei:i=j;rw[aa ei];exact fun z=>nomatch z;rw[ae ei];exact t3 i hi;have e':k≠j:=fun z=>h2 (by rw[<- z];exact hk);simp only[ae e'];obtain⟨t1,t2,t3⟩:=I.deep k hk;refine⟨t1,fun i hi a ha=>?_,t3⟩;by_cases ei:i=j;rw[aa ei];exact fun z=>nomatch z;rw[ae ei];exact t2 i hi a ha
theorem Znc(val:Nat->Int):∀k j,j<=k->val (DD (fun i j=>decide (val i<val j)) k)<=val j
 |0,j,h=>by
  have e:j=0:=by omega
  subst e;exact EL _
 |k+1,j,h=>by have ih:=Znc val k;rw[DD];by_cases c:val (k+1)<val (DD (fun i j=>decide (val i<val j)) k);rw[aa (by simpa using c)];by_cases e:j=k+1;subst e;exact EL _;have:=ih j (by omega);omega;rw[ae (by simpa using c)];by_cases e:j=k+1;subst e;omega;exact ih j (by omega)
theorem Zzc(h:ns≠[]):Dl.Xkd ns∈ns/\∀n∈ns,Dl.Xkd ns<=n:=by
 cases ns with
 |nil=>exact af rfl h
 |cons x r =>
  show r.foldl min x∈_/\_;have key:∀(r:List Int) (x:Int),r.foldl min x∈x::r/\∀n∈x::r,r.foldl min x<=n:=by
   intro r
   induction r with
   |nil=>intro x;exact⟨.head _,fun n hn=>by rw[Ap.mp hn];exact EL _⟩
   |cons y r ih =>intro x;obtain⟨h1,h2⟩:=ih (min x y);refine⟨?_,fun n hn=>?_⟩;rcases Aj.mp h1 with e|e;rw[Ec,e];by_cases c:x<=y;rw[Int.min_eq_left c];exact .head _;rw[Int.min_eq_right (by omega)];exact .tail _ (.head _);exact .tail _ (.tail _ e);have h3:=h2 (min x y) (.head _);rw[Ec];rcases Aj.mp hn with rfl|hn;omega;rcases Aj.mp hn with rfl|hn;omega;exact h2 n (.tail _ hn)
  exact key r x
open Dl (FM FMT)
variable{A0:List Addr}{a:Addr}{d0:D}{v0:V}
def spM(K:AN)(C:String->Addr)(n:Nat)(G:List D->R (D×D)):Sp:=fun vs H Q E=>∃d0 ds v0 vs' A0 B,vs=v0::vs'/\ds.length=n/\Rp K C H d0 v0 A0/\A0.Nodup/\RpA K C H ds vs' B/\(∀a∈B,a∉A0)/\
 Xd (G (d0::ds)) (fun p=>∀v H' A1 Br,(∀b o,b∉A0->H b=ak o->H' b=ak o)->Rp K C H' p.2 v0 A1->A1.Nodup->(∀a∈A1,a∈A0\/H a=ao)->Rp K C H' p.1 v Br->Br.Nodup->(∀a∈Br,(a∈A0\/H a=ao)/\a∉A1)->Q v H')
  (fun c x=>∀H',(∀b o,b∉A0->H b=ak o->H' b=ak o)->EC C E c x H')
theorem Zo.deepTo(I:Zo K C H0 Hb H Γ Δ σ ρ A)(hi:i∈Δ)(hl:i<ρ.length)(hs:σ[i]?=ak (ak v))(hk:∀c o,c∉A i->H c=ak o->H' c=ak o)(r:Rp K C H' d' v A')(nd:A'.Nodup)(hA:∀a∈A',a∈A i\/(Hb a=C6/\∀j,a∉A j)):Zo K C H0 Hb H' Γ Δ σ (ρ.set i (ak d')) (fun j=>if j=i then A' else A j):=by
 obtain⟨d1,d2,d3⟩:=I.deep i hi;have hA2:∀a∈A',Hb a=C6/\∀j,j≠i->a∉A j:=fun a ha=>(hA a ha).elim (fun z=>⟨d3 a z,fun j hj=>d2 j hj a z⟩) fun z=>⟨z.1,fun j _=>z.2 j⟩;have ext:Ext (fun c=>c∈A i) H H':=fun c o h=>by by_cases e:c∈A i;obtain⟨o',ho,hm⟩:=I.is e;rw[ho]at h;cases h;exact .inr ⟨e,hm⟩;exact .inl (hk c o e h)
 refine⟨I.s0,fun c o h=>?_,by rw[Dx,I.len],fun j e h=>?_,fun j h=>?_,fun j hj c hc=>?_,fun j hj c l' e=>?_,fun j hj=>?_⟩;exact hk c o (fun z=>by rw[d3 c z]at h;cases h) (I.same c o h);rcases get_set h with⟨e1,_,e2⟩|⟨e1,e2⟩;subst e1;cases e2;exact⟨v,hs,by rw[aa rfl];exact r⟩;obtain⟨w,q1,q2⟩:=I.rep j e e2;refine⟨w,q1,?_⟩;rw[ae e1];exact q2.ext ext fun c hc z=>d2 j e1 c z hc;by_cases e:j=i;subst e;exact af (CG hl) (h d');rw[ae e];exact I.nil j fun x hx=>h x (by rw[BV (fun z=>e z.symm)];exact hx);by_cases e:j=i;subst e;rw[aa rfl]at hc;exact I.s0.free (hA2 c hc).1;rw[ae e]at hc;exact I.loc j hj c hc;by_cases e':j=i;subst e';rw[aa rfl]at e;subst e;refine⟨(hA2 c (.head _)).1,(AB.mp nd).1,fun k hk=>?_⟩;rw[ae hk];exact(hA2 c (.head _)).2 k hk;rw[ae e']at e;obtain⟨q1,q2,q3⟩:=I.top j hj c l' e;refine⟨q1,q2,fun k hk=>?_⟩;by_cases e2:k=i;subst e2;rw[aa rfl];exact fun z=>(hA2 c z).2 j e' (by rw[e];exact .head _);rw[ae e2];exact q3 k hk;by_cases e:j=i;subst e;rw[aa rfl];refine⟨nd,fun k hk a ha=>?_,fun a ha=>(hA2 a ha).1⟩;rw[ae hk];exact(hA2 a ha).2 k hk;rw[ae e];obtain⟨q1,q2,q3⟩:=I.deep j hj;refine⟨q1,fun k hk a ha=>?_,q3⟩;by_cases e2:k=i;subst e2;rw[aa rfl];exact fun z=>(hA2 a z).2 j e ha;rw[ae e2];exact q2 k hk a ha
def MOk(K:AN)(C:String->Addr)(E:XK)(Γ Δ:List Nat)(t:TE)(f:FM):Prop:=∀(H0 Hb H:Hp) (σ:St) (ρ:Xr) (A:Nat->List Addr) (Q:VK),Zo K C H0 Hb H Γ Δ σ ρ A->
 Xd (f ρ) (fun p=>∀v H' A' B,Zo K C H0 Hb H' Γ Δ σ p.2 A'->Rp K C H' p.1 v B->B.Nodup->(∀a∈B,Hb a=ao/\∀j,a∉A' j)->Q v H') (fun c x=>∀H',Xf H0 H'->EC C E c x H')->t σ H Q
def MTOk(K:AN)(C:String->Addr)(E:XK)(Γ Δ:List Nat)(t:TT)(f:FMT):Prop:=∀(H0 Hb H:Hp) (σ:St) (ρ:Xr) (A:Nat->List Addr) (Q:Bool->Hp->Prop),Zo K C H0 Hb H Γ Δ σ ρ A->
 Xd (f ρ) (fun p=>∀H' A',Zo K C H0 Hb H' Γ Δ σ p.2 A'->Q p.1 H') (fun c x=>∀H',Xf H0 H'->EC C E c x H')->t σ H Q
variable{fm:FM}
theorem Zwd(h:MOk K C E Γ Δ te fm):SOk K C E mr Γl Δl Γ Δ Γ Δ (Ziq te) (Dl.Znf fm):=fun H0 Hb H σ ρ A D I p =>
 h H0 Hb H σ ρ A _ I (Xd.imp (Xd.bind p) (fun q pq v H1 A1 B I1 r nd hB=>pq σ H1 A1 I1) fun c x q=>q)
def Znz(K:AN)(C:String->Addr)(E:XK)(Γ Δ Γ' Δ':List Nat)(t:TS)(f:FS):Prop:=∀(H0 Hb H:Hp) (σ:St) (ρ:Xr) (A:Nat->List Addr) (D:Ends),Zo K C H0 Hb H Γ Δ σ ρ A->
  Xd (f ρ) (fun fl=>match fl with
    | .nx ρ'=>∀σ' H' A',σ'[0]?=σ[0]?->Zo K C H0 Hb H' Γ' Δ' σ' ρ' A'->D.nx σ' H'
    | _=>False) (fun c x=>∀H',Xf H0 H'->EC C E c x H')->t D σ H
theorem Xcc(he:EOk K C E Γ Δ 2 [] te fe)(h0:i≠0:=by decide)(h1:∀j∈Γ',j=i\/j∈Γ:=by decide)(h2:∀j∈Δ',j=i\/j∈Δ:=by decide):Znz K C E Γ Δ Γ' Δ' (Zin te (Zam i)) (Dl.Yq i fe):=fun H0 Hb H σ ρ A D I p =>
  he H0 Hb H σ ρ A _ I (Xd.imp (Xd.bind p) (fun d q v H1 g1 r=>by
    obtain⟨B,r1,r2,r3,r4⟩:=r;have hn:∀a∈B,H a=none:=fun a ha=>(r2 a ha).elim id fun z=>z.none.elim;have nd:=r4 rfl;obtain⟨A',I',_⟩:=(I.mono g1).put (Γ':=Γ') (Δ':=Δ') (i:=i) r1 (fun j hj e=>⟨(h1 j hj).elim (fun z=>af z e) id,fun a l e' ha=>I.ne (j:=j) (by rw[e'];exact .head _) (hn a ha)⟩)
      (fun _=>⟨fun a ha=>I.s0.free (I.same.free (hn a ha)),fun a l e=>by subst e;exact⟨I.same.free (hn a (.head _)),(AB.mp nd).1,fun j _ h=>I.ne h (hn a (.head _))⟩⟩)
      (fun j hj e=>⟨(h2 j hj).elim (fun z=>af z e) id,fun a ha hB=>I.ne ha (hn a hB)⟩)
      (fun _=>⟨nd,fun j _ a ha h=>I.ne h (hn a ha),fun a ha=>I.same.free (hn a ha)⟩)
    exact q _ H1 A' (BV h0) I') fun c x q H' g'=>q H' (Xf.from0 I g'))
def MBOk(K:AN)(C:String->Addr)(E:XK)(Γ Δ:List Nat)(t:TS)(G:FM):Prop:=∀(H0 Hb H:Hp) (σ:St) (ρ:Xr) (A:Nat->List Addr) (D:Ends) (Q:VK),Zo K C H0 Hb H Γ Δ σ ρ A->D.rt=Q->(D.nx=fun _ H'=>Q .non H')->
 Xd (G ρ) (fun p=>∀v H' σ' A' B,σ'[0]?=σ[0]?->Zo K C H0 Hb H' [0] [0] σ' p.2 A'->Rp K C H' p.1 v B->B.Nodup->(∀a∈B,Hb a=ao/\∀j,a∉A' j)->Q v H') (fun c x=>∀H',Xf H0 H'->EC C E c x H')->t D σ H
theorem Xsi{t:TS}(h:Znz K C E Γ Δ Γ1 Δ1 t g)(h1:∀i∈[0],i∈Γ1:=by decide)(h2:∀i∈[0],i∈Δ1:=by decide):MBOk K C E Γ Δ t (Dl.Xlc g):=fun H0 Hb H σ ρ A D Q I e1 e2 p =>
  h H0 Hb H σ ρ A _ I (Xd.imp (Xd.bind p) (fun fl q=>by
    cases fl with
    |nx ρ'=>exact fun σ' H' A' hσ I'=>by rw[e2];exact q .non H' σ' A' [] hσ (I'.weak h1 h2) ⟨rfl,rfl⟩ Bb (fun _ h=>nomatch h)
    | _=>exact q.elim) fun c x q=>q)
theorem Xqx(r:RpA K C H ds vs B):∃A:Nat->List Addr,(∀(i:Nat) d,ds[i]?=ak d->∃v,vs[i]?=ak v/\Rp K C H d v (A i))/\(∀i,ds.length<=i->A i=[])/\∀i,∀a∈A i,a∈B:=by
 induction ds generalizing vs B with
 |nil=>exact⟨fun _=>[],fun i d h=>by simp at h,fun _ _=>rfl,fun _ _ h=>nomatch h⟩
 |cons d ds ih =>
  obtain⟨x,l,B1,B2,e1,e2,e3,e4⟩:=r;obtain⟨A,h1,h2,h3⟩:=ih e3;subst e1 e4;refine⟨fun i=>match i with|0=>B1|i+1=>A i,fun i d' h=>?_,fun i h=>?_,fun i a ha=>?_⟩;cases i with
  |zero=>simp at h;subst h;exact⟨x,rfl,e2⟩
  |succ i=>simp at h;obtain⟨v,q1,q2⟩:=h1 i d' h;exact⟨v,by simpa using q1,q2⟩
  cases i with
  |zero=>simp at h
  |succ i=>exact h2 i (by simpa using h)
  cases i with
  |zero=>exact Aq _ ha
  |succ i=>exact Ah _ (h3 i a ha)
theorem Zvf(r0:Rp K C H d0 v0 A0)(nd:A0.Nodup)(r:RpA K C H ds vs B)(hd:∀a∈B,a∉A0):∃A,Zo K C (fun b=>if b∈A0 then ao else H b) (fun b=>if b∈A0 then ao else H b) H [0] [0] ((v0::vs).map ak++Ab (N-(v0::vs).length) ao) ((d0::ds).map ak++Ab (N-(d0::ds).length) ao) A/\A 0=A0:=by
 obtain⟨A,h1,h2,h3⟩:=Xqx r;have hl:=r.len;have hne:∀j,j≠0->∀a∈A0,a∉(match j with|0=>A0|i+1=>A i):=fun j hj a ha h=>by
  cases j with
  |zero=>exact hj rfl
  |succ j=>exact hd a (h3 j a h) ha
 have h0:∀a∈A0,(if a∈A0 then ao else H a)=none:=fun a ha=>aa ha;refine⟨fun i=>match i with|0=>A0|i+1=>A i,⟨Xf.refl _,fun b o h=>?_,by simp[hl],fun i d h=>?_,fun i h=>?_,fun i hi a ha=>?_,fun i hi a l e=>?_,fun i hi=>?_⟩,rfl⟩;have h:(if b∈A0 then ao else H b)=ak o:=h;split at h;cases h;exact h;cases i with
 |zero=>simp at h;subst h;exact⟨v0,by simp,r0⟩
 |succ i =>by_cases hi:i<ds.length;rw[AM (by simpa using hi),AS,DI]at h;obtain⟨d',hd',e⟩:=AH.mp h;cases e;obtain⟨v,q1,q2⟩:=h1 i d hd';refine⟨v,?_,q2⟩;rw[AM (by simp[hl,hi]),AS,DI,q1];rfl;rw[Bs (by simpa using hi)]at h;have:=AO h;rw[Fc]at this;exact af this.2 (by intro z;cases z)
 cases i with
 |zero=>exact af (by simp) (h d0)
 |succ i =>by_cases hi:i<ds.length;refine af ?_ (h ds[i]);rw[AM (by simpa using hi),AS,DI,Ag hi];rfl;exact h2 i (by omega)
 rw[Ap.mp hi]at ha;exact h0 a ha;obtain rfl:=Ap.mp hi;have e:A0=a::l:=e;subst e;exact⟨h0 a (.head _),(AB.mp nd).1,fun j hj=>hne j hj a (.head _)⟩;obtain rfl:=Ap.mp hi;exact⟨nd,hne,h0⟩
variable{G:FM}
theorem Zwv{t:TS}{E':XK}(h:MBOk K C E [0] [0] t G)(r0:Rp K C H d0 v0 A0)(nd:A0.Nodup)(r:RpA K C H ds vs B)(hd:∀a∈B,a∉A0)(p:Xd (Dl.Xrx N G (d0::ds)) (fun p=>∀v H' A1 Br,(∀b o,b∉A0->H b=ak o->H' b=ak o)->Rp K C H' p.2 v0 A1->A1.Nodup->(∀a∈A1,a∈A0\/H a=ao)->Rp K C H' p.1 v Br->Br.Nodup->(∀a∈Br,(a∈A0\/H a=ao)/\a∉A1)->Q v H') (fun c x=>∀H',(∀b o,b∉A0->H b=ak o->H' b=ak o)->EC C E c x H')):t {nx:=fun _ H'=>Q .non H',rt:=Q} ((v0::vs).map ak++Ab (N-(v0::vs).length) ao) H:=by
  obtain⟨A,I,hA⟩:=Zvf (N:=N) r0 nd r hd;have bk:∀{H'},Xf (fun b=>if b∈A0 then ao else H b) H'->∀b o,b∉A0->H b=ak o->H' b=ak o:=fun g b o hb h=>g b o ((ae hb).trans h);have fr:∀{a},(if a∈A0 then ao else H a)=ao->a∈A0\/H a=none:=fun {a} h=>by split at h;exact .inl (by assumption);exact .inr h
  refine h _ _ H _ _ A _ Q I rfl rfl (Xd.imp (Xd.bind p) (fun q pq v H' σ' A' B' hσ I' rr ndr hB=>?_) fun c x q H' g=>q H' (bk g));split at pq;rename_i d e;obtain⟨w,hw,rw'⟩:=I'.rep 0 d e;have hw2:ak (ak w)=ak (ak v0):=by rw[<- hw,hσ];simp
  cases hw2;obtain⟨q1,q2,q3⟩:=I'.deep 0 (by simp);refine pq v H' (A' 0) B' (bk I'.same) rw' q1 (fun a ha=>fr (q3 a ha)) rr ndr fun a ha=>⟨fr (hB a ha).1,(hB a ha).2 0⟩;exact pq.elim
structure JM(X:Cx)(C:String->Addr)(E:XK)(Γ Δ:List Nat)(e:Expr)(t:TE)(f:FM):Prop where
 q:QE X e t
 o:MOk X.K C E Γ Δ t f
structure JMT(X:Cx)(C:String->Addr)(E:XK)(Γ Δ:List Nat)(e:Expr)(t:TT)(f:FMT):Prop where
 q:QT X e t
 o:MTOk X.K C E Γ Δ t f
structure JMW(X:Cx)(C:String->Addr)(E:XK)(Γ Δ:List Nat)(e:Expr)(t:TT)(f:FMT):Prop where
 q:QW X e t
 o:MTOk X.K C E Γ Δ t f
structure JP(X:Cx)(C:String->Addr)(E:XK)(Γ Δ Γ' Δ':List Nat)(s:Stmt)(t:TS)(f:FS):Prop where
 q:QS X s t
 o:Znz X.K C E Γ Δ Γ' Δ' t f
structure JMB(X:Cx)(C:String->Addr)(E:XK)(Γ Δ:List Nat)(s:List Stmt)(t:TS)(f:FM):Prop where
 q:QSs X s t
 o:MBOk X.K C E Γ Δ t f
structure MDef(P:AR)(w:Bk)(K:AN)(mg:Str->Option Value)(base:Bg)(CX:CXT)(k:Nat)(C:Addr)(x:Str)(ps:List Str)(sp:Sp):Prop where
 ex:∃f fd,Meth K C x f/\Binds K fd ps []/\Zap P w K mg base CX k f fd ps sp
structure MkDef(P:AR)(w:Bk)(K:AN)(mg:Str->Option Value)(base:Bg)(CX:CXT)(k:Nat)(C:Addr)(ps:List Str)(sp:Sp):Prop where
 ex:∃f fd,Mk K C f/\Binds K fd ps []/\Zap P w K mg base CX k f fd ps sp
variable{tm:TE}
theorem Xgq(he:JM X C E Γ Δ e tm fm)(hs:Cq e ao pos.line X.env=pure false:=by rfl):JS X C E mr Γl Δl Γ Δ Γ Δ (.Expr e pos) (Ziq tm) (Dl.Znf fm):=⟨Zkk he.q hs,Zwd he.o⟩
variable{s:Stmt}{u:TS}
theorem Xuc(h:JP X C E Γ Δ Γ1 Δ1 s u g)(h1:∀i∈[0],i∈Γ1:=by decide)(h2:∀i∈[0],i∈Δ1:=by decide):JMB X C E Γ Δ [s] u (Dl.Xlc g):=⟨Zpu h.q,Xsi h.o h1 h2⟩
variable{p':Pos}
theorem Xxi(hN:X.N.Nodup)(hi:X.N[i]?=ak x)(hx:Loc X.env.scope x)(he:JE X C E Γ Δ 2 [] e te fe)(h0:i≠0:=by decide)(hs:Cq e (ak (.Name x p')) pos.line X.env=pure false:=by rfl)(hf:autoParam (X.fn x=aq\/X.env.scope.names.lookup x=ak .local) aT0._auto_1)
  (h1:∀j∈Γ',j=i\/j∈Γ:=by decide) (h2:∀j∈Δ',j=i\/j∈Δ:=by decide):JP X C E Γ Δ Γ' Δ' (.Assign [.Name x p'] e pos) (Zin te (Zam i)) (Dl.Yq i fe):=⟨Zwy hN hi hx he.q hs hf,Xcc he.o h0 h1 h2⟩
variable{s:Af}
theorem Fun.okM{base:Bg}{st:Stmt}{f:Addr}{N:List Str}{k:Nat}(F:Fun K x qual st f fd)(S:Xc N ps (Zh st))(hn:ps.length=n+1)(hbody:∀(cdv:Value) (A:Ba) (outer:List Env) (s:Af) (H:Hp) (E:XK),Zcd k (A.deeper (DT qual (Zh st) s.heap.objs.size f cdv))->∃t,JMB (Zmw CX0 P w K mg base N qual (Zh st) f cdv A outer s H E).nox C E0 [0] [0] (Jh st) t G):Zap P w K mg base CX0 (k+1) f fd ps (spM K C n fun ds=>(Dl.Xrx N.length G ds).calm):=
  F.okQ S (fun vs H Q E h=>by
    obtain ⟨d0,ds,v0,vs',A0,B,rfl,h1,_,_,h2,_⟩:=h;rw [BK,h2.len,h1,hn]) fun cdv A outer s H vs Q E hr h=>by
    obtain⟨d0,ds,v0,vs',A0,B,rfl,h1,r0,nd,r,hd,p⟩:=h;obtain⟨t,ht⟩:=hbody cdv A outer s H E hr;exact⟨t,ht.q,Zwv (K:=K) (E':=E) ht.o r0 nd r hd (Xd.imp (Zbi p) (fun _ q=>q) fun _ _ z=>z.elim)⟩
variable{P:List Value->Prop}
theorem allN0(h:P []):∀us:List Value,us.length=0->P us
 |[],_=>h
theorem Xqm(h:∀a0,P [a0])(us:List Value)(hl:us.length=1):P us:=by
 cases us with
 |nil=>exact af hl (by decide)
 |cons a us=>exact allN0 (P:=fun z=>P (a::z)) (h a) us (BX hl)
theorem Zlt(h:∀a0 a1,P [a0,a1])(us:List Value)(hl:us.length=2):P us:=by
 cases us with
 |nil=>exact af hl (by decide)
 |cons a us=>exact Xqm (P:=fun z=>P (a::z)) (h a) us (BX hl)
theorem Zfh(h:∀a0 a1 a2,P [a0,a1,a2])(us:List Value)(hl:us.length=3):P us:=by
 cases us with
 |nil=>exact af hl (by decide)
 |cons a us=>exact Zlt (P:=fun z=>P (a::z)) (h a) us (BX hl)
theorem Xsv(h:∀a0 a1 a2 a3,P [a0,a1,a2,a3])(us:List Value)(hl:us.length=4):P us:=by
 cases us with
 |nil=>exact af hl (by decide)
 |cons a us=>exact Zfh (P:=fun z=>P (a::z)) (h a) us (BX hl)
theorem Xqq(h:∀a0 a1 a2 a3 a4,P [a0,a1,a2,a3,a4])(us:List Value)(hl:us.length=5):P us:=by
 cases us with
 |nil=>exact af hl (by decide)
 |cons a us=>exact Xsv (P:=fun z=>P (a::z)) (h a) us (BX hl)
variable{XP:(Str->Option Value)->Bg->Prop}{as:List Addr}{kwd:List (Str×Expr)}{loose:List Str}
theorem Xee{K:Params->AN}{t:Nat}{r:PySem.W.RowW}{d:DefRec}{run:Value->List Value->Sem Value}(e:∀P,as=(K P).map (·.1))(W:PySem.W.WalkO q loose XP (PySem.W.InK K) r d kwd run):PySem.W.WalkX q loose XP (PySem.W.X.obsZ as) (PySem.W.X.valZ K n t) r d kwd run:=
 fun w s₀ s₁ mg mb G y a o pm cd doc dV kV ho hd hcd hD hmg hg args vals as' L hpre hlay hrd hwl hlo =>
  W w s₀ s₁ mg mb G (PySem.W.InK.keeps w _ _ (PySem.W.X.z_facts e y).2.1 (PySem.W.Laid.keeps L)) a o pm cd doc dV kV ho hd hcd hD hmg hg args vals as' hpre hlay hrd hwl hlo
variable{bm:List Value}
def Xyb(K:AN)(C:Addr)(bmB:List Value)(newId:String)(fI:Addr):Bool:=match K.lookup C with
  | some ⟨.type "type",_,.cls cd,sl⟩=>(match cd.mro,sl.toList with
    | .ref C'::bm,[_,_,_,_,ak (.builtin n),_]=>C'==C&&n==newId&&!cd.hasDel&&cd.hasDict&&PySem.W.tailIn K bmB bm&&PySem.W.nsOkIn K cd.ns&&Cr K cd.ns "__init__"==ak (ak (.ref fI))
    | _,_=>ar)
  |_=>ar
end L2
namespace L2
open PySem PySem.Spec PyProof.Rows
open PySem.W (Looks)
open Builtin Builtin.ObjectAttr
end L2
namespace L2
open PySem PySem.Spec PyProof.Rows
open PySem.W (Looks)
open Dl (D R FE FT FA FO FS FI FB Fl)
structure ErrF(K:AN)(C:Addr)(nm:Str)(fI:Addr):Prop where
 exc:Xyb K C bmV "ValueError.__new__" fI=aq
 sa:CK K (.ref C) "__setattr__"=ak (ak (.builtin "object.__setattr__"))
 nf:CK K (.ref C) nm=ak ao
 hd:PySem.W.hasDictIn K C=aq
variable{h:Bg}
def exA(e C:Addr)(dx:Option Addr):HO:=.ext fun h=>∃t sl,h.get? e=ak {cls:=.ref C,dict:=dx,data:=.fields #[.ref t,.none,.none,.none,.bool ar,.none],slots:=sl}
structure BaseI(K:AN)(B:Addr):Prop where
 sp:IW K (.ref B) "__getattribute__"=ak (ak (.builtin "type.__getattribute__"))
 rd:PySem.W.readsIn K B (.type "type")=aq
 fc:PySem.W.findCls K (.ref B) (.type "type") "__init__"=ak (.val (.builtin "ValueError.__init__"))
variable{C:String->Addr}{H:Hp}{d:LA}{e:Expr}{i:Nat}{vs:Array Value}
def Xur(K:AN)(nm:Str):Sp:=fun vs H Q _=>∃e C i fI,vs=[.ref e,.int i]/\H e=ak (exA e C ao)/\ErrF K C nm fI/\i.natAbs.log2<1920/\∀d,H d=ao->Q .non (upd (upd H d (.xd [(nm,.int i)])) e (exA e C (ak d)))
structure IDef(P:AR)(w:Bk)(K:AN)(mg:Str->Option Value)(base:Bg)(C:Addr)(nm:Str):Prop where
 ex:∃fI fd ps,ErrF K C nm fI/\Fw K (.ref fI)=ak (.type "function")/\ps.length=2/\Binds K fd ps []/\Zap P w K mg base CX0 1 fI fd ps (Xur K nm)
def Xfb(i j:Int):Prop:=i.natAbs<2^4000/\j.natAbs<2^4000
theorem Xfb.ok{i j:Int}(h:Xfb i j):IntMulOk i j:=PySem.IntMulOk.of_le (PySem.intBits_le_iff.mpr h.1) (PySem.intBits_le_iff.mpr h.2) (by decide)
variable{x:Str}{y:D}
def ipM:TIp:=fun x y H Q=>∃i j,x=.int i/\y=.int j/\Xfb i j/\Q (.int (i*j)) H
variable{X:Cx}
theorem Xkk:PIp X .Mult ipM:=by intro pins s σ H x y v u Q I r1 r2 h;obtain⟨i,j,e1,e2,hc,q⟩:=h;subst e1;subst e2;obtain⟨t,rfl⟩:=r1;obtain⟨t',rfl⟩:=r2;exact imul_int ⟨.int _,H,I.tok _,⟨_,rfl⟩,q⟩ hc.ok
theorem Xqk{x d:D}(e:Dl.Ztm x y=ak d):∃i j,x=.int i/\y=.int j/\Xfb i j/\d=.int (i*j):=by unfold Dl.Ztm at e;split at e;split at e;rename_i h;cases e;exact⟨_,_,rfl,rfl,h,rfl⟩;cases e;cases e
variable{E:XK}{K:AN}{S:List (Nat×Bool)}{fe:FE}{m mr:Nat}{te:TE}{Γ Γ' Γl Δ Δ' Δl:List Nat}
theorem Xcu(he:EOk K C E Γ Δ m S te fe)(h1:∀j∈Γ',j=i\/j∈Γ:=by decide)(h2:∀j∈Δ',j=i\/j∈Δ:=by decide) :
  SOk K C E mr Γl Δl Γ Δ Γ' Δ' (tAug i te ipM) (Dl.Xma i Dl.Ztm fe):=fun H0 Hb H σ ρ A D I p=>by
 unfold Dl.Xma at p;split at p;rename_i x e;obtain⟨v,e1,r⟩:=I.rep i x e;refine⟨v,e1,he H0 Hb H σ ρ A _ I (Xd.imp (Xd.bind p) (fun y q w H1 g1 r1=>?_) fun c x q H' g'=>q H' (Xf.from0 I g'))⟩;obtain⟨z,ez,q⟩:=Zbm (Xd.bind q);obtain⟨B,r1,_⟩:=r1;obtain⟨k,l,rfl,rfl,hc,rfl⟩:=Xqk ez;obtain⟨rfl,_⟩:=r;obtain⟨rfl,_⟩:=r1;obtain⟨A',I',_⟩:=(I.mono g1).put (Γ':=Γ') (Δ':=Δ') (i:=i) (d:=.int (k*l)) (v:=.int (k*l)) (B:=[]) rpI (fun j hj e=>⟨(h1 j hj).elim (fun z=>af z e) id,fun _ _ _ z=>nomatch z⟩)
  (fun _=>⟨(fun _ z=>nomatch z),(fun _ _ z=>nomatch z)⟩) (fun j hj e=>⟨(h2 j hj).elim (fun z=>af z e) id,fun _ _ z=>nomatch z⟩) (fun _=>⟨Bb,(fun _ _ _ z=>nomatch z),(fun _ z=>nomatch z)⟩)
 exact⟨k,l,rfl,rfl,hc,q _ H1 A' I'⟩;exact p.elim
variable{pos pos':Pos}
theorem Xmv(hN:X.N.Nodup)(hi:X.N[i]?=ak x)(hx:Loc X.env.scope x)(he:JE X C E Γ Δ m S e te fe)
  (hf:autoParam (X.fn x=aq\/X.env.scope.names.lookup x=ak .local) aT0._auto_1) (h1:∀j∈Γ',j=i\/j∈Γ:=by decide) (h2:∀j∈Δ',j=i\/j∈Δ:=by decide):JS X C E mr Γl Δl Γ Δ Γ' Δ' (.AugAssign (.Name x pos') .Mult e pos) (tAug i te ipM) (Dl.Xma i Dl.Ztm fe):=⟨Xtn hN hi hx he.q Xkk hf,Xcu he.o h1 h2⟩
variable{c:Expr}
structure Clz where
 c:Value
 i:Option Nat
 th:TS
variable{b₀:Stmt}{hs:List Ej}{n:Nat}{np:Pos}{suite:List Stmt}{zs:List Clz}
inductive PClz(X:Cx):List Ej->List Clz->Prop
 |nil:PClz X [] []
 |named {c n:Str} {np hpos:Pos} {C:Addr} {b₀:Stmt} {suite:List Stmt} {i:Nat} {th:TS} {hs:List Ej} {zs:List Clz} (hm:X.mg c=ak (.ref C)) (hg:Gl X c) (hdb:(c==("__debug__":Str))=ar) (hi:X.N[i]?=ak n) (hl:X.env.scope.names.lookup n=ak .local)
   (hh:∀e:Addr,PSs (X.hand e) (b₀::suite) th) (hr:PClz X hs zs):PClz X (.ExceptHandler (ak (.Name c np)) (ak n) (b₀::suite) hpos::hs) (⟨.ref C,ak i,th⟩::zs)
 |plain {c:Str} {np hpos:Pos} {C:Addr} {b₀:Stmt} {suite:List Stmt} {th:TS} {hs:List Ej} {zs:List Clz} (hm:X.mg c=ak (.ref C)) (hg:Gl X c) (hdb:(c==("__debug__":Str))=ar)
   (hh:∀e:Addr,PSs (X.hand e) (b₀::suite) th) (hr:PClz X hs zs):PClz X (.ExceptHandler (ak (.Name c np)) ao (b₀::suite) hpos::hs) (⟨.ref C,ao,th⟩::zs)
variable{ds:List (List (String×Bool)×Option Nat×FS)}{p:Pos}{tb:TE}
inductive OClz(K:AN)(C:String->Addr)(N mr:Nat)(Γl Δl Γ1 Δ1:List Nat):List Clz->List (List (String×Bool)×Option Nat×FS)->Prop
 |nil:OClz K C N mr Γl Δl Γ1 Δ1 [] []
 |named {c:Addr} {i:Nat} {th:TS} {fh:FS} {tb:List (String×Bool)} {Γ2 Δ2:List Nat} {Eh:XK} {zs:List Clz} {ds:List (List (String×Bool)×Option Nat×FS)} (ht:∀p∈tb,Hq K (.ref (C p.1)) (.ref c)=ak p.2) (hi:i<N) (hh:SOk K C Eh mr [] [] [] [] Γ2 Δ2 th fh)
   (hr:OClz K C N mr Γl Δl Γ1 Δ1 zs ds):OClz K C N mr Γl Δl Γ1 Δ1 (⟨.ref c,ak i,th⟩::zs) ((tb,ak i,fh)::ds)
 |plain {c:Addr} {th:TS} {fh:FS} {tb:List (String×Bool)} {Eh:XK} {zs:List Clz} {ds:List (List (String×Bool)×Option Nat×FS)} (ht:∀p∈tb,Hq K (.ref (C p.1)) (.ref c)=ak p.2) (hh:SOk K C Eh mr Γl Δl [] [] Γ1 Δ1 th fh)
   (hr:OClz K C N mr Γl Δl Γ1 Δ1 zs ds):OClz K C N mr Γl Δl Γ1 Δ1 (⟨.ref c,ao,th⟩::zs) ((tb,ao,fh)::ds)
variable{o:Expr}
inductive JClz(X:Cx)(C:String->Addr)(mr:Nat)(Γl Δl Γ1 Δ1:List Nat):List Ej->List Clz->List (List (String×Bool)×Option Nat×FS)->Prop
 |mk {hs:List Ej} {zs:List Clz} {ds:List (List (String×Bool)×Option Nat×FS)} (p:PClz X hs zs) (o:OClz X.K C X.N.length mr Γl Δl Γ1 Δ1 zs ds):JClz X C mr Γl Δl Γ1 Δ1 hs zs ds
variable{a:Expr}{v:V}
def Xbt:V->V->V->Hp->(Hp->Prop)->Prop:=fun o i v H Q=>∃a H4,o=.ref a/\Xre H a i v H4/\Q H4
theorem set_dict(hu:X.A.units+64<BE):PSet X Xbt:=by intro pins s σ H o i v ov iv u Q I ro ri rv h;obtain⟨a,H4,rfl,g,q⟩:=h;cases (show ov=AQ a from ro);exact Xai (by omega) I g ri rv fun s4 I4=>⟨H4,I4,q⟩
variable{B:List Addr}
theorem Xra{x:D}{k:Int ⊕ Str}(e:Dl.keyD x=ak k)(r:Rp K C H x v B):v=kV k:=by
 cases x with
 |int i=>cases e;exact r.1
 |str z=>cases e;exact r.1
 |_=>cases e
theorem RpA.snoc0{d:D}{v:V}(r:Rp K C H d v []):∀{ds:List D} {xs:List V},RpA K C H ds xs []->RpA K C H (ds++[d]) (xs++[v]) []
 |[],xs,q=>by rw[q.1];exact⟨v,[],[],[],rfl,r,RpA.nil,rfl⟩
 |x::ds,xs,q=>by obtain⟨y,l,B,B',e1,e2,e3,e4⟩:=q;obtain⟨rfl,rfl⟩:=Fa.mp e4.symm;subst e1;exact⟨y,_,[],[],rfl,e2,RpA.snoc0 r e3,rfl⟩
abbrev TX:=Str->St->Hp->VK->Prop
variable{pins:List (Addr×Obj)}{s:Af}{σ:St}
def PX(X:Cx)(es:List Expr)(t:TX):Prop:=
 ∀(out:Str) (pins:List (Addr×Obj)) (s:Af) (σ:St) (H:Hp) (Q:VK),Inv X pins σ H s->out.length+2000*es.length<=Ar->t out σ H Q->
  Ak (Aw X.prog X.w) X.A (joinParts out (evalEach es X.env)) (EP X pins σ Q) X.xe s
variable{A:Ba}{ρ:Dl.Env}
def XOk(K:AN)(C:String->Addr)(E:XK)(Γ Δ:List Nat)(t:TX)(f:FA):Prop:=∀(H0 Hb H:Hp) (σ:St) (ρ:Dl.Env) (A:Nat->List Addr) (Q:VK) (out:Str),Di out=aq->Zo K C H0 Hb H Γ Δ σ ρ A->
 Xd ((f ρ).bind fun xs=>Dl.oR (Dl.catO out xs)) (fun d=>∀v H',Xf H H'->Res K C 2 [] H A d v H'->Q v H') (fun c x=>∀H',Xf H H'->EC C E c x H')->t out σ H Q
structure JX(X:Cx)(C:String->Addr)(E:XK)(Γ Δ:List Nat)(es:List Expr)(t:TX)(f:FA):Prop where
 q:PX X es t
 o:XOk X.K C E Γ Δ t f
theorem Zso:∀{ds:List D} {k:List (Int ⊕ Str)} {vs:List V} {B:List Addr},Dl.Zuf ds=ak k->RpA K C H ds vs B->vs=k.map kV
 |[],k,vs,B,e,r=>by cases e;exact r.1
 |d::ds,k,vs,B,e,r=>by obtain⟨j,e1,e⟩:=A7.mp (show((Dl.keyD d).bind fun k=>(Dl.Zuf ds).bind fun ks=>ak (k::ks))=ak k from e);obtain⟨js,e2,e⟩:=A7.mp e;cases e;obtain⟨x,l,B1,B2,rfl,h1,h2,_⟩:=r;rw[Xra e1 h1,Zso e2 h2];rfl
variable{b:Expr}
theorem Zdr{k:List (Int ⊕ Str)}(e:Dl.Ztc y=ak k)(r:Rp K C H y v B):∃b,v=.ref b/\H b=ak (.tup (k.map kV)):=by
 cases y with
 |tup ds =>obtain⟨a,xs,rfl,h1,h2⟩:=r;refine⟨a,rfl,?_⟩;rw[h1,Zso e h2]
 |_=>cases e
variable{ks:List (List (Int ⊕ Str))}
theorem Zey{k:List (Int ⊕ Str)}:∀{ks:List (List (Int ⊕ Str))} {xs:List V},ks.length=xs.length->((ks.zip xs).any fun kv=>decide (kv.1=k))=Dl.Xgd ks k
 |[],_,_=>rfl
 |j::ks,[],h=>by cases h
 |j::ks,x::xs,h=>by have:=Zey (k:=k) (ks:=ks) (xs:=xs) (by simpa using h);unfold Dl.Xgd at *;rw[Cp,Gm,Gm,this]
theorem Zvv{k:List (Int ⊕ Str)}:∀{ks:List (List (Int ⊕ Str))} {ds:List D} {xs:List V},RpA K C H ds xs []->Dl.Zr ds=aq->match Dl.tAt ks ds k with
  |some d=>∃v,Zoz (ks.zip xs) k=ak v/\Rp K C H d v []/\Dl.flat d=aq
  |none=>Zoz (ks.zip xs) k=ao
 |[],ds,xs,_,_=>by cases ds<;>rfl
 |j::ks,[],xs,q,_=>by rw[q.1];rfl
 |j::ks,x::ds,xs,q,h=>by obtain⟨y,l,B,B',e1,e2,e3,e4⟩:=q;simp only[Dl.Zr,AC]at h;subst e1;have z:=e2.flat h.1;subst z;rw[Dl.tAt];by_cases e:j=k;rw[aa e];exact⟨y,Zdy e,e2,h.1⟩;rw[ae e,Cp,Zew e];exact Zvv (e3.flat' h.2) h.2
theorem Xfy:EOk K C E Γ Δ 2 [] Xco (Dl.fC (.dtt [] [])):=fun H0 Hb H σ ρ A Q I p q hp=>by
 refine p _ _ (sameNew hp _) ⟨[q],⟨q,[],[],rfl,Zw,rfl,RpA.nil,rfl⟩,fun a ha=>?_,fun z=>by omega,fun _=>AB.mpr ⟨(fun z=>nomatch z),Bb⟩⟩;have:a=q:=by simpa using ha
 subst this;exact .inl hp
theorem Zkl{k:List (Int ⊕ Str)}{v:V}:∀{ks:List (List (Int ⊕ Str))} {xs:List V},ks.length=xs.length->(ks.zip xs).map (fun kv=>if kv.1=k then (kv.1,v) else kv)=ks.zip (A8 (fun j x=>if j=k then v else x) ks xs)
 |[],_,_=>rfl
 |j::ks,[],h=>by cases h
 |j::ks,x::xs,h=>by have:=Zkl (k:=k) (v:=v) (ks:=ks) (xs:=xs) (by simpa using h);rw[Cp,AZ,this,DP,Cp];congr 1;by_cases e:j=k;simp[e];simp[e]
theorem RpA.replT{k:List (Int ⊕ Str)}{d:D}{v:V}(r:Rp K C H d v []):∀{ks:List (List (Int ⊕ Str))} {ds:List D} {xs:List V},RpA K C H ds xs []->Dl.Zr ds=aq->RpA K C H (A8 (fun j x=>if j=k then d else x) ks ds) (A8 (fun j x=>if j=k then v else x) ks xs) []
 |[],ds,xs,_,_=>by cases ds<;>cases xs<;>exact RpA.nil
 |j::ks,[],xs,q,_=>by rw[q.1];exact RpA.nil
 |j::ks,x::ds,xs,q,h=>by obtain⟨y,l,B,B',e1,e2,e3,e4⟩:=q;simp only[Dl.Zr,AC]at h;subst e1;have z:=e2.flat h.1;subst z;refine⟨_,_,[],[],rfl,?_,RpA.replT r (e3.flat' h.2) h.2,rfl⟩;show Rp K C H (if j=k then d else x) (if j=k then v else y) [];by_cases e:j=k;rw[aa e,aa e];exact r;rw[ae e,ae e];exact e2
theorem Zgr{H0 Hb:Hp}{A:Nat->List Addr}{ds:List D}(I:Zo K C H0 Hb H Γ Δ σ ρ A)(e:ρ[i]?=ak (ak (.dtt ks ds))):∃a xs l,σ[i]?=ak (ak (.ref a))/\H a=ak (.dT (ks.zip xs))/\ks.length=ds.length/\RpA K C H ds xs l/\A i=a::l/\i<ρ.length:=by obtain⟨v,h1,h2⟩:=I.rep i _ e;obtain⟨a,xs,B,rfl,h3,h4,h5,h6⟩:=h2;exact⟨a,xs,B,h1,h3,h4,h5,h6,(Am.mp e).1⟩
variable{S1 S2:List (Nat×Bool)}{fk:FE}{m1 m2:Nat}{tk:TE}
theorem Xga(hi:i∈Γ:=by decide)(he:EOk K C E Γ Δ m1 S1 te fe)(hk:EOk K C E Γ Δ m2 S2 tk fk):SOk K C E mr Γl Δl Γ Δ Γ Δ (Zin te (Zia (Zil i) tk Xbt)) (Dl.Zme i fk fe):=fun H0 Hb H σ ρ A D I p=>by
 refine he H0 Hb H σ ρ A _ I (Xd.imp (Xd.bind p) (fun d q v H1 g1 r=>?_) fun c x q H' g'=>q H' (Xf.from0 I g'));have I1:=I.mono g1;split at q;rename_i ks ds e;obtain⟨a,xs,l,s1,h1,h2,r1,hA,hl⟩:=Zgr I1 e;refine⟨.ref a,s1,hk H0 Hb H1 σ ρ A _ I1 (Xd.imp (Xd.bind q) (fun z q w H2 g2 rz=>?_) fun c x q H' g'=>q H' (Xf.from0 I1 g'))⟩;obtain⟨Bz,rz,_⟩:=rz;obtain⟨B,rd,_⟩:=r;split at q;rename_i k hk;split at q;rename_i hf;obtain⟨b,rfl,hb⟩:=Zdr hk rz;have zB:=rd.flat hf.1;subst zB;have hx:ks.length=xs.length:=by rw[h2,r1.len]
 have r2:=(r1.same g2).flat' hf.2.1;have rd2:=rd.same g2;have I2:=I1.mono g2;refine⟨a,_,rfl,Xre.t (g2 _ _ h1) hb (Ew (by rw[Fz];exact Fi _ _) (Zes hf.2.2)),?_⟩;unfold Dl.Xrp at q;unfold putK;rw[Zey hx];split at q;rename_i hh;rw[aa hh,Zkl hx];obtain⟨A',I'⟩:=I2.writeO (Γ':=Γ) (Δ':=Δ) (o':=.dT (ks.zip (A8 (fun j x=>if j=k then v else x) ks xs))) (d':=.dtt ks (A8 (fun j x=>if j=k then d else x) ks ds)) hi hA hl s1 (fun H' q1 q2=>⟨a,_,_,rfl,q1,by rw[Cy,h2,HW],q2,rfl⟩) (RpA.replT rd2 r2 hf.2.1) (fun _ z=>nomatch z) (fun z=>nomatch z) (fun j hj _=>⟨hj,fun _ _ _ z=>nomatch z⟩) (fun j hj _=>⟨hj,fun _ _ z=>nomatch z⟩) (fun _=>⟨Bb,(fun _ _ _ z=>nomatch z),(fun _ z=>nomatch z)⟩);exact q _ _ A' I';rename_i hh;rw[ae hh,show ks.zip xs++[(k,v)]=(ks++[k]).zip (xs++[v]) by rw[GR hx];rfl];obtain⟨A',I'⟩:=I2.writeO (Γ':=Γ) (Δ':=Δ) (o':=.dT ((ks++[k]).zip (xs++[v]))) (d':=.dtt (ks++[k]) (ds++[d])) hi hA hl s1 (fun H' q1 q2=>⟨a,_,_,rfl,q1,by simp[h2],q2,rfl⟩) (RpA.snoc0 rd2 r2) (fun _ z=>nomatch z) (fun z=>nomatch z) (fun j hj _=>⟨hj,fun _ _ _ z=>nomatch z⟩) (fun j hj _=>⟨hj,fun _ _ z=>nomatch z⟩) (fun _=>⟨Bb,(fun _ _ _ z=>nomatch z),(fun _ z=>nomatch z)⟩);exact q _ _ A' I';exact q.elim;exact q.elim;exact q.elim
theorem Xoh{td ty:TE}{fd fy:FE}(hd:EOk K C E Γ Δ m1 S1 td fd)(hy:EOk K C E Γ Δ m2 S2 ty fy):EOk K C E Γ Δ 2 [] (Zyz td ty) (Dl.f2 Dl.Xri fd fy):=
  fun H0 Hb H σ ρ A Q I p=>hd H0 Hb H σ ρ A _ I (p.bind.imp (fun d q vd H1 g1 r1=>hy H0 Hb H1 σ ρ A _ (I.mono g1) (q.bind.imp (fun y q vy H2 g2 r2=>by
    obtain⟨z,e,q2⟩:=Zbm q;obtain⟨Bd,r1,_⟩:=r1;obtain⟨By,r2,_⟩:=r2;cases d with
    |dtt ks ds =>have e:(if Dl.Zr ds then (Dl.Ztc y).bind fun k=>Dl.tAt ks ds k else ao)=ak z:=e;split at e;rename_i hf;obtain⟨k,hk,e⟩:=A7.mp e;obtain⟨a,xs,B,rfl,h1,h2,h3,_⟩:=r1;obtain⟨b,rfl,hb⟩:=Zdr hk r2;have hv:=Zvv (ks:=ks) (k:=k) ((h3.same g2).flat' hf) hf;rw[e]at hv;obtain⟨v,v1,v2,_⟩:=hv;refine⟨a,v,rfl,?_,q2 v H2 (g1.trans g2) (Res.flat v2)⟩;rw[<- v1];exact Zuz.t (g2 _ _ h1) hb;cases e
    | _=>cases e) fun c x q H' g'=>q H' (g1.trans g'))) fun c x q H' g'=>q H' g')
theorem Xoy:JE X C E Γ Δ 2 [] (.Dict [] [] pos) Xco (Dl.fC (.dtt [] [])):=⟨⟨Xdt⟩,Xfy⟩
variable{fa fb:FE}{ta:TE}
theorem Xvy(ha:JE X C E Γ Δ m1 S1 a ta fa)(hb:JE X C E Γ Δ m2 S2 b tb fb)(hu:X.A.units+64<BE)(hs:NoSl b:=by intro _ _;rfl):JE X C E Γ Δ 2 [] (.Subscript a b pos) (Zyz ta tb) (Dl.f2 Dl.Xri fa fb):=⟨⟨Zvs (by omega) ha.q.out hb.q.out hs⟩,Xoh ha.o hb.o⟩
variable{kx:Expr}{p2:Pos}
theorem Xqd(hi:i∈Γ:=by decide)(hN:X.N[i]?=ak x:=by rfl)(hv:autoParam (Vis X.env.scope x) aT3._auto_1)(hd:(x==("__debug__":Str))=false:=by decide)(hcd:(x==("__classdict__":Str))=false:=by decide)
    (he:JE X C E Γ Δ m1 S1 e te fe) (hk:JE X C E Γ Δ m2 S2 kx tk fk) (hs:Ef [.Subscript (.Name x p) kx p2] e pos.line X.env=pure false:=by rfl) (hw:Eg [.Subscript (.Name x p) kx p2] e X.env=pure none:=by rfl) (h1:(AW [.Subscript (.Name x p) kx p2] X.env).map (·.2)=[CL (.Subscript (.Name x p) kx p2) X.env]:=by rfl)
    (hq:∀v,CL (.Subscript (.Name x p) kx p2) X.env v=(do
      let ov <- B6 [v] (A6 (.Name x p) X.env)
      let iv <- B6 [v,ov] (A6 kx X.env)
      E4 p2
      B6 [v,ov,iv] (G1 ov iv v)
      J9 [v,ov,iv] []):=by intro _;rfl) (hu:X.A.units+64<BE) :
    JS X C E mr Γl Δl Γ Δ Γ Δ (.Assign [.Subscript (.Name x p) kx p2] e pos) (Zin te (Zia (Zil i) tk Xbt)) (Dl.Zme i fk fe):=⟨Zri he.q (Xby (qv i hN hv hd hcd) hk.q (set_dict hu) hq) hs hw h1,Xga hi he.o hk.o⟩
end L2
namespace L2
open PySem PyProof.Rows
variable{E:Value->Af->Prop}{Q:Option Bool->C4->Prop}{x y:AL}
structure Ask(prog:AR)(w:Bk)(A:Ba)(s:Af)(κ:Gn)(P:AL->Prop)(r:AL->AL->Bool)(lat:AL->AL->Prop:=fun _ _=>True):Prop where
 run:∀{x y:AL} {Q:Bool->Af->Prop} {E:Value->Af->Prop},P x->P y->lat x y->Q (r x y) s->Ak (Aw prog w) A (keyLt' κ x.1 y.1) Q E s
 tr:∀{x y z:AL},P x->P y->P z->r y x=ar->r z y=ar->r z x=ar
 as:∀{x y:AL},P x->P y->r x y=aq->r y x=ar
variable{A:Ba}{P:AL->Prop}{lat:AL->AL->Prop}{prog:AR}{r:AL->AL->Bool}{s:Af}{st:C4}{w:Bk}{κ:Gn}
theorem Xwl(K:Ask prog w A s κ P r lat)(hk:CU st=κ)(hx:P x)(hy:P y)(h:Q (ak (r x y)) st)(hl:lat x y:=by trivial):wpS (Aw prog w) A E s (lt' x y) Q st:=by rw[lt'_eq];refine Be (HK ?_);rw[hk];exact Be (Mf (DL (K.run hx hy hl ⟨rfl,BR h⟩)))
variable{arr:Array AL}{i:Nat}
theorem Zsp{Q:AL->C4->Prop}(e:arr[i]?=ak x)(h:Q x st):wpS (Aw prog w) A E s (elem' arr i) Q st:=by rw[elem'_eq,e];exact BR h
def Up(r:AL->AL->Bool)(l:List AL):Prop:=l.Pairwise fun x y=>r y x=ar
structure MI(r:AL->AL->Bool)(a b out:List AL)(ia ib:Nat):Prop where
 pm:out.Perm (a.take ia++b.take ib)
 so:Up r out
 le:∀x∈out,∀y,(y∈a.drop ia\/y∈b.drop ib)->r y x=ar
structure MJ(r:AL->AL->Bool)(a b out:List AL)(na nb:Nat):Prop where
 pm:out.Perm (a.drop na++b.drop nb)
 so:Up r out
 le:∀x∈out,∀y,(y∈a.take na\/y∈b.take nb)->r x y=ar
variable{a:Array AL}
structure SG(st st':C4):Prop where
 k:CU st'=CU st
 a:AF st'=AF st
 p:Da st'=Da st
 f:D4 st'=D4 st
theorem Ask.ir(K:Ask prog w A s κ P r lat)(hx:P x):r x x=false:=by
 cases e:r x x with
 |false=>rfl
 |true=>rw[K.as hx hx e]at e;cases e
variable{c:Prop}{α:Type}
theorem Zbn[Decidable c]{x y:StateT C4 Sem α}{Q:α->C4->Prop}(h1:c->wpS (Aw prog w) A E s x Q st)(h2:¬c->wpS (Aw prog w) A E s y Q st):wpS (Aw prog w) A E s (if c then x else y) Q st:=by by_cases h:c;rw[aa h];exact h1 h;rw[ae h];exact h2 h
variable{n:Nat}
theorem nbeq{m:Nat}(h:¬(m==n)=aq):m≠n:=fun z=>h (by rw[z];exact beq_self_eq_true _)
variable{j:Nat}
theorem Xgv(K:Ask prog w A s κ P r)(hk:CU st=κ)(hi:(AF st)[i]?=ak x)(hj:(AF st)[j]?=ak y)(hx:P x)(hy:P y)(h:Q (ak (r x y)) st):wpS (Aw prog w) A E s (ltAt' i j) Q st:=by rw[ltAt'_eq];exact Be (HK (Be (Zsp hi (Be (Zsp hj (Xwl K hk hx hy h))))))
structure SC(κ:Gn)(lo:Nat)(st st':C4):Prop where
 k:CU st'=κ
 f:D4 st'=ao
 p:Da st'=Da st
 m:(AF st').Perm (AF st)
 o:∀i,i<lo->(AF st')[i]?=(AF st)[i]?
theorem SC.size{lo:Nat}{st st':C4}(c:SC κ lo st st'):(AF st').size=(AF st).size:=c.m.size_eq
variable{lo:Nat}{st':C4}
theorem SC.put(c:SC κ lo st st')(hm:a.Perm (AF st'))(ho:∀i,i<lo->a[i]?=(AF st')[i]?):SC κ lo st (Lc st' a):=⟨c.k,c.f,c.p,hm.trans c.m,fun i hi=>(ho i hi).trans (c.o i hi)⟩
def gx(d0:AL)(lo:Nat)(a:Array AL)(i:Nat):AL:=(a[lo+i]?).getD d0
variable{d0:AL}
theorem Xkv(h:lo+i<a.size):a[lo+i]?=ak (gx d0 lo a i):=by unfold gx;rw[B3 h];rfl
variable{b:Array AL}
theorem Zem(h:a[lo+i]?=b[lo+j]?):gx d0 lo a i=gx d0 lo b j:=by unfold gx;rw[h]
variable{nrem:Nat}
theorem Zvm(hP:∀x∈(AF st).toList,P x)(c:SC κ lo st st')(hn:lo+nrem<=(AF st).size)(hi:i<nrem):P (gx d0 lo (AF st') i):=by have e:=Xkv (d0:=d0) (a:=AF st') (lo:=lo) (i:=i) (by rw[c.size];omega);have hm:gx d0 lo (AF st') i∈(AF st').toList:=AO (by rw[DO];exact e);exact hP _ (c.m.toList.mem_iff.mp hm)
variable{i' j':Nat}
theorem Znx(K:Ask prog w A s κ P r)(hP:∀x∈(AF st).toList,P x)(hn:lo+nrem<=(AF st).size)(c:SC κ lo st st')(hi:i<nrem)(hj:j<nrem)(ei:i'=lo+i)(ej:j'=lo+j)(h:Q (ak (r (gx d0 lo (AF st') i) (gx d0 lo (AF st') j))) st'):wpS (Aw prog w) A E s (ltAt' i' j') Q st':=by subst ei ej;exact Xgv K c.k (Xkv (by rw[c.size];omega)) (Xkv (by rw[c.size];omega)) (Zvm hP c hn hi) (Zvm hP c hn hj) h
theorem Xbz(hj:lo+j<=a.size)(k:Nat):gx d0 lo (Ho a (lo+i) (lo+j) ((lo+j-(lo+i))/2)) k=if i<=k/\k<j then gx d0 lo a (i+j-1-k) else gx d0 lo a k:=by have e:=KZ (i:=lo+i) hj (lo+k);by_cases c:i<=k/\k<j;rw[aa c];rw[aa (by omega)]at e;exact Zem (e.trans (by congr 1;omega));rw[ae c];rw[ae (by omega)]at e;exact Zem e
theorem Zzi(hj:lo+j<=a.size)(k:Nat)(hk:k<lo):(Ho a (lo+i) (lo+j) ((lo+j-(lo+i))/2))[k]?=a[k]?:=by rw[KZ (i:=lo+i) hj k,ae (by omega)]
def Zok(r:AL->AL->Bool)(g:Nat->AL)(n:Nat):Prop:=∀i j,i<=j->j<n->r (g j) (g i)=ar
def Zim(r:AL->AL->Bool)(g:Nat->AL)(n:Nat):Prop:=∀i j,i<=j->j<n->r (g i) (g j)=ar
def Eqv(r:AL->AL->Bool)(x y:AL):Prop:=r x y=ar/\r y x=ar
variable{g:Nat->AL}
theorem Zok.snoc(K:Ask prog w A s κ P r)(hp:∀i,i<n+1->P (g i))(h1:1<=n)(h:Zok r g n)(q:r (g n) (g (n-1))=ar):Zok r g (n+1):=fun i j hij hj=>by
 by_cases e:j<n;exact h i j hij e;have ej:j=n:=by omega
 subst ej;by_cases ei:i=j;subst ei;exact K.ir (hp i hj);exact K.tr (hp i (by omega)) (hp (j-1) (by omega)) (hp j hj) (h i (j-1) (by omega) (by omega)) q
theorem Zim.snoc(K:Ask prog w A s κ P r)(hp:∀i,i<n+1->P (g i))(h1:1<=n)(h:Zim r g n)(q:r (g (n-1)) (g n)=ar):Zim r g (n+1):=fun i j hij hj=>by
 by_cases e:j<n;exact h i j hij e;have ej:j=n:=by omega
 subst ej;by_cases ei:i=j;subst ei;exact K.ir (hp i hj);exact K.tr (hp j hj) (hp (j-1) (by omega)) (hp i (by omega)) q (h i (j-1) (by omega) (by omega))
variable{g':Nat->AL}
theorem Zim.eqv(K:Ask prog w A s κ P r)(hp:∀i,i<n->P (g i))(hp':∀i,i<n->P (g' i))(h:Zim r g n)(q:∀i,i<n->Eqv r (g' i) (g i)):Zim r g' n:=fun i j hij hj =>
 K.tr (hp' j hj) (hp j hj) (hp' i (by omega)) (q j hj).2 (K.tr (hp j hj) (hp i (by omega)) (hp' i (by omega)) (h i j hij hj) (q i (by omega)).1)
theorem Xci(K:Ask prog w A s κ P r)(hP:∀x∈(AF st).toList,P x)(hn:lo+nrem<=(AF st).size)(c:SC κ lo st st'){a:Nat}(ha:1<=a)(han:a<=nrem)(hs:Zok r (gx d0 lo (AF st')) a){f:Nat->Option (Option Nat)×Nat->StateT C4 Sem (ForInStep (Option (Option Nat)×Nat))}{Q:Option (Option Nat)×Nat->C4->Prop}(hf:∀x n (Q':ForInStep (Option (Option Nat)×Nat)->C4->Prop),wpS (Aw prog w) A E s (ltAt' (lo+n) (lo+n-1)) (fun b st''=>st''=st'/\∃b',b=ak b'/\(b'=aq->Q' (.done (ao,n)) st')/\(b'=ar->Q' (.yield (ao,n+1)) st')) st'->wpS (Aw prog w) A E s (f x (ao,n)) Q' st')(h:∀n,a<=n->n<=nrem->Zok r (gx d0 lo (AF st')) n->(n=nrem\/r (gx d0 lo (AF st') n) (gx d0 lo (AF st') (n-1))=aq)->Q (ao,n) st'):wpS (Aw prog w) A E s (forIn [a:nrem] ((ao,a):Option (Option Nat)×Nat) f) Q st':=by
 refine ED (I:=fun x c st''=>st''=st'/\c=(ao,x)/\Zok r (gx d0 lo (AF st')) x) ?step ?fin ⟨rfl,rfl,hs⟩
 case fin =>rintro c st'' ⟨rfl,rfl,hs'⟩;rw[show max a nrem=nrem by omega]at hs' ⊢;exact h nrem han (As _) hs' (.inl rfl)
 case step =>
  rintro x c st'' hax hxn ⟨rfl,rfl,hs'⟩;have hp:∀i,i<x+1->P (gx d0 lo (AF st'') i):=fun i hi=>Zvm hP c hn (by omega);refine hf x x _ (Znx (d0:=d0) K hP hn c (i:=x) (j:=x-1) (by omega) (by omega) rfl (by omega) ⟨rfl,_,rfl,fun e=>?_,fun e=>?_⟩)
  ·exact h x hax (by omega) hs' (.inr e)
  ·exact⟨rfl,rfl,Zok.snoc K hp (by omega) hs' e⟩
theorem Eqv.same(K:Ask prog w A s κ P r)(hx:P x):Eqv r x x:=⟨K.ir hx,K.ir hx⟩
theorem Eqv.via(K:Ask prog w A s κ P r){z:AL}(hx:P x)(hy:P y)(hz:P z)(h1:Eqv r x y)(h2:Eqv r z y):Eqv r x z:=⟨K.tr hz hy hx h2.2 h1.1,K.tr hx hy hz h1.2 h2.1⟩
variable{a':Array AL}
theorem Zim.mir(K:Ask prog w A s κ P r)(hP:∀x∈(AF st).toList,P x)(hn:lo+nrem<=(AF st).size)(c:SC κ lo st st')(hj:j<=n)(hnn:n<=nrem)(h:Zim r (gx d0 lo (AF st')) n)(he:∀k,i<=k->k<j->Eqv r (gx d0 lo (AF st') k) (gx d0 lo (AF st') (j-1)))(ea:a'=Ho (AF st') (lo+i) (lo+j) ((lo+j-(lo+i))/2)):SC κ lo st (Lc st' a')/\Zim r (gx d0 lo a') n:=by
 subst ea;have hsz:lo+j<=(AF st').size:=by rw[c.size];omega
 have c':SC κ lo st (Lc st' (Ho (AF st') (lo+i) (lo+j) ((lo+j-(lo+i))/2))):=c.put (mirror_perm _ _ _ _) (fun k hk=>Zzi hsz k hk);have hp:∀k,k<n->P (gx d0 lo (AF st') k):=fun k hk=>Zvm hP c hn (by omega);refine⟨c',Zim.eqv K hp (fun k hk=>Zvm (d0:=d0) hP c' hn (by omega)) h fun k hk=>?_⟩;rw[Xbz hsz];split;rename_i q;exact Eqv.via K (hp _ (by omega)) (hp (j-1) (by omega)) (hp k hk) (he _ (by omega) (by omega)) (he k q.1 q.2);exact Eqv.same K (hp k hk)
theorem Zky{Q:Unit->C4->Prop}(ei:i'=lo+i)(ej:j'=lo+j)(h:Q () (Lc st' (Ho (AF st') (lo+i) (lo+j) ((lo+j-(lo+i))/2)))):wpS (Aw prog w) A E s (reverseSlice' i' j') Q st':=by subst ei ej;exact wpS_reverse h
theorem Xas{Q:Option Nat->C4->Prop}(d0:AL)(K:Ask prog w A s κ P r)(hP:∀x∈(AF st).toList,P x)(hk:CU st=κ)(hf:D4 st=ao)(hn:lo+nrem<=(AF st).size)(h1:1<=nrem)(h:∀m st',SC κ lo st st'->1<=m->m<=nrem->Zok r (gx d0 lo (AF st')) m->Q (ak m) st'):wpS (Aw prog w) A E s (countRun' lo nrem) Q st:=by
  have c0:SC κ lo st st:=⟨hk,hf,rfl,MC _,fun _ _=>rfl⟩;refine Be (Xci (d0:=d0) K hP hn c0 (As 1) h1 (fun i j hij hj=>by rw[show i=0 by omega,show j=0 by omega];exact K.ir (Zvm hP c0 hn (by omega))) (fun x n Q' q=>?_) fun n n1 n2 n3 n4=>?_)
  · refine Be (Gc q ?_);rintro b st'' ⟨rfl,b',rfl,q1,q2⟩;dsimp only;cases b' with
    |true =>rw[aa rfl];exact BR (q1 rfl)
    |false =>rw[ae Ao];exact BR (q2 rfl)
  refine Zbn (fun c1=>?_) (fun c1=>?_)
  · exact BR (h n st c0 n1 n2 n3)
  have c1':n≠nrem:=nbeq c1;have n4':r (gx d0 lo (AF st) n) (gx d0 lo (AF st) (n-1))=true:=n4.resolve_left c1';have hp0:∀i,i<nrem->P (gx d0 lo (AF st) i):=fun i hi=>Zvm hP c0 hn hi;have n5:r (gx d0 lo (AF st) (n-1)) (gx d0 lo (AF st) n)=false:=K.as (hp0 _ (by omega)) (hp0 _ (by omega)) n4'
  extract_lets -underBinder jp
  have hd:∀st1,SC κ lo st st1->Zim r (gx d0 lo (AF st1)) (n+1)->wpS (Aw prog w) A E s (jp ()) Q st1:=fun st1 sc1 dn1=>by
    refine Be (Mf (Fv ⟨rfl,?_⟩));refine Be (Gc (ED (I:=fun x c st2=>∃q,c=(ao,x,q)/\SC κ lo st st2/\Zim r (gx d0 lo (AF st2)) x/\q+1<=x/\∀i,x-(q+1)<=i->i<x->Eqv r (gx d0 lo (AF st2) i) (gx d0 lo (AF st2) (x-1)))
      (Q:=fun c st2=>∃m q,c=(ao,m,q)/\n+1<=m/\m<=nrem/\SC κ lo st st2/\Zim r (gx d0 lo (AF st2)) m/\q+1<=m/\∀i,m-(q+1)<=i->i<m->Eqv r (gx d0 lo (AF st2) i) (gx d0 lo (AF st2) (m-1))) ?step ?fin
      ⟨0,rfl,sc1,dn1,by omega,fun i i1 i2=>by rw [show i=n+1-1 by omega];exact Eqv.same K (Zvm hP sc1 hn (by omega))⟩) ?post)
    case fin =>rintro c st2 ⟨q,rfl,sc,dn,hq,he⟩;rw[show max (n+1) nrem=nrem by omega]at dn hq he ⊢;exact⟨nrem,q,rfl,by omega,As _,sc,dn,hq,he⟩
    case step =>
      rintro x c st2 hx1 hx2 ⟨q,rfl,sc,dn,hq,he⟩;have hp:∀i,i<nrem->P (gx d0 lo (AF st2) i):=fun i hi=>Zvm hP sc hn hi;refine Be (Znx (d0:=d0) K hP hn sc (i:=x) (j:=x-1) hx2 (by omega) rfl (by show lo+x-1=_;omega) ?_);cases e:r (gx d0 lo (AF st2) x) (gx d0 lo (AF st2) (x-1)) with
      |true =>
        have dn':=Zim.snoc K (fun i hi=>hp i (by omega)) (by omega) dn (K.as (hp x hx2) (hp (x-1) (by omega)) e);refine Zbn (fun _=>?_) (fun z=>af rfl z);refine Zbn (fun q0=>?_) (fun q0=>?_)
        · obtain⟨c2,d2⟩:=Zim.mir K hP hn sc (i:=x-(q+1)) (j:=x) (n:=x+1) (by omega) hx2 dn' he rfl;refine Be (Zky (i:=x-(q+1)) (j:=x) (by show lo+x-(q+1)=_;omega) rfl ?_);exact BR ⟨0,rfl,c2,d2,by omega,fun i i1 i2=>by rw[show i=x+1-1 by omega];exact Eqv.same K (Zvm hP c2 hn hx2)⟩
        · exact BR ⟨0,rfl,sc,dn',by omega,fun i i1 i2=>by rw[show i=x+1-1 by omega];exact Eqv.same K (hp x hx2)⟩
      |false =>
        refine Zbn (fun z=>af z Ao) (fun _=>?_);refine Be (Znx (d0:=d0) K hP hn sc (i:=x-1) (j:=x) (by omega) hx2 (by show lo+x-1=_;omega) rfl ?_);cases e2:r (gx d0 lo (AF st2) (x-1)) (gx d0 lo (AF st2) x) with
        |true =>refine Zbn (fun _=>?_) (fun z=>af rfl z);exact BR ⟨x,q,rfl,hx1,by omega,sc,dn,hq,he⟩
        |false =>
          refine Zbn (fun z=>af z Ao) (fun _=>?_);refine BR ⟨q+1,rfl,sc,Zim.snoc K (fun i hi=>hp i (by omega)) (by omega) dn e2,by omega,fun i i1 i2=>?_⟩;rw[show x+1-1=x by omega];by_cases ix:i=x
          · rw[ix];exact Eqv.same K (hp x hx2)
          · exact Eqv.via K (hp i (by omega)) (hp (x-1) (by omega)) (hp x hx2) (he i (by omega) (by omega)) ⟨e,e2⟩
    case post =>
      rintro c st2 ⟨m,q,rfl,m1,m2,sc,dn,hq,he⟩;dsimp -zeta -zetaHave only
      extract_lets -underBinder u1 u2 u3 u4
      dsimp -zeta -zetaHave only[u1]
      extract_lets -underBinder jp4
      have hd3:∀st3,SC κ lo st st3->Zim r (gx d0 lo (AF st3)) m->wpS (Aw prog w) A E s (jp4 ()) Q st3:=fun st3 sc3 dn3=>by
        refine Be (Zky (lo:=lo) (i:=0) (j:=m) rfl rfl ?_);have hsz:lo+m<=(AF st3).size:=by rw[sc3.size];omega
        have c4:SC κ lo st (Lc st3 (Ho (AF st3) (lo+0) (lo+m) ((lo+m-(lo+0))/2))):=sc3.put (mirror_perm _ _ _ _) (fun k hk=>Zzi hsz k hk);refine Be (Xci (d0:=d0) K hP hn c4 (by omega) m2 (fun i j hij hj=>?_) (fun x n Q' q=>?_) fun n g1 g2 g3 _=>BR (h n _ c4 (by omega) g2 g3))
        · show r (gx d0 lo (Ho (AF st3) (lo+0) (lo+m) ((lo+m-(lo+0))/2)) j) (gx d0 lo (Ho (AF st3) (lo+0) (lo+m) ((lo+m-(lo+0))/2)) i)=ar;rw[Xbz hsz,Xbz hsz,aa (by omega),aa (by omega)];exact dn3 _ _ (by omega) (by omega)
        · refine Be (Gc q ?_);rintro b st'' ⟨rfl,b',rfl,q1,q2⟩;dsimp only;cases b' with
          |true =>rw[aa rfl];exact BR (q1 rfl)
          |false =>rw[ae Ao];exact BR (q2 rfl)
      refine Zbn (fun q0=>?_) (fun q0=>?_)
      · obtain⟨c2,d2⟩:=Zim.mir K hP hn sc (i:=m-(q+1)) (j:=m) (n:=m) (As _) m2 dn he rfl;refine Be (Zky (i:=m-(q+1)) (j:=m) (by show lo+m-(q+1)=_;omega) rfl ?_);exact hd3 _ c2 d2
      · exact hd3 _ sc dn
  refine Zbn (fun c2=>?_) (fun c2=>?_)
  · refine Be (Znx (d0:=d0) K hP hn c0 (i:=0) (j:=n-1) (by omega) (by omega) rfl (by show lo+n-1=_;omega) ?_);cases e:r (gx d0 lo (AF st) 0) (gx d0 lo (AF st) (n-1)) with
    |true =>refine Zbn (fun _=>?_) (fun z=>af rfl z);exact BR (h n st c0 n1 n2 n3)
    |false =>
      refine Zbn (fun z=>af z Ao) (fun _=>?_);have all:∀k,k<n->Eqv r (gx d0 lo (AF st) k) (gx d0 lo (AF st) (n-1)):=fun k hk =>
        ⟨K.tr (hp0 (n-1) (by omega)) (hp0 0 (by omega)) (hp0 k (by omega)) e (n3 0 k (Dp _) hk),n3 k (n-1) (by omega) (by omega)⟩
      have dn:Zim r (gx d0 lo (AF st)) n:=fun i j hij hj=>(Eqv.via K (hp0 i (by omega)) (hp0 (n-1) (by omega)) (hp0 j (by omega)) (all i (by omega)) (all j hj)).1;obtain⟨c3,d3⟩:=Zim.mir K hP hn c0 (i:=0) (j:=n) (n:=n+1) (by omega) (by omega) (Zim.snoc K (fun i hi=>hp0 i (by omega)) n1 dn n5) (fun k _ hk=>all k hk) rfl;refine Be (Zky (lo:=lo) (i:=0) (j:=n) rfl rfl ?_);exact hd _ c3 d3
  · have e1:n=1:=by omega
    subst e1;refine hd _ c0 (Zim.snoc K (fun i hi=>hp0 i (by omega)) (As 1) (fun i j hij hj=>?_) n5);rw[show i=0 by omega,show j=0 by omega];exact K.ir (hp0 0 (by omega))
theorem Xjd{k l:Nat}(hk:lo+k<a.size)(hl:l<=k)(i:Nat):gx d0 lo (bubble a (lo+k) (lo+k-(lo+l))) i=if i=l then gx d0 lo a k else if l<i/\i<=k then gx d0 lo a (i-1) else gx d0 lo a i:=by have e:=LU hk (lo+k-(lo+l)) (by omega) (lo+i);rw[show lo+k-(lo+k-(lo+l))=lo+l by omega]at e;by_cases c:i=l;rw[aa c];rw[aa (by omega)]at e;exact Zem e;rw[ae c];rw[ae (by omega)]at e;by_cases c2:l<i/\i<=k;rw[aa c2];rw[aa (by omega)]at e;exact Zem (e.trans (by congr 1;omega));rw[ae c2];rw[ae (by omega)]at e;exact Zem e
theorem Xkm{k l:Nat}(hk:lo+k<a.size)(hl:l<=k)(i:Nat)(hi:i<lo):(bubble a (lo+k) (lo+k-(lo+l)))[i]?=a[i]?:=by rw[LU hk (lo+k-(lo+l)) (by omega) i,ae (by omega),ae (by omega)]
variable{st1:C4}
theorem Xns{Q:Bool->C4->Prop}(d0:AL)(K:Ask prog w A s κ P r)(hP:∀x∈(AF st).toList,P x)(hn:lo+nrem<=(AF st).size)(c1:SC κ lo st st1){ok:Nat}(hnn:n<=nrem)(hok:ok<=n)(h1:1<=n)(hs:Zok r (gx d0 lo (AF st1)) ok)(h:∀st',SC κ lo st st'->Zok r (gx d0 lo (AF st')) n->Q aq st'):wpS (Aw prog w) A E s (binarySort' lo n ok) Q st1:=by
  refine Be (Gc (ED (I:=fun k c st'=>c.1=ao/\SC κ lo st st'/\Zok r (gx d0 lo (AF st')) (min k n)) (Q:=fun c st'=>c.1=ao/\SC κ lo st st'/\Zok r (gx d0 lo (AF st')) n) ?step ?fin ?init) ?post)
  case post =>rintro⟨c,_⟩ st' ⟨e,sc,u⟩;have e:c=none:=e;subst e;exact BR (h st' sc u)
  case init =>
    refine⟨rfl,c1,fun i j hij hj=>?_⟩;by_cases z:ok=0
    · rw[show i=0 by omega,show j=0 by omega];exact K.ir (Zvm hP c1 hn (by omega))
    · exact hs i j hij (by omega)
  case fin =>rintro c st' ⟨e,sc,u⟩;rw[show min (max (max ok 1) n) n=n by omega]at u;exact⟨e,sc,u⟩
  case step =>
    rintro k ⟨c,_⟩ st' hk1 hk2 ⟨e,sc,u⟩;have e:c=none:=e;subst e;rw [show min k n=k by omega] at u;have hp:∀i,i<nrem->P (gx d0 lo (AF st') i):=fun i hi=>Zvm hP sc hn hi;refine Be (Gc (ED (I:=fun x c st2=>st2=st'/\∃l m,c=(ao,l,m)/\l<=m/\m<=k/\m-l<=k-x/\(∀i,i<l->r (gx d0 lo (AF st') k) (gx d0 lo (AF st') i)=ar)/\(∀i,m<=i->i<k->r (gx d0 lo (AF st') k) (gx d0 lo (AF st') i)=aq))
      (Q:=fun c st2=>st2=st'/\∃l m,c=(ao,l,m)/\l<=k/\(∀i,i<l->r (gx d0 lo (AF st') k) (gx d0 lo (AF st') i)=ar)/\(∀i,l<=i->i<k->r (gx d0 lo (AF st') k) (gx d0 lo (AF st') i)=aq)) ?istep ?ifin ⟨rfl,0,k,rfl,Dp _,As _,by omega,fun i hi=>by omega,fun i q1 q2=>by omega⟩) ?ipost)
    case ifin =>
      rintro c st2 ⟨rfl,l,m,rfl,q1,q2,q3,q4,q5⟩;have:l=m:=by omega
      subst this;exact⟨rfl,l,l,rfl,q2,q4,q5⟩
    case istep =>
      rintro x c st2 _ hx ⟨rfl,l,m,rfl,q1,q2,q3,q4,q5⟩;refine Zbn (fun z=>?_) (fun z=>?_)
      · have z:l>=m:=z;have:l=m:=by omega
        subst this;exact BR ⟨rfl,l,l,rfl,q2,q4,q5⟩
      · have z:¬l>=m:=z;refine Be (Znx (d0:=d0) K hP hn sc (i:=k) (j:=(l+m)/2) (by omega) (by omega) rfl rfl ?_);cases e:r (gx d0 lo (AF st2) k) (gx d0 lo (AF st2) ((l+m)/2)) with
        |true =>
          refine Zbn (fun _=>?_) (fun z=>af rfl z);refine BR ⟨rfl,l,(l+m)/2,rfl,by omega,by omega,by omega,q4,fun i i1 i2=>?_⟩;cases e2:r (gx d0 lo (AF st2) k) (gx d0 lo (AF st2) i) with
          |true=>rfl
          |false=>rw[K.tr (hp _ (by omega)) (hp i (by omega)) (hp k (by omega)) (u ((l+m)/2) i i1 i2) e2]at e;cases e
        |false =>refine Zbn (fun z=>af z Ao) (fun _=>?_);exact BR ⟨rfl,(l+m)/2+1,m,rfl,by omega,q2,by omega,fun i i1=>K.tr (hp i (by omega)) (hp _ (by omega)) (hp k (by omega)) (u i ((l+m)/2) (by omega) (by omega)) e,q5⟩
    case ipost =>
      rintro c st2 ⟨rfl,l,m,rfl,q1,q2,q3⟩;refine Be (K7 (BR ⟨rfl,sc.put (bubble_perm _ _ _) (fun i hi=>Xkm (by rw[sc.size];omega) q1 i hi),?_⟩));rw[show min (k+1) n=k+1 by omega];have hks:lo+k<(AF st2).size:=by rw[sc.size];omega
      intro i j hij hj;show r (gx d0 lo (bubble (AF st2) (lo+k) (lo+k-(lo+l))) j) (gx d0 lo (bubble (AF st2) (lo+k) (lo+k-(lo+l))) i)=ar;rw[Xjd hks q1,Xjd hks q1];by_cases ij:i=j
      · subst ij;refine K.ir ?_
        repeat' split
        all_goals exact hp _ (by omega)
      · repeat' split
        all_goals first
          |(exfalso;omega)
          |exact q2 _ (by omega)
          |exact K.as (hp _ (by omega)) (hp _ (by omega)) (q3 _ (by omega) (by omega))
          |exact u _ _ (by omega) (by omega)
abbrev Pn:=Nat×Nat×Nat
variable{Rs:List (List AL)}
def Pend:Nat->List (List AL)->List Pn->Prop
 |_,[],[]=>True
 |off,R::Rs,p::ps=>p.1=off/\p.2.1=R.length/\Pend (off+R.length) Rs ps
 |_,_,_=>False
structure RI(κ:Gn)(r:AL->AL->Bool)(a0:List AL)(st:C4)(Rs:List (List AL))(Z:List AL):Prop where
 k:CU st=κ
 f:D4 st=ao
 m:(AF st).toList.Perm a0
 l:(AF st).toList=Rs.flatten++Z
 p:Pend 0 Rs (Da st).toList
 u:∀R∈Rs,Up r R/\1<=R.length
end L2
namespace L2
open PySem PySem.SeqAt PySem.MeetsSeq PySem.MeetsSeq3
open AutoSeq1 (wpAny_loadPart')
def Xvj(A:Ba)(s:Af)(y x:Value)(b:Bool):Prop:=∀(prog:AR) (w:Bk) (E:Value->Af->Prop) (Q:Value->Af->Prop),Q (.bool b) s->Ak (Aw prog w) A (KI .Lt y x) Q E s
def Xkg(e l:Nat->Bool)(m n:Nat):List Nat->Bool
 |[]=>decide (m<n)
 |j::js=>if e j=aq then Xkg e l m n js else l j
theorem Zwr(l b:Addr)(items items2:Array Value)(n n2:Nat)(dd dd2:Option Addr)(sl sl2:Array (Option Value))(e lt:Nat->Bool)(k:Nat):∀i:Nat,min items.size items2.size-i=k->Meets (D6.«list.__eq__.loop» ⟨[.ref l,.ref b,Cu i,Cu 0],[]⟩) (fun A R s=>s.heap.get? l=ak {cls:=.type "list",dict:=dd,data:=.seq items n,slots:=sl}/\s.heap.get? b=ak {cls:=.type "list",dict:=dd2,data:=.seq items2 n2,slots:=sl2}/\ (∀j (h1:j<items.size) (h2:j<items2.size),EqAt A.in1 s items[j] items2[j] (e j))/\(∀j (h1:j<items.size) (h2:j<items2.size),e j=ar->Xvj A.in1 s items[j] items2[j] (lt j))/\ R (.ok (.ret (.bool (Xkg e lt items.size items2.size ((AX (min items.size items2.size)).drop i))))) s):=by
  induction k with
  |zero =>
    intro i hk prog w A R s h;obtain⟨hp,g,d,tk,os⟩:=s;obtain⟨hl,hb,he,hlt,h⟩:=h
    wp_walk using Bt hl,Bt hb
    have hd:(AX (min items.size items2.size)).drop i=[]:=by simp;omega
    rw[hd]at h;by_cases hi:i<items.size;have hi1:items[((i:Nat):Int).toNat]?=ak items[i]:=by simp[hi]
    have hi2:items2[((i:Nat):Int).toNat]?=none:=by simp;omega
    rw[hi1,hi2]
    wp_walk using Bt hl,Bt hb
    exact h;have hi1:items[((i:Nat):Int).toNat]?=none:=by simp;omega
    rw[hi1]
    wp_walk using Bt hl,Bt hb
    exact h
  |succ k ih =>
    intro i hk prog w A R s h;obtain⟨hp,g,d,tk,os⟩:=s;obtain⟨hl,hb,he,hlt,h⟩:=h
    wp_walk using Bt hl,Bt hb
    have q1:i<items.size:=by omega
    have q2:i<items2.size:=by omega
    have hi1:items[((i:Nat):Int).toNat]?=ak items[i]:=by simp[q1]
    have hi2:items2[((i:Nat):Int).toNat]?=ak items2[i]:=by simp[q2]
    have hd:(AX (min items.size items2.size)).drop i=i::(AX (min items.size items2.size)).drop (i+1):=by rw[BD (by simp;omega)];simp
    have hc:((i:Int)+1)=((i+1:Nat):Int):=by push_cast;rfl
    rw[hd]at h;unfold Xkg at h;rw[hi1,hi2];refine Aa (he i q1 q2 prog w _ _ ?_);cases hb':e i with
    |true =>
      rw[hb',aa rfl]at h
      wp_walk
      rw [hc];exact ⟨Ce plain_eq_loop _,CC entry_eq_loop (by
        rw [BQ plain_eq_loop _];exact ih (i+1) (by omega) prog w A R _ ⟨hl,hb,he,hlt,h⟩)⟩
    |false =>
      rw[hb',ae Ao]at h
      wp_walk using Bt hl,Bt hb
      rw[hi1,hi2];refine Aa (hlt i q1 q2 hb' prog w _ _ ?_)
      wp_walk
      exact h
theorem Xaa(l b:Addr)(items items2:Array Value)(n n2:Nat)(dd dd2:Option Addr)(sl sl2:Array (Option Value))(e lt:Nat->Bool):Meets (D6.«list.__lt__» ⟨[.ref l,.ref b],[]⟩) (fun A R s=>s.heap.get? l=ak {cls:=.type "list",dict:=dd,data:=.seq items n,slots:=sl}/\s.heap.get? b=ak {cls:=.type "list",dict:=dd2,data:=.seq items2 n2,slots:=sl2}/\ (∀j (h1:j<items.size) (h2:j<items2.size),EqAt A.in1 s items[j] items2[j] (e j))/\(∀j (h1:j<items.size) (h2:j<items2.size),e j=ar->Xvj A.in1 s items[j] items2[j] (lt j))/\ R (.ok (.ret (.bool (Xkg e lt items.size items2.size (AX (min items.size items2.size)))))) s):=by
  intro prog w A R s h;obtain⟨hp,g,d,tk,os⟩:=s;obtain⟨hl,hb,he,hlt,h⟩:=h;have f3:=AutoSeq1.sub_list_list
  wp_walk using Bt hl,Bt hb
  exact ⟨Ce plain_eq_loop _,CC entry_eq_loop (by
    rw [BQ plain_eq_loop _];exact Zwr l b items items2 n n2 dd dd2 sl sl2 e lt _ 0 rfl prog w A R _ ⟨hl,hb,he,hlt,by simpa using h⟩)⟩
end L2
namespace L2
open PySem PySem.SeqAt PyProof.Rows
open Dl (Pc sLt pcLt ctLt)
variable{A:Ba}{s:Af}
theorem Xfl(a b:Int)(t u:Tok):Xvj A s (.int a t) (.int b u) (decide (a<b)):=fun _ _ _ _ h=>PySem.P.lt_int h
theorem Zmf:∀vs:List Value,vs.zip vs=vs.map fun v=>(v,v)
 |[]=>rfl
 |v::vs=>by rw[Cp,AZ,Zmf vs]
theorem Zbs(vs:List Value):(vs.toArray.zip vs.toArray).toList=vs.map fun v=>(v,v):=by rw[<- Zmf];simp
open Dl (Pr kLt Xvi)
end L2
namespace L2
open PySem PySem.Spec PyProof.Rows
open Dl (D R FE FT FA FO FS FI FB Fl Pc ctLt)
variable{b:Expr}
theorem Zne:∀{bs:List Addr} {its:List Value},Yl (bs.map V.ref) its->its=bs.map AQ
 |[],_,.nil=>rfl
 |b::bs,_,.cons r rs=>by rw[show _=AQ b from r,Zne rs];rfl
theorem Zhk:∀(bs:List Addr),Yl (bs.map V.ref) (bs.map AQ)
 |[]=>.nil
 |b::bs=>.cons rfl (Zhk bs)
variable{a:Addr}
def adr:Value->Addr
 | .ref a=>a
 |_=>0
structure RoomH(k:Nat)(A:Ba):Prop where
 dp:A.depth+3*k+5<EQ
 un:A.units+16*k+200<BE
variable{A:Ba}{E:XK}{H:Hp}{Q:Value->Af->Prop}{s:Af}{vs:List V}
structure FnOkH(P:AR)(w:Bk)(K:AN)(mg:Str->Option Value)(base:Bg)(k:Nat)(f:Addr)(fd:CH)(ps:List Str)(sp:Sp):Prop where
 len:∀vs H Q E,sp vs H Q E->vs.length=ps.length
 run:∀(A:Ba) (outer:List Env) (s:Af) (H:Hp) (args:Args) (us:List Value) (vs:List V) (Q:VK) (E:XK),RoomH k A->Xtv P w K mg base A outer s H->Gw s fd args (ps.zip us)->Yl vs us->sp vs H Q E->
  Dr (Aw P w) A (.call (.ref f) args) (CR CX0 outer P w H s Q E) s
variable{f:Addr}{fd:CH}
structure DefH(P:AR)(w:Bk)(K:AN)(mg:Str->Option Value)(base:Bg)(k:Nat)(x:Str)(ps:List Str)(sp:Sp):Prop where
 ex:∃f fd,mg x=ak (.ref f)/\Gi K (.ref f)=aq/\Binds K fd ps []/\FnOkH P w K mg base k f fd ps sp
variable{K:AN}{prog:AR}{w:Bk}
section
variable{K:Type}[DecidableEq K]{knd:HeapKind prog w K}{E:Value->Af->Prop}
end
variable{mg:Str->Option Value}{x:Str}
def cxL(X:Cx)(A:Ba)(N:List Str)(qual:Str)(sc:Scope)(f:Addr)(cd:Value)(cl:List (Str×Addr))(s:Af)(H:Hp):Cx where
 prog:=X.prog
 w:=X.w
 K:=X.K
 mg:=X.mg
 base:=X.base
 A:=A.deeper (envX qual sc s.heap.objs.size f cd cl)
 N:=N
 s₀:=s
 H₀:=H
 env:=envX qual sc s.heap.objs.size f cd cl
 outer:=X.stack
 stack:=envX qual sc s.heap.objs.size f cd cl::X.stack
 ex:=[]
 calm:=aq
 fn:=fun x=>(cl.lookup x).isNone
 pn:=[]
 xe:=fun _ _=>False
variable{c:Addr}
structure Xly(X:Cx)(N:List Str)(p:Str)(sc:Scope)(cl:List (Str×Addr)):Prop where
 kind:sc.kind=.function
 co:sc.isCoroutine=ar
 gen:sc.isGenerator=ar
 nocell:∀x∈sc.names,x.2≠.cell
 par:sc.names.lookup p=ak .local
 nd:N.Nodup
 hd:N.head?=ak p
 tl:∀x∈N.tail,sc.names.lookup x=ak .free
 fr:∀x,sc.names.lookup x=ak .free->∃c,cl.lookup x=ak c
 cls:∀x c,cl.lookup x=ak c->X.env.cells.lookup x=ak c
variable{i j:Nat}{v:Option Value}
def Xmr(X:Cx)(σ:St)(N:List Str)(vs:List V):Prop:=∀(i:Nat) (x:Str) (v:V),N[i]?=ak x->vs[i]?=ak v->∃j:Nat,X.N[j]?=ak x/\σ[j]?=ak (ak v)/\Vis X.env.scope x/\X.env.kindOf x≠ak .local
variable{N:List Str}{X:Cx}{cl:List (Str×Addr)}{h₁:Bg}{o:Obj}{pins:List (Addr×Obj)}{qual:Str}{sc:Scope}{tk:Nat}{σ:St}
theorem Xnb{p:Str}{cd u:Value}{v:V}(I:Inv X pins σ H s)(S:Xly X N p sc cl)(hA:A.frames=ak X.stack)(hh:A.handled=ao)(hl:vs.length+1=N.length)(hf:Xmr X σ N.tail vs)(rv:RelV v u)(hns:h₁.Ns s.heap.objs.size (fun x=>[(p,u)].reverse.lookup x))(hk:∀b o,s.heap.get? b=ak o->h₁.get? b=ak o):Inv (cxL X A N qual sc f cd cl s H) [] ((v::vs).map ak) H {s with heap:=h₁,toks:=tk}:=by
  have e0:=I.env0;have noA:∀b:Addr,b∉(cxL X A N qual sc f cd cl s H).ex:=fun b z=>af (show b∈([]:List Addr) from z) (by simp);refine ⟨⟨e0.mod,S.kind,rfl,rfl,As _,fun y z c h1 h2=>I.ok.inj y z c (S.cls y c h1) (S.cls z c h2),fun y hy=>?_,fun y c h0 h=>?_,fun _=>hh,HN hA,.inr ⟨rfl,rfl⟩,fun b z=>af z (noA b),e0.bs,e0.bsz,fun b _ _=>noA b,fun b z=>af z (noA b),e0.funs,e0.frf⟩,
    rfl,e0.bare,Un.kept hk,⟨_,hns,fun i y w h1 h2 h3=>?_⟩,fun y c h=>?_,e0.hok.fresh (As _),fun y c h=>I.freeC y c (S.cls y c h),fun q hp=>af (show q∈([]:List (Addr×Obj)) from hp) (by simp),e0.hok.kept hk,?_⟩
  have hy:sc.names.lookup y=ak .cell\/sc.names.lookup y=ak .free:=hy;rcases hy with hy|hy;exact af rfl (S.nocell _ (PySem.mem_of_lookup hy));exact S.fr y hy;have h0:(cl.lookup y).isNone=true:=h0;have h:cl.lookup y=ak c:=h;rw[h]at h0;cases h0;have h1:N[i]?=ak y:=h1;obtain⟨a,r,rfl⟩:∃a r,N=a::r:=by
    cases N with
    |nil=>simp at hl
    |cons a r=>exact⟨a,r,rfl⟩
  have ha:a=p:=AE S.hd;subst ha;cases i with
  |zero =>cases h1;cases h2;refine⟨u,rv,.inl ⟨S.par,?_⟩⟩;show List.lookup y [(y,u)]=ak u;rw[List.lookup_cons_self]
  |succ i =>
    have h1:r[i]?=ak y:=h1;have h2:vs[i]?=ak w:=by
      have:(vs.map ak)[i]?=ak (ak w):=h2;rw[AS]at this;cases e:vs[i]? with
      |none=>rw[e]at this;cases this
      |some z=>rw[e]at this;cases this;rfl
    obtain⟨j,j1,j2,j3,j4⟩:=hf i y w h1 h2;obtain⟨m,hm,lk⟩:=I.loc;obtain⟨u',ru,lo⟩:=lk j y w j1 j2 j3;refine⟨u',ru,?_⟩;rcases lo with⟨k1,_⟩|⟨_,c,e1,e2⟩;exact af k1 j4;have hy:=S.tl y (AO h1);obtain⟨c',e3⟩:=S.fr y hy;have:=S.cls y c' e3;rw[e1]at this;cases this;obtain⟨o,ho,hd⟩:=e2;exact .inr ⟨.inr hy,c,e3,o,hk _ _ ho,hd⟩
  obtain⟨w,o,ho,hd⟩:=I.cell y c (S.cls y c h);exact⟨w,o,hk _ _ ho,hd⟩;show((v::vs).map ak).length=N.length;rw[Ai,BK,hl]
variable{body:Expr}{params:Ft}{pm:Value}{te:TE}
theorem Xli{p name:Str}{ctv u:Value}{v:V}{Q:VK}(I:Inv X pins σ H s)(S:Xly X N p sc cl)(hA:A.frames=ak X.stack)(hh:A.handled=ao)(hroom:A.depth<EQ)
    (hl:vs.length+1=N.length) (hf:Xmr X σ N.tail vs) (rv:RelV v u)
    (ho:s.heap.get? f=ak (Ke name qual params body sc cl pm c ctv)) (hcd:s.heap.CodeRec (.ref c) qual)
    (hb:Ie (kla_fn name qual params body sc cl pm (.ref c) ctv) ⟨[u],[]⟩=pure [(p,u)])
    (ht:PE (cxL X A N qual sc f (.ref c) cl s H) body te) (hq:te ((v::vs).map ak) H Q) :
    Dr (Aw X.prog X.w) A (.call (.ref f) ⟨[u],[]⟩) (fun r s'=>match r with
      | .ok (.ret u')=>CE X.stack X.prog X.w H s Q u' s'
      | _=>False) s:=by
  refine PySem.W.kla_callFunE hroom ho rfl S.co S.gen rfl hcd ?_;rw[hb];refine Ac (KF S.nocell (fun x hx=>by rw[Ap.mp hx];exact S.par) (fun h₁ hns hsb=>⟨I.nolimit.fresh _ hsb,?_⟩) S.kind);have hk:∀b o,s.heap.get? b=ak o->h₁.get? b=ak o:=fun b o e=>hsb.extBut b o (AY (AI e)) (Ae _ e);have J:=Xnb (A:=A) (qual:=qual) (f:=f) (cd:=.ref c) (tk:=s.toks+1) I S hA hh hl hf rv hns hk;show Dr _ _ (.expr body (envX qual sc s.heap.objs.size f (.ref c) cl)) _ _;refine PySem.W.kla_codeExpr (BF (ht [] _ _ H _ J hq) (fun u' s' h=>?_) fun e s' h=>False.elim h);obtain⟨w,H',J',r,q⟩:=h;exact⟨w,H',J'.os,J'.bare,J'.base,J'.hok,r,q⟩
variable{bm:Addr}
def BMod(base:Bg)(mg:Str->Option Value):Prop:=∃bm ob,mg "__builtins__"=ak (.ref bm)/\bm≠DU/\base.get? bm=ak ob/\ob.cls=.type "module"/\ob.dict=ak DU/\ob.data=.plain
variable{oc:Value}
def Zzz(H:Hp)(f:Addr)(qual:Str)(params:Ft)(body:Expr)(sc:Scope)(cl:List (Str×Addr)):Prop:=
 ∃c pm ctv oc vs t,H f=ak (.frz (Ke "<lambda>" qual params body sc cl pm c ctv) (.own 0))/\H c=ak (.frz oc (.own 0))/\oc.data=.fields vs/\vs[1]?=ak (.str qual t)
variable{P:Addr}{pos:Pos}
theorem Inv.bat(I:Inv X pins σ H s)(hB:BMod X.base X.mg)(hP:H P=ak (.tbl pos qual)):s.heap.BuiltinsAt X.mg P/\An≠P:=by
 obtain⟨bm,ob,b1,b2,b3,b4,b5,b6⟩:=hB;obtain⟨e1,e2⟩:=I.bs bm ob b3;obtain⟨og,es,ep,g1,g2,g3⟩:=I.mod.glob;have n1:bm≠An:=fun z=>by rw[z,g1]at b3;cases b3;rw[g2]at b6;cases b6
 have n2:bm≠P:=fun z=>by rw[z,hP]at e2;cases e2
 refine⟨⟨bm,ob,b1,b2,n1,n2,e1,b4,b5,b6⟩,fun z=>?_⟩;have:=(I.bs An og g1).2;rw[z,hP]at this;cases this
variable{fo:Obj}{h':Bg}
theorem Inv.lay2(I:Inv X pins σ H s)(hk:∀b o,s.heap.get? b=ak o->h'.get? b=ak o)(hs:s.heap.objs.size<=h'.objs.size)(hfree:fo.isFreed=ar):Inv X pins σ (upd H h'.objs.size (.frz fo (.own 0))) {s with heap:=h'.push fo,toks:=tk}:=by have e:=Au h' (o:=fo) hfree;exact I.laid (fun b o q=>Ae _ (hk b o q)) hs (show Je X.prog X.w _ (h'.push fo) _ (.frz fo (.own 0)) from⟨e,_,e⟩)
variable{E:Value->Af->Prop}{H':Hp}{e:Expr}{h:Bg}{ps:Array Value}
theorem Xmo{v:Value}(I:Inv X pins σ H s)(hB:BMod X.base X.mg)(hP:H P=ak (.tbl pos qual))(hcode:X.env.code=.ref c)(C:Iv X.base c P)(hcl:EW sc X.env=pure cl)(e:s.heap.get? P=ak (HU ps))(tr:JC ps.toList)(hv:Gr pos ps.toList=ak v)(hc:∀v,Gr pos ps.toList=ak v->∃c o vs t,v=.ref c/\H c=ak (.frz o (.own 0))/\o.data=.fields vs/\vs[1]?=ak (.str qual t))(h:∀f H' s',Inv X pins σ H' s'->(∀b o,H b=ak o->H' b=ak o)->Zzz H' f qual params body sc cl->Q (.ref f) s'):Ak (Aw X.prog X.w) X.A (makeFunction "<lambda>" qual params (.expr body) sc X.env [] [] [] pos pos.line) Q E s:=by
 obtain⟨b1,b2⟩:=I.bat hB hP;obtain⟨c',o,vs,t,rfl,e2,e3,e4⟩:=hc v hv;refine PySem.W.kla_makeFunctionHit (mg:=X.mg) hcl I.ok.glob (I.mod.glob.keeps I.bk) hcode (C.keeps I.bk) e tr hv b1 fun ctv h' tk hk hs=>?_;have J:=I.lay2 (fo:=Ke "<lambda>" qual params body sc cl ((X.mg "__name__").getD .none) c' ctv) (tk:=tk) hk hs rfl;have hn:H h'.objs.size=none:=I.hok.fresh hs;refine h _ _ _ J (fun b o q=>by rw[Zy (Xe q hn)];exact q) ⟨c',_,ctv,o,vs,t,Zw,?_,e3,e4⟩;rw[Zy (Xe e2 hn)];exact e2
theorem Xnj(I:Inv X pins σ H s)(hB:BMod X.base X.mg)(hP:H P=ak (.tbl pos qual))(hcode:X.env.code=.ref c)(C:Iv X.base c P)(hcl:EW sc X.env=pure cl)(e:s.heap.get? P=ak (HU ps))(tr:JC ps.toList)(hv:Gr pos ps.toList=ao)(h:∀f H' s',Inv X pins σ H' s'->(∀b o,H b=ak o->H' b=ak o)->Zzz H' f qual params body sc cl->Q (.ref f) s'):Ak (Aw X.prog X.w) X.A (makeFunction "<lambda>" qual params (.expr body) sc X.env [] [] [] pos pos.line) Q E s:=by
 obtain⟨b1,b2⟩:=I.bat hB hP;refine PySem.W.kla_makeFunction (mg:=X.mg) hcl I.ok.glob (I.mod.glob.keeps I.bk) hcode (C.keeps I.bk) e tr hv b2 b1 fun c' ctv h' tk hx hge hlt hrec htb=>?_;obtain⟨c2,oc,vs,t,e1,e2,e3,e4⟩:=hrec;cases e1;have hcn:H c'=none:=I.hok.fresh hge;have ne:∀b u,H b=ak u->b≠c':=fun b u q z=>by rw[z,hcn]at q;cases q
 have sub:∀b u,H b=ak u->upd H c' (.frz oc (.own 0)) b=ak u:=fun b u q=>by rw[Zy (ne b u q)];exact q
 have tab:Gr pos (ps++#[Cu pos.line,Cu pos.col,.ref c']).toList=ak (.ref c'):=by rw[ID];exact codeAmong_snoc ps.toList tr hv
 have tr2:JC (ps++#[Cu pos.line,Cu pos.col,.ref c']).toList:=by rw[ID];exact TriplesOk_snoc pos.line pos.col (.ref c') ps.toList tr
 have J1:Inv X pins σ (upd H c' (.frz oc (.own 0))) {s with heap:=h',toks:=tk}:=by refine I.un ⟨fun b o q n _ _=>hx b o (fun z=>by rw[z,hP]at n;cases n) q,fun b o q n _ _=>⟨o.slots,hx b o (fun z=>by rw[z,hP]at n;cases n) q⟩,fun b o q n _=>by rw[Zy (AY (AG (AI q) hge))];exact n,fun b o q _=>?_,fun b xs q=>sub b _ q,fun b o u q=>sub b _ q,fun b p n q=>sub b _ q⟩ fun b u q=>?_;by_cases hb:b=P;exact⟨_,by rw[hb];exact htb⟩;exact⟨o,hx b o hb q⟩;by_cases hb:b=c';subst hb;rw[Zw]at q;cases q;exact⟨e2,_,e2⟩;rw[Zy hb]at q;by_cases hp:b=P;subst hp;rw[hP]at q;cases q;refine⟨_,htb,tr2,fun v hv'=>?_⟩;rw[tab]at hv';cases hv';exact⟨c',oc,vs,t,rfl,Zw,e3,e4⟩;refine(I.hok b u q).stay (fun d w hd q2=>hx d w (fun z=>?_) q2) (fun d q2=>sub d _ q2) (fun d xs q2=>sub d _ q2) fun d o u q2=>sub d _ q2;rcases hd with z2|z2;exact hp (z2.symm.trans z);rw[z,hP]at z2;cases z2
 have J:=J1.lay2 (h':=h') (fo:=Ke "<lambda>" qual params body sc cl ((X.mg "__name__").getD .none) c' ctv) (tk:=tk) (fun _ _ q=>q) (As _) rfl;have hn:upd H c' (.frz oc (.own 0)) h'.objs.size=none:=J1.hok.fresh (As _);refine h _ _ _ J (fun b o q=>by rw[Zy (Xe (sub b o q) hn)];exact sub b o q) ⟨c',_,ctv,oc,vs,t,Zw,?_,e3,e4⟩;rw[Zy (Xe Zw hn)];exact Zw
theorem Xfp(I:Inv X pins σ H s)(hB:BMod X.base X.mg)(hP:H P=ak (.tbl pos qual))(hcode:X.env.code=.ref c)(C:Iv X.base c P)(hcl:EW sc X.env=pure cl)(hq:X.env.qual++"<lambda>"=qual)(hdef:Ld params X.env=([],[]))(h:∀f H' s',Inv X pins σ H' s'->(∀b o,H b=ak o->H' b=ak o)->Zzz H' f qual params body sc cl->Q (.ref f) s'):Ak (Aw X.prog X.w) X.A (A6 (.Lambda params body sc pos) X.env) Q E s:=by
 refine PySem.W.kla_eval hdef ?_;rw[hq];obtain⟨ps,e,tr,hc⟩:=(show Je X.prog X.w H s.heap P (.tbl pos qual) from I.hok P _ hP);cases hv:Gr pos ps.toList with
 |none=>exact Xnj I hB hP hcode C hcl e tr hv h
 |some v=>exact Xmo I hB hP hcode C hcl e tr hv hc h
variable{ks:List Int}
def Zuu(K:AN)(a:Addr)(xs:List V)(tb:V->Hp->VK->Prop):List V->Hp->(List Int->Hp->Prop)->Prop
 |[],H,Q=>Q [] H
 |x::r,H,Q=>tb x H fun v H'=>∃k,v=.int k/\SqL K H' a xs/\Zuu K a xs tb r H' fun ks H2=>Q (k::ks) H2
def Zak(lt:Int->Int->Bool)(ks:List Int)(i:Nat):Prop:=i<ks.length/\(∀j,j<ks.length->lt (ks.getD j 0) (ks.getD i 0)=ar)/\∀j,j<i->lt (ks.getD i 0) (ks.getD j 0)=aq
theorem Inv.pinIt{b:Addr}(I:Inv X pins σ H s)(e:s.heap.get? b=ak o)(f:Zoa X pins H b)(hd:∀v,o.data≠.cell v):Inv X ((b,o)::pins) σ H s:=
  ⟨I.ok,I.os,I.bare,I.base,I.loc,I.cell,I.free,I.freeC,fun p hp=>by
    rcases Al.mp hp with z|z;exact I.pin p (Aq _ z)
    · rcases Aj.mp z with z|z;subst z;exact⟨e,f.1,f.2.1,f.2.2.1,hd⟩
      · exact I.pin p (Ah _ z),I.hok,I.len⟩
variable{q:Addr×Obj}
theorem Inv.unpin(I:Inv X (q::pins) σ H s):Inv X pins σ H s:=⟨I.ok,I.os,I.bare,I.base,I.loc,I.cell,I.free,I.freeC,fun p hp=>I.pin p ((Al.mp hp).elim (Aq _) fun z=>Ah _ (.tail _ z)),I.hok,I.len⟩
variable{p:Pos}
def FpX(X:Cx)(pins:List (Addr×Obj))(b:Addr):Prop:=b≠X.env.locals/\b∉X.fs/\(b∈X.ex\/X.s₀.heap.objs.size<=b)/\(∀x c,X.env.cells.lookup x=ak c->c≠b)/\∀p∈X.pn++pins,p.1≠b
variable{LP:Hp->Prop}{m n:Nat}{tb:V->Hp->VK->Prop}{u:TS}{xs:List V}{y:Str}
section
variable{I S:Addr}{R:Kh->Af->Prop}{Q:V->Hp->Prop}
def Xbe(X:Cx)(pins:List (Addr×Obj))(σ:St)(f:Addr)(LP:Hp->Prop)(tb:V->Hp->VK->Prop)(A:Ba):Prop:=∀(own:List (Addr×Obj)) (H:Hp) (s:Af) (x:V) (u:Value) (Q:VK),Inv X (own++pins) σ H s->LP H->RelV x u->tb x H Q->
 Ak (Aw X.prog X.w) A (call (.ref f) [u]) (fun u' s'=>∃v H',Inv X (own++pins) σ H' s'/\LP H'/\RelV v u'/\Q v H') (fun _ _=>False) s
theorem Xhb(hc:X.calm=aq)(hK:Xbe X pins σ f LP tb X.A.in1)(hI:FpX X pins I)(hS:FpX X pins S)(hIS:I≠S)(hR:∀(x:V) (u:Value) (H:Hp) (s:Af),Inv X pins σ H s->RelV x u->Q x H->R (.ok (.ret u)) s):∀(r:List V) (j:Nat) (H:Hp) (s:Af) (vb:Value) (kb:Int) (tk:Tok) (c:Nat) (oI:Obj) (i:Nat) (x:V) (dn:List Int),xs.drop (j+1)=r->j+1<=xs.length->dn.length=j+1->Zak (fun m n=>decide (m<n)) dn i->dn.getD i 0=kb->xs[i]?=ak x->RelV x vb->Inv X ((S,Bj "list" #[vb,.int kb tk] c)::(I,oI)::pins) σ H s->LP H->SqL X.K H a xs->a≠I->s.heap.IsListIter I a (j+1)->Zuu X.K a xs tb r H (fun ks H'=>∀i x,xs[i]?=ak x->Zak (fun m n=>decide (m<n)) (dn++ks) i->Q x H')->Dr (Aw X.prog X.w) X.A (.builtin "min.loop" ⟨[.ref I,.ref f,.ref S],[]⟩) R s:=by
 intro r
 induction r with
 |nil =>
  intro j H s vb kb tk c oI i x dn hr hj hdn hfi hkb hx rx J hf hq haI hit q;have hin:xs.length<=j+1:=by have:=ah D8 hr;rw[E6,GS]at this;omega
  obtain⟨its,rv,pl,hz⟩:=J.list hq;have hlen:=rv.length;obtain⟨pS,pS1,_⟩:=J.pin (S,Bj "list" #[vb,.int kb tk] c) (Ah _ (.head _));refine CC PySem.F.entry_min_loop ?_;rw[BQ PySem.F.plain_min_loop _];show Ak _ X.A.in1 (EJ (.ref S) >>= _) _ _ _;refine Aa (Bu pS rfl (show Ak _ X.A.in1 (Ek (C1 (.ref I)) _ >>= _) _ _ _ from Aa (B4 ((G7 (prog:=X.prog) (w:=X.w) (A:=X.A.in1) (J.ok.hd hc) I a haI its.toArray).done s _ _ ⟨by rw[Ay,<- hlen,show xs.length=j+1 by omega];exact hit,pl.isList⟩ fun h' tk' hk'=>?_))));have J1:Inv X ((S,Bj "list" #[vb,.int kb tk] c)::pins) σ H {s with heap:=h',toks:=tk'}:=by have J0:Inv X ((S,Bj "list" #[vb,.int kb tk] c)::pins) σ H s:=⟨J.ok,J.os,J.bare,J.base,J.loc,J.cell,J.free,J.freeC,fun p hp=>J.pin p ((Al.mp hp).elim (Aq _) fun z=>Ah _ ((Aj.mp z).elim (fun z=>by rw[z];exact .head _) fun z=>.tail _ (.tail _ z))),J.hok,J.len⟩;obtain⟨_,pI1,_⟩:=J.pin (I,oI) (Ah _ (.tail _ (.head _)));exact J0.turned (fun b o hb e=>hk' b o (fun z=>hb (Ap.mp z)) e) pI1 hI.1 hI.2.2.1 hI.2.2.2.1 fun p hp=>(Al.mp hp).elim (fun z=>hI.2.2.2.2 p (Aq _ z)) fun z=>(Aj.mp z).elim (fun z=>by rw[z];exact fun z=>hIS z.symm) fun z=>hI.2.2.2.2 p (Ah _ z)
  have pS2:=(J1.pin (S,Bj "list" #[vb,.int kb tk] c) (Ah _ (.head _))).1;have s1:=BU h' S (Bc fun _=>(#[]:Array Value));show Ak _ X.A.in1 (Hl S (fun _=>#[]) >>= _) _ _ _;refine Aa (C7 pS2 rfl (Aa (Cg (Ac (hR x vb H _ (J1.unpin.turned (t':=tk') (fun b o hb e=>(s1.2 b hb).trans e) pS1 hS.1 hS.2.2.1 hS.2.2.2.1 hS.2.2.2.2) rx (q i x hx ?_))))));rw[Dy];exact hfi
 |cons y r ih =>
  intro j H s vb kb tk c oI i x dn hr hj hdn hfi hkb hx rx J hf hq haI hit q;have hy:xs[j+1]?=ak y:=by have:=ah (fun l=>l[0]?) hr;rw[List.getElem?_drop]at this;exact this
  have hlt:j+1<xs.length:=(Am.mp hy).1;have hr2:xs.drop (j+1+1)=r:=by have:=ah List.tail hr;rw[List.tail_drop]at this;exact this
  obtain⟨its,rv,pl,hz⟩:=J.list hq;have hlen:=rv.length;obtain⟨pS,pS1,_⟩:=J.pin (S,Bj "list" #[vb,.int kb tk] c) (Ah _ (.head _));refine CC PySem.F.entry_min_loop ?_;rw[BQ PySem.F.plain_min_loop _];show Ak _ X.A.in1 (EJ (.ref S) >>= _) _ _ _;refine Aa (Bu pS rfl (show Ak _ X.A.in1 (Ek (C1 (.ref I)) _ >>= _) _ _ _ from Aa (B4 ((G7 (prog:=X.prog) (w:=X.w) (A:=X.A.in1) (J.ok.hd hc) I a haI its.toArray).item (j+1) s _ _ (by rw[Ay];omega) ⟨hit,pl.isList⟩ fun u h' tk' hP hst' hk'=>?_))));have hu:its[j+1]?=ak u:=by simpa using hP
  obtain⟨u2,hu2,ry⟩:=rv.get hy;rw[hu]at hu2;cases hu2;obtain⟨oI',hoI',hoc,hod⟩:=id hst'.1;have J1:Inv X ((S,Bj "list" #[vb,.int kb tk] c)::(I,oI')::pins) σ H {s with heap:=h',toks:=tk'}:=by have J0:Inv X ((S,Bj "list" #[vb,.int kb tk] c)::pins) σ H s:=⟨J.ok,J.os,J.bare,J.base,J.loc,J.cell,J.free,J.freeC,fun p hp=>J.pin p ((Al.mp hp).elim (Aq _) fun z=>Ah _ ((Aj.mp z).elim (fun z=>by rw[z];exact .head _) fun z=>.tail _ (.tail _ z))),J.hok,J.len⟩;obtain⟨_,pI1,_⟩:=J.pin (I,oI) (Ah _ (.tail _ (.head _)));have J2:=J0.turned (t':=tk') (fun b o hb e=>hk' b o (fun z=>hb (Ap.mp z)) e) pI1 hI.1 hI.2.2.1 hI.2.2.2.1 fun p hp=>(Al.mp hp).elim (fun z=>hI.2.2.2.2 p (Aq _ z)) fun z=>(Aj.mp z).elim (fun z=>by rw[z];exact fun z=>hIS z.symm) fun z=>hI.2.2.2.2 p (Ah _ z);have pS2:=(J2.pin (S,Bj "list" #[vb,.int kb tk] c) (Ah _ (.head _))).1;exact(J2.unpin.pinIt hoI' ⟨pI1,hI⟩ (fun v z=>by rw[hod]at z;cases z)).pinIt pS2 ⟨pS1,hS.1,hS.2.1,hS.2.2.1,hS.2.2.2.1,fun p hp=>(Al.mp hp).elim (fun z=>hS.2.2.2.2 p (Aq _ z)) fun z=>(Aj.mp z).elim (fun z=>by rw[z];exact hIS) fun z=>hS.2.2.2.2 p (Ah _ z)⟩ (fun v z=>by cases z)
  show Ak _ X.A.in1 (Ek (B6 [u] (call (.ref f) [u])) _ >>= _) _ _ _;refine Aa (B4 (Bp (BF (hK [(S,Bj "list" #[vb,.int kb tk] c),(I,oI')] H _ y u _ J1 hf ry q) (fun u' s2 he=>?_) fun _ _ z=>z.elim)));obtain⟨v,H2,J3,hf2,ru,k,rfl,hq2,q2⟩:=he;obtain⟨t2,rfl⟩:=ru;have J3:Inv X ((S,Bj "list" #[vb,.int kb tk] c)::(I,oI')::pins) σ H2 s2:=J3;obtain⟨pS3,pS4,_⟩:=J3.pin (S,Bj "list" #[vb,.int kb tk] c) (Ah _ (.head _));have pI3:=(J3.pin (I,oI') (Ah _ (.tail _ (.head _)))).1;have hit2:s2.heap.IsListIter I a (j+1+1):=⟨oI',pI3,hoc,hod⟩;show Ak _ X.A.in1 (Ek (B6 [u,.int k t2] (KI .Lt (.int k t2) (.int kb tk) >>= _)) _ >>= _) _ _ _;refine Aa (B4 (Bp (Aa (PySem.P.lt_int (show Ak _ X.A.in1 (B6 [En (decide (k<kb))] (HS (.bool (decide (k<kb)))) >>= _) _ _ _ from Aa (Bp (CD (Aa (Cg (Ac ?_))))))))));have fi1:=hfi.1;have at1:∀m,m<dn.length->(dn++[k]).getD m 0=dn.getD m 0:=fun m hm=>by rw[AA,AM hm,<- AA]
  have at2:(dn++[k]).getD dn.length 0=k:=by rw[AA,Bs (As _),Fn];rfl
  have la:(dn++[k]).length=dn.length+1:=by rw[Av];rfl
  have nxt:Zuu X.K a xs tb r H2 (fun ks H'=>∀i x,xs[i]?=ak x->Zak (fun m n=>decide (m<n)) ((dn++[k])++ks) i->Q x H'):=by
   have:(fun ks H'=>∀i x,xs[i]?=ak x->Zak (fun m n=>decide (m<n)) ((dn++[k])++ks) i->Q x H')=fun ks H'=>(fun ks H'=>∀i x,xs[i]?=ak x->Zak (fun m n=>decide (m<n)) (dn++ks) i->Q x H') (k::ks) H':=by funext ks H';rw[DE];rfl
   rw[this];exact q2
  by_cases hb:k<kb;have s1:=BU s2.heap S (Bc fun _=>#[u,.int k t2]);obtain⟨c2,hc2⟩:∃c2,(s2.heap.update S (Bc fun _=>#[u,.int k t2])).get? S=ak (Bj "list" #[u,.int k t2] c2):=⟨_,HC pS3 fun _=>#[u,.int k t2]⟩;have J4:Inv X ((S,Bj "list" #[u,.int k t2] c2)::(I,oI')::pins) σ H2 {s2 with heap:=s2.heap.update S (Bc fun _=>#[u,.int k t2])}:=by have fp:∀p∈X.pn++((I,oI')::pins),p.1≠S:=fun p hp=>(Al.mp hp).elim (fun z=>hS.2.2.2.2 p (Aq _ z)) fun z=>(Aj.mp z).elim (fun z=>by rw[z];exact hIS) fun z=>hS.2.2.2.2 p (Ah _ z);exact(J3.unpin.turned (t':=s2.toks) (fun b o hb e=>(s1.2 b hb).trans e) pS4 hS.1 hS.2.2.1 hS.2.2.2.1 fp).pinIt hc2 ⟨pS4,hS.1,hS.2.1,hS.2.2.1,hS.2.2.2.1,fp⟩ (fun v z=>by cases z)
  simp only[hb,decide_true,if_true];refine Aa (C7 pS3 rfl (Aa (Cg ?_)));rw[show(C8 "min"++C8 ".loop":String)="min.loop" by decide];refine Ac ⟨Ce PySem.F.plain_min_loop _,ih (j+1) H2 _ u k t2 c2 oI' dn.length y (dn++[k]) hr2 hlt (by rw[la,hdn]) ⟨by omega,fun m hm=>?_,fun m hm=>?_⟩ at2 (by rw[hdn];exact hy) ry J4 hf2 hq2 haI ⟨oI',(s1.2 I hIS).trans pI3,hoc,hod⟩ nxt⟩;rw[at2];by_cases e:m=dn.length;rw[e,at2];exact ai (by omega);rw[at1 m (by omega)];have:=of_decide_eq_false (hfi.2.1 m (by omega));exact ai (by omega);rw[at2,at1 m hm];have:=of_decide_eq_false (hfi.2.1 m hm);exact aj (by omega);simp only[hb,decide_false,AT,if_false];refine Aa (Cg ?_);rw[show(C8 "min"++C8 ".loop":String)="min.loop" by decide];refine Ac ⟨Ce PySem.F.plain_min_loop _,ih (j+1) H2 _ vb kb tk c oI' i x (dn++[k]) hr2 hlt (by rw[la,hdn]) ⟨by omega,fun m hm=>?_,fun m hm=>?_⟩ (by rw[at1 i fi1];exact hkb) hx rx J3 hf2 hq2 haI hit2 nxt⟩;rw[at1 i fi1];by_cases e:m=dn.length;rw[e,at2,hkb];exact ai hb;rw[at1 m (by omega)];exact hfi.2.1 m (by omega);rw[at1 i fi1,at1 m (by omega)];exact hfi.2.2 m hm
end
variable{Q:VK}
theorem Xow(hc:X.calm=aq)(hK:Xbe X pins σ f LP tb X.A.in1)(J:Inv X pins σ H s)(hf:LP H)(hq:SqL X.K H a xs)(hne:0<xs.length)(q:Zuu X.K a xs tb xs H fun ks H'=>∀i x,xs[i]?=ak x->Zak (fun m n=>decide (m<n)) ks i->Q x H'):Ak (Aw X.prog X.w) X.A (call (.builtin "min") [.ref a] [(BB "key",.ref f)]) (EP X pins σ Q) X.xe s:=by
 obtain⟨its,rv,pl,hz⟩:=J.list hq;have hlen:=rv.length;obtain⟨ol,hol,_⟩:=id pl.isList;have hll:a<s.heap.objs.size:=AI hol;obtain⟨I,eI⟩:∃I,I=s.heap.objs.size:=⟨_,rfl⟩;obtain⟨h1,e1⟩:∃h1,h1=s.heap.push {cls:=.type "list_iterator",data:=.fields #[.ref a,.int 0 0]}:=⟨_,rfl⟩;obtain⟨S,eS⟩:∃S,S=h1.objs.size:=⟨_,rfl⟩;obtain⟨h2,e2⟩:∃h2,h2=h1.push (Bj "list" #[] 0):=⟨_,rfl⟩;have z1:h1.objs.size=s.heap.objs.size+1:=by rw[e1];exact GP ..
 have k1:∀b o,s.heap.get? b=ak o->h1.get? b=ak o:=fun b o e=>by rw[e1];exact Ae _ e
 have k2:∀b o,h1.get? b=ak o->h2.get? b=ak o:=fun b o e=>by rw[e2];exact Ae _ e
 have gI:h2.get? I=ak {cls:=.type "list_iterator",data:=.fields #[.ref a,.int 0 0]}:=k2 _ _ (by rw[e1,eI];exact Au _ rfl);have gS:h2.get? S=ak (Bj "list" #[] 0):=by rw[e2,eS];exact Au _ rfl
 have fI:Zoa X pins H I:=J.fpOk (by rw[eI];exact As _) (J.hok.fresh (by rw[eI];exact As _));have fS:Zoa X pins H S:=J.fpOk (by rw[eS,z1];exact G3 _) (J.hok.fresh (by rw[eS,z1];exact G3 _));have hIS:I≠S:=by rw[eS,z1,eI];exact AY (E1 _)
 have haI:a≠I:=by rw[eI];exact AY hll
 have J2:Inv X pins σ H {s with heap:=h2}:=J.kept (t':=s.toks) fun b o e=>k2 _ _ (k1 _ _ e);refine kmk_tree PySem.F.kind_min PySem.F.plain_min PySem.F.entry_min (kmk_min_key _ _) ?_;show Ak _ X.A.in1 (CB "min" ["key","default"] 0 ⟨[],[(BB "key",.ref f)]⟩ >>= _) _ _ s;refine Aa (Gf (show CB "min" ["key","default"] 0 ⟨[],[(BB "key",.ref f)]⟩=pure [ak (.ref f),ao] from rfl) (Aa (Ac (Aa (E3 pl.isList (Aa (IE ?_ (Dp _))))))));rw[show(C8 "min"++C8 ".loop":String)="min.loop" by decide];rw[<- e1,<- eS,<- eI];show Ak _ X.A.in1 (KJ _) _ _ {s with heap:=h1.push (Bj "list" #[] 0)};rw[<- e2];refine Ac ⟨Ce PySem.F.plain_min_loop _,CC PySem.F.entry_min_loop ?_⟩;rw[BQ PySem.F.plain_min_loop _];show Ak _ X.A.in1 (EJ (.ref S) >>= _) _ _ _;obtain⟨y,r,rfl⟩:∃y r,xs=y::r:=by
  cases xs with
  |nil=>simp at hne
  |cons y r=>exact⟨y,r,rfl⟩
 obtain⟨its2,rv2,pl2,hz2⟩:=J2.list hq;have hlen2:=rv2.length;refine Aa (Bu gS rfl (show Ak _ X.A.in1 (Ek (C1 (.ref I)) _ >>= _) _ _ _ from Aa (B4 ((G7 (prog:=X.prog) (w:=X.w) (A:=X.A.in1) (J.ok.hd hc) I a haI its2.toArray).item 0 _ _ _ (by rw[Ay,<- hlen2];exact hne) ⟨⟨_,gI,rfl,rfl⟩,pl2.isList⟩ fun u h' tk' hP hst' hk'=>?_))));have hu:its2[0]?=ak u:=by simpa using hP
 obtain⟨u2,hu2,ry⟩:=rv2.get (i:=0) (x:=y) rfl;rw[hu]at hu2;cases hu2;obtain⟨oI',hoI',hoc,hod⟩:=id hst'.1;have gS':h'.get? S=ak (Bj "list" #[] 0):=hk' S _ (fun z=>hIS (Ap.mp z).symm) gS;have fp2:∀p∈X.pn++((I,oI')::pins),p.1≠S:=fun p hp=>(Al.mp hp).elim (fun z=>fS.2.2.2.2.2 p (Aq _ z)) fun z=>(Aj.mp z).elim (fun z=>by rw[z];exact hIS) fun z=>fS.2.2.2.2.2 p (Ah _ z);have J3:Inv X ((S,Bj "list" #[] 0)::(I,oI')::pins) σ H {s with heap:=h',toks:=tk'}:=((J2.turned (t':=tk') (fun b o hb e=>hk' b o (fun z=>hb (Ap.mp z)) e) fI.1 fI.2.1 fI.2.2.2.1 fI.2.2.2.2.1 fI.2.2.2.2.2).pinIt hoI' fI (fun v z=>by rw[hod]at z;cases z)).pinIt gS' ⟨fS.1,fS.2.1,fS.2.2.1,fS.2.2.2.1,fS.2.2.2.2.1,fp2⟩ (fun v z=>by cases z);show Ak _ X.A.in1 (Ek (B6 [u] (call (.ref f) [u])) _ >>= _) _ _ _;refine Aa (B4 (Bp (BF (hK [(S,Bj "list" #[] 0),(I,oI')] H _ y u _ J3 hf ry q) (fun u' s2 he=>?_) fun _ _ z=>z.elim)));obtain⟨v,H2,J4,hf2,ru,k,rfl,hq2,q2⟩:=he;obtain⟨t2,rfl⟩:=ru;have J4:Inv X ((S,Bj "list" #[] 0)::(I,oI')::pins) σ H2 s2:=J4;obtain⟨pS3,pS4,_⟩:=J4.pin (S,Bj "list" #[] 0) (Ah _ (.head _));have pI3:=(J4.pin (I,oI') (Ah _ (.tail _ (.head _)))).1;have s1:=BU s2.heap S (Bc fun _=>#[u,.int k t2]);obtain⟨c2,hc2⟩:∃c2,(s2.heap.update S (Bc fun _=>#[u,.int k t2])).get? S=ak (Bj "list" #[u,.int k t2] c2):=⟨_,HC pS3 fun _=>#[u,.int k t2]⟩;have J5:Inv X ((S,Bj "list" #[u,.int k t2] c2)::(I,oI')::pins) σ H2 {s2 with heap:=s2.heap.update S (Bc fun _=>#[u,.int k t2])}:=(J4.unpin.turned (t':=s2.toks) (fun b o hb e=>(s1.2 b hb).trans e) pS4 fS.2.1 fS.2.2.2.1 fS.2.2.2.2.1 fp2).pinIt hc2 ⟨pS4,fS.2.1,fS.2.2.1,fS.2.2.2.1,fS.2.2.2.2.1,fp2⟩ (fun v z=>by cases z);show Ak _ X.A.in1 (Hl S (fun _=>#[u,.int k t2]) >>= _) _ _ _;refine Aa (C7 pS3 rfl ?_);rw[show(C8 "min"++C8 ".loop":String)="min.loop" by decide];refine Ac ⟨Ce PySem.F.plain_min_loop _,Xhb (xs:=y::r) (Q:=Q) (R:=fun r s'=>match r with| .ok (.ret v)=>EP X pins σ Q v s'| .ok _=>False| .error e=>X.xe e s') hc hK fI.2 fS.2 hIS (fun x u H s J ru q=>⟨x,H,J,ru,q⟩) r 0 H2 _ u k t2 c2 oI' 0 y [k] rfl hne rfl ⟨Nat.zero_lt_one,fun m hm=>?_,fun m hm=>af hm (Fh _)⟩ rfl rfl ry J5 hf2 hq2 haI ⟨oI',(s1.2 I hIS).trans pI3,hoc,hod⟩ q2⟩;have e:m=0:=by have:m<1:=hm;omega
 rw[e];exact ai (by omega)
def Xuu(K:AN)(lt:Int->Int->Bool)(js:List Nat)(tb:TE)(σ:St)(vs:List V)(H1:Hp)(Q:VK):Prop:=∃a xs ws,vs=[.ref a]/\SqL K H1 a xs/\0<xs.length/\js.map (fun j=>σ[j]?)=ws.map (fun v=>ak (ak v))/\
 ∀H2,(∀b o,H1 b=ak o->H2 b=ak o)->Zuu K a xs (fun x H Q=>tb ((x::ws).map ak) H Q) xs H2 fun ks H3=>∀i x,xs[i]?=ak x->Zak lt ks i->Q x H3
variable{Q:Value->Af->Prop}
def Xay(K:AN)(lt:Int->Int->Bool)(te:TE)(js:List Nat)(tb:TE):TE:=fun σ H Q=>Zbk te Zoq σ H fun vs H1=>Xuu K lt js tb σ vs H1 Q
structure Xbu(X:Cx)(N:List Str)(p qual:Str)(params:Ft)(body:Expr)(sc:Scope)(cl:List (Str×Addr))(js:List Nat)(P c:Addr)(lpos:Pos):Prop where
 bm:BMod X.base X.mg
 tab:X.H₀ P=ak (.tbl lpos qual)
 code:X.env.code=.ref c
 hd:Iv X.base c P
 clo:EW sc X.env=pure cl
 qu:X.env.qual++"<lambda>"=qual
 df:Ld params X.env=([],[])
 lsc:Xly X N p sc cl
 jsx:∀(i:Nat) (x:Str),N.tail[i]?=ak x->∃j:Nat,js[i]?=ak j/\X.N[j]?=ak x/\Vis X.env.scope x/\X.env.kindOf x≠ak .local
 len:js.length+1=N.length
 bind:∀(u pm ctv:Value) (c:Addr),Ie (kla_fn "<lambda>" qual params body sc cl pm (.ref c) ctv) ⟨[u],[]⟩=pure [(p,u)]
 dep:X.A.in1.depth<EQ
 calm:X.calm=aq
theorem SqL.sub(h:SqL K H a xs)(s:∀b o,H b=ak o->H' b=ak o):SqL K H' a xs:=by rcases h with(h|⟨o,h⟩)|h;exact .inl (.inl (s _ _ h));exact .inl (.inr ⟨o,s _ _ h⟩);exact .inr h
variable{js:List Nat}{lpos:Pos}{p:Str}
theorem Xqi{L:Xbu X N p qual params body sc cl js P c lpos}(e:js.map (fun j=>σ[j]?)=vs.map (fun v=>ak (ak v))):Xmr X σ N.tail vs:=fun i x v h1 h2=>by obtain⟨j,j1,j2,j3,j4⟩:=L.jsx i x h1;refine⟨j,j2,?_,j3,j4⟩;have:=ah (fun l=>l[i]?) e;simp only[AS,j1,h2,Ki]at this;exact AE this
variable{tb:TE}
theorem Xnp(L:Xbu X N p qual params body sc cl js P c lpos)(e:js.map (fun j=>σ[j]?)=vs.map (fun v=>ak (ak v)))(hb:∀f c s H,PE (cxL X X.A.in1 N qual sc f (.ref c) cl s H) body tb):Xbe X pins σ f (fun H=>Zzz H f qual params body sc cl) (fun x H Q=>tb ((x::vs).map ak) H Q) X.A.in1:=fun own H s x u Q I lam rx q=>by
 obtain⟨c',pm,ctv,oc,ws,t,e1,e2,e3,e4⟩:=lam;obtain⟨g1,_⟩:=(show Je X.prog X.w H s.heap f (.frz _ (.own 0)) from I.hok f _ e1);obtain⟨g2,_⟩:=(show Je X.prog X.w H s.heap c' (.frz _ (.own 0)) from I.hok c' _ e2);have hl:vs.length+1=N.length:=by have:=ah D8 e;rw[Ai,Ai]at this;rw[<- this];exact L.len
 refine wpAny_call (G5 (Xli I L.lsc I.ok.frames (I.ok.hd L.calm) L.dep hl (Xqi (L:=L) e) rx g1 ⟨c',oc,ws,t,rfl,g2,e3,e4⟩ (L.bind u pm ctv c') (hb f c' s H) q) fun r s' hr=>?_);cases r with
 |error e=>exact hr.elim
 |ok fl =>
  cases fl with
  |ret u' =>obtain⟨v,H',os,bare,un,hok,r,q⟩:=hr;obtain⟨v2,H2,J,r2,q2,l2⟩:=I.after (Q:=fun v H=>Q v H/\Zzz H f qual params body sc cl) ⟨v,H',os,bare,un,hok,r,q,c',pm,ctv,oc,ws,t,un.frzs _ _ _ e1,un.frzs _ _ _ e2,e3,e4⟩;exact⟨v2,H2,J,l2,r2,q2⟩
  |next=>exact hr.elim
  |brk=>exact hr.elim
  |cont=>exact hr.elim
variable{kp np:Pos}
theorem Xqe(hg:Gl X "min")(hm:X.mg "min"=ao)(he:PE X e te)(L:Xbu X N p qual params body sc cl js P c lpos)(hb:∀f c s H,PE (cxL X X.A.in1 N qual sc f (.ref c) cl s H) body tb)(hs:Ad [e] X.env=(ar,A6 e X.env)::Ad [] X.env)(hs3:Ad ([]:List Expr) X.env=[]:=by rfl) :
  PE X (.Call (.Name "min" np) [e] [⟨ak "key",.Lambda params body sc lpos,kp⟩] pos) (Xay X.K (fun m n=>decide (m<n)) te js tb):=by
 intro pins s σ H Q I h;refine Cs (Zdh I hg hm boot_min ?_ (by decide) (by decide));refine callWith_kw (thn (Zdt he Ziz hs pos pins s σ H _ I h) fun us s1 ⟨vs,H1,I1,r1,q1⟩=>?_) (by rw[hs,hs3];rfl) (by rw[hs,hs3];rfl) rfl rfl;obtain⟨a,xs,ws,rfl,hq,hne,ew,q⟩:=q1;obtain⟨u,rfl,rx⟩:=vals1 r1;cases rx;refine kws_cons (Xfp I1 L.bm (I1.base.tbls P lpos qual L.tab) L.code L.hd L.clo L.qu L.df fun f H' s' J sub lam=>kws_nil ?_);exact Xow L.calm (Xnp L ew hb) J lam (hq.sub sub) hne (q H' sub)
theorem Xfd{lt:Int->Int->Bool}(h:Dl.Zgu lt ks i=aq)(hi:i<ks.length):Zak lt ks i:=by unfold Dl.Zgu at h;rw[AC,BG,BG]at h;refine⟨hi,fun j hj=>?_,fun j hj=>h.2 j (Bi.mpr hj)⟩;have:=h.1 j (Bi.mpr hj);rw[Kp]at this;exact this
theorem Zxw{lt:Int->Int->Bool}(h:Zak lt ks i)(g:Zak lt ks j):i=j:=by rcases Nat.lt_trichotomy i j with z|z|z;have:=g.2.2 i z;rw[h.2.1 j g.1]at this;cases this;exact z;have:=h.2.2 j z;rw[g.2.1 i h.1]at this;cases this
variable{C:String->Addr}{Γ Δ:List Nat}
theorem Xak{H0 Hb H:Hp}{σ:St}{ρ:Xr}{A:Nat->List Addr}(I:Zo K C H0 Hb H Γ Δ σ ρ A):∀{js:List Nat} {fs:List D},Dl.Zgc js ρ=.ok fs->∃ws B,js.map (fun j=>σ[j]?)=ws.map (fun v=>ak (ak v))/\RpA K C H fs ws B
 |[],fs,e=>by cases e;exact⟨[],[],rfl,rfl,rfl⟩
 |j::r,fs,e=>by
  have e:(Dl.fV j ρ).bind (fun x=>(Dl.Zgc r ρ).bind fun xs=>.ok (x::xs))=.ok fs:=e;cases h1:Dl.fV j ρ with
  |bad=>rw[h1]at e;cases e
  |err c x=>rw[h1]at e;cases e
  |ok d =>
   rw[h1]at e;cases h2:Dl.Zgc r ρ with
   |bad =>have e:(Dl.Zgc r ρ).bind (fun xs=>R.ok (d::xs))=.ok fs:=e;rw[h2]at e;cases e
   |err c x =>have e:(Dl.Zgc r ρ).bind (fun xs=>R.ok (d::xs))=.ok fs:=e;rw[h2]at e;cases e
   |ok xs =>
    have e:(Dl.Zgc r ρ).bind (fun xs=>R.ok (d::xs))=.ok fs:=e;rw[h2]at e;cases e;obtain⟨ws,B,e1,e2⟩:=Xak I h2;have hd:ρ[j]?=ak (ak d):=by unfold Dl.fV at h1;split at h1;rename_i d' hd;cases h1;exact hd;cases h1
    obtain⟨v,s1,s2⟩:=I.rep j d hd;exact⟨v::ws,A j++B,by rw[AZ,AZ,s1,e1],v,ws,A j,B,rfl,s2,e2,rfl⟩
variable{Sb:List (Nat×Bool)}{d:Addr}{g:FS}{mb:Nat}
theorem Xbx{a:Addr}{XS:List V}{tb:TE}{fb:FE}{fs:List D}{ws:List V}{H1:Hp}(hb:EOk K C E0 [] [] mb Sb tb fb)(ha:SqL K H1 a XS):∀{ds:List D} {xs:List V} {B Bf:List Addr} {H2:Hp} {ks:List Int} {Q:List Int->Hp->Prop},Xf H1 H2->RpA K C H2 ds xs B->RpA K C H2 fs ws Bf->Dl.Zde fb (fs.map ak) ds=.ok ks->(∀H3,Xf H2 H3->Q ks H3)->
  Zuu K a XS (fun x H Q=>tb ((x::ws).map ak) H Q) xs H2 Q
 |[],xs,B,Bf,H2,ks,Q,g,r,rf,e,q=>by cases e;rw[r.1];exact q H2 (Xf.refl _)
 |d::ds,xs,B,Bf,H2,ks,Q,g,r,rf,e,q=>by
  obtain⟨x,l,B1,B2,rfl,r1,r2,_⟩:=r;have e:(fb (ak d::fs.map ak)).calm.bind (fun k=>match k with| .int k=>(Dl.Zde fb (fs.map ak) ds).bind fun ks=>.ok (k::ks)|_=>.bad)=.ok ks:=e;obtain⟨A,I⟩:=Znl (N:=0) (K:=K) (C:=C) (ds:=d::fs) (vs:=x::ws) (B:=B1++Bf) (H:=H2) ⟨x,ws,B1,Bf,rfl,r1,rf,rfl⟩;have hl:(ws.length:Nat)=fs.length:=rf.len;have I':Zo K C H2 H2 H2 [] [] ((x::ws).map ak) ((d::fs).map ak) A:=by simpa[hl] using I
  show tb ((x::ws).map ak) H2 _;refine hb H2 H2 H2 _ _ A _ I' ?_;show Xd (fb (ak d::fs.map ak)) _ _;cases h1:fb (ak d::fs.map ak) with
  |bad=>rw[h1]at e;cases e
  |err c x=>rw[h1]at e;cases e
  |ok k =>
   rw[h1]at e;intro v H' g' rs;obtain⟨Bv,rv,_⟩:=rs;cases k with
   |int k =>
    have e:(Dl.Zde fb (fs.map ak) ds).bind (fun ks=>R.ok (k::ks))=.ok ks:=e;cases h2:Dl.Zde fb (fs.map ak) ds with
    |bad=>rw[h2]at e;cases e
    |err c x=>rw[h2]at e;cases e
    |ok ks2 =>rw[h2]at e;cases e;refine⟨k,rv.1,ha.sub (fun b o z=>g' _ _ (g _ _ z)),Xbx hb ha (g.trans g') (r2.same g') (rf.same g') h2 fun H3 g3=>q H3 (g'.trans g3)⟩
   |_=>cases e
variable{er:String->Option Int->Prop}{fb fe:FE}{ρ:Xr}
theorem Xcx{lt:Int->Int->Bool}{ok:D->Prop}(p:Xd (Dl.Ziy lt fe js fb ρ) ok er):Xd (fe ρ) (fun d=>∃ds fs ks i z,d=.lst ds/\0<ds.length/\Dl.Zgc js ρ=.ok fs/\Dl.Zde fb (fs.map ak) ds=.ok ks/\Zak lt ks i/\ds[i]?=ak z/\ok z) er:=by
 refine Xd.imp (Xd.bind p) (fun d q=>?_) fun c x q=>q;cases d with
 |lst ds =>
  have q:Xd (if ds.isEmpty then R.bad else (Dl.Zgc js ρ).calm.bind fun fs=>(Dl.Zde fb (fs.map ak) ds).bind (Dl.Zpk lt ds)) ok er:=q;split at q;exact q.elim;rename_i hne;cases h1:Dl.Zgc js ρ with
  |bad=>rw[h1]at q;exact q.elim
  |err c x=>rw[h1]at q;exact q.elim
  |ok fs =>
   rw[h1]at q;have q:Xd ((Dl.Zde fb (fs.map ak) ds).bind (Dl.Zpk lt ds)) ok er:=q;cases h2:Dl.Zde fb (fs.map ak) ds with
   |bad=>rw[h2]at q;exact q.elim
   |err c x =>
    exfalso;have:∀(l:List D) c x,Dl.Zde fb (fs.map ak) l≠.err c x:=fun l=>by
     induction l with
     |nil=>intro c x z;cases z
     |cons y l ih =>
      intro c x z;have z:(fb (ak y::fs.map ak)).calm.bind (fun k=>match k with| .int k=>(Dl.Zde fb (fs.map ak) l).bind fun ks=>.ok (k::ks)|_=>.bad)=.err c x:=z;cases h3:fb (ak y::fs.map ak) with
      |bad=>rw[h3]at z;cases z
      |err c x=>rw[h3]at z;cases z
      |ok k =>
       rw[h3]at z;cases k with
       |int k =>
        have z:(Dl.Zde fb (fs.map ak) l).bind (fun ks=>R.ok (k::ks))=.err c x:=z;cases h4:Dl.Zde fb (fs.map ak) l with
        |bad=>rw[h4]at z;cases z
        |err c' x'=>exact ih c' x' h4
        |ok ks=>rw[h4]at z;cases z
       |_=>cases z
    exact this ds c x h2
   |ok ks =>rw[h2]at q;have q:Xd (Dl.Zpk lt ds ks) ok er:=q;unfold Dl.Zpk at q;split at q;rename_i i hi;obtain⟨z,e,q⟩:=Zbm q;have hm:=EB hi;exact⟨ds,fs,ks,i,z,rfl,by cases ds with|nil=>simp at hne|cons _ _=>exact EO _,rfl,h2,Xfd (GU hi) (Bi.mp hm),e,q⟩;exact q.elim
 |_=>exact q.elim
variable{E:XK}{S:List (Nat×Bool)}
theorem Xad{lt:Int->Int->Bool}(he:EOk K C E Γ Δ m S te fe)(hb:EOk K C E0 [] [] mb Sb tb fb):EOk K C E Γ Δ 0 S (Xay K lt te js tb) (Dl.Ziy lt fe js fb):=fun H0 Hb H σ ρ A Q I p =>
  he H0 Hb H σ ρ A _ I (Xd.imp (Xcx p) (fun d q v H1 g1 r=>by
    obtain ⟨ds,fs,ks,i,z,rfl,hne,h1,h2,h3,h4,q⟩:=q;obtain ⟨B,r,r',_⟩:=r;obtain ⟨a,xs,B',rfl,e2,e3,e4⟩:=r;obtain ⟨ws,Bf,w1,w2⟩:=Xak (I.mono g1) h1;show Xuu K lt js tb σ [.ref a] H1 Q;refine ⟨a,xs,ws,rfl,SqL.of e2,by rw [e3.len];exact hne,w1,fun H2 sub=>Xbx hb (SqL.of e2) sub (e3.same sub) (w2.same sub) h2 fun H3 g3 j x hx hj=>?_⟩;have:=Zxw h3 hj;subst this;obtain ⟨v,Bz,z1,z2,z3⟩:=e3.get h4;rw [hx] at z1;cases z1;have gg:Xf H1 H3:=Xf.trans sub g3;exact q x H3 (g1.trans gg) ⟨Bz,z2.same gg,fun b hb=>r' b (by rw [e4];exact .tail _ (z3 b hb)),(fun z=>nomatch z),(fun z=>nomatch z)⟩) fun c x q H' g'=>q H' g')
theorem Xlb(hg:Gl X "min")(hm:X.mg "min"=ao)(he:JE X C E Γ Δ m S e te fe)(L:Xbu X N p qual params body sc cl js P c lpos)(hb:∀f c s H,JE (cxL X X.A.in1 N qual sc f (.ref c) cl s H) C E0 [] [] mb Sb body tb fb)(hs:Ad [e] X.env=(ar,A6 e X.env)::Ad [] X.env):JE X C E Γ Δ 0 S (.Call (.Name "min" np) [e] [⟨ak "key",.Lambda params body sc lpos,kp⟩] pos) (Xay X.K (fun m n=>decide (m<n)) te js tb) (Dl.Ziy (fun m n=>decide (m<n)) fe js fb):=
 ⟨⟨Xqe hg hm he.q.out L (fun f c s H=>(hb f c s H).q.out) hs⟩,Xad he.o (hb 0 0 X.s₀ X.H₀).o⟩
def Zdf(ts:List (Addr×Pos×Str))(H:Hp):Prop:=∀t∈ts,H t.1=ak (.tbl t.2.1 t.2.2)
def spL(ts:List (Addr×Pos×Str))(sp:Sp):Sp:=fun vs H Q E=>Zdf ts H/\sp vs H Q E
variable{an od:Option Addr}{osl:Array (Option Value)}
structure Xna(K:AN)(x qual:Str)(st:Stmt)(f:Addr)(fd:CH)(c:Addr):Prop where
 ex:∃(oc:Value) (od:Option Addr) (kV doc pm:Value) (an:Option Addr) (ct:Value) (osl:Array (Option Value)),
  fd=fnOf x qual (Zfr st) (Jh st) (Zh st) .none kV doc pm an (.ref c) ct/\K.lookup f=ak ⟨oc,od,.func fd,osl⟩/\Hs K (.ref c) qual=aq
 kp:Gi K (.ref f)=aq
variable{st:Stmt}
theorem Xna.one(F:Xna K x qual st f fd c):Fun K x qual st f fd:=by obtain⟨oc,od,kV,doc,pm,an,ct,osl,h1,h2,h3⟩:=F.ex;exact⟨⟨oc,od,kV,doc,pm,an,.ref c,ct,osl,h1,h2,h3⟩,F.kp⟩
variable{P:AR}{base:Bg}{k mr:Nat}{ps:List Str}{ts:List (Addr×Pos×Str)}{Γ' Δ':List Nat}
theorem Fun.okL(F:Fun K x qual st f fd)(S:Xc N ps (Zh st))(hn:ps.length=n)(hbody:∀(cdv:Value) (A:Ba) (outer:List Env) (s:Af) (H:Hp) (E:XK),Zcd k (A.deeper (DT qual (Zh st) s.heap.objs.size f cdv))->Zdf ts H->∃t,JSs (Zmw CX0 P w K mg base N qual (Zh st) f cdv A outer s H E).nox C E0 mr [] [] [] [] Γ' Δ' (Jh st) t g):Zap P w K mg base CX0 (k+1) f fd ps (spL ts (spD K C n mr fun ds=>(Dl.run N.length g ds).calm)):=
  F.okQ S (fun vs H Q E h=>by
    obtain ⟨_,ds,B,h1,h2,_⟩:=h;rw [h2.len,h1,hn]) fun cdv A outer s H vs Q E hr h=>by
    obtain⟨h0,ds,B,h1,h2,h3⟩:=h;obtain⟨t,ht⟩:=hbody cdv A outer s H E hr h0;exact⟨t,ht.q,Zgn (K:=K) ht.o h2 (Xd.imp (Zbi h3) (fun _ q=>q) fun _ _ z=>z.elim)⟩
theorem Xna.okL(F:Xna K x qual st f fd c)(S:Xc N ps (Zh st))(hn:ps.length=n)(hbody:∀(A:Ba) (outer:List Env) (s:Af) (H:Hp) (E:XK),Zcd k (A.deeper (DT qual (Zh st) s.heap.objs.size f (.ref c)))->Zdf ts H->∃t,JSs (Zmw CX0 P w K mg base N qual (Zh st) f (.ref c) A outer s H E).nox C E0 mr [] [] [] [] Γ' Δ' (Jh st) t g):Zap P w K mg base CX0 (k+1) f fd ps (spL ts (spD K C n mr fun ds=>(Dl.run N.length g ds).calm)):=by
  obtain ⟨oc,od,kV,doc,pm,an,ct,osl,rfl,lk,hcd⟩:=F.ex;refine Xqw lk hcd S (fun vs H Q E h=>by
    obtain ⟨_,ds,B,h1,h2,_⟩:=h;rw [h2.len,h1,hn]) fun A outer s H vs Q E hr h=>?_
  obtain⟨h0,ds,B,h1,h2,h3⟩:=h;obtain⟨t,ht⟩:=hbody A outer s H E hr h0;exact⟨t,ht.q.out.nox,Zgn (K:=K) ht.o h2 (Xd.imp (Zbi h3) (fun _ q=>q) fun _ _ z=>z.elim)⟩
variable{F:List D->R D}{es:List Expr}{p:Pos}{t:TA}
theorem Zda{f:FA}(Df:Def X.prog X.w X.K X.mg X.base CX0 k x ps (spL ts (spD K C n mr F)))(hr:Zcd k X.A)(hg:Gl X x)(hx:Zdk CX0 X E)(hL:Zdf ts X.H₀)
  (ha:JA X C E Γ Δ m S (e::es) n t f) (hdb:(x==("__debug__":Str))=false:=by decide) (he:Ad (e::es) X.env=(ar,A6 e X.env)::Ad es X.env:=by rfl) (hpl:(BL pos (Ad es X.env)).any (·.1)=false:=by rfl) (hK:X.K=K:=by rfl) :
  JE X C E Γ Δ mr [] (.Call (.Name x p) (e::es) [] pos) (Zkj (spD K C n mr F) [] E t) (Dl.Ya F f):=by
 subst hK;refine⟨⟨fun pins s σ H Q I h=>?_⟩,Zrv ha.o ha.n⟩;have ha':PA X (e::es) fun σ H Q=>∃Q0:List V->Hp->Prop,t σ H Q0/\∀vs H1,Q0 vs H1->Zdf ts H1->Q vs H1:=fun pos pins s σ H Q I ⟨Q0,h,hq⟩ =>
  thn (ha.q.out pos pins s σ H Q0 I h) fun us s1 ⟨vs,H1,I1,r,q⟩=>⟨vs,H1,I1,r,hq vs H1 q fun t ht=>I1.base.tbls _ _ _ (hL t ht)⟩
 exact Zro Df hr hg hx ha' hdb he hpl pins s σ H Q I ⟨_,h,fun vs H1 q l=>⟨l,q⟩⟩
def Ji(T:List Addr)(K:AN):AN:=K.filter fun p=>!T.contains p.1
theorem Zez{T:List Addr}{a:Addr}(h:T.contains a=aq):∀K:AN,(Ji T K).lookup a=ao
 |[]=>rfl
 |(b,o)::K=>by unfold Ji;rw[GK];split;rename_i hb;rw[Bh];split;rename_i e;have e:=Fp e;subst e;have hb:(!T.contains a)=true:=hb;rw[h]at hb;cases hb;exact Zez h K;exact Zez h K
theorem Yo{T:List Addr}{a:Addr}(h:T.contains a=ar):∀K:AN,(Ji T K).lookup a=K.lookup a
 |[]=>rfl
 |(b,o)::K=>by unfold Ji;rw[GK,Bh];split;rw[Bh];split;rfl;exact Yo h K;rename_i hb;have hb:¬(!T.contains b)=true:=hb;split;rename_i e;have e:=Fp e;subst e;rw[h]at hb;exact af rfl hb;exact Yo h K
variable{T:List Addr}
theorem Zqs(x:K.In h):(Ji T K).In h:=fun a o e=>by
 cases q:T.contains a with
 |true=>rw[Zez q]at e;cases e
 |false=>rw[Yo q]at e;exact x a o e
variable{n:Str}
theorem Zp(e:Cr K a n=ak v)(h:T.contains a=false:=by decide):Cr (Ji T K) a n=ak v:=by unfold Cr at e ⊢;rw[Yo h];exact e
theorem Zuy(e:Hs K (.ref c) qual=aq)(h:T.contains c=false:=by decide):Hs (Ji T K) (.ref c) qual=true:=by unfold Hs at e ⊢;simp only[Yo h];exact e
theorem Xic{P:Addr}(e:Gj K c P=aq)(h:T.contains c=false:=by decide):Gj (Ji T K) c P=true:=by unfold Gj at e ⊢;rw[Yo h];exact e
theorem Zuo(l:K.lookup f=ak ⟨oc,od,.func fd,osl⟩)(h:T.contains f=false:=by decide):Gi (Ji T K) (.ref f)=true:=by unfold Gi;simp only[Yo h,l]
theorem Xq{kV doc ct:Value}(l:K.lookup f=ak ⟨oc,od,.func (fnOf x qual (Zfr st) (Jh st) (Zh st) .none kV doc pm an (.ref c) ct),osl⟩)
  (cd:Hs K (.ref c) qual=aq) (hf:T.contains f=false:=by decide) (hc:T.contains c=false:=by decide):Xna (Ji T K) x qual st f (fnOf x qual (Zfr st) (Jh st) (Zh st) .none kV doc pm an (.ref c) ct) c:=
 ⟨⟨oc,od,kV,doc,pm,an,ct,osl,rfl,by rw[Yo hf];exact l,Zuy cd hc⟩,Zuo l hf⟩
theorem Zva(l:K.lookup a=ak o)(h:T.contains a=false:=by decide):(Ji T K).lookup a=ak o:=by rw[Yo h];exact l
theorem Xlq{base:Bg}{ob:Obj}(KX:K.In base)(G:base.Ns An mg)(e:Cr K An "__builtins__"=ak (ak (.ref bm)))(l:K.lookup bm=ak ob)(h:bm≠DU/\ob.cls=.type "module"/\ob.dict=ak DU/\ob.data=.plain):BMod base mg:=⟨bm,_,CF KX G e,h.1,KX _ _ l,h.2.1,h.2.2.1,h.2.2.2⟩
def Xew(ts:List (Addr×Pos×Str))(H:Hp):Prop:=∀b,H b=ao\/(∃o xs,H b=ak (.frz o (.lst xs)))\/∃t∈ts,b=t.1/\H b=ak (.tbl t.2.1 t.2.2)
variable{CX:CXT}{K0:AN}{mb:Str->Option Value}{ns:List Int}{s₁:Af}
theorem Zyv{k:Nat}{fa:Addr}{sp:Sp}{vs:List Value}(KX:K0.In s₁.heap)(hT:∀t∈ts,K0.lookup t.1=ak (HU #[]))(hC:∀t∈ts,isCodeTable s₁.heap t.1)(hnd:(ts.map (·.1)).Nodup)(hns:s₁.heap.Ns An mg)(hb:s₁.heap.Ns DU mb)(hbb:∀x:Str,x≠"__name__"->mb x=C3 x)(hlim:s₁.heap.NoLimit)(hg:s₁.gens=#[])(ha:s₁.heap.get? a=ak {cls:=.type "list",data:=.seq vs.toArray})(hi:Gs vs ns)(hl:ns.length<=Ar)(hr:Zcd k G6)(F:∀base:Bg,(Ji (ts.map (·.1)) K0).In base->base.Ns An mg->Zap P w (Ji (ts.map (·.1)) K0) mg base CX k fa fd [x] sp)(hbind:∀(s:Af) (u:Value),Gw s fd ⟨[u],[]⟩ [(x,u)])(hsp:∀H:Hp,Zdf ts H->Xew ts H->SqL (Ji (ts.map (·.1)) K0) H a (ns.map V.int)->sp [.ref a] H (fun v _=>v=.bl aq) fun _ _ _=>False)(hCX:∀H e s',CX [] H s₁ (fun _ _ _=>False) e s'->False):Dr (Aw P w) G6 (.call (.ref fa) ⟨[.ref a],[]⟩) (fun r s'=>r=.ok (.ret (.bool aq))/\OldK s₁.heap s'.heap/\s'.os=s₁.os/\EH s'.gens) s₁:=by
  have rv:=Zmo hi;have lenV:=hi.length;have tObj:∀t∈ts,s₁.heap.get? t.1=ak (HU #[]):=fun t ht=>KX _ _ (hT t ht);have aT:∀t∈ts,t.1≠a:=fun t ht z=>by have:=tObj t ht;rw[z,ha]at this;cases this
  have find:∀b,(∃t∈ts,t.1=b)\/∀t∈ts,t.1≠b:=fun b=>by
    by_cases h:∃t∈ts,t.1=b
    · exact .inl h
    · exact .inr fun t ht e=>h ⟨t,ht,e⟩
  have one:∀{t u:Addr×Pos×Str},t∈ts->u∈ts->t.1=u.1->t=u:=fun {t u} ht hu e=>by
    have:∀(l:List (Addr×Pos×Str)),(l.map (·.1)).Nodup->t∈l->u∈l->t=u:=fun l=>by
      induction l with
      |nil=>intro _ h;cases h
      |cons y l ih =>
        intro nd h1 h2;rw[AZ,AB]at nd;rcases Aj.mp h1 with z1|z1<;>rcases Aj.mp h2 with z2|z2
        · rw[z1,z2]
        · exact af (Az.mpr ⟨u,z2,by rw[<- e,z1]⟩) nd.1
        · exact af (Az.mpr ⟨t,z1,by rw[e,z2]⟩) nd.1
        · exact ih nd.2 z1 z2
    exact this ts hnd ht hu
  have core:∀H:Hp,Zdf ts H->Xew ts H->SqL (Ji (ts.map (·.1)) K0) H a (ns.map V.int)->HOk P w H s₁.heap->(∀b,H b≠ao->b=a\/∃t∈ts,t.1=b)->(H a≠ao->K0.lookup a=ao)->
      Dr (Aw P w) G6 (.call (.ref fa) ⟨[.ref a],[]⟩) (fun r s'=>r=.ok (.ret (.bool aq))/\OldK s₁.heap s'.heap/\s'.os=s₁.os/\EH s'.gens) s₁:=by
    intro H hLm hO hS hok hA hK;have base_of:∀{b:Addr} {o:Obj},s₁.heap.get? b=ak o->H b=ao->(Xem s₁.heap H).get? b=ak o:=fun e n=>Xdr e n;have noA:∀{b:Addr} {o:Obj} {es:Array Dj} {ep:Nat},s₁.heap.get? b=ak o->o.data=.dict es ep->H b=none:=fun {b o es ep} e d=>by
      cases q:H b with
      |none=>rfl
      |some u =>
        rcases hA b (by rw[q];simp) with e'|⟨t,ht,e'⟩
        · subst e';rw[ha]at e;cases e;have d':Data.seq vs.toArray _=Mr es ep:=d;cases d'
        · subst e';rw[tObj t ht]at e;cases e;have d':LN #[]=Mr es ep:=d;cases d'
    have nsK:∀{b:Addr} {m:Str->Option Value},s₁.heap.Ns b m->(Xem s₁.heap H).Ns b m:=fun {b m} ⟨o,es,ep,e,d,r⟩=>⟨o,es,ep,base_of e (noA e d),d,r⟩;have hKb:(Ji (ts.map (·.1)) K0).In (Xem s₁.heap H):=fun b o e=>base_of (Zqs KX b o e) (by
      cases q:H b with
      |none=>rfl
      |some u =>
        cases q2:(ts.map (·.1)).contains b with
        |true=>rw[Zez q2]at e;cases e
        |false =>
          rcases hA b (by rw[q];simp) with e'|⟨t,ht,e'⟩
          · subst e';rw[Yo q2,hK (by rw[q];simp)]at e;cases e
          · have:(ts.map (·.1)).contains b=true:=Fm.mpr (Az.mpr ⟨t,ht,e'⟩);rw [this] at q2;cases q2)
    have hM:Mod (Ji (ts.map (·.1)) K0) mg (Xem s₁.heap H):=⟨hKb,nsK hns,⟨mb,nsK hb,hbb⟩,let ⟨mc,h1,h2⟩:=hlim;⟨mc,nsK h1,h2⟩⟩;have e0:Xtv P w (Ji (ts.map (·.1)) K0) mg (Xem s₁.heap H) G6 [] s₁ H:=⟨rfl,hM,fun b o e=>Xks e,LJ (Zyh _ _),trivial,fun b hb=>af (show b∈([]:List Addr) from hb) (by simp),hok,.of_eq hg⟩;refine G5 ((F _ hKb (nsK hns)).run G6 [] s₁ H ⟨[.ref a],[]⟩ [.ref a] [.ref a] _ _ hr e0 (hbind s₁ (.ref a)) (.cons rfl .nil) (hsp H hLm hO hS)) fun r s' h=>?_;cases r with
    |error e=>exact(hCX H e s' h).elim
    |ok fl =>
      cases fl with
      |next=>exact False.elim h
      |brk=>exact False.elim h
      |cont=>exact False.elim h
      |ret u =>
        obtain⟨v,H',os,bare,un,hok',r',q⟩:=h;have q':v=.bl true:=q;subst q';obtain rfl:u=En true:=r';refine⟨rfl,⟨fun b o e=>?_,fun b o e=>un.there b o e (by simp)⟩,os,bare⟩;cases q:H b with
        |none=>exact .inl (un.keep b o e q (by intro z;exact af (show b∈([]:List Addr) from z) (by simp)) (by simp))
        |some u =>
          rcases hO b with z|⟨ob,xs,z⟩|⟨t,ht,hbt,z⟩
          · rw[q]at z;cases z
          · have z2:=un.frzs b ob _ z;obtain⟨e1,_⟩:=hok b _ z;obtain⟨e2,_⟩:=hok' b _ z2;rw[e]at e1;cases e1;exact .inl e2
          · subst hbt;have z2:=un.tbls _ _ _ z;obtain⟨ps,e2,_⟩:=hok' t.1 _ z2;rw[tObj t ht]at e;cases e;refine .inr (.inl ⟨hC t ht,rfl,#[],ps,rfl,?_⟩);rw[e2];simp
  have tabs:∃H:Hp,Zdf ts H/\(∀b,(∀t∈ts,t.1≠b)->H b=ao):=by
    refine⟨fun b=>(ts.find? fun t=>t.1==b).map fun t=>.tbl t.2.1 t.2.2,fun t ht=>?_,fun b hb=>?_⟩
    · have:ts.find? (fun u=>u.1==t.1)=ak t:=by
        cases q:ts.find? (fun u=>u.1==t.1) with
        |none=>exact af (Ga.mp q t ht) (by simp)
        |some u=>rw[one (EB q) ht (by simpa using GU q)]
      show(ts.find? fun u=>u.1==t.1).map _=_;rw[this];rfl
    · have:ts.find? (fun u=>u.1==b)=none:=Ga.mpr fun t ht=>by simpa using hb t ht
      show(ts.find? fun u=>u.1==b).map _=_;rw[this];rfl
  obtain⟨H1,hL1,hN1⟩:=tabs;have okT:∀(H:Hp) (t:Addr×Pos×Str),t∈ts->Je P w H s₁.heap t.1 (.tbl t.2.1 t.2.2):=fun H t ht=>⟨#[],tObj t ht,by exact trivial,fun v hv=>by cases hv⟩;cases hk:K0.lookup a with
  |some o =>
    have e:=KX a o hk;rw[ha]at e;cases e;have na:(ts.map (·.1)).contains a=false:=by
      cases q:(ts.map (·.1)).contains a with
      |false=>rfl
      |true =>obtain⟨t,ht,e⟩:=Az.mp (Fm.mp q);exact af e (aT t ht)
    refine core H1 hL1 (fun b=>?_) (.inr ⟨_,vs.toArray,_,by rw[Yo na];exact hk,rfl,rfl,rfl,by rw[Ay,lenV];exact hl,by simpa using rv⟩) (fun b u z=>?_) (fun b z=>?_) fun z=>af (hN1 a aT) z
    · rcases find b with⟨t,ht,e⟩|h
      · exact .inr (.inr ⟨t,ht,e.symm,by rw[<- e];exact hL1 t ht⟩)
      · exact .inl (hN1 b h)
    · rcases find b with⟨t,ht,e⟩|h
      · subst e;rw[hL1 t ht]at z;cases z;exact okT H1 t ht
      · rw[hN1 b h]at z;cases z
    · rcases find b with h|h
      · exact .inr h
      · exact af (hN1 b h) z
  |none =>
    have hne:∀t∈ts,t.1≠a:=aT;refine core (fun b=>if b=a then ak (.frz {cls:=.type "list",data:=.seq vs.toArray} (.lst (ns.map V.int))) else H1 b) (fun t ht=>(ae (hne t ht)).trans (hL1 t ht)) (fun b=>?_) (.inl (.inr ⟨{cls:=.type "list",data:=.seq vs.toArray},aa rfl⟩)) (fun b u z=>?_) (fun b z=>?_) fun _=>hk
    · by_cases hb:b=a
      · exact .inr (.inl ⟨_,_,aa hb⟩)
      · rcases find b with⟨t,ht,e⟩|h
        · exact .inr (.inr ⟨t,ht,e.symm,(ae hb).trans (by rw[<- e];exact hL1 t ht)⟩)
        · exact .inl ((ae hb).trans (hN1 b h))
    · by_cases hb:b=a
      · have z':=(aa hb).symm.trans z;cases z';subst hb;exact⟨ha,by rw[Ai];exact hl,vs,_,rv,ha⟩
      · have z':=(ae hb).symm.trans z;rcases find b with⟨t,ht,e⟩|h
        · subst e;rw[hL1 t ht]at z';cases z';exact okT _ t ht
        · rw[hN1 b h]at z';cases z'
    · by_cases hb:b=a
      · exact .inl hb
      · rcases find b with h|h
        · exact .inr h
        · exact af ((ae hb).trans (hN1 b h)) z
variable{XP:(Str->Option Value)->Bg->Prop}{YP:Bk->Bg->Prop}{fa:FA}{loose:List Str}{n:Nat}{sp:Bk->Sp}
theorem Xim{l:PySem.W.OpenLaw}{k:Nat}{q:AR}{d:DefRec}{K:Params->AN}{CX:Bk->CXT}(hn:l.most=ak n)(hn2:n<=Ar)(hdf:d.params.defaults=[])(hr:Zcd k G6)(hY:∀(w:Bk) (h:Bg),YP w h->(K w.params).In h)(hT:∀w:Bk,∀t∈ts,(K w.params).lookup t.1=ak (HU #[])/\∃c,Gj (K w.params) c t.1=aq)(hnd:(ts.map (·.1)).Nodup)(F:∀(w:Bk) (mg:Str->Option Value) (fa:Addr) (h:Bg),(K w.params).In h->h.Ns An mg->mg d.name=ak (.ref fa)->∃fd:CH,(∀(s:Af) (u:Value),Gw s fd ⟨[u],[]⟩ [(x,u)])/\ ∀base:Bg,(Ji (ts.map (·.1)) (K w.params)).In base->base.Ns An mg->Zap l.prog w (Ji (ts.map (·.1)) (K w.params)) mg base (CX w) k fa fd [x] (sp w))(hsp:∀(w:Bk) (H:Hp) (a:Addr) (ns:List Int),ns.length<=n->Zdf ts H->Xew ts H->SqL (Ji (ts.map (·.1)) (K w.params)) H a (ns.map V.int)->sp w [.ref a] H (fun v _=>v=.bl aq) fun _ _ _=>False)(hCX:∀(w:Bk) (H:Hp) (s:Af) (e:Value) (s':Af),CX w [] H s (fun _ _ _=>False) e s'->False):PySem.W.WalkO q loose XP YP l.row.toRowW d [] (fun f vs=>PySem.call f vs):=by
  refine Att.attach_call hn hdf fun w s₀ s₁ mg mb fa o pm cd doc a vs ns G Y ho hd hcd hmg hobj hints hlen hg=>?_;have KX:=hY w _ Y;obtain ⟨fd,hb,hF⟩:=F w mg fa _ KX G.T.g hmg;exact Zyv KX (fun t ht=>(hT w t ht).1) (fun t ht=>by
    obtain ⟨c,e⟩:=(hT w t ht).2;obtain ⟨o,vs,_,_,_,_,_,_,_,h1,h2,h3,h4,_⟩:=PySem.W.codeHd_of_K KX e;exact ⟨c,o,vs,h1,h2,h3,h4⟩) hnd G.T.g G.T.b G.T.builtins G.T.nolimit hg hobj hints (AD hlen hn2) hr hF hb (fun H hL hO hS=>hsp w H a ns hlen hL hO hS) fun H e s'=>hCX w H s₁ e s'
theorem Xrb{k:Option Cz}(h:k=ak .cell):k≠ak .local:=fun z=>by rw[h]at z;cases z
theorem Xdc{k:Nat}(r:Zcd (k+2) A)(env:Env):Zcd k (A.in1.deeper env):=r.in1.deeper env
theorem Xxx{p:Str}{P:Addr}{k:Nat}
    (bm:BMod X.base X.mg) (tab:X.H₀ P=ak (.tbl lpos qual)) (hd:Iv X.base c P) (hr:Zcd (k+1) X.A) (calm:X.calm=aq)
    (clo:EW sc X.env=pure cl) (c1:∀q∈cl,X.env.cells.lookup q.1=ak q.2) (c2:∀x∈N.tail,∃c,cl.lookup x=ak c)
    (j1:js.map (fun j=>X.N[j]?)=N.tail.map ak) (j2:∀x∈N.tail,Vis X.env.scope x/\X.env.kindOf x≠ak .local)
    (code:X.env.code=.ref c:=by rfl) (qu:X.env.qual++"<lambda>"=qual:=by rfl) (df:Ld params X.env=([],[]):=by rfl)
    (k1:sc.kind=.function:=by rfl) (k2:sc.isCoroutine=false:=by rfl) (k3:sc.isGenerator=false:=by rfl) (k4:(sc.names.all fun x=>x.2 != .cell)=true:=by rfl) (k5:sc.names.lookup p=ak .local:=by rfl) (k6:N.Nodup:=by decide+kernel) (k7:N.head?=ak p:=by rfl)
    (k8:(N.tail.all fun x=>sc.names.lookup x==ak .free)=true:=by rfl) (k9:(sc.names.all fun y=>y.2 != .free||N.tail.contains y.1)=true:=by rfl) (k10:js.length+1=N.length:=by rfl)
    (bind:∀(u pm ctv:Value) (c:Addr),Ie (kla_fn "<lambda>" qual params body sc cl pm (.ref c) ctv) ⟨[u],[]⟩=pure [(p,u)]:=by intros;rfl):Xbu X N p qual params body sc cl js P c lpos where
  bm:=bm
  tab:=tab
  code:=code
  hd:=hd
  clo:=clo
  qu:=qu
  df:=df
  lsc:={
    kind:=k1,co:=k2,gen:=k3,par:=k5,nd:=k6,hd:=k7
    nocell:=fun x hx z=>by have:=BG.mp k4 x hx;rw[z]at this;cases this
    tl:=fun x hx=>Fp (BG.mp k8 x hx)
    fr:=fun x hx=>by
      obtain⟨y,hy,e⟩:∃y∈sc.names,y=(x,BW):=by
        have:∀l:List (Str×Cz),l.lookup x=ak .free->(x,BW)∈l:=fun l=>by
          induction l with
          |nil=>intro h;cases h
          |cons a l ih =>obtain⟨b,kd⟩:=a;intro h;rw[Bh]at h;split at h;rename_i e;cases h;rw[Fp e];exact .head _;exact .tail _ (ih h)
        exact⟨_,this _ hx,rfl⟩
      subst e;have:=BG.mp k9 _ hy;have:N.tail.contains x=true:=by simpa using this
      exact c2 x (Fm.mp this)
    cls:=fun x c hx=>by
      have:∀l:List (Str×Addr),l.lookup x=ak c->(x,c)∈l:=fun l=>by
        induction l with
        |nil=>intro h;cases h
        |cons a l ih =>obtain⟨b,kd⟩:=a;intro h;rw[Bh]at h;split at h;rename_i e;cases h;rw[Fp e];exact .head _;exact .tail _ (ih h)
      exact c1 (x,c) (this _ hx)}
  jsx:=fun i x hi=>by
    have:=ah (fun l=>l[i]?) j1;simp only[AS,hi,Ki]at this;cases q:js[i]? with
    |none=>rw[q]at this;cases this
    |some j =>rw[q]at this;have h2:X.N[j]?=ak x:=AE this;obtain⟨v1,v2⟩:=j2 x (AO hi);exact⟨j,rfl,h2,v1,v2⟩
  len:=k10
  bind:=bind
  dep:=hr.in1.depth
  calm:=calm
theorem Xvt(hO:Xew ts H)(h:SqL K H a xs):FzL K H a xs:=by rcases h with(h|h)|h;rcases hO a with z|⟨o,ys,z⟩|⟨t,_,_,z⟩<;>(rw[h]at z;cases z);exact .inl h;exact .inr h
variable{o:HO}
theorem Je.stayF(x:Je P w H h a o)(ho:∀b,H b=ak (.own a)->H' b=ak (.own a))(ht:∀b xs,H b=ak (.tup xs)->H' b=ak (.tup xs))(hf:∀b o,H b=ak (.frz o (.own 0))->H' b=ak (.frz o (.own 0))):Je P w H' h a o:=by
 induction o with
 |dT kvs =>obtain⟨z,y,xs,r,ob,es,ep,e,c⟩:=x;exact⟨z,y,xs,Paired.mapP r fun p q z=>⟨z.1,ht _ _ z.2.1,z.2.2⟩,ob,es,ep,e,c⟩
 |ins C dx fs =>obtain⟨d,r⟩:=x;exact⟨ho _ d,r⟩
 |frz ob u ih=>obtain⟨e,q⟩:=x;exact⟨e,ih q⟩
 |tbl pos qual =>obtain⟨ps,e,tr,hc⟩:=x;refine⟨ps,e,tr,fun v hv=>?_⟩;obtain⟨c,o,vs,t,e1,e2,e3⟩:=hc v hv;exact⟨c,o,vs,t,e1,hf _ _ e2,e3⟩
 |_=>exact x
variable{o:Obj}{u:HO}
theorem Inv.fz(I:Inv X pins σ H s)(e:H a=ak u)(mu:Mut (H a))(hu:∀b o v,u≠.own b/\u≠.frz o v)(ho:s.heap.get? a=ak o):Inv X pins σ (upd H a (.frz o u)) s/\∀o u,X.H₀ a≠ak (.frz o u):=by
 refine⟨?_,fun o' u' q=>?_⟩;have new:Je X.prog X.w (upd H a (.frz o u)) s.heap a (.frz o u):=by refine⟨ho,(I.hok a u e).stayF (fun c q=>?_) (fun c xs q=>?_) fun c ob q=>?_⟩;rw[Zy fun z=>by subst z;rw[e]at q;cases q;exact(hu _ o (.own 0)).1 rfl];exact q;rw[Zy fun z=>by subst z;rw[q]at mu;exact mu];exact q;rw[Zy fun z=>by subst z;rw[q]at mu;exact mu];exact q
 have z:=I.write (x:=a) (e:=a) (t':=s.toks) (h':=s.heap) mu (.inl rfl) (fun b q _ z=>z) ⟨o,ho⟩ new;exact z;have z:=I.base.frzs a o' u' q;rw[e]at z;cases z;exact(hu 0 o' u').2 rfl
open Dl (FM)
variable{Q:VK}
def MOkF(K:AN)(C:String->Addr)(E:XK)(Γ Δ:List Nat)(i:Nat)(t:TE)(f:FM):Prop:=∀(H0 Hb H:Hp) (σ:St) (ρ:Xr) (A:Nat->List Addr) (Q:VK),Zo K C H0 Hb H Γ Δ σ ρ A->
 Xd (f ρ) (fun p=>∀v H' A' B,Zo K C H0 Hb H' Γ Δ σ p.2 A'->(∀b o,b∉A i->H b=ak o->H' b=ak o)->(∀j,j≠i->p.2[j]?=ρ[j]?/\A' j=A j)->Rp K C H' p.1 v B->B.Nodup->(∀a∈B,Hb a=ao/\∀j,a∉A' j)->Q v H') (fun c x=>∀H',Xf H0 H'->EC C E c x H')->t σ H Q
structure JMF(X:Cx)(C:String->Addr)(E:XK)(Γ Δ:List Nat)(j:Nat)(e:Expr)(t:TE)(f:FM):Prop where
 q:QE X e t
 o:MOkF X.K C E Γ Δ j t f
@[reducible] def Cx.blkC(X:Cx)(N2:List Str)(y:Str)(sc:Scope)(cl:List (Str×Addr))(C:Addr)(s0:Af)(H0:Hp)(fp:List Addr):Cx:=
 {X with N:=N2++[y],s₀:=s0,H₀:=H0,env:=Ib sc cl C X.env,outer:=X.stack,ex:=fp,fn:=fun z=>z==y,pn:=[],xe:=fun _ _=>False}
structure BlkC(sc esc:Scope)(y:Str)(N N2:List Str):Prop where
 kind:sc.kind=.function
 cell:∀n acc,IY n sc.names acc=(y,n)::acc
 one:∀z∈sc.names,z.2=.cell->z.1=y
 nfree:∀z∈sc.names,z.2=.free->z.1≠y
 loc:∀z∈sc.names,z.2=.local->sc.names.lookup z.1=ak .local
 free:∀z∈sc.names,z.2=.free->esc.names.lookup z.1=ak .cell\/esc.names.lookup z.1=ak .free
 out:∀z∈N2,sc.names.lookup z≠ak .local/\z≠y
 nd:N.Nodup
 len:N2.length=N.length
 ren:∀p∈N.zip N2,p.2=p.1\/sc.names.lookup p.2=ao
open Dl (FMT)
variable{fc:FT}{tc:TT}{u:TS}
theorem Xqs{t:TS}{f:FS}(hc:TOk K C E Γ Δ tc fc)(h1:Znz K C E Γ Δ Γ' Δ' t f)(h2:Znz K C E Γ Δ Γ' Δ' u g):Znz K C E Γ Δ Γ' Δ' (Xrg tc t u) (Dl.sIf fc f g):=fun H0 Hb H σ ρ A D I p =>
  hc H0 Hb H σ ρ A _ I (Xd.imp (Xd.bind p) (fun b q H1 g1=>by
    cases b with
    |true=>exact h1 H0 Hb H1 σ ρ A D (I.mono g1) q
    | false=>exact h2 H0 Hb H1 σ ρ A D (I.mono g1) q) fun c x q H' g'=>q H' (Xf.from0 I g'))
theorem Zo.away{H0 Hb:Hp}{A:Nat->List Addr}{W:List Addr}(I:Zo K C H0 Hb H Γ Δ σ ρ A)(hk:∀b o,b∉W->H b=ak o->H' b=ak o)(hb:∀a∈W,Hb a=C6)(hA:∀k,∀a∈A k,a∉W)(hm:∀a∈W,∀o,H a=ak o->IsM o):Zo K C H0 Hb H' Γ Δ σ ρ A:=by
 have ext:Ext (fun c=>c∈W) H H':=fun c o h=>by by_cases e:c∈W;exact .inr ⟨e,hm c e o h⟩;exact .inl (hk c o e h)
 refine⟨I.s0,fun c o h=>?_,I.len,fun i d h=>?_,I.nil,I.loc,I.top,I.deep⟩;exact hk c o (fun z=>by rw[hb c z]at h;cases h) (I.same c o h);obtain⟨v,e,r⟩:=I.rep i d h;exact⟨v,e,r.ext ext fun a ha z=>hA i a ha z⟩
def SOkT(K:AN)(C:String->Addr)(E:XK)(t:TS)(f:FS):Prop:=∀(H0 Hb H:Hp) (σ:St) (ρ:Xr) (A:Nat->List Addr) (D:Ends),Zo K C H0 Hb H [] [] σ ρ A->
  Xd (f ρ) (fun fl=>match fl with
    | .ret d=>∀v H' Br,Xf H H'->Rp K C H' d v Br->(∀a∈Br,(∃j,a∈A j)\/H a=ao)->D.rt v H'
    | _=>False) (fun c x=>∀H',Xf H H'->EC C E c x H')->t D σ H
structure JTs(X:Cx)(C:String->Addr)(E:XK)(ss:List Stmt)(t:TS)(f:FS):Prop where
 q:QSs X ss t
 o:SOkT X.K C E t f
 n:∀ρ ρ',f ρ≠.ok (.nx ρ')
open Dl (Pr kLt Xvi)
variable{Q:Value->Af->Prop}
def Xkp:R2:=fun x y H Q=>∃a o,y=.ref a/\Zuz H a x o/\Q (.bl (!o.isSome)) H
theorem Zpf(hu:X.A.units+64<BE):OpR X (B8 .NotIn) Xkp:=by intro pins s σ H x y v u Q I rx ry h;obtain⟨a,o,rfl,g,q⟩:=h;cases (show u=AQ a from ry);exact Xor (by omega) I g rx fun s3 I3=>⟨.bl (!o.isSome),H,I3,rfl,q⟩
theorem Zrq:GOk K C Xkp Dl.Zfk:=by intro H x y d vx vy Bx By Q rx ry e q;unfold Dl.Zfk at e;split at e;rename_i ks ds;obtain⟨k,hk,e⟩:=AH.mp e;cases e;obtain⟨a,xs,B,rfl,h1,h2,h3,_⟩:=ry;obtain⟨b,rfl,hb⟩:=Zdr hk rx;refine⟨a,_,rfl,Zuz.t h1 hb,?_⟩;rw[<- Zgj,Zey (by rw[h2,h3.len])];exact Out.flat q rpB;cases e
variable{E:Value->Af->Prop}{ep:Nat}{es:Array Dj}{it:Addr}{od:Obj}
theorem Zmr{Q:Option Value->Af->Prop}(hit:s.heap.IsKeyIter it d i es.size ep)(hod:s.heap.get? d=ak od)(hdd:od.data=.dict es ep)(hi:i<es.size)(q:∀h',h'.IsKeyIter it d (i+1) es.size ep->BZ it s.heap h'->Q (ak es[i].key) {s with heap:=h'}):Ak (Aw prog w) A (C1 (.ref it)) Q E s:=by
 obtain⟨o,ho,hc,hd⟩:=id hit;have T:=hit.typeIs;have hit':(s.heap.update it (FX (·.setIfInBounds 1 (Cu ((i:Int)+1))))).IsKeyIter it d (i+1) es.size ep:=⟨_,Cb _ ho (Iz (Eu hd _)),(Kt ..).trans hc,by rw[Eu hd];simp[Cu]⟩;unfold C1;refine Aa (DL (Bw (name:=BB "__next__") T Ci (Bl Ci T Hk (Aa (Ac (Aa (Aa ?_)))) (Hd _))))
 first|refine Aa (CZ T (Ac (Aa (CS ho hd ?_))))|refine Aa (DK T (Ac (Aa (CS ho hd ?_))))
 simp only[show B0 "dict_keyiterator"=ar by decide,AT,if_false];change Ak _ _ (ite ((AQ d==BI)=aq) _ _) _ _ s;rw[ae fun z:(AQ d==BI)=aq=>Ao z];refine Aa (Ac (Aa (B5 hod hdd ?_)));rw[ae (by simp)];refine Aa (Ac (Aa (DN hod hdd ?_)));rw[ae (by simp)];refine Ac ?_;simp only[show ¬((i:Int)<0) from by omega,if_false,CJ,B3 hi];refine Aa ?_
 first|refine Aa (CZ T (Ac (Aa (FP T ?_))))|refine Aa (DK T (Ac (Aa (FP T ?_))))
 change Ak _ _ (Gg (.ref it) 1 (Cu ((i:Int)+1)) >>= _) _ _ s;refine Aa (Ge ho hd (by simp) (Aa (Bp (Aa (FP (s:={s with heap:=s.heap.update it (FX (·.setIfInBounds 1 (Cu ((i:Int)+1))))}) hit'.typeIs ?_)))));change Ak _ _ (pure es[i].key) _ _ _;exact Ac (Ac ⟨_,rfl,Ac (q _ hit' (BU ..))⟩)
theorem Zkt{Q:Option Value->Af->Prop}(hh:A.handled=ao)(hit:s.heap.IsKeyIter it d i es.size ep)(hod:s.heap.get? d=ak od)(hdd:od.data=.dict es ep)(hi:es.size<=i)(q:∀h',EG it s.heap h'->Q ao {s with heap:=h'}):Ak (Aw prog w) A (C1 (.ref it)) Q E s:=by
 obtain⟨o,ho,hc,hd⟩:=id hit;have T:=hit.typeIs;unfold C1;refine Aa (DL (Bw (name:=BB "__next__") T Ci (Bl Ci T Hk (Aa (Ac (Aa (Aa ?_)))) (Hd _))))
 first|refine Aa (CZ T (Ac (Aa (CS ho hd ?_))))|refine Aa (DK T (Ac (Aa (CS ho hd ?_))))
 simp only[show B0 "dict_keyiterator"=ar by decide,AT,if_false];change Ak _ _ (ite ((AQ d==BI)=aq) _ _) _ _ s;rw[ae fun z:(AQ d==BI)=aq=>Ao z];refine Aa (Ac (Aa (B5 hod hdd ?_)));rw[ae (by simp)];refine Aa (Ac (Aa (DN hod hdd ?_)));rw[ae (by simp)];refine Ac ?_;simp only[show ¬((i:Int)<0) from by omega,if_false,CJ,HJ hi];refine Aa ?_
 first|refine Aa (CZ T (Ac ?_))|refine Aa (DK T (Ac ?_))
 change Ak _ _ (Gg (.ref it) 0 .none >>= _) _ _ s;apply Aa;refine Ge ho hd (by simp) ?_;change Ak _ _ (Kb (.type "StopIteration") [] >>= _) _ _ _;refine Aa ?_;simp only[Kb,Mj];refine Aa (A9 (Aa (m:=D3 _ _) (Gf (a:=BI) (by first|rfl|(simp only[D3];rfl)) (A9 ?_ (by size_fits)))) (by size_fits));simp only[Mi];apply Aa;refine IF ?_;have h9:A.in1.handled=none:=hh;rw[h9];refine Aa (Ac (KD ?_));exact Aa (Eb (T:="StopIteration") (b:=aq) ⟨_,Au _ rfl,rfl⟩ HY (Ac (q _ (((BU ..).extBut.push _).push _))))
theorem Zms(hs:(d==Ck)=ar)(hod:s.heap.get? d=ak od)(hx:od.ExactDict)(hdd:od.data=.dict es ep)(q:Q (.ref s.heap.objs.size) {s with heap:=s.heap.push {cls:=.type "dict_keyiterator",data:=.fields #[.ref d,.int 0 0,.int es.size 0,.int ep 0]}}):Ak (Aw prog w) A (HV (.ref d)) Q E s:=by
 have T:s.TypeIs (.ref d) "dict":=⟨od,hod,hx.1⟩;refine GY T Ll (Bl Ll T F.entry_dict_iter ?_ (F.args_dict_iter_1 _));unfold D6.«dict.__iter__» Md;refine Aa (Aa (FN T ?_));change Ak _ _ (pure (AQ d)) _ _ s;refine Ac ?_;change Ak _ _ (CI d >>= _) _ _ s;unfold CI;rw[ae (by rw[hs];exact Ao)];refine Aa (Ac (Aa (B5 hod hdd (Aa (DN hod hdd (Aa (A9 (Ac ⟨_,rfl,"dict_keyiterator",_,⟨_,Au _ rfl,rfl⟩,Ci.lookup,?_⟩))))))));simpa[Cu] using q
def ItDt(a:Addr)(o:Obj)(kvs:List (List Key×V)):It:=
 ⟨fun i H=>H a=ak (.frz o (.dT kvs))/\i<kvs.length,fun i H x H'=>H'=H/\∃kv b,kvs[i]?=ak kv/\x=.ref b/\H b=ak (.tup (kv.1.map kV)),fun i H=>H a=ak (.frz o (.dT kvs))/\kvs.length=i⟩
theorem Paired.at_{α β:Type}{R:α->β->Prop}:∀{l:List α} {m:List β} {i:Nat} {p:α},Paired R l m->l[i]?=ak p->∃q,m[i]?=ak q/\R p q
 |_,_,_,_,.nil,e=>by simp at e
 |_,_,0,_,.cons (b:=q) r _,e=>by simp at e;subst e;exact⟨q,rfl,r⟩
 |_,_,i+1,p,.cons _ t,e=>by obtain⟨q,h1,h2⟩:=Paired.at_ (i:=i) (p:=p) t (by simpa using e);exact⟨q,by simpa using h1,h2⟩
variable{tg:Expr}
theorem Ztf(a it:Addr)(o:Obj)(kvs:List (List Key×V))(es:Array Dj)(ep:Nat)(h2:o.data=.dict es ep)(hn:es.size=kvs.length) :
  Turn P w K tg (ItDt a o kvs) [it] it (fun i h=>h.IsKeyIter it a i es.size ep) where
 mem:=by simp
 obj:=fun i h st b hb=>by
  have e:b=it:=by simpa using hb
  subst e;obtain⟨o,e,c,d⟩:=st;exact⟨o,e,fun v z=>by rw[d]at z;cases z⟩
 keep:=fun i h h' st k=>st.at fun o e=>k it (by simp) o e
 item:=by
  intro X hP hw hK hc i pins s σ H E I hf st hg;subst hP hw hK;obtain⟨f0,f1,f2,f3,f4,f5⟩:=hf it (by simp);obtain⟨hfz,hi⟩:=hg;obtain⟨ho,hob⟩:=I.hok a _ hfz;obtain⟨_,_,xs,r,o',es',ep',e1,_,e3,e4,_⟩:=hob;rw[ho]at e1;cases e1;rw[h2]at e3;cases e3;have hk:kvs[i]?=ak kvs[i]:=Ag hi;obtain⟨q,hq1,hq2,hq3,_⟩:=Paired.at_ r hk;have hie:i<es.size:=by omega
  have ek:es[i].key=.ref q.2.1:=by
   have:es.toList[i]?=ak (FC (C9 (Yi X.prog X.w)) q):=by rw[e4,AS,hq1];rfl
   rw[Ag (by simpa using hie)]at this;have z:=AE this;rw[Iy]at z;rw[z];rfl
  refine Zmr st ho h2 hie fun h' st' sb=>?_;have I1:Inv X pins σ H {s with heap:=h'}:=I.turned (t':=s.toks) (fun b o hb e=>(sb.2 b hb).trans e) f0 f1 f3 f4 f5;obtain⟨o',e,c,d⟩:=id st';rw[ek];exact⟨.ref q.2.1,rfl,Xla (s:={s with heap:=h'}) e c d (by decide) ⟨.ref q.2.1,H,I1,rfl,⟨rfl,kvs[i],q.2.1,hk,rfl,hq3⟩,st',fun b hb=>(hf b hb).1⟩⟩
 done:=by intro X hP hw hK hc i pins s σ H E I hf st hg;subst hP hw hK;obtain⟨f0,f1,f2,f3,f4,f5⟩:=hf it (by simp);obtain⟨hfz,hi⟩:=hg;have ho:=(I.hok a _ hfz).1;exact Zkt (I.ok.hd hc) st ho h2 (by omega) fun h' eb=>⟨rfl,I.turned (t':=s.toks) (fun b o hb e=>eb b o hb e) f0 f1 f3 f4 f5⟩
 self:=fun _ _ _ _ _ st h=>KE st h
open Dl (D R FE FT FA FO FS FI FB FM FMT Fl) in
theorem Zyx{H:Hp}:∀{k:List Key},k.all Dl.kOk=aq->RpA K C H (k.map Dl.kdD) (k.map kV) []
 |[],_=>RpA.nil
 |x::k,h=>by
  rw[Li,AC]at h;refine⟨_,_,[],[],rfl,?_,Zyx h.2,rfl⟩;cases x with
  |inl i=>exact⟨rfl,rfl⟩
  |inr z=>exact⟨rfl,h.1,rfl⟩
end L2
namespace L2
open PySem
def UpP(a:Array Nat):Prop:=∀(i j x y:Nat),i<j->a[i]?=ak x->a[j]?=ak y->x<y
structure TabU(t:SetTable):Prop where
 no:t.dummies=#[]
 up:UpP t.place
end L2
namespace L2
open PySem PySem.Spec PyProof.Rows
open Dl (Xox Xaq)
theorem fp2{b n a:Nat}(h:b∈[n,a]):b=a\/n<=b:=by simp at h;omega
open Dl (D R FE FT FA FO FS FI FB Fl)
end L2
namespace L2
open PySem PyProof.Rows
def SB(r:AL->AL->Bool)(ps:AL->Int)(x y:AL):Prop:=r y x=ar/\(r x y=ar->ps x<ps y)
def Tl(ps:AL->Int)(g:Nat->AL)(n m:Nat):Prop:=∀i j,i<j->n<=j->j<m->ps (g i)<ps (g j)
structure DnL(r:AL->AL->Bool)(ps:AL->Int)(g:Nat->AL)(x q m:Nat):Prop where
 fall:∀i j,i<j->j<x->i<x-(q+1)->SB r ps (g j) (g i)
 like:∀i j,x-(q+1)<=i->i<x->x-(q+1)<=j->j<x->Eqv r (g i) (g j)
 tail:Tl ps g (x-(q+1)) m
 q1:q+1<=x
variable{A:Ba}
structure Od(ps:AL->Int)(Rs:List (List AL))(Z:List AL):Prop where
 runs:Rs.Pairwise fun A B=>∀x∈A,∀y∈B,ps x<ps y
 rest:∀R∈Rs,∀x∈R,∀y∈Z,ps x<ps y
 tail:Z.Pairwise fun x y=>ps x<ps y
end L2
namespace L2
open PySem PySem.Spec PyProof.Rows
def kp(x:AL):Int×Int:=(numOf x.1,numOf x.2)
variable{P:PySem.Fin->Af->Prop}{e:Expr}{p:Pos}{tb:V->Hp->VK->Prop}
section
variable{kS:Addr}{e e1:Nat}
variable{f:Addr}
variable{p:Str}{P:Addr}{kp:Pos}{tb:TE}{k:Nat}
end
open Dl (D R FE FT FA FO FS FI FB Fl)
variable{A:Ba}{C:String->Addr}{E:Value->Af->Prop}{H:Hp}{K:AN}{a c:Addr}{Γ Γ' Γl Δ Δ' Δl:List Nat}{σ:St}
section
variable{E:XK}{m1 m2:Nat}{S:List (Nat×Bool)}
variable{p:Str}{P:Addr}{kp:Pos}{tb:TE}{fb:FE}{k:Nat}
def AllN(H0:Hp)(A:Nat->List Addr):Prop:=∀j,∀a∈A j,H0 a=ao
def PostU(K:AN)(C:String->Addr)(E:XK)(Γl Δl Γ' Δ':List Nat)(H0 Hb:Hp)(D:Ends)(r:R Fl):Prop:=Xd r (fun fl=>match fl with
    | .nx ρ'=>∀σ' H' A',Zo K C H0 Hb H' Γ' Δ' σ' ρ' A'->AllN H0 A'->D.nx σ' H'
    | .ret d=>∀v H' B,Xf Hb H'->Rp K C H' d v B->(∀a∈B,H0 a=ao)->D.rt v H'
    | .brk ρ'=>∀σ' H' A',Zo K C H0 Hb H' Γl Δl σ' ρ' A'->AllN H0 A'->D.bk σ' H'
    | .cnt ρ'=>∀σ' H' A',Zo K C H0 Hb H' Γl Δl σ' ρ' A'->AllN H0 A'->D.ct σ' H')
  (fun c x=>∀H',Xf Hb H'->EC C E c x H')
def SOkU(K:AN)(C:String->Addr)(E:XK)(Γl Δl Γ Δ Γ' Δ':List Nat)(t:TS)(f:FS):Prop:=∀(H0 Hb H:Hp) (σ:St) (ρ:Xr) (A:Nat->List Addr) (D:Ends),Zo K C H0 Hb H Γ Δ σ ρ A->AllN H0 A->PostU K C E Γl Δl Γ' Δ' H0 Hb D (f ρ)->t D σ H
end
structure JU(X:Cx)(C:String->Addr)(E:XK)(Γl Δl Γ Δ Γ' Δ':List Nat)(s:Stmt)(t:TS)(f:FS):Prop where
 q:QS X s t
 o:SOkU X.K C E Γl Δl Γ Δ Γ' Δ' t f
structure JUs(X:Cx)(C:String->Addr)(E:XK)(Γl Δl Γ Δ Γ' Δ':List Nat)(ss:List Stmt)(t:TS)(f:FS):Prop where
 q:QSs X ss t
 o:SOkU X.K C E Γl Δl Γ Δ Γ' Δ' t f
end L2
namespace L2
open PySem PyProof.Rows
end L2
namespace L2
open PySem PySem.Spec PyProof.Rows
open Dl (D R FE FT FA FO FS FI FB Fl)
end L2
namespace L2
open PySem PySem.SeqAt PyProof.Rows
open Dl (sLt Pr kLt Xvi)
end L2
namespace L2
open PySem PySem.Spec PyProof.Rows
open Dl (D R FE FT FA FO FS FI FB FM FMT Fl Pr kLt Xvi)
variable{A:Ba}{E:Value->Af->Prop}{Q:Option Value->Af->Prop}{b:Expr}{d z:Addr}{ep i:Nat}{es:Array Dj}{o od:Obj}{prog:AR}{s:Af}{u0 u1:Value}{w:Bk}
theorem Xnm(hz:Ee s.heap z d i es.size ep u0 u1)(ho:s.heap.get? d=ak od)(hd:od.data=.dict es ep)(hi:i<es.size)(q:∀h',IR h' z d (i+1) es.size ep es[i].key es[i].val s.heap.objs.size->h'.get? s.heap.objs.size=ak {cls:=.type "tuple",data:=.seq #[es[i].key,es[i].val]}->(∀b o,b≠z->s.heap.get? b=ak o->h'.get? b=ak o)->Q (ak (.ref s.heap.objs.size)) {s with heap:=h'}):Ak (Aw prog w) A (C1 (.ref z)) Q E s:=by
 obtain⟨hp,g,dr,tk,os⟩:=s;have T:FD ⟨hp,g,dr,tk,os⟩ (.ref z) "dict_itemiterator":=⟨_,hz,rfl⟩;have lz:z<hp.objs.size:=AI hz;unfold C1;refine Aa (DL (Bw (name:=BB "__next__") T Cf (Bl Cf T G9 (Aa (Ac (Aa (Aa ?_)))) (GX _))))
 first|refine Aa (CQ T (Ac (Aa (CS hz rfl ?_))))|refine Aa (DG T (Ac (Aa (CS hz rfl ?_))))
 simp only[show B0 "dict_itemiterator"=aq by decide,if_true];change Ak _ _ (ite ((AQ d==BI)=aq) _ _) _ _ _;rw[ae fun y:(AQ d==BI)=aq=>Ao y];refine Aa (Ac (Aa (B5 ho hd ?_)));rw[ae (by simp)];refine Aa (Ac (Aa (DN ho hd ?_)));rw[ae (by simp)];refine Ac ?_;simp only[show ¬((i:Int)<0) from by omega,if_false,CJ,B3 hi];refine Aa ?_
 first|refine Aa (CQ T (Ac (Aa (D0 T ?_))))|refine Aa (DG T (Ac (Aa (D0 T ?_))))
 change Ak _ _ (Gg (.ref z) 3 (Cu ((i:Int)+1)) >>= _) _ _ _;refine Aa (Bo hz (by simp) fun k1 a1 b1=>?_);have a1:Ee k1 z d (i+1) es.size ep u0 u1:=by unfold Ee;rw[show((i+1:Nat):Int)=(i:Int)+1 by omega];simpa[Cu] using a1
 have b1:BZ z hp k1:=b1;have T1:FD ⟨k1,g,dr,tk,os⟩ (.ref z) "dict_itemiterator":=⟨_,a1,rfl⟩;refine Aa (Bp (Aa (D0 T1 (Aa (D0 T1 ?_)))));change Ak _ _ (EN (.ref z) 6 es[i].key es[i].val) _ _ _;unfold EN;refine Aa (HQ ?_);have n1:k1.objs.size=hp.objs.size:=b1.1;obtain⟨k2,e2⟩:∃k2,k2=k1.push {cls:=.type "tuple",data:=.seq #[es[i].key,es[i].val]}:=⟨_,rfl⟩;have a2:Ee k2 z d (i+1) es.size ep u0 u1:=by rw[e2];exact Ae _ a1
 have c2:k2.get? hp.objs.size=ak {cls:=.type "tuple",data:=.seq #[es[i].key,es[i].val]}:=by rw[e2,<- n1];exact Au _ rfl
 have d2:∀b o,b≠z->hp.get? b=ak o->k2.get? b=ak o:=fun b o hb y=>by rw[e2];exact Ae _ (b1.extBut b o hb y)
 change Ak _ _ (Ex (.ref z) >>= _) _ _ ⟨k1.push {cls:=.type "tuple",data:=.seq #[es[i].key,es[i].val]},g,dr,tk,os⟩;rw[<- e2,n1];clear e2 a1 b1 T1 n1;refine Aa ?_;unfold Ex;refine Aa (Bq a2 rfl (x:=.none) rfl (Ac ?_));simp only[if_true];refine Aa (Bq a2 rfl (x:=u0) rfl (Aa (Bq a2 rfl (x:=u1) rfl (Aa (Bo a2 (by simp) fun k3 a3 b3=>?_)))));have a3:Ee k3 z d (i+1) es.size ep es[i].key u1:=a3;refine Aa (Bo a3 (by simp) fun k4 a4 b4=>?_);have a4:Ee k4 z d (i+1) es.size ep es[i].key es[i].val:=a4;refine Aa (Bo a4 (by simp) fun k5 a5 b5=>?_);have a5:IR k5 z d (i+1) es.size ep es[i].key es[i].val hp.objs.size:=a5;refine Aa (Bo a5 (by simp) fun k6 a6 b6=>?_);have a6:IR k6 z d (i+1) es.size ep es[i].key es[i].val hp.objs.size:=a6;have b3:BZ z k2 k3:=b3;have b4:BZ z k3 k4:=b4;have b5:BZ z k4 k5:=b5;have b6:BZ z k5 k6:=b6;have all:∀b o,b≠z->k2.get? b=ak o->k6.get? b=ak o:=fun b o hb y=>b6.extBut b o hb (b5.extBut b o hb (b4.extBut b o hb (b3.extBut b o hb y)));exact Aa (Cg (Ac (Ac ⟨_,rfl,Ac (q k6 a6 (all _ _ (ES lz) c2) fun b o hb y=>all b o hb (d2 b o hb y))⟩)))
theorem Xwi(hh:A.handled=ao)(hz:Ee s.heap z d i es.size ep u0 u1)(ho:s.heap.get? d=ak od)(hd:od.data=.dict es ep)(hi:es.size<=i)(q:∀h',EG z s.heap h'->Q ao {s with heap:=h'}):Ak (Aw prog w) A (C1 (.ref z)) Q E s:=by
 have T:s.TypeIs (.ref z) "dict_itemiterator":=⟨_,hz,rfl⟩;unfold C1;refine Aa (DL (Bw (name:=BB "__next__") T Cf (Bl Cf T G9 (Aa (Ac (Aa (Aa ?_)))) (GX _))))
 first|refine Aa (CQ T (Ac (Aa (CS hz rfl ?_))))|refine Aa (DG T (Ac (Aa (CS hz rfl ?_))))
 simp only[show B0 "dict_itemiterator"=aq by decide,if_true];change Ak _ _ (ite ((AQ d==BI)=aq) _ _) _ _ s;rw[ae fun y:(AQ d==BI)=aq=>Ao y];refine Aa (Ac (Aa (B5 ho hd ?_)));rw[ae (by simp)];refine Aa (Ac (Aa (DN ho hd ?_)));rw[ae (by simp)];refine Ac ?_;simp only[show ¬((i:Int)<0) from by omega,if_false,CJ,HJ hi];refine Aa ?_
 first|refine Aa (CQ T (Ac ?_))|refine Aa (DG T (Ac ?_))
 change Ak _ _ (Gg (.ref z) 2 .none >>= _) _ _ s;apply Aa;refine Bo hz (by simp) fun k1 a1 b1=>?_;have b1:BZ z s.heap k1:=b1;change Ak _ _ (Kb (.type "StopIteration") [] >>= _) _ _ _;refine Aa ?_;simp only[Kb,Mj];refine Aa (A9 (Aa (m:=D3 _ _) (Gf (a:=BI) (by first|rfl|(simp only[D3];rfl)) (A9 ?_ (by size_fits)))) (by size_fits));simp only[Mi];apply Aa;refine IF ?_;have h9:A.in1.handled=none:=hh;rw[h9];refine Aa (Ac (KD ?_));exact Aa (Eb (T:="StopIteration") (b:=aq) ⟨_,Au _ rfl,rfl⟩ HY (Ac (q _ ((b1.extBut.push _).push _))))
variable{Q:Value->Af->Prop}
theorem Xku{v:Addr}(hv:s.heap.IsItemsView v d)(ho:s.heap.get? d=ak od)(hd:od.data=.dict es ep)(q:Q (.ref s.heap.objs.size) {s with heap:=s.heap.push {cls:=.type "dict_itemiterator",data:=.fields #[.none,.bool ar,.ref d,.int 0 0,.int es.size 0,.int ep 0,.none,.none]}}):Ak (Aw prog w) A (HV (.ref v)) Q E s:=by
 obtain⟨o1,h1,h2,h3⟩:=id hv;refine GY hv.typeIs IU (Bl IU hv.typeIs F.entry_dict_items_iter ?_ (F.args_dict_items_iter_1 _));unfold D6.«dict_items.__iter__»;refine Aa (Ac (Aa ?_));unfold KC;refine Aa (Bq h1 h3 (x:=.ref d) rfl (Ac (Aa ?_)));unfold KB;refine Aa (B5 ho hd (Aa (DN ho hd ?_)));simp only[show B0 "dict_itemiterator"=aq by decide,if_true];refine A9 (Ac ⟨_,rfl,"dict_itemiterator",_,⟨_,Au _ rfl,rfl⟩,Cf.lookup,?_⟩) (by simp only[sizeOk,Ey,Ay,Av,BK,GS,E5];omega);simpa[Cu,Ey] using q
theorem Zgf:entryFor table "dict_itemiterator.__iter__"=ak D6.«dict_keyiterator.__iter__»:=entryFor_alias (id':="dict_keyiterator.__iter__") (by kernel_rfl) rfl (by decide+kernel) (by kernel_rfl)
variable{H:Hp}{p:Pos}{x:Str}
def ItIt(a:Addr)(o:Obj)(kvs:List (List Key×V)):It:=
 ⟨fun i H=>H a=ak (.frz o (.dT kvs))/\i<kvs.length,fun i H x H'=>∃kv b p,kvs[i]?=ak kv/\H b=ak (.tup (kv.1.map kV))/\x=.ref p/\H p=ao/\H'=upd H p (.tup [.ref b,kv.2]),fun i H=>H a=ak (.frz o (.dT kvs))/\kvs.length<=i⟩
variable{K:AN}{P:AR}{elts:List Expr}{pos:Pos}{x1:Nat}
theorem Zti(a it:Addr)(o:Obj)(kvs:List (List Key×V))(es:Array Dj)(ep:Nat)(h2:o.data=.dict es ep)(hn:es.size=kvs.length) :
    Turn P w K (.Tuple elts x1 pos) (ItIt a o kvs) [it] it (fun i h=>∃u0 u1,Ee h it a i es.size ep u0 u1) where
  mem:=by simp
  obj:=fun i h st b hb=>by
    have e:b=it:=by simpa using hb
    subst e;obtain⟨u0,u1,st⟩:=st;exact⟨_,st,fun v z=>by cases z⟩
  keep:=fun i h h' st k=>by obtain⟨u0,u1,st⟩:=st;exact⟨u0,u1,k it (by simp) _ st⟩
  item:=by
    intro X hP hw hK hc i pins s σ H E I hf st hg;subst hP hw hK;obtain⟨hfz,hi⟩:=hg;obtain⟨u0,u1,st⟩:=st;obtain⟨ho,hob⟩:=I.hok a _ hfz;obtain⟨_,_,xs,r,o',es',ep',e1,_,e3,e4,_⟩:=hob;rw[ho]at e1;cases e1;rw[h2]at e3;cases e3;have hk:kvs[i]?=ak kvs[i]:=Ag hi;obtain⟨q,hq1,hq2,hq3,hq4⟩:=Paired.at_ r hk;have hie:i<es.size:=by omega
    have ee:es[i]=FC (C9 (Yi X.prog X.w)) q:=by
      have:es.toList[i]?=ak (FC (C9 (Yi X.prog X.w)) q):=by rw[e4,AS,hq1];rfl
      rw[Ag (by simpa using hie)]at this;have z:=AE this;rw[Iy]at z;exact z
    have ek:es[i].key=.ref q.2.1:=by rw[ee];rfl
    have ev:es[i].val=q.2.2:=by rw[ee];rfl
    refine Xnm st ho h2 hie fun h' a1 a2 a3=>?_;rw [ek,ev] at a1 a2;refine ⟨_,rfl,wpAny_letOwnedTupleGo_items a1 fun h'' b1 b2=>?_⟩;have hne:s.heap.objs.size≠it:=fun z=>af (AI st) (by rw [<- z];exact Bm _);have ht:=b2.extBut _ _ hne a2;have I2:=I.turnTup (t':=s.toks) (h':=h'') (ch:=[it]) (p:=s.heap.objs.size) (xs:=[.ref q.2.1,kvs[i].2]) (its:=[.ref q.2.1,q.2.2]) (fun c o hc z=>by
      have hc:c≠it:=fun y=>hc (by rw [y];exact .head _);exact b2.extBut _ _ hc (a3 c o hc z)) (fun c hc=>hf c hc) (As _) (by show 2<=Ar;decide) (Zjt rfl hq4) ⟨_,ht,rfl,_,rfl⟩
    refine⟨.ref s.heap.objs.size,_,I2,rfl,⟨kvs[i],q.2.1,_,hk,hq3,rfl,I.hok.fresh (As _),rfl⟩,⟨_,_,b1⟩,fun c hc=>?_⟩;have hc':c=it:=by simpa using hc
    rw[Zy (by rw[hc'];exact hne.symm)];exact(hf c hc).1
  done:=by intro X hP hw hK hc i pins s σ H E I hf st hg;subst hP hw hK;obtain⟨f0,f1,f2,f3,f4,f5⟩:=hf it (by simp);obtain⟨hfz,hi⟩:=hg;obtain⟨u0,u1,st⟩:=st;have ho:=(I.hok a _ hfz).1;exact Xwi (I.ok.hd hc) st ho h2 (by omega) fun h' eb=>⟨rfl,I.turned (t':=s.toks) (fun b o hb e=>eb b o hb e) f0 f1 f3 f4 f5⟩
  self:=fun _ _ _ _ _ st h=>by obtain⟨u0,u1,st⟩:=st;refine GY (T:="dict_itemiterator") ⟨_,st,rfl⟩ PySem.F.slot_dict_itemiterator_iter (Bl PySem.F.slot_dict_itemiterator_iter ⟨_,st,rfl⟩ Zgf ?_ (PySem.F.args_dict_itemiterator_iter_1 _));show Ak _ _ (ret (.ref it)) _ _ _;exact Ac ⟨_,rfl,"dict_itemiterator",_,⟨_,st,rfl⟩,PySem.F.slot_dict_itemiterator_next.lookup,h⟩
def Xlj(a:Addr)(o:Obj)(kvs:List (List Key×V)):It:=
 ⟨fun i H=>H a=ak (.frz o (.dT kvs))/\i<kvs.length,fun i H x H'=>H'=H/\∃kv b,kvs[i]?=ak kv/\x=.ref b/\H b=ak (.tup (kv.1.map kV)),fun i H=>H a=ak (.frz o (.dT kvs))/\kvs.length<=i⟩
variable{tg:Expr}
theorem Zux(a it:Addr)(o:Obj)(kvs:List (List Key×V))(es:Array Dj)(ep:Nat)(h2:o.data=.dict es ep)(hn:es.size=kvs.length):Turn P w K tg (Xlj a o kvs) [it] it (fun i h=>h.IsKeyIter it a i es.size ep):=
  let T:=Ztf (P:=P) (w:=w) (K:=K) (tg:=tg) a it o kvs es ep h2 hn
  ⟨T.mem,T.obj,T.keep,T.item,by
    intro X hP hw hK hc i pins s σ H E I hf st hg;subst hP hw hK;obtain ⟨f0,f1,f2,f3,f4,f5⟩:=hf it (by simp);obtain ⟨hfz,hi⟩:=hg;have ho:=(I.hok a _ hfz).1;exact Zkt (I.ok.hd hc) st ho h2 (by omega) fun h' eb=>⟨rfl,I.turned (t':=s.toks) (fun b o hb e=>eb b o hb e) f0 f1 f3 f4 f5⟩,T.self⟩
variable{a:Addr}
def Zws(tl:TE):TI:=fun σ H R=>tl σ H fun x H1=>∃a o kvs,x=.ref a/\H1 a=ak (.frz o (.dT kvs))/\R (ItIt a o kvs) H1
def Zze(tl:TE):TI:=fun σ H R=>tl σ H fun x H1=>∃a o kvs,x=.ref a/\H1 a=ak (.frz o (.dT kvs))/\R (Xlj a o kvs) H1
variable{X:Cx}{l:Expr}{tl:TE}
theorem Xeg(hl:PE X l tl):PI X tg l (Zze tl):=by
 intro pins s σ H R I h;refine thn (hl pins s σ H _ I h) fun v s1 hz9=>?_;obtain⟨x,H1,I1,r1,a,o,kvs,e,hq,q⟩:=hz9;subst e;cases r1;obtain⟨ho,_,hd,xs,r,o',es,ep,ho',h1,h2,h3,_⟩:=I1.hok a _ hq;rw[ho]at ho';cases ho';have hn:es.size=kvs.length:=by rw[<- BM,h3,Ai];exact(Paired.length r).symm
 refine Zms hd ho h1 h2 ?_;refine⟨s1.heap.objs.size,[s1.heap.objs.size],_,_,_,rfl,I1.kept (t':=s1.toks) fun b o e=>Ae _ e,Zux a _ o kvs es ep h2 hn,⟨_,Au _ rfl,rfl,rfl⟩,fun b hb=>?_,q⟩;have e:b=s1.heap.objs.size:=by simpa using hb
 subst e;exact I1.fpOk (As _) (I1.hok.fresh (As _))
structure M0(X:Cx)(o:Expr)(md:Str)(apos cpos:Pos):Prop where
 base:Dh o md X.env (A6 o X.env)=A6 o X.env
 few:((BL cpos (Ad ([]:List Expr) X.env)).all (fun x=>!x.1)&&(Fq cpos (DV [] X.env)).all (fun x=>x.1.isSome)&&decide (([]:List Expr).length+([]:List CP).length+(if ([]:List CP).isEmpty then 0 else 1)<30))=aq
 line:(apos.endLine==cpos.line)=aq
 trees:BL cpos (Ad ([]:List Expr) X.env)=[]
variable{apos cpos tpos:Pos}
theorem Xeo(hl:PE X l tl)(m:M0 X l "items" apos cpos):PI X (.Tuple elts x1 tpos) (.Call (.Attribute l "items" apos) [] [] cpos) (Zws tl):=by
 intro pins s σ H R I h;refine wpAny_Call_method m.base m.few m.line PySem.F.plainAttrs_dict PySem.F.slot_dict_items PySem.F.type_dict_items (thn (hl pins s σ H _ I h) fun u s1 hz9=>?_);obtain⟨x,H1,I1,rx,a,o,kvs,ex,hq,q⟩:=hz9;subst ex;obtain rfl:u=AQ a:=rx;obtain⟨ho,_,hd,xs,r,o',es,ep,ho',h1,h2,h3,_⟩:=I1.hok a _ hq;rw[ho]at ho';cases ho';have hn:es.size=kvs.length:=by rw[<- BM,h3,Ai];exact(Paired.length r).symm
 obtain⟨t1,t2,_⟩:=Xxp I1 (.inr ⟨kvs,.inr ⟨o,hq⟩⟩);refine⟨t1,t2,?_⟩;rw[m.trees];refine HI rfl (PySem.evalArgs_none ?_);refine Bl PySem.F.slot_dict_items t1 PySem.F.entry_dict_items ?_ (PySem.F.args_dict_items_1 _);unfold D6.«dict.items» Ma;refine Aa (Aa (FN t1 ?_));change Ak _ _ (pure a) _ _ s1;refine Ac ?_;change Ak _ _ (CI a >>= _) _ _ s1;unfold CI;rw[ae (by rw[hd];exact Ao)];refine Aa (Ac (Aa (A9 (Ac ⟨_,rfl,?_⟩))));have hv:(s1.heap.push {cls:=.type "dict_items",data:=.fields #[.ref a]}).IsItemsView s1.heap.objs.size a:=⟨_,Au _ rfl,rfl,rfl⟩;have I2:Inv X pins σ H1 {s1 with heap:=s1.heap.push {cls:=.type "dict_items",data:=.fields #[.ref a]}}:=I1.kept (t':=s1.toks) fun b o e=>Ae _ e;refine Xku (s:={s1 with heap:=s1.heap.push {cls:=.type "dict_items",data:=.fields #[.ref a]}}) hv (Ae _ ho) h2 ?_;refine⟨_,[_],_,_,_,rfl,I2.kept (t':=s1.toks) fun b o e=>Ae _ e,Zti a _ o kvs es ep h2 hn,⟨_,_,Au _ rfl⟩,fun b hb=>?_,q⟩;have e:=Ap.mp hb;subst e;exact I2.fpOk (As _) (I2.hok.fresh (As _))
variable{C:String->Addr}{ds:List D}{e:Expr}{v:Value}{vs:List Expr}{y:Str}
theorem RpA.at1{H:Hp}:∀{ds:List D} {vs:List V} {i:Nat} {d:D},RpA K C H ds vs []->ds[i]?=ak d->∃v,vs[i]?=ak v/\Rp K C H d v []
 |[],_,_,_,_,e=>by simp at e
 |x::ds,vs,i,d,r,e=>by
  obtain⟨y,l,B,B',rfl,h1,h2,h3⟩:=r;have b:=Fa.mp h3.symm;obtain⟨rfl,rfl⟩:=b;cases i with
  |zero =>simp at e;subst e;exact⟨y,rfl,h1⟩
  |succ i =>obtain⟨v,q1,q2⟩:=RpA.at1 (i:=i) h2 (by simpa using e);exact⟨v,by simpa using q1,q2⟩
theorem Zzl{k:List Key}{b:Addr}(hk:k.all Dl.kOk=aq)(hb:H b=ak (.tup (k.map kV))):Rp K C H (Dl.Zdu k) (.ref b) []:=⟨b,_,rfl,hb,Zyx hk⟩
variable{Hc:Hp}{ks:List (List Key)}{ys:List V}
theorem Zvb{xs:List D}(h1:Hc a=ak (.frz o (.dT (ks.zip ys))))(hl:ks.length=xs.length)(r:RpA K C Hc xs ys [])(hk:(ks.all fun k=>k.all Dl.kOk)=aq):Goes K C (ItIt a o (ks.zip ys)) (A8 (fun k x=>.tup [Dl.Zdu k,x]) ks xs) Hc:=fun H2 g=>by
 have hy:=r.len;have hz:(ks.zip ys).length=ks.length:=by rw[Fz];omega
 have hw:(A8 (fun k x=>D.tup [Dl.Zdu k,x]) ks xs).length=ks.length:=by rw[Cy];omega
 refine⟨fun i hi=>⟨g _ _ h1,by omega⟩,fun i hi=>⟨g _ _ h1,by omega⟩,fun i x H3 hi y=>?_⟩;obtain⟨kv,b,p,e1,e2,rfl,e4,rfl⟩:=y;rw[hw]at hi;have hx:i<xs.length:=by omega
 obtain⟨v,v1,v2⟩:=r.at1 (Ag hx);have ek:kv=(ks[i],v):=by
  have:(ks.zip ys)[i]?=ak (ks[i],v):=by rw[Ds];exact⟨Ag hi,v1⟩
  rw[this]at e1;exact(AE e1).symm
 subst ek;have hb:b≠p:=fun z=>by subst z;rw[e4]at e2;cases e2
 have sm:Xf H2 (upd H2 p (.tup [.ref b,v])):=sameNew e4 _;refine⟨sm,.tup [Dl.Zdu ks[i],xs[i]],[],?_,⟨p,_,rfl,Zw,⟨_,_,[],[],rfl,Zzl (BG.mp hk _ (Ca hi)) (by rw[Zy hb];exact e2),⟨_,_,[],[],rfl,(v2.same g).same sm,RpA.nil,rfl⟩,rfl⟩⟩,fun _ z=>nomatch z⟩;rw[Ir,Ag hi,Ag hx]
theorem Zul(h1:Hc a=ak (.frz o (.dT (ks.zip ys))))(hl:ks.length=ys.length)(hk:(ks.all fun k=>k.all Dl.kOk)=aq):Goes K C (Xlj a o (ks.zip ys)) (ks.map Dl.Zdu) Hc:=fun H2 g=>by
 have hz:(ks.zip ys).length=ks.length:=by rw[Fz];omega
 refine⟨fun i hi=>⟨g _ _ h1,by rw[Ai]at hi;omega⟩,fun i hi=>⟨g _ _ h1,by rw[Ai]at hi;omega⟩,fun i x H3 hi y=>?_⟩;obtain⟨rfl,kv,b,e1,rfl,e2⟩:=y;rw[Ai]at hi;have ek:kv.1=ks[i]:=by
  have:(ks.zip ys)[i]?=ak (ks[i],ys[i]'(by omega)):=by rw[Ds];exact⟨Ag hi,Ag _⟩
  rw[this]at e1;rw[<- AE e1]
 rw[ek]at e2;refine⟨Xf.refl _,Dl.Zdu ks[i],[],by rw[AS,Ag hi];rfl,Zzl (BG.mp hk _ (Ca hi)) e2,fun _ z=>nomatch z⟩
variable{u:HO}
theorem Znk(h:Agree [] H Hc)(e:H a=ak (.frz o u)):Hc a=ak (.frz o u):=h.2 a _ e fun z=>by cases z
variable{E:XK}{S:List (Nat×Bool)}{f:FE}{m:Nat}{Γ Δ:List Nat}
theorem Zyr{t:TE}(h:EOk K C E Γ Δ m S t f):IOk K C E Γ Δ [] (Zws t) (Dl.Zih f):=fun H0 Hb H σ ρ A Rr I p=>h H0 Hb H σ ρ A _ I (p.bind.imp (fun d q v H' g r=>by
  obtain⟨B,r,r',_⟩:=r;cases d with
  |fdt ks ds =>obtain⟨a,o,ys,rfl,e1,e2,e3,e4⟩:=r;simp only at q;split at q;rename_i hl;exact⟨a,o,_,rfl,e1,q _ H' [] g (fun _ z=>nomatch z) (by rw[Cy];exact AD (Fi _ _) hl.1) fun Hc h1=>Zvb (Znk h1 e1) e2 (e3.agree h1 fun _ z=>nomatch z) hl.2⟩;exact q.elim
  | _=>exact q.elim) fun c x q H' g'=>q H' g')
theorem Xav{t:TE}(h:EOk K C E Γ Δ m S t f):IOk K C E Γ Δ [] (Zze t) (Dl.Zjf f):=fun H0 Hb H σ ρ A Rr I p=>h H0 Hb H σ ρ A _ I (p.bind.imp (fun d q v H' g r=>by
  obtain⟨B,r,r',_⟩:=r;cases d with
  |fdt ks ds =>obtain⟨a,o,ys,rfl,e1,e2,e3,e4⟩:=r;simp only at q;split at q;rename_i hl;exact⟨a,o,_,rfl,e1,q _ H' [] g (fun _ z=>nomatch z) (by rw[Ai];exact hl.1) fun Hc h1=>Zul (Znk h1 e1) (by rw[e2,e3.len]) hl.2⟩;exact q.elim
  | _=>exact q.elim) fun c x q H' g'=>q H' g')
variable{fe:FE}{te:TE}
theorem Zlm(h:JE X C E Γ Δ m S e te fe)(hbase:Dh e "items" X.env (A6 e X.env)=A6 e X.env:=by rfl)
  (hfew:((BL cpos (Ad ([]:List Expr) X.env)).all (fun x=>!x.1)&&(Fq cpos (DV [] X.env)).all (fun x=>x.1.isSome)&&decide (([]:List Expr).length+([]:List CP).length+(if ([]:List CP).isEmpty then 0 else 1)<30))=true:=by rfl)
  (hline:(apos.endLine==cpos.line)=true:=by rfl) (htr:BL cpos (Ad ([]:List Expr) X.env)=[]:=by rfl):JI X C E Γ Δ [] (.Tuple elts x1 tpos) (.Call (.Attribute e "items" apos) [] [] cpos) (Zws te) (Dl.Zih fe):=⟨⟨Xeo h.q.out ⟨hbase,hfew,hline,htr⟩⟩,Zyr h.o⟩
theorem Xhv(h:JE X C E Γ Δ m S e te fe):JI X C E Γ Δ [] tg e (Zze te) (Dl.Zjf fe):=⟨⟨Xeg h.q.out⟩,Xav h.o⟩
variable{xs:Array (Int×Tok)}
inductive LorT:HO->Prop where
 |lst {xs:List V}:LorT (.lst xs)
 |dtt {kvs:List (List Key×V)}:LorT (.dT kvs)
theorem LorT.isM(h:LorT u):IsM u:=by cases h;exact .lst;exact .dtt
def tFz(te:TE):TE:=fun σ H Q=>te σ H fun v H1=>∃a u,v=.ref a/\H1 a=ak u/\LorT u/\∀o,Q v (upd H1 a (.frz o u))
theorem Xpb(h:PE X e te):PE X e (tFz te):=by
 intro pins s σ H Q I hq;refine thn (h pins s σ H _ I hq) fun v s1 hz=>?_;obtain⟨x,H1,I1,r1,a,u,rfl,hu,lt,q⟩:=hz;obtain⟨o,ho⟩:∃o,s1.heap.get? a=ak o:=by
  have z:=I1.hok a u hu;cases lt with
  |lst=>obtain⟨_,its,n,_,e⟩:=z;exact⟨_,e⟩
  |dtt=>obtain⟨_,_,_,_,o,_,_,e,_⟩:=z;exact⟨o,e⟩
 exact⟨.ref a,_,(I1.fz hu (by rw[hu];cases lt<;>trivial) (fun _ _ _=>by cases lt<;>exact⟨(fun z=>nomatch z),(fun z=>nomatch z)⟩) ho).1,r1,q o⟩
variable{c:Nat}
theorem Xui(hu:H a=ak u)(lt:LorT u):Ext (fun c=>c=a) H (upd H a (.frz o u)):=fun b ob hb=>by by_cases e:b=a;subst e;rw[hu]at hb;cases hb;exact .inr ⟨rfl,lt.isM⟩;rw[Zy e];exact .inl hb
theorem RpA.fz{xs:List V}(hu:H a=ak u)(lt:LorT u)(r:RpA K C H ds xs []):RpA K C (upd H a (.frz o u)) ds xs []:=r.ext (Xui hu lt) fun _ z=>nomatch z
theorem Zpy{H1:Hp}(hn:H a=ao)(g:Xf H H1):Xf H (upd H1 a (.frz o u)):=fun b ob hb=>by rw[Zy fun z=>by subst z;rw[hn]at hb;cases hb];exact g b ob hb
theorem Xnn(h:EOk K C E Γ Δ 2 [] te fe):EOk K C E Γ Δ 2 [] (tFz te) (Dl.f1 Dl.Xjz fe):=fun H0 Hb H σ ρ A Q I p =>
  h H0 Hb H σ ρ A _ I (p.bind.imp (fun d q v H1 g r=>by
    obtain⟨z,e,q⟩:=Zbm q;obtain⟨B,r1,r2,_⟩:=r;cases d with
    |lst ds =>
      have e:(if Dl.Zr ds=aq then ak (D.flst ds) else ao)=ak z:=e;split at e;rename_i hf;cases e;obtain⟨a,xs,B',rfl,h1,h2,rfl⟩:=r1;have eB:=h2.flat hf;subst eB;have hn:H a=none:=(r2 a (.head _)).elim id fun z=>by obtain⟨_,w,_⟩:=z;cases w
      exact⟨a,_,rfl,h1,.lst,fun o=>q _ _ (Zpy hn g) (Res.flat ⟨a,o,xs,rfl,Zw,RpA.fz h1 .lst h2,rfl⟩)⟩;cases e
    | _=>cases e) fun c x q H' g'=>q H' g')
theorem Xms(h:EOk K C E Γ Δ 2 [] te fe):EOk K C E Γ Δ 2 [] (tFz te) (Dl.f1 Dl.Xva fe):=fun H0 Hb H σ ρ A Q I p =>
  h H0 Hb H σ ρ A _ I (p.bind.imp (fun d q v H1 g r=>by
    obtain⟨z,e,q⟩:=Zbm q;obtain⟨B,r1,r2,_⟩:=r;cases d with
    |dtt ks ds =>
      have e:(if Dl.Zr ds=aq then ak (D.fdt ks ds) else ao)=ak z:=e;split at e;rename_i hf;cases e;obtain⟨a,xs,B',rfl,h1,h0,h2,rfl⟩:=r1;have eB:=h2.flat hf;subst eB;have hn:H a=none:=(r2 a (.head _)).elim id fun z=>by obtain⟨_,w,_⟩:=z;cases w
      exact⟨a,_,rfl,h1,.dtt,fun o=>q _ _ (Zpy hn g) (Res.flat ⟨a,o,xs,rfl,Zw,h0,RpA.fz h1 .dtt h2,rfl⟩)⟩;cases e
    | _=>cases e) fun c x q H' g'=>q H' g')
variable{mr:Nat}{Γ' Γl Δ' Δl:List Nat}
theorem Zwf(hi:i∈Γ):SOk K C E mr Γl Δl Γ Δ Γ' Δ' (Xrl (tFz (Zil i))) (Dl.Zja i):=fun H0 Hb H σ ρ A D I p=>by unfold Dl.Zja at p;split at p;rename_i ks ds e;split at p;rename_i hf;obtain⟨a,xs,l,s1,h1,h2,r1,hA,hl⟩:=Zgr I e;have el:=r1.flat hf;subst el;have hn:H0 a=none:=I.loc i hi a (by rw[hA];exact .head _);exact⟨.ref a,s1,a,_,rfl,h1,.dtt,fun o=>p _ _ (Zpy hn (I.s0.trans I.same)) (Res.flat ⟨a,o,xs,rfl,Zw,h2,RpA.fz h1 .dtt r1,rfl⟩)⟩;exact p.elim;exact p.elim
variable{j:Nat}{ks:List (List (Int ⊕ Str))}
theorem Zo.frozen{H0 Hb:Hp}{σ:St}{ρ:Xr}{A:Nat->List Addr}(I:Zo K C H0 Hb H Γ Δ σ ρ A)(hj:j∈Γ)(e:ρ[j]?=ak (ak (.dtt ks ds)))(hf:Dl.Zr ds=aq)(h1:∀k∈Γ',k∈Γ/\k≠j)(h2:∀k∈Δ',k∈Δ/\k≠j):∃a xs,σ[j]?=ak (ak (.ref a))/\H a=ak (.dT (ks.zip xs))/\∀o,∃A',Zo K C H0 Hb (upd H a (.frz o (.dT (ks.zip xs)))) Γ' Δ' σ (ρ.set j C6) A'/\(∀k,k≠j->A' k=A k)/\Rp K C (upd H a (.frz o (.dT (ks.zip xs)))) (.fdt ks ds) (.ref a) []:=by
  obtain ⟨a,xs,l,s1,q1,q2,r1,hA,hl⟩:=Zgr I e;have el:=r1.flat hf;subst el;obtain ⟨t1,t2,t3⟩:=I.top j hj a [] hA;refine ⟨a,xs,s1,q1,fun o=>?_⟩;have I1:=(I.weak (Γ':=Γ') (Δ':=Δ') (fun k hk=>(h1 k hk).1) (fun k hk=>(h2 k hk).1)).dead (j:=j) (σ':=σ) rfl (fun _ _=>rfl) (fun z=>(h1 j z).2 rfl) (fun z=>(h2 j z).2 rfl);have I2:=I1.away (H':=upd H a (.frz o (.dT (ks.zip xs)))) (W:=[a]) (fun b ob hb h=>by rw [Zy fun z=>hb (by rw [z];exact .head _)];exact h) (fun c hc=>by rw [Ap.mp hc];exact t1) (fun k c hck hcm=>by
    rw[Ap.mp hcm]at hck;by_cases ek:k=j;rw[aa ek]at hck;cases hck
    · rw [ae ek] at hck;exact t3 k ek hck) (fun c hcm ob h=>by
    rw [Ap.mp hcm,q1] at h;cases h;exact .dtt)
  exact⟨_,I2,fun k hk=>ae hk,a,o,xs,rfl,Zw,q2,RpA.fz q1 .dtt r1,rfl⟩
theorem Zvx(hi:i∈Γ:=by decide)(hj:j∈Γ:=by decide)(h1:∀k∈Γ',k∈Γ/\k≠j:=by decide)(h2:∀k∈Δ',k∈Δ/\k≠j:=by decide)(hi':i∈Γ':=by decide) :
  SOk K C E mr Γl Δl Γ Δ Γ' Δ' (Ziq (tBM K "list" Zdl (Zil i) (Zbk (tFz (Zil j)) Zoq))) (Dl.Zji i j):=fun H0 Hb H σ ρ A D I p=>by
 unfold Dl.Zji at p;split at p;rename_i ds0 ks ds e1 e2;split at p;rename_i hf;obtain⟨f1,f2,hij,hz⟩:=hf;obtain⟨b,ys,l,s1,h1',r1,hA,hl⟩:=Zke I e1;have el:=r1.flat f2;subst el;obtain⟨a,xs,s2,q1,z⟩:=I.frozen hj e2 f1 h1 h2;have hab:b≠a:=fun y=>by subst y;rw[h1']at q1;cases q1
 refine⟨.ref b,s1,.inl ⟨rfl,ys,SqL.of h1'⟩,.ref a,s2,a,_,rfl,q1,.dtt,fun o=>?_⟩;obtain⟨A',I',eA,r⟩:=z o;obtain⟨A4,I4⟩:=I'.rewrite (Xf.refl _) hi' (a:=b) (l:=[]) ((eA i hij).trans hA) (by rw[Dx];exact hl) s1 (es:=ds0++[.fdt ks ds]) (ys:=ys++[.ref a]) (B':=[]) (RpA.snoc0 r (RpA.fz q1 .dtt r1)) (fun _ h=>nomatch h) fun _=>Bb;exact⟨b,ys,.ref a,rfl,rfl,by rw[Zy hab];exact h1',by rw[r1.len];exact Zes hz,p σ _ A4 I4⟩;exact p.elim;exact p.elim
theorem Zsu(h:JE X C E Γ Δ 2 [] e te fe):JE X C E Γ Δ 2 [] e (tFz te) (Dl.f1 Dl.Xjz fe):=⟨⟨Xpb h.q.out⟩,Xnn h.o⟩
theorem Xjq(h:JE X C E Γ Δ 2 [] e te fe):JE X C E Γ Δ 2 [] e (tFz te) (Dl.f1 Dl.Xva fe):=⟨⟨Xpb h.q.out⟩,Xms h.o⟩
theorem Xxt(h:QE X e te):QE X e (tFz te):=⟨Xpb h.out⟩
variable{p2:Pos}
theorem Xhl(hi:i∈Γ:=by decide)(hj:j∈Γ:=by decide)(h1:∀k∈Γ',k∈Γ/\k≠j:=by decide)(h2:∀k∈Δ',k∈Δ/\k≠j:=by decide)(hi':i∈Γ':=by decide)
  (hN:X.N[i]?=ak x:=by rfl) (hv:autoParam (Vis X.env.scope x) aT3._auto_1) (hd:(x==("__debug__":Str))=false:=by decide) (hcd:(x==("__classdict__":Str))=false:=by decide)
  (hN2:X.N[j]?=ak y:=by rfl) (hv2:autoParam (Vis X.env.scope y) aT3._auto_1) (hd2:(y==("__debug__":Str))=false:=by decide) (hcd2:(y==("__classdict__":Str))=false:=by decide)
  (hse:Ad [.Name y p2] X.env=(ar,A6 (.Name y p2) X.env)::Ad [] X.env:=by rfl)
  (hbase:Dh (.Name x p) "append" X.env (A6 (.Name x p) X.env)=A6 (.Name x p) X.env:=by rfl)
  (hfew:((BL cpos (Ad [.Name y p2] X.env)).all (fun x=>!x.1)&&(Fq cpos (DV [] X.env)).all (fun x=>x.1.isSome)&&decide (([.Name y p2]:List Expr).length+([]:List CP).length+(if ([]:List CP).isEmpty then 0 else 1)<30))=true:=by rfl)
  (hline:(apos.endLine==cpos.line)=true:=by rfl) (hplain:(BL cpos (Ad ([]:List Expr) X.env)).any (·.1)=false:=by rfl) (hsw:Cq (.Call (.Attribute (.Name x p) "append" apos) [.Name y p2] [] cpos) ao pos.line X.env=pure false:=by rfl) :
  JS X C E mr Γl Δl Γ Δ Γ' Δ' (.Expr (.Call (.Attribute (.Name x p) "append" apos) [.Name y p2] [] cpos) pos) (Ziq (tBM X.K "list" Zdl (Zil i) (Zbk (tFz (Zil j)) Zoq))) (Dl.Zji i j):=
 ⟨Zkk (Xwh PySem.F.plainAttrs_list PySem.F.slot_list_append PySem.F.type_list_append Zgw (qv i hN hv hd hcd) (Zdv (Xxt (qv j hN2 hv2 hd2 hcd2)) Zre hse) hbase hfew hline hse hplain) hsw,Zvx hi hj h1 h2 hi'⟩
theorem Xhe(hi:i∈Γ:=by decide)(hN:X.N[i]?=ak x:=by rfl)(hv:autoParam (Vis X.env.scope x) aT3._auto_1)(hd:(x==("__debug__":Str))=false:=by decide)(hcd:(x==("__classdict__":Str))=false:=by decide) :
  JS X C E mr Γl Δl Γ Δ Γ' Δ' (.Return (ak (.Name x p)) pos) (Xrl (tFz (Zil i))) (Dl.Zja i):=⟨Xit (Xxt (qv i hN hv hd hcd)),Zwf hi⟩
def Zyb(tk tv:TE):TE:=fun σ H Q=>∀p,H p=ao->tk σ (upd H p (.dT [])) fun y H1=>tv σ H1 fun v H2=>∃(k:List Key) (b:Addr),y=.ref b/\H2 p=ak (.dT [])/\H2 b=ak (.tup (k.map kV))/\Q (.ref p) (upd H2 p (.dT [(k,v)]))
variable{tk tv:TE}
theorem Xfu{k v:Expr}(hu:X.A.units+1<BE)(hk:PE X k tk)(hv:PE X v tv):PE X (.Dict [ak k] [v] pos) (Zyb tk tv):=by intro pins s σ H Q I q;have hn:=I.hok.fresh (As s.heap.objs.size);have I1:=I.laid (a:=s.heap.objs.size) (o:=.dT []) (h':=s.heap.push {cls:=.type "dict",data:=.dict #[]}) (t':=s.toks) (fun _ _ q=>Ae _ q) (As _) (Zsw s.heap I.big);rw[arm_eval_Dict,zip_pairTrees [ak k] [v] X.env pos rfl rfl,dictDisplay_pairs _ (by simp[pairTrees]) (by rw[LG _ _ _ _ rfl rfl];exact(by decide:(1:Nat)<17))];refine Aa (GD (Aa ?_));unfold subDict;refine Aa (wpAny_alloc (Aa (Bp ?_)));rw[aa (by rw[LG _ _ _ _ rfl rfl];exact(by decide:(1:Nat)<=15))];refine Aa (pairTrees_cons_walk (thn (hk pins _ σ _ _ I1 (q _ hn)) fun u s1 hz1=>?_));obtain⟨y,H1,I2,ry,q2⟩:=hz1;refine thn (hv pins s1 σ H1 _ I2 q2) fun r s2 hz2=>pairTrees_nil_walk ?_;obtain⟨w,H2,I3,rw',kk,b,ey,e1,e2,q3⟩:=hz2;subst ey;cases (show u=AQ b from ry);obtain⟨z,hd,xs,rel,dd⟩:=Xun I3.hok e1;cases rel;refine Bp ?_;simp only[GQ,Hj];refine Aa (Aa (Aa (wpAny_dictSet_heap (hsz:=Dp _) (show X.A.units<BE by omega) (Znq I3.hok e2) dd fun h' dd' hs=>Ac (Ac (Ac (Ac (Ac ?_)))))));obtain⟨qo,es,ep,hq,h2,h3,h4,_,h5⟩:=dd';refine⟨.ref s.heap.objs.size,_,Zpi (ob:=.dT [(kk,w)]) I3 (by rw[e1];exact Ep) hs ⟨qo,hq⟩ ⟨by show 1<=Ar;decide,hd,_,.cons ⟨rfl,by rw[Zy (Xrz e2 e1 (fun z=>nomatch z))];exact e2,rw'⟩ .nil,qo,es,ep,hq,h2,h3,h4,h5⟩,rfl,q3⟩
variable{E:Value->Af->Prop}
theorem Xgu{id:String}{Q:Array Dj->Af->Prop}(ho:s.heap.get? d=ak o)(hd:o.data=.dict es ep)(hk:∀e∈es.toList,∃b,e.key=.ref b/\s.TypeIs (.ref b) "tuple")(hh:∀e∈es.toList,(es.filter (·.hash==e.hash)).size<=1)(h:Q es s):Ak (Aw prog w) A (FL id d) Q E s:=by
 unfold FL;refine Aa (B5 ho hd (Aa ?_));rw[<- Array.forIn_toList];refine wpAny_forIn_list _ (fun rest _ s'=>s'=s/\∀e∈rest,e∈es.toList) _ ?_ ?_ _ _ ⟨rfl,fun _ z=>z⟩;rintro e rest u s' ⟨rfl,hr⟩;obtain⟨b,eb,T⟩:=hk e (hr e (.head _));unfold L9;rw[eb];refine Aa (Aa (Es T PySem.F.slot_tuple_eq.lookup (Ac ?_)));rw[show((ak (Value.builtin "tuple.__eq__"):Option Value)==ak (.builtin "object.__eq__"))=ar by decide];simp only[K5,if_true];rw[ae (by have:=hh e (hr e (.head _));omega)];exact Ac ⟨rfl,fun z hz=>hr z (.tail _ hz)⟩;rintro u s' ⟨rfl,_⟩;exact Ac h
theorem Xds{o:Addr}(hoS:(o==Ck)=ar)(ho:s.heap.get? o=ak od)(hx:od.ExactDict)(hd:od.data=.dict es ep)(hz:es.size<=Ar)(hne:es.size≠0)(hk:∀e∈es.toList,∃b,e.key=.ref b/\s.TypeIs (.ref b) "tuple")(hh:∀e∈es.toList,(es.filter (·.hash==e.hash)).size<=1)(h:∀h' o' ep',h'.get? s.heap.objs.size=ak o'->o'.ExactDict->o'.data=.dict es ep'->BZ s.heap.objs.size (s.heap.push {cls:=.type "dict",data:=.dict #[]}) h'->Q (.ref s.heap.objs.size) {s with heap:=h'}):Ak (Aw prog w) A (call (.type "dict") [.ref o]) Q E s:=by
 refine Ml (Q₁:=fun obj s₁=>obj=.ref s.heap.objs.size/\s₁={s with heap:=s.heap.push {cls:=.type "dict",data:=.dict #[]}}) PySem.F.kt_called_dict (PySem.F.kt_typeCall_dict_1 _) PySem.F.entry_dict_init (kt_code_dict_new _ ⟨rfl,rfl⟩) ?_;rintro obj s1 ⟨rfl,rfl⟩;have T:FD {s with heap:=s.heap.push {cls:=.type "dict",data:=.dict #[]}} (.ref s.heap.objs.size) "dict":=⟨_,Au _ rfl,rfl⟩;have ho':(s.heap.push {cls:=.type "dict",data:=.dict #[]}).get? o=ak od:=Ae _ ho;have T2:FD {s with heap:=s.heap.push {cls:=.type "dict",data:=.dict #[]}} (.ref o) "dict":=⟨od,ho',hx.1⟩;have hdo:s.heap.objs.size≠o:=fun e=>af (AI ho) (by rw[e];exact Bm _);refine⟨T,PySem.F.args_dict_init_2 _ _,?_⟩;unfold D6.«dict.__init__»;refine Aa ?_;unfold L7;refine Aa (FN T ?_);change Ak _ _ (pure (s.heap.objs.size,[AQ o])) _ _ _;refine Ac ?_;change Ak _ _ (GC "dict.__init__" s.heap.objs.size (.ref o) [] .none) _ _ _;unfold GC;refine Aa (JZ T2 ?_);rw[ae (by decide)];refine Aa ?_;unfold Mc;refine Aa ?_;unfold L8;refine Aa (Eb T2 isSubtype_dict_dict ?_);simp only[Lo,AT,if_false];refine Aa (Es T2 PySem.F.slot_dict_iter.lookup (Ac ?_));simp only[beq_self_eq_true,if_true];refine Aa (Ac ?_);unfold Mb;rw[ae (by simpa using hdo)];unfold CI;rw[ae (by rw[hoS];exact Ao)];refine Aa (Ac (Aa (B5 ho' hd ?_)));have few:(decide (es.size<=8)&&es.all fun e=>(keyPart e.key).isSome)=false:=by
  have h0:0<es.size:=by omega
  obtain⟨b,eb,_⟩:=hk es[0] (by simp);have:(es.all fun e=>(keyPart e.key).isSome)=false:=by rw[Array.all_eq_false];exact⟨0,h0,by rw[eb];exact Ao⟩
  rw[this,Bool.and_false]
 simp only[few,K5,if_true];refine Aa (B5 (s:={s with heap:=s.heap.push {cls:=.type "dict",data:=.dict #[]}}) (Au _ rfl) rfl ?_);rw[aa (by rfl)];refine Aa (Xgu ho' hd (fun e he=>?_) hh ?_);obtain⟨b,eb,ob,hb,hc⟩:=hk e he;exact⟨b,eb,ob,Ae _ hb,hc⟩;rw[aa (by simp;exact fun z=>hne (by rw[z];rfl))];refine Aa (wpAny_updateDictKeysTo (Au _ rfl) rfl ?_ (Nat.le_succ_of_le hz));refine Ac ?_;change Ak _ _ (Me s.heap.objs.size [] >>= _) _ _ _;refine Aa (Ac (Ac ⟨rfl,h _ _ 1 (Cb _ (Au _ rfl) (Obj.isFreed_of_dict (IM rfl _))) (LH ⟨rfl,rfl,rfl⟩ _) (IM rfl _) (BU ..)⟩))
variable{E:XK}{S1 S2:List (Nat×Bool)}{fk:FE}{m1 m2:Nat}
theorem Zwx{fv:FE}(hk:EOk K C E Γ Δ m1 S1 tk fk)(hv:EOk K C E Γ Δ m2 S2 tv fv):EOk K C E Γ Δ 2 [] (Zyb tk tv) (Dl.Zix fk fv):=fun H0 Hb H σ ρ A Q I p q hq=>by
 have g0:=sameNew hq (.dT []);refine hk H0 Hb _ σ ρ A _ (I.mono g0) (Xd.imp (Xd.bind p) (fun y p y' H1 g1 ry=>?_) fun c x p H' g'=>p H' (g0.trans g'));refine hv H0 Hb H1 σ ρ A _ ((I.mono g0).mono g1) (Xd.imp (Xd.bind p) (fun v p v' H2 g2 rv=>?_) fun c x p H' g'=>p H' (g0.trans (g1.trans g')));obtain⟨By,ry,_⟩:=ry;obtain⟨Bv,rv,_⟩:=rv;split at p;rename_i k hk;split at p;rename_i hf;obtain⟨b,rfl,hb⟩:=Zdr hk ry;have eB:=rv.flat hf;subst eB;have e1:H2 q=ak (.dT []):=g2 _ _ (g1 _ _ Zw);have ex:Ext (fun c=>c=q) H2 (upd H2 q (.dT [(k,v')])):=fun c o hc=>by by_cases e:c=q;subst e;rw[e1]at hc;cases hc;exact .inr ⟨rfl,.dtt⟩;rw[Zy e];exact .inl hc
 refine⟨k,b,rfl,e1,g2 _ _ hb,p _ _ (fun c o hc=>?_) (Res.new (B:=[q]) ⟨q,[v'],[],rfl,Zw,rfl,⟨_,_,[],[],rfl,rv.ext ex (fun _ z=>nomatch z),RpA.nil,rfl⟩,rfl⟩ (AB.mpr ⟨(fun z=>nomatch z),Bb⟩) fun a ha=>by rw[Ap.mp ha];exact hq)⟩;rw[Zy fun z=>by subst z;rw[hq]at hc;cases hc];exact g2 _ _ (g1 _ _ (g0 _ _ hc));exact p.elim;exact p.elim
def Xbk:List V->Hp->VK->Prop:=fun vs H Q=>∃(a:Addr) (o:Obj) (kvs:List (List Key×V)),vs=[.ref a]/\H a=ak (.frz o (.dT kvs))/\kvs≠[]/\(∀kv∈kvs,kv.1.all Dl.smK=aq)/\(kvs.map fun kv=>Dl.thK kv.1).Nodup/\∀p,H p=ao->Q (.ref p) (upd H p (.dT kvs))
theorem Xei{x:Key}(h:Dl.smK x=aq):keyH w x=Dl.vlK x:=by
 cases x with
 |inr z=>cases h
 |inl i =>
  simp only[Dl.smK,AC,decide_eq_true_eq]at h;obtain⟨h0,h1⟩:=h;obtain⟨n,rfl⟩:=E2 h0;have h1:n<1000:=by omega
  show hashInt (n:Int)=(n:Int);have hr:rawHash (n:Int)=n:=by unfold rawHash;simp only[Kl];have e:(n:Int)%((2^61-1:Nat):Int)=n:=KA (by omega) (by omega);rw[e,ae (show ¬((n:Int)<0) by omega),ae (by simp)]
  unfold hashInt;rw[hr,ae (by simp)]
theorem Xqz{k:List Key}(h:k.all Dl.smK=aq):(C9 (Yi P w)).hash k=Dl.thK k:=by show Dw (CW (k.map (keyH w)))=Dw (CW (k.map Dl.vlK));rw[BS fun x hx=>Xei (BG.mp h x hx)]
variable{α:Type}
theorem Xmy{l:List α}{f:α->Int}(h:(l.map f).Nodup){e:α}(he:e∈l):(l.filter fun x=>f x==f e).length<=1:=by
 induction l with
 |nil=>cases he
 |cons a l ih =>
  rw[AZ,AB]at h;rw[GK];by_cases z:f a=f e;rw[aa (by simpa using z)];have:(l.filter fun x=>f x==f e)=[]:=by rw[List.filter_eq_nil_iff];intro x hx y;exact h.1 (Az.mpr ⟨x,hx,by rw[z];simpa using y⟩)
  rw[this];exact As _;rw[ae (by simpa using z)];rcases Aj.mp he with rfl|he;exact af rfl z;exact ih h.2 he
theorem Ztw:Zae X (.type "dict") Xbk:=by
 intro pins s σ H xs us Q I r h;obtain⟨a,o,kvs,rfl,hq,hne,hsm,hnd,q⟩:=h;obtain⟨u,rfl,rx⟩:=vals1 r;cases rx;obtain⟨ho,z,hd,ys,rel,o',es,ep,ho',h1,h2,h3,h5⟩:=I.hok a _ hq;rw[ho]at ho';cases ho';have hl:es.size=kvs.length:=by rw[<- BM,h3,Ai];exact(Paired.length rel).symm
 have hhs:es.toList.map (·.hash)=kvs.map fun kv=>Dl.thK kv.1:=by
  rw[h3,AV];have key:∀{l:List (List Key×V)} {m:List (List Key×Addr×Value)},KT H l m->(∀kv∈l,kv.1.all Dl.smK=aq)->m.map ((fun e:Dj=>e.hash)∘FC (C9 (Yi X.prog X.w)))=l.map fun kv=>Dl.thK kv.1:=fun {l m} rr=>by
   induction rr with
   |nil=>exact fun _=>rfl
   |@cons p q ps qs hp _ ih =>intro hs;rw[AZ,AZ,ih fun kv hkv=>hs kv (.tail _ hkv)];congr 1;show(C9 (Yi X.prog X.w)).hash q.1=_;rw[<- hp.1];exact Xqz (hs p (.head _))
  exact key rel hsm
 have hty:∀y∈ys,s.TypeIs (.ref y.2.1) "tuple":=fun y hy=>by
  have key:∀{l:List (List Key×V)} {m:List (List Key×Addr×Value)},KT H l m->∀y∈m,∃k:List Key,H y.2.1=ak (.tup (k.map kV)):=fun {l m} rr=>by
   induction rr with
   |nil=>exact fun _ z=>nomatch z
   |cons hp _ ih =>intro y hy;rcases Aj.mp hy with rfl|hy;exact⟨_,hp.2.1⟩;exact ih y hy
  obtain⟨k,hk⟩:=key rel y hy;obtain⟨_,its,_,ob,b1,b2,_⟩:=I.hok _ _ hk;exact⟨ob,b1,b2⟩
 refine Xds hd ho h1 h2 (by omega) (by rw[hl];exact fun y=>hne (EZ.mp y)) (fun e he=>?_) (fun e he=>?_) fun h' o' ep' g1 g2 g3 g4=>?_;rw[h3]at he;obtain⟨y,hy,rfl⟩:=Az.mp he;exact⟨y.2.1,rfl,hty y hy⟩;rw[<- BM,Array.toList_filter];rw[<- hhs]at hnd;exact Xmy hnd he;have hn:=I.hok.fresh (As s.heap.objs.size);refine⟨.ref s.heap.objs.size,_,I.laid (a:=s.heap.objs.size) (o:=.dT kvs) (t':=s.toks) (fun b ob hb=>?_) (As _) ⟨z,beq_eq_false_iff_ne.mpr (Ne.symm (AY I.big)),ys,KT.keeps rel fun b l hb=>?_,o',es,ep',g1,g2,g3,h3,h5⟩,rfl,q _ hn⟩;exact(g4.2 b (AY (AI hb))).trans (Ae _ hb);rw[Zy fun y=>by subst y;rw[hn]at hb;cases hb];exact hb
theorem Xah:GAk K C Xbk Dl.Zzo:=by
 intro H xs d vs Bx Q r e q
 match xs,e with
 |[x],e =>
  obtain⟨v,l,B1,B2,rfl,r1,r2,_⟩:=r;obtain⟨rfl,_⟩:=r2;cases x with
  |fdt ks ds =>
   have e:(if ks≠[]/\(ks.all fun k=>k.all Dl.smK)=aq/\(ks.map Dl.thK).Nodup/\Dl.Zr ds=aq then ak (D.dtt ks ds) else ao)=ak d:=e;split at e;rename_i hh;cases e;obtain⟨h1,h2,h3,h4⟩:=hh;obtain⟨a,o,ys,rfl,e1,e2,e3,_⟩:=r1;have hl:ks.length=ys.length:=by rw[e2,e3.len]
   have hk:(ks.zip ys).map (·.1)=ks:=List.map_fst_zip (by omega);refine⟨a,o,_,rfl,e1,?_,?_,?_,fun p hp=>?_⟩;intro z;rw[z]at hk;exact h1 hk.symm;intro kv hkv;have:kv.1∈ks:=by rw[<- hk];exact Az.mpr ⟨kv,hkv,rfl⟩
   exact BG.mp h2 _ this;have:((ks.zip ys).map fun kv=>Dl.thK kv.1)=ks.map Dl.thK:=by
    conv=>rhs;rw[<- hk]
    rw[AV];rfl
   rw[this];exact h3;have g:=sameNew hp (.dT (ks.zip ys));refine q _ _ [p] g ⟨p,ys,[],rfl,Zw,e2,e3.same g,rfl⟩ (AB.mpr ⟨(fun z=>nomatch z),Bb⟩) fun b hb=>?_;rw[Ap.mp hb];exact hp;cases e
  |_=>cases e
variable{a:Expr}{fa fb:FE}{ta tb:TE}
theorem Ztd(ha:JE X C E Γ Δ m1 S1 a ta fa)(hb:JE X C E Γ Δ m2 S2 b tb fb)(hu:X.A.units+64<BE):JE X C E Γ Δ 2 [] (.Dict [ak a] [b] pos) (Zyb ta tb) (Dl.Zix fa fb):=⟨⟨Xfu (by omega) ha.q.out hb.q.out⟩,Zwx ha.o hb.o⟩
variable{a:Addr}
def Zut(K:AN):List V->Hp->VK->Prop:=fun vs H Q=>∃a xs,vs=[.ref a]/\SqL K H a xs/\∀p,H p=ao->Q (.ref p) (upd H p (.tup xs))
theorem Zer:Zae X (.type "tuple") (Zut X.K):=by intro pins s σ H xs us Q I r h;obtain⟨a,ys,rfl,hq,q⟩:=h;obtain⟨u,rfl,rx⟩:=vals1 r;cases rx;obtain⟨its,rv,p,hz⟩:=I.list hq;have hl:=rv.length;refine call_tuple_list (hsz:=by rw[Ay];omega) p.isList fun h' hk=>?_;have I2:Inv X pins σ H {s with heap:=h'}:=I.kept (t':=s.toks) hk;have hn:H h'.objs.size=none:=I2.hok.fresh (As _);exact⟨.ref h'.objs.size,_,I2.laid (a:=h'.objs.size) (o:=.tup ys) (t':=s.toks) (fun b ob hb=>Ae _ hb) (As _) ⟨hz,its,rv,_,Au _ rfl,rfl,0,rfl⟩,rfl,q _ hn⟩
theorem Zgm:GAk K C (Zut K) Dl.Zif:=by
 intro H xs d vs Bx Q r e q
 match xs,e with
 |[.lst ds],e =>obtain⟨v,l,B1,B2,rfl,r1,r2,_⟩:=r;obtain⟨rfl,_⟩:=r2;have e:(if Dl.Zr ds=aq then ak (D.tup ds) else ao)=ak d:=e;split at e;rename_i hf;cases e;obtain⟨a,ys,B,rfl,e1,e2,_⟩:=r1;have eB:=e2.flat hf;subst eB;refine⟨a,ys,rfl,SqL.of e1,fun p hp=>?_⟩;have g:=sameNew hp (.tup ys);exact q _ _ [] g ⟨p,ys,rfl,Zw,e2.same g⟩ Bb fun _ z=>nomatch z;cases e
def Xxm(K:AN):R2:=fun x y H Q=>∃a b xs ys,x=.ref a/\y=.ref b/\H a=ak (.tup xs)/\H b=ak (.tup ys)/\xs.length+ys.length<=Ar/\∀p H',Xf H H'->H' p=ak (.tup (xs++ys))->Q (.ref p) H'
variable{E:Value->Af->Prop}{ws:List Value}
theorem Xdq{t b:Addr}(ht:JR s.heap t #[])(hb:JR s.heap b ws.toArray)(h:Q (.ref b) s):Ak (Aw prog w) A (Co .Add (.ref t) (.ref b)) Q E s:=by obtain⟨⟨c1,d1,e1,l1⟩,o1,hc1,n1,hd1⟩:=id ht;obtain⟨⟨c2,d2,e2,l2⟩,o2,hc2,n2,hd2⟩:=id hb;simp only at hc1 hd1 hc2 hd2;subst hc1 hd1 hc2 hd2;exact Kg ⟨_,o1,rfl⟩ ⟨_,o2,rfl⟩ Hn II PySem.F.slot_tuple_add PySem.F.entry_tuple_add (PySem.F.args_tuple_add_2 _ _) (tuple_addW0 t b #[] ws.toArray n1 n2 d1 d2 l1 l2 rfl) ⟨o1,o2,h⟩
theorem Zxk:OpR X (Co .Add) (Xxm X.K):=by intro pins s σ H x y v u Q I rx ry h;obtain⟨a,b,xs,ys,rfl,rfl,ha,hb,hz,q⟩:=h;cases rx;cases ry;obtain⟨its,r1,p1,_⟩:=I.tuple (SqT.of ha);obtain⟨its2,r2,p2,_⟩:=I.tuple (SqT.of hb);by_cases hx:xs=[];subst hx;have e0:its=[]:=r1.nil_iff.mpr rfl;subst e0;exact Xdq p1 p2 ⟨.ref b,H,I,rfl,q b H (Xf.refl _) hb⟩;refine HT.cat_tup p1 p2 (fun z=>hx (r1.nil_iff.mp z)) (fun z=>⟨.ref a,H,I,rfl,?_⟩) (fun z=>?_) (by rw[<- r1.length,<- r2.length];exact hz);have ey:=r2.nil_iff.mp z;subst ey;exact q a H (Xf.refl _) (by rw[Dy];exact ha);have hn:=I.hok.fresh (As s.heap.objs.size);refine⟨.ref s.heap.objs.size,_,I.laid (t':=s.toks) (o:=.tup (xs++ys)) (fun b ob q=>Ae _ q) (As _) ?_,rfl,q _ _ (sameNew hn _) Zw⟩;exact⟨by rw[Av];exact hz,_,r1.append r2,L4 _ _⟩
theorem Zqi:GOk K C (Xxm K) Dl.Zqa:=by
 intro H x y d vx vy Bx By Q rx ry e q;cases x with
 |tup ds =>
  cases y with
  |tup es =>have e:(if ds.length+es.length<=Dl.lim/\Dl.Zr ds=aq/\Dl.Zr es=aq then ak (D.tup (ds++es)) else ao)=ak d:=e;split at e;rename_i hh;cases e;obtain⟨a,xs,rfl,a1,a2⟩:=rx;obtain⟨b,ys,rfl,b1,b2⟩:=ry;have ea:=a2.flat hh.2.1;have eb:=b2.flat hh.2.2;subst ea eb;refine⟨a,b,xs,ys,rfl,rfl,a1,b1,by rw[a2.len,b2.len];exact Zbe hh.1,fun p H' g hp=>?_⟩;exact q _ H' [] g ⟨p,_,rfl,hp,(a2.same g).app (b2.same g)⟩ Bb fun _ z=>nomatch z;cases e
  |_=>cases e
 |_=>cases e
def Xvq:R2:=fun x y H Q=>∃l b xs zs,x=.ref l/\y=.ref b/\Rd H l (.lst xs)/\Rd H b (.lst zs)/\xs.length+zs.length<=Ar/\∀p,H p=ao->Q (.ref p) (upd H p (.lst (xs++zs)))
theorem Zwq:OpR X (Co .Add) Xvq:=by
 intro pins s σ H x y v u Q I rx ry h;obtain⟨l,b,xs,zs,rfl,rfl,hH,hB,hz,q⟩:=h;cases rx;cases ry;obtain⟨z,its,n,r,e⟩:=Xfs I.hok hH;obtain⟨z2,its2,n2,r2,e2⟩:=Xfs I.hok hB;have hl:=r.length;have hl2:=r2.length;refine PySem.P.add_list e e2 ?_ (by rw[Ay,Ay];omega);have ea:its.toArray++its2.toArray=(its++its2).toArray:=by simp
 rw[ea];exact⟨.ref _,_,I.lnew (t':=s.toks) (r.append r2) (by rw[Av];omega),rfl,q _ I.fresh⟩
theorem Zrj:GOk K C Xvq Dl.Zuw:=by
 intro H x y d vx vy Bx By Q rx ry e q;cases x with
 |flst ds =>
  cases y with
  |lst es =>have e:(if ds.length+es.length<=Dl.lim/\Dl.Zr es=aq then ak (D.lst (ds++es)) else ao)=ak d:=e;split at e;rename_i hh;cases e;obtain⟨a,o,xs,rfl,a1,a2,_⟩:=rx;obtain⟨b,ys,B,rfl,b1,b2,_⟩:=ry;have eb:=b2.flat hh.2;subst eb;refine⟨a,b,xs,ys,rfl,rfl,.inr ⟨o,a1⟩,.inl b1,by rw[a2.len,b2.len];exact Zbe hh.1,fun p hp=>?_⟩;have g:=sameNew hp (.lst (xs++ys));refine q _ _ [p] g ⟨p,_,[],rfl,Zw,(a2.same g).app (b2.same g),rfl⟩ (AB.mpr ⟨(fun z=>nomatch z),Bb⟩) fun c hc=>?_;rw[Ap.mp hc];exact hp;cases e
  |_=>cases e
 |_=>cases e
def Xvw(K:AN)(ta:TE):TT:=fun σ H Q=>ta σ H fun x H'=>∃k,TruV K x H' k/\Q k H'
variable{E:XK}
theorem Xhc{t:TE}(h:EOk K C E Γ Δ m S t f):TOk K C E Γ Δ (Xvw K t) (Dl.Zvi f):=fun H0 Hb H σ ρ A Q I p=>h H0 Hb H σ ρ A _ I (p.bind.imp (fun d q v H' g r=>by
  obtain⟨B,r,_⟩:=r;cases d with
  |flst ds =>
    obtain⟨a,o,xs,rfl,e1,e2,_⟩:=r;have hl:=e2.len;have hq:(!xs.isEmpty)=!ds.isEmpty:=by cases xs<;>cases ds<;>first|rfl|simp at hl
    refine⟨!xs.isEmpty,?_,by rw[hq];exact q H' g⟩
    first
      |exact .inl ⟨xs,.inl (.inr ⟨o,e1⟩),rfl⟩
      |exact⟨xs,.inl (.inr ⟨o,e1⟩),rfl⟩
      |exact .inl ⟨xs,.inl (.inr ⟨o,e1⟩),by cases xs<;>rfl⟩
  | _=>exact q.elim) fun c x q H' g'=>q H' g')
theorem Xnx(h:JE X C E Γ Δ m S e te fe)(he:∀whole,isTrue e X.env whole=(do let v <- whole;E4 e.pos;B6 [v] (HS v)):=by intro _;rfl):JT X C E Γ Δ e (Xvw X.K te) (Dl.Zvi fe):=⟨⟨Xfc h.q.out he⟩,Xhc h.o⟩
def Xsr(K:AN)(C:String->Addr)(Γ Δ:List Nat)(g:TG)(b:FB):Prop:=∀(H0 Hb H:Hp) (σ:St) (ρ:Xr) (A:Nat->List Addr) (d:D) (v:V) (B:List Addr) (Rr:St->Hp->Prop),Zo K C H0 Hb H Γ Δ σ ρ A->Rp K C H d v B->(∀a∈B,Hb a≠ao)->
 Xd (b d ρ) (fun ρ'=>∀σ' A',σ'[0]?=σ[0]?->Zo K C H0 Hb H Γ Δ σ' ρ' A'->Rr σ' H) (fun _ _=>False)->g v σ H Rr
def Zzr(K:AN)(C:String->Addr)(Γ Δ:List Nat)(g:TGs)(b:List D->Xr->R Xr):Prop:=∀(H0 Hb H:Hp) (σ:St) (ρ:Xr) (A:Nat->List Addr) (d:List D) (v:List V) (B:List Addr) (Rr:St->Hp->Prop),Zo K C H0 Hb H Γ Δ σ ρ A->RpA K C H d v B->(∀a∈B,Hb a≠ao)->
 Xd (b d ρ) (fun ρ'=>∀σ' A',σ'[0]?=σ[0]?->Zo K C H0 Hb H Γ Δ σ' ρ' A'->Rr σ' H) (fun _ _=>False)->g v σ H Rr
theorem Zwz(h0:i≠0:=by decide)(h1:i∉Γ:=by decide)(h2:i∉Δ:=by decide):Xsr K C Γ Δ (Zam i) (Dl.Zv i):=fun H0 Hb H σ ρ A d v B Rr I r hB p=>by obtain⟨A',I',_⟩:=I.put (Γ':=Γ) (Δ':=Δ) (i:=i) r (fun j hj e=>⟨hj,fun a l e' ha=>hB a ha (I.top j hj a l e').1⟩) (fun hj=>af hj h1) (fun j hj e=>⟨hj,fun a ha hb=>hB a hb ((I.deep j hj).2.2 a ha)⟩) (fun hj=>af hj h2);exact p _ A' (BV h0) I'
theorem Xey:Zzr K C Γ Δ Xcq Dl.Zef:=fun H0 Hb H σ ρ A d v B Rr I r hB p=>by
 cases d with
 |nil=>exact⟨r.1,p _ A rfl I⟩
 |cons _ _=>exact p.elim
variable{g:TG}{gs:TGs}
theorem Zwn{b:FB}{bs:List D->Xr->R Xr}(h1:Xsr K C Γ Δ g b)(h2:Zzr K C Γ Δ gs bs):Zzr K C Γ Δ (Zio g gs) (Dl.Xx b bs):=fun H0 Hb H σ ρ A d v B Rr I r hB p=>by
 cases d with
 |nil=>exact p.elim
 |cons d ds =>obtain⟨x,l,B1,B2,e1,e2,e3,e4⟩:=r;subst e1 e4;refine⟨x,l,rfl,h1 H0 Hb H σ ρ A d x B1 _ I e2 (fun a ha=>hB a (Aq _ ha)) (Xd.imp (Xd.bind p) (fun ρ1 q σ1 A1 hσ I1=>?_) fun _ _ z=>z)⟩;exact h2 H0 Hb H σ1 ρ1 A1 ds l B2 Rr I1 e3 (fun a ha=>hB a (Ah _ ha)) (Xd.imp q (fun ρ2 q σ2 A2 h=>q σ2 A2 (h.trans hσ)) fun _ _ z=>z)
variable{n:Nat}
theorem Xhq{bs:List D->Xr->R Xr}(hn:∀ds ρ ρ',bs ds ρ=.ok ρ'->ds.length=n)(h:Zzr K C Γ Δ gs bs):Xsr K C Γ Δ (Zfg K n gs) (Dl.Zfc bs):=fun H0 Hb H σ ρ A d v B Rr I r hB p=>by
 cases d with
 |tup ds =>
  obtain⟨a,xs,rfl,e2,e3⟩:=r;have hl:xs.length=n:=by
   rw[e3.len];have p':Xd (bs ds ρ) (fun ρ'=>∀σ' A',σ'[0]?=σ[0]?->Zo K C H0 Hb H Γ Δ σ' ρ' A'->Rr σ' H) (fun _ _=>False):=p;cases e:bs ds ρ with
   |ok ρ'=>exact hn ds ρ ρ' e
   |err _ _=>rw[e]at p';exact p'.elim
   |bad=>rw[e]at p';exact p'.elim
  exact⟨a,xs,rfl,SqT.of e2,hl,h H0 Hb H σ ρ A ds xs B Rr I e3 hB p⟩
 |_=>exact p.elim
theorem Xpd:Znz K C E Γ Δ Γ Δ Ztp Dl.sNx:=fun H0 Hb H σ ρ A D I p=>p σ H A rfl I
variable{u:TS}{Γ1 Δ1:List Nat}
theorem Xij{t:TS}{f g:FS}(h1:Znz K C E Γ Δ Γ1 Δ1 t f)(h2:Znz K C E Γ1 Δ1 Γ' Δ' u g):Znz K C E Γ Δ Γ' Δ' (Xrj t u) (Dl.Xu f g):=fun H0 Hb H σ ρ A D I p =>
  h1 H0 Hb H σ ρ A _ I (Xd.imp (Xd.bind p) (fun fl q=>by
    cases fl with
    | nx ρ1=>exact fun σ1 H1 A1 e1 I1=>h2 H0 Hb H1 σ1 ρ1 A1 D I1 (Xd.imp q (fun fl q=>by
        cases fl with
        |nx ρ2=>exact fun σ2 H2 A2 e2 I2=>q σ2 H2 A2 (e2.trans e1) I2
        | _=>exact q) fun _ _ z=>z)
    | _=>exact q) fun _ _ z=>z)
theorem Zxz{t:TS}{f:FS}(h:Znz K C E Γ Δ Γ1 Δ1 t f)(h1:∀i∈Γ',i∈Γ1)(h2:∀i∈Δ',i∈Δ1):Znz K C E Γ Δ Γ' Δ' t f:=fun H0 Hb H σ ρ A D I p =>
  h H0 Hb H σ ρ A D I (Xd.imp p (fun fl q=>by
    cases fl with
    |nx ρ1=>exact fun σ1 H1 A1 e1 I1=>q σ1 H1 A1 e1 (I1.weak h1 h2)
    | _=>exact q) fun _ _ z=>z)
variable{fb:FB}{fi:FI}{wi:TI}
theorem Xii{tb:TS}{fs:FS}(hi:IOk K C E Γ Δ S wi fi)(hb:Xsr K C Γl Δl g fb)(hs:Znz K C E Γl Δl Γl Δl tb fs)
    (h1:∀i∈Γl,i∈Γ:=by decide) (h2:∀i∈Δl,i∈Δ:=by decide) (h3:∀p∈S,p.1∉Γl/\p.1∉Δl:=by decide):Znz K C E Γ Δ Γl Δl (Xrv wi g tb) (Dl.Zkz fi fb (Dl.Zpe fs)):=fun H0 Hb H σ ρ A D I p=>by
  refine hi H0 Hb H σ ρ A _ I (Xd.imp (Xd.bind p) (fun ds q J H1 W g1 hW hlen hJ=>?_) fun c x q H' g'=>q H' (Xf.from0 I g'));have I1:=(I.mono g1).weak h1 h2;have hlst:∀a∈ownAt A Γl Δl,∃o,H1 a=ak o/\IsM o:=fun a ha=>by rcases Zce ha with⟨i,_,l,e⟩|⟨i,_,e⟩;exact I1.is (j:=i) (by rw[e];exact .head _);exact I1.is e
  have hbn:∀a∈ownAt A Γl Δl,Hb a=none:=fun a ha=>by rcases Zce ha with⟨i,hi,l,e⟩|⟨i,hi,e⟩;exact(I1.top i hi a l e).1;exact(I1.deep i hi).2.2 a e
  have hout:∀a∈W,a∉ownAt A Γl Δl:=fun a ha ho=>by rcases(hW a ha).2 with z|z;rcases Zce ho with⟨i,hi,l,e⟩|⟨i,hi,e⟩;exact I.ne (j:=i) (by rw[e];exact .head _) z;exact I.ne e z;rcases Zce ho with⟨i,hi,l,e⟩|⟨i,hi,e⟩;exact I1.top_out hi (fun h=>(h3 _ h).1 hi) e z;exact I1.deep_out hi (fun p hp e'=>(h3 p hp).2 (by rw[e'];exact hi)) e z
  let Hc:Hp:=fun b=>if b∈ownAt A Γl Δl then ao else H1 b
  have c1:Xf Hc H1:=fun b o h=>by show H1 b=ak o;have h:(if b∈ownAt A Γl Δl then ao else H1 b)=ak o:=h;split at h;cases h;exact h
  have c2:Xf Hb Hc:=fun b o h=>by show(if b∈ownAt A Γl Δl then ao else H1 b)=ak o;rw[ae fun ho=>by rw[hbn b ho]at h;cases h];exact I1.same b o h
  have c3:∀a,a∉ownAt A Γl Δl->Hc a=H1 a:=fun a ha=>ae ha;have c4:∀a∈ownAt A Γl Δl,Hc a=none:=fun a ha=>aa ha;have I2:Zo K C H0 Hc H1 Γl Δl σ ρ A:=⟨I1.s0.trans c2,c1,I1.len,I1.rep,I1.nil,I1.loc,fun i hi a l e=>⟨c4 a (Zyl hi e),(I1.top i hi a l e).2⟩,fun i hi=>⟨(I1.deep i hi).1,(I1.deep i hi).2.1,fun a ha=>c4 a (Zrs hi ha)⟩⟩;have back:∀{σ':St} {ρ':Xr} {H':Hp} {A':Nat->List Addr},Zo K C H0 Hc H' Γl Δl σ' ρ' A'->Zo K C H0 Hb H' Γl Δl σ' ρ' A':=fun I' =>
    ⟨I1.s0,c2.trans I'.same,I'.len,I'.rep,I'.nil,I'.loc,fun i hi a l e=>⟨c2.free (I'.top i hi a l e).1,(I'.top i hi a l e).2⟩,fun i hi=>⟨(I'.deep i hi).1,(I'.deep i hi).2.1,fun a ha=>c2.free ((I'.deep i hi).2.2 a ha)⟩⟩
  have go:Goes K C J ds Hc:=hJ Hc ⟨fun a ha=>c3 a (hout a ha),fun b o h hn=>(c3 b fun ho=>by
    obtain ⟨xs,e,hm⟩:=hlst b ho;rw [e] at h;cases h;exact hn hm).trans h⟩
  refine Zys go (fun k σ' H'=>σ'[0]?=σ[0]?/\∃ρ' A',Zo K C H0 Hc H' Γl Δl σ' ρ' A'/\Xd (Dl.Zkb fb (Dl.Zpe fs) (ds.drop k) ρ') (fun fl=>match fl with
    | .nx ρ'=>∀σ' H' A',σ'[0]?=σ[0]?->Zo K C H0 Hb H' Γl Δl σ' ρ' A'->D.nx σ' H'
    | _=>False) (fun c x=>∀H',Xf H0 H'->EC C E c x H')) ⟨rfl,ρ,A,I2,q⟩ (fun _ _ _ ⟨_,_,_,I',_⟩=>I'.same) ?_ ?_
  rintro k d x Bx σ' Ha H' hd ⟨e0,ρ',A',Ia,pq⟩ ga rx hBx;have I':=Ia.mono ga;rw[Ziw _ _ _ hd]at pq;have pq':=Zbi (Xd.bind pq);refine hb H0 Hc H' σ' ρ' A' d x Bx _ I' rx hBx (Xd.imp pq' (fun ρ1 pq σ1 A1 e1 I1'=>?_) fun _ _ z=>z);refine hs H0 Hc H' σ1 ρ1 A1 _ I1' (Xd.imp (Xd.bind (Xd.bind pq)) (fun fl pq=>?_) fun _ _ z=>z);cases fl with
  |nx ρ2=>exact fun σ2 H2 A2 e2 I2'=>⟨e2.trans (e1.trans e0),ρ2,A2,I2',pq⟩
  |_=>exact pq
  rintro σ' H' ⟨e0,ρ',A',I',pq⟩;rw[GL]at pq;exact pq σ' H' A' e0 (back I')
theorem Zxm(hi:i∈Γ:=by decide)(he:EOk K C E Γ Δ m1 S1 te fe)(hk:EOk K C E Γ Δ m2 S2 tk fk):Znz K C E Γ Δ Γ Δ (Zin te (Zia (Zil i) tk Xbt)) (Dl.Zme i fk fe):=fun H0 Hb H σ ρ A D I p=>by
 refine he H0 Hb H σ ρ A _ I (Xd.imp (Xd.bind p) (fun d q v H1 g1 r=>?_) fun c x q H' g'=>q H' (Xf.from0 I g'));have I1:=I.mono g1;split at q;rename_i ks ds e;obtain⟨a,xs,l,s1,h1,h2,r1,hA,hl⟩:=Zgr I1 e;refine⟨.ref a,s1,hk H0 Hb H1 σ ρ A _ I1 (Xd.imp (Xd.bind q) (fun z q w H2 g2 rz=>?_) fun c x q H' g'=>q H' (Xf.from0 I1 g'))⟩;obtain⟨Bz,rz,_⟩:=rz;obtain⟨B,rd,_⟩:=r;split at q;rename_i k hk;split at q;rename_i hf;obtain⟨b,rfl,hb⟩:=Zdr hk rz;have zB:=rd.flat hf.1;subst zB;have hx:ks.length=xs.length:=by rw[h2,r1.len]
 have r2:=(r1.same g2).flat' hf.2.1;have rd2:=rd.same g2;have I2:=I1.mono g2;refine⟨a,_,rfl,Xre.t (g2 _ _ h1) hb (Ew (by rw[Fz];exact Fi _ _) (Zes hf.2.2)),?_⟩;unfold Dl.Xrp at q;unfold putK;rw[Zey hx];split at q;rename_i hh;rw[aa hh,Zkl hx];obtain⟨A',I'⟩:=I2.writeO (Γ':=Γ) (Δ':=Δ) (o':=.dT (ks.zip (A8 (fun j x=>if j=k then v else x) ks xs))) (d':=.dtt ks (A8 (fun j x=>if j=k then d else x) ks ds)) hi hA hl s1 (fun H' q1 q2=>⟨a,_,_,rfl,q1,by rw[Cy,h2,HW],q2,rfl⟩) (RpA.replT rd2 r2 hf.2.1) (fun _ z=>nomatch z) (fun z=>nomatch z) (fun j hj _=>⟨hj,fun _ _ _ z=>nomatch z⟩) (fun j hj _=>⟨hj,fun _ _ z=>nomatch z⟩) (fun _=>⟨Bb,(fun _ _ _ z=>nomatch z),(fun _ z=>nomatch z)⟩);exact q _ _ A' rfl I';rename_i hh;rw[ae hh,show ks.zip xs++[(k,v)]=(ks++[k]).zip (xs++[v]) by rw[GR hx];rfl];obtain⟨A',I'⟩:=I2.writeO (Γ':=Γ) (Δ':=Δ) (o':=.dT ((ks++[k]).zip (xs++[v]))) (d':=.dtt (ks++[k]) (ds++[d])) hi hA hl s1 (fun H' q1 q2=>⟨a,_,_,rfl,q1,by simp[h2],q2,rfl⟩) (RpA.snoc0 rd2 r2) (fun _ z=>nomatch z) (fun z=>nomatch z) (fun j hj _=>⟨hj,fun _ _ _ z=>nomatch z⟩) (fun j hj _=>⟨hj,fun _ _ z=>nomatch z⟩) (fun _=>⟨Bb,(fun _ _ _ z=>nomatch z),(fun _ z=>nomatch z)⟩);exact q _ _ A' rfl I';exact q.elim;exact q.elim;exact q.elim
variable{G:List D->R (D×D)}{fa:FA}
theorem Zza{t:TA}(hi:i∈Δ)(ha:AOk K C E Γ Δ m S t fa)(hn:∀ρ ds,fa ρ=.ok ds->ds.length=n)(hS:∀p∈S,p.1≠i):MOk K C E Γ Δ (Zkj (spM K C n G) [] E (Zbk (Zil i) t)) (Dl.Ziv i G fa):=fun H0 Hb H σ ρ A Q I p=>by
 unfold Dl.Ziv at p;split at p;rename_i d0 e0;obtain⟨v0,hs,r0⟩:=I.rep i _ e0;refine Zxe ⟨_,hs,?_⟩;refine ha H0 Hb H σ ρ A _ I ?_;cases e:fa ρ with
 |bad=>rw[e]at p;exact p
 |err c x=>rw[e]at p;exact fun H' g'=>p H' (Xf.from0 I g')
 |ok ys =>rw[e]at p;intro vs H1 g1 r2;obtain⟨B2,r2,rB,_⟩:=r2;obtain⟨d1,d2,d3⟩:=I.deep i hi;have I1:=I.mono g1;refine⟨d0,ys,_,vs,A i,B2,rfl,hn ρ ys e,r0.same g1,d1,r2,fun b hb hz=>(rB b hb).elim (fun z=>I.ne hz z) (I.deep_out hi hS hz),Xd.imp (Xd.bind (r:=G (d0::ys)) p) (fun q pq v H' A1 Br hk r1 nd1 hA1 rr ndr hBr=>?_) fun c x q H' hk=>?_⟩;refine pq v H' _ Br (I1.deepTo hi (Am.mp e0).1 hs hk r1 nd1 fun b hb=>(hA1 b hb).imp id fun z=>⟨I1.same.free z,fun j hj=>I1.ne hj z⟩) rr ndr fun b hb=>⟨(hBr b hb).1.elim (fun z=>d3 b z) fun z=>I1.same.free z,fun j=>?_⟩;by_cases e1:j=i;rw[aa e1];exact(hBr b hb).2;rw[ae e1];exact fun hj=>(hBr b hb).1.elim (fun z=>d2 j e1 b z hj) fun z=>I1.ne hj z;refine q H' fun b o h=>hk b o (fun z=>?_) (I1.same b o (I.s0 b o h));rw[I.s0.free (d3 b z)]at h;cases h
 exact p.elim
structure JPs(X:Cx)(C:String->Addr)(E:XK)(Γ Δ Γ' Δ':List Nat)(s:List Stmt)(t:TS)(f:FS):Prop where
 q:QSs X s t
 o:Znz X.K C E Γ Δ Γ' Δ' t f
structure JG0(X:Cx)(C:String->Addr)(Γ Δ:List Nat)(e:Expr)(t:TG)(b:FB):Prop where
 q:QG X e t
 o:Xsr X.K C Γ Δ t b
structure JGs0(X:Cx)(C:String->Addr)(Γ Δ:List Nat)(es:List Expr)(n:Nat)(t:TGs)(f:List D->Xr->R Xr):Prop where
 q:QGs X es t
 o:Zzr X.K C Γ Δ t f
 n:∀ds ρ ρ',f ds ρ=.ok ρ'->ds.length=n
theorem Zvq:JPs X C E Γ Δ Γ Δ [] Ztp Dl.sNx:=⟨Zxo,Xpd⟩
variable{g:FS}{s1:Stmt}
theorem Zpc(h1:JP X C E Γ Δ Γ' Δ' s1 u g):JPs X C E Γ Δ Γ' Δ' [s1] u g:=⟨Zpu h1.q,h1.o⟩
variable{h:FS}{ss:List Stmt}{v:TS}
theorem Xho(Γ1 Δ1:List Nat)(h1:JP X C E Γ Δ Γ1 Δ1 s1 u g)(h2:JPs X C E Γ1 Δ1 Γ' Δ' ss v h):JPs X C E Γ Δ Γ' Δ' (s1::ss) (Xrj u v) (Dl.Xu g h):=⟨Zqh h1.q h2.q,Xij h1.o h2.o⟩
theorem Xdx(Γ1 Δ1:List Nat)(h:JPs X C E Γ Δ Γ1 Δ1 ss u g)(h1:∀i∈Γ',i∈Γ1:=by decide)(h2:∀i∈Δ',i∈Δ1:=by decide):JPs X C E Γ Δ Γ' Δ' ss u g:=⟨h.q,Zxz h.o h1 h2⟩
theorem Zqx(h0:i≠0:=by decide)(h1:i∉Γ:=by decide)(h2:i∉Δ:=by decide)(hN:X.N.Nodup)(hi:X.N[i]?=ak x)(hx:Loc X.env.scope x)(hf:autoParam (X.fn x=aq\/X.env.scope.names.lookup x=ak .local) aT0._auto_1):JG0 X C Γ Δ (.Name x pos) (Zam i) (Dl.Zv i):=⟨Zlk hN hi hx hf,Zwz h0 h1 h2⟩
theorem Xef:JGs0 X C Γ Δ [] 0 Xcq Dl.Zef:=⟨Zjq,Xey,Zsm⟩
variable{es:List Expr}{fu:List D->Xr->R Xr}{tt:TG}
theorem Znj{u:TGs}(h1:JG0 X C Γ Δ e tt fb)(h2:JGs0 X C Γ Δ es n u fu)(hs:(AW (e::es) X.env).map (·.2)=CL e X.env::(AW es X.env).map (·.2):=by rfl):JGs0 X C Γ Δ (e::es) (n+1) (Zio tt u) (Dl.Xx fb fu):=⟨Zgk h1.q h2.q hs,Zwn h1.o h2.o,Zka h2.n⟩
theorem Xps{k:Nat}{u:TGs}(hc:X.calm=aq)(h:JGs0 X C Γ Δ es n u fu)(hn:(AW es X.env).length=n:=by rfl)(hst:(AW es X.env).findIdx? (·.1)=none:=by rfl):JG0 X C Γ Δ (.Tuple es k pos) (Zfg X.K n u) (Dl.Zfc fu):=⟨Zrm hc h.q hn hst,Xhq h.n h.o⟩
variable{body other:List Stmt}{c:Expr}
theorem Xvl{tA:TT}{fA:FT}(hc:JT X C E Γ Δ c tA fA)(ha:JPs X C E Γ Δ Γ' Δ' body u g)(hb:JPs X C E Γ Δ Γ' Δ' other v h):JP X C E Γ Δ Γ' Δ' (.If c body other pos) (Xrg tA u v) (Dl.sIf fA g h):=⟨Xst hc.q ha.q hb.q,Xqs hc.o ha.o hb.o⟩
variable{iter:Expr}
theorem Xsp(Γl Δl:List Nat)(hp:JD (Aw X.prog X.w) X.A X.env X.xe)(hc:X.calm=aq)(hi:JI X C E Γ Δ S tg iter wi fi)(hg:JG0 X C Γl Δl tg tt fb)(hb:JPs X C E Γl Δl Γl Δl body u g)(hs:∀x,BA iter X.env x=pure x:=by intro _;rfl)
  (h1:∀i∈Γl,i∈Γ:=by decide) (h2:∀i∈Δl,i∈Δ:=by decide) (h3:∀p∈S,p.1∉Γl/\p.1∉Δl:=by decide):JP X C E Γ Δ Γl Δl (.For tg iter body [] pos) (Xrv wi tt u) (Dl.Zkz fi fb (Dl.Zpe g)):=⟨Xji hp hc hi.q hg.q hb.q hs,Xii hi.o hg.o hb.o h1 h2 h3⟩
variable{kx:Expr}
theorem Xkn(hi:i∈Γ:=by decide)(hN:X.N[i]?=ak x:=by rfl)(hv:autoParam (Vis X.env.scope x) aT3._auto_1)(hd:(x==("__debug__":Str))=false:=by decide)(hcd:(x==("__classdict__":Str))=false:=by decide)
    (he:JE X C E Γ Δ m1 S1 e te fe) (hk:JE X C E Γ Δ m2 S2 kx tk fk) (hs:Ef [.Subscript (.Name x p) kx p2] e pos.line X.env=pure false:=by rfl) (hw:Eg [.Subscript (.Name x p) kx p2] e X.env=pure none:=by rfl) (h1:(AW [.Subscript (.Name x p) kx p2] X.env).map (·.2)=[CL (.Subscript (.Name x p) kx p2) X.env]:=by rfl)
    (hq:∀v,CL (.Subscript (.Name x p) kx p2) X.env v=(do
      let ov <- B6 [v] (A6 (.Name x p) X.env)
      let iv <- B6 [v,ov] (A6 kx X.env)
      E4 p2
      B6 [v,ov,iv] (G1 ov iv v)
      J9 [v,ov,iv] []):=by intro _;rfl) (hu:X.A.units+64<BE) :
    JP X C E Γ Δ Γ Δ (.Assign [.Subscript (.Name x p) kx p2] e pos) (Zin te (Zia (Zil i) tk Xbt)) (Dl.Zme i fk fe):=⟨Zri he.q (Xby (qv i hN hv hd hcd) hk.q (set_dict hu) hq) hs hw h1,Zxm hi he.o hk.o⟩
variable{CX:CXT}{k:Nat}{ps:List Str}{t:TA}
theorem Xfh(i:Nat)(Df:Def X.prog X.w X.K X.mg X.base CX k x ps (spM K C n G))(hr:Zcd k X.A)(hg:Gl X x)(hx:Zdk CX X E)(ha:JA X C E Γ Δ m2 S2 es n t fa)(hi:i∈Δ:=by decide)(hS:∀p∈S2,p.1≠i:=by decide)(hN:X.N[i]?=ak y:=by rfl)
  (hv:autoParam (Vis X.env.scope y) aT3._auto_1) (hd:(y==("__debug__":Str))=false:=by decide) (hcd:(y==("__classdict__":Str))=false:=by decide) (hdb:(x==("__debug__":Str))=false:=by decide)
  (he:Ad (.Name y p2::es) X.env=(ar,A6 (.Name y p2) X.env)::Ad es X.env:=by rfl) (hpl:(BL pos (Ad es X.env)).any (·.1)=false:=by rfl) (hK:X.K=K:=by rfl) :
  JM X C E Γ Δ (.Call (.Name x p) (.Name y p2::es) [] pos) (Zkj (spM K C n G) [] E (Zbk (Zil i) t)) (Dl.Ziv i G fa):=by
 subst hK;exact⟨Zsz Df hr hg hx (Zdv (qv i hN hv hd hcd) ha.q he) hdb he hpl,Zza hi ha.o ha.n hS⟩
theorem Xoj(h1:∀i∈Γl,i∈Γ:=by decide)(h2:∀i∈Δl,i∈Δ:=by decide):SOk K C E mr Γl Δl Γ Δ Γ' Δ' Xmx Dl.sCnt:=fun _ _ H σ _ A _ I p=>p σ H A (I.weak h1 h2)
theorem Xss(h1:∀i∈Γl,i∈Γ:=by decide)(h2:∀i∈Δl,i∈Δ:=by decide):JS X C E mr Γl Δl Γ Δ Γ' Δ' (.Continue pos) Xmx Dl.sCnt:=⟨⟨Zps⟩,Xoj h1 h2⟩
variable{env:Env}
theorem Xbn{ks:List (Option Expr)}:Ad (.Dict ks vs pos::es) env=(ar,A6 (.Dict ks vs pos) env)::Ad es env:=rfl
variable{E:Value->Af->Prop}{it:Addr}{items:Array Value}
theorem Zus{t:Addr}{x:Value}(hit:s.heap.IsTupleIter it t i)(ht:s.heap.IsTuple t items)(hx:items[i]?=ak x)(hQ:∀h',h'.IsTupleIter it t (i+1)->BZ it s.heap h'->Q x {s with heap:=h'}):Ak (Aw prog w) A (A3 (.ref it)) Q E s:=by obtain⟨o,ho,hc,hd⟩:=id hit;obtain⟨ol,hol,_,nl,hdl⟩:=ht;unfold A3;refine Aa (Bw (name:=BB "__next__") hit.typeIs Du (Bl Du hit.typeIs HB ?_ (Hw _)));show Ak _ _ (HZ (.ref it) 0 >>= _) _ _ s;refine Aa (Bq ho hd (x:=.ref t) rfl ?_);show Ak _ _ (if (AQ t==BI)=aq then _ else _) _ _ s;rw[ae (show ¬((AQ t==BI)=aq) from Ao)];show Ak _ _ (HZ (.ref it) 1 >>= _) _ _ s;refine Aa (Bq ho hd (x:=.int i 0) rfl ?_);show Ak _ _ (EJ (.ref t) >>= _) _ _ s;refine Aa (Bu hol hdl ?_);simp only[CJ,hx];refine Aa (Ge ho hd (by simp) (Ac ⟨x,rfl,Ac (hQ _ ⟨_,Cb _ ho (Iz (Eu hd _)),(Kt ..).trans hc,by rw[Eu hd];simp[Cu]⟩ (BU ..))⟩))
theorem Zwi{t:Addr}(hh:A.handled=ao)(hit:s.heap.IsTupleIter it t i)(ht:s.heap.IsTuple t items)(hx:items[i]?=ao)(hE:∀h' e,EG it s.heap h'->(∃o,h'.get? e=ak o/\o.cls=.type "StopIteration")->E (.ref e) {s with heap:=h'}):Ak (Aw prog w) A (A3 (.ref it)) Q E s:=by
 obtain⟨o,ho,hc,hd⟩:=id hit;obtain⟨ol,hol,_,nl,hdl⟩:=ht;unfold A3;refine Aa (Bw (name:=BB "__next__") hit.typeIs Du (Bl Du hit.typeIs HB ?_ (Hw _)));show Ak _ _ (HZ (.ref it) 0 >>= _) _ _ s;refine Aa (Bq ho hd (x:=.ref t) rfl ?_);show Ak _ _ (if (AQ t==BI)=aq then _ else _) _ _ s;rw[ae (show ¬((AQ t==BI)=aq) from Ao)];show Ak _ _ (HZ (.ref it) 1 >>= _) _ _ s;refine Aa (Bq ho hd (x:=.int i 0) rfl ?_);show Ak _ _ (EJ (.ref t) >>= _) _ _ s;refine Aa (Bu hol hdl ?_);simp only[CJ,hx];refine Aa (Fv (Aa (Ge ho hd (by simp) ?_)));show Ak _ _ (Kb (.type "StopIteration") [] >>= _) _ _ _;refine Aa ?_;simp only[Kb,Mj];refine Aa (A9 ?_ (by size_fits));refine Aa (m:=D3 _ _) (Gf (a:=BI) (by first|rfl|(simp only[D3];rfl)) ?_);refine A9 ?_ (by size_fits);simp only[Mi];refine Aa (IF ?_)
 first|rw[show A.in1.handled=ao from hh]|rw[hh]
 exact Aa (Ac (KD (hE _ _ (((BU ..).extBut.push _).push _) ⟨_,Au _ rfl,rfl⟩)))
variable{I:Addr}{c:Nat}{fp wr:List Addr}{v:Value}
section
variable{R:Kh->Af->Prop}{P:Nat->Value->Prop}{St:Nat->Bg->Prop}
theorem Xca(W:Walks prog w A.in1 I fp wr n P St)(bt:Nat->Nat->Bool)(hcmp:CmpOf prog w A.in1 .Lt P bt)(S:Addr)(hSf:S∉fp)(kw:List (Str×Value)):∀(k j:Nat) (s:Af) (vb:Value) (c:Nat),n-(j+1)=k->j+1<=n->St (j+1) s.heap->P (DD bt j) vb->s.heap.get? S=ak {cls:=.type "list",dict:=ao,data:=.seq #[vb,vb] c,slots:=#[]}->(∀v h' tk,P (DD bt (n-1)) v->(∀b o,b∉wr->b≠S->s.heap.get? b=ak o->h'.get? b=ak o)->R (.ok (.ret v)) {s with heap:=h',toks:=tk})->Dr (Aw prog w) A (.builtin "min.loop" ⟨[.ref I,.none,.ref S],kw⟩) R s:=by
 have hSw:S∉wr:=fun h=>hSf (W.sub _ h);have hname:(C8 "min"++C8 ".loop":String)="min.loop":=by decide
 intro k;induction k with
 |zero =>
  intro j s vb c hk hj hst hPb hS hR;have hin:j+1=n:=by omega
  refine CC PySem.F.entry_min_loop ?_;rw[BQ PySem.F.plain_min_loop _];show Ak _ A.in1 (EJ (.ref S) >>= _) _ _ s;refine Aa (Bu hS rfl ?_);show Ak _ A.in1 (Ek (C1 (.ref I)) _ >>= _) _ _ s;refine Aa (B4 (W.done s _ _ (hin▸hst) fun h' tk hk'=>?_));have hS':=hk' S _ hSw hS;show Ak _ A.in1 (Hl S (fun _=>#[]) >>= _) _ _ _;exact Aa (C7 hS' rfl (Aa (Cg (Ac (hR vb _ tk (by rw[<- hin];exact hPb) fun b o hbw hbS e=>(BP _ _ (Ne.symm hbS)).trans (hk' b o hbw e))))))
 |succ k ih =>
  intro j s vb c hk hj hst hPb hS hR;have hlt:j+1<n:=by omega
  refine CC PySem.F.entry_min_loop ?_;rw[BQ PySem.F.plain_min_loop _];show Ak _ A.in1 (EJ (.ref S) >>= _) _ _ s;refine Aa (Bu hS rfl ?_);show Ak _ A.in1 (Ek (C1 (.ref I)) _ >>= _) _ _ s;refine Aa (B4 (W.item (j+1) s _ _ hlt hst fun v h' tk hP hst' hk'=>?_));have hS':=hk' S _ hSw hS;show Ak _ A.in1 (Ek (B6 [v,v] (KI .Lt v vb >>= _)) _ >>= _) _ _ _;refine Aa (B4 (Bp (Aa (hcmp (j+1) (DD bt j) v vb _ _ _ hP hPb (Aa (Bp (CD (Aa (Cg (Ac ?_))))))))));cases hb:bt (j+1) (DD bt j) with
  |true =>simp only[if_true];refine Aa (C7 hS' rfl (Aa (Cg ?_)));rw[hname];refine Ac ⟨Ce PySem.F.plain_min_loop _,ih (j+1) _ v _ (by omega) hlt (W.frame _ _ _ hst' fun b hbf o e=>(BP _ _ (fun h:S=b=>hSf (by rw[h];exact hbf))).trans e) (by simp only[DD,hb,if_true];exact hP) (Cb _ hS' rfl) fun v' h'' tk'' hP' hk''=>hR v' h'' tk'' hP' fun b o hbw hbS e=>hk'' b o hbw hbS ((BP _ _ (Ne.symm hbS)).trans (hk' b o hbw e))⟩
  |false =>simp only[AT,if_false];refine Aa (Cg ?_);rw[hname];exact Ac ⟨Ce PySem.F.plain_min_loop _,ih (j+1) _ vb c (by omega) hlt hst' (by simp only[DD,hb,AT,if_false];exact hPb) hS' fun v' h'' tk'' hP' hk''=>hR v' h'' tk'' hP' fun b o hbw hbS e=>hk'' b o hbw hbS (hk' b o hbw e)⟩
theorem Ztt(W:Walks prog w A.in1 I fp wr n P St)(bt:Nat->Nat->Bool)(hcmp:CmpOf prog w A.in1 .Lt P bt)(S:Addr)(hSf:S∉fp)(d:Value)(hst:St 0 s.heap)(hS:s.heap.get? S=ak {cls:=.type "list",dict:=ao,data:=.seq #[] c,slots:=#[]})(hR:∀v h' tk,(0<n->P (DD bt (n-1)) v)->(n=0->v=d)->(∀b o,b∉wr->b≠S->s.heap.get? b=ak o->h'.get? b=ak o)->R (.ok (.ret v)) {s with heap:=h',toks:=tk}):Dr (Aw prog w) A (.builtin "min.loop" ⟨[.ref I,.none,.ref S],[(BB "default",d)]⟩) R s:=by
 have hSw:S∉wr:=fun h=>hSf (W.sub _ h);have hname:(C8 "min"++C8 ".loop":String)="min.loop":=by decide
 refine CC PySem.F.entry_min_loop ?_;rw[BQ PySem.F.plain_min_loop _];show Ak _ A.in1 (EJ (.ref S) >>= _) _ _ s;refine Aa (Bu hS rfl ?_);show Ak _ A.in1 (Ek (C1 (.ref I)) _ >>= _) _ _ s;by_cases hn:n=0;subst hn;refine Aa (B4 (W.done s _ _ hst fun h' tk hk'=>?_));exact Aa (Fv (Ac (hR d h' tk (fun z=>af z (Bm 0)) (fun _=>rfl) fun b o hb _ e=>hk' b o hb e)));have hn':0<n:=Nat.pos_of_ne_zero hn;refine Aa (B4 (W.item 0 s _ _ hn' hst fun v h' tk hP hst' hk'=>?_));have hS':=hk' S _ hSw hS;show Ak _ A.in1 (Hl S (fun _=>#[v,v]) >>= _) _ _ _;refine Aa (C7 hS' rfl ?_);rw[hname];exact Ac ⟨Ce PySem.F.plain_min_loop _,Xca W bt hcmp S hSf _ _ 0 _ v _ rfl hn' (W.frame _ _ _ hst' fun b hbf o e=>(BP _ _ (fun h:S=b=>hSf (by rw[h];exact hbf))).trans e) hP (Cb _ hS' rfl) fun v' h'' tk'' hP' hk''=>hR v' h'' tk'' (fun _=>hP') (fun z=>af z hn) fun b o hbw hbS e=>hk'' b o hbw hbS ((BP _ _ (Ne.symm hbS)).trans (hk' b o hbw e))⟩
end
theorem Xel(a v:Value):argsOk "min" ⟨[a],[(BB "default",v)]⟩:=by unfold argsOk;kernel_rfl
theorem Xgj{l:Addr}(hl:s.heap.IsTuple l items)(h:∀s₂:Af,s₂={s with heap:=s.heap.push {cls:=.type "tuple_iterator",data:=.fields #[.ref l,.int 0 0]}}->(s₂.heap.IsTupleIter s.heap.objs.size l 0/\s₂.heap.IsTuple l items)->(∀b∈[s.heap.objs.size,l],b<s₂.heap.objs.size)->l≠s.heap.objs.size->Q (.ref s.heap.objs.size) s₂):Ak (Aw prog w) A (HV (.ref l)) Q E s:=by
  have hlt:l<s.heap.objs.size:=by obtain⟨_,e,_⟩:=id hl;exact AI e
  refine K8 hl (h _ rfl ⟨⟨_,Au _ rfl,rfl,rfl⟩,hl.push _⟩ (fun b hb=>?_) (AY hlt));show b<(s.heap.push _).objs.size;rw[GP];rcases Aj.mp hb with rfl|hb;exact E1 _;rw[Ap.mp hb];exact De hlt
theorem Xgb{l:Addr}{d:Value}(hh:A.handled=ao)(hl:s.heap.IsTuple l (EU xs))(h:∀v h' tk,(0<xs.size->(EU xs)[DD (fun i j=>decide (GH xs i<GH xs j)) (xs.size-1)]?=ak v)->(xs.size=0->v=d)->(∀b o,s.heap.get? b=ak o->h'.get? b=ak o)->Q v {s with heap:=h',toks:=tk}):Ak (Aw prog w) A (call (.builtin "min") [.ref l] [(BB "default",d)]) Q E s:=by
 have hname:(C8 "min"++C8 ".loop":String)="min.loop":=by decide
 have hz:(EU xs).size=xs.size:=by simp[EU]
 refine kmk_tree PySem.F.kind_min PySem.F.plain_min PySem.F.entry_min (Xel _ _) ?_;show Ak _ A.in1 (CB "min" ["key","default"] 0 ⟨[],[(BB "default",d)]⟩ >>= _) _ _ s;refine Aa (Gf (show CB "min" ["key","default"] 0 ⟨[],[(BB "default",d)]⟩=pure [ao,ak d] from rfl) (Aa (Ac (Aa (Xgj hl fun s₂ e st hfp hlI=>?_)))));refine Aa (A9 ?_);rw[hname];have hSf:s₂.heap.objs.size∉[s.heap.objs.size,l]:=fun hm=>Bm _ (hfp _ hm);refine Ac ⟨Ce PySem.F.plain_min_loop _,Ztt (Lu (A:=A.in1) hh _ l hlI (EU xs)) _ (CmpOf.ints_lt (GH xs) (fun _ _=>intItems_at)) s₂.heap.objs.size hSf d ((Lu (prog:=prog) (w:=w) (A:=A.in1) hh _ l hlI (EU xs)).frame _ _ _ st fun b _ o e=>Ae _ e) (Au _ rfl) fun v h' tk hP h0 hk=>?_⟩;subst e;exact h v h' tk (fun z=>by have:=hP (by rw[hz];exact z);simpa[EU] using this) (fun z=>h0 (by rw[hz];exact z)) fun b o e=>by have hb:=AI e;exact hk b o (fun z=>af (Ap.mp z) (AY hb)) (AY (by show b<(s.heap.push _).objs.size;rw[GP];exact De hb)) (Ae _ (Ae _ e))
variable{ns:List Int}
theorem Xgx(hn:numsOf (EU xs).toList=ns)(h0:0<ns.length)(hv:(EU xs)[DD (fun i j=>decide (GH xs i<GH xs j)) (xs.size-1)]?=ak v):∃m tk,v=.int m tk/\m∈ns/\∀n∈ns,m<=n:=by
 rw[IJ]at hn;have hsz:xs.size=ns.length:=by rw[<- hn];simp
 have val:∀i (hi:i<ns.length),GH xs i=ns[i]:=fun i hi=>by
  have:i<xs.size:=by omega
  subst hn;simp[GH,this]
 obtain⟨tk',rfl⟩:=intItems_at hv;have hlt:DD (fun i j=>decide (GH xs i<GH xs j)) (xs.size-1)<ns.length:=by have:=Xbf (fun i j=>decide (GH xs i<GH xs j)) (xs.size-1);omega
 refine⟨_,tk',rfl,by rw[val _ hlt];exact Ca hlt,fun n hn'=>?_⟩;obtain⟨j,hj,e⟩:=D7.mp hn';have q1:=Znc (GH xs) (xs.size-1) j (by omega);rw[val j hj,e]at q1;exact q1
def Xmq(K:AN)(ta td:TE):TE:=fun σ H Q=>Zbk ta Zoq σ H fun vs H1=>∃p ns,vs=[.ref p]/\SqT K H1 p (ns.map V.int)/\td σ H1 fun w H2=>SqT K H2 p (ns.map V.int)/\∃i,w=.int i/\(ns=[]->Q (.int i) H2)/\∀m,m∈ns->(∀n∈ns,m<=n)->Q (.int m) H2
variable{a:Expr}{kp np:Pos}{td:TE}
theorem Xmt(hc:X.calm=aq)(hg:Gl X "min")(hm:X.mg "min"=ao)(he:PE X e te)(hd:PE X a td)(hs:Ad [e] X.env=(ar,A6 e X.env)::Ad [] X.env)(hs3:Ad ([]:List Expr) X.env=[]:=by rfl) :
  PE X (.Call (.Name "min" np) [e] [⟨ak "default",a,kp⟩] pos) (Xmq X.K te td):=by
 intro pins s σ H Q I h;refine Cs (Zdh I hg hm boot_min ?_ (by decide) (by decide));refine callWith_kw (thn (Zdt he Ziz hs pos pins s σ H _ I h) fun us s1 ⟨vs,H1,I1,r1,q1⟩=>?_) (by rw[hs,hs3];rfl) (by rw[hs,hs3];rfl) rfl rfl;obtain⟨p,ns,rfl,hq,q⟩:=q1;obtain⟨u,rfl,rx⟩:=vals1 r1;cases rx;refine kws_cons (thn (hd pins s1 σ H1 _ I1 q) fun w s2 ⟨wv,H2,I2,rw',q2⟩=>kws_nil ?_);obtain⟨hq2,i,rfl,qe,qm⟩:=q2;obtain⟨tk,rfl⟩:=rw';obtain⟨its,rv,pl,hz⟩:=I2.tuple hq2;have hi:Gs its ns:=intsAre_of rv;obtain⟨xs,hxs⟩:=hi.allInts.items;have hn:numsOf its.toArray.toList=ns:=by rw[show its.toArray.toList=its from rfl,hi.numsOf]
 rw[hxs]at pl hn;have hsz:xs.size=ns.length:=by have hn':=hn;rw[IJ]at hn';rw[<- hn'];simp
 refine Xgb (I2.ok.hd hc) pl fun v h' tk' hv h0 hk=>?_;cases ns with
 |nil =>obtain rfl:=h0 (by rw[hsz];rfl);exact⟨.int i,H2,I2.kept hk,⟨tk,rfl⟩,qe rfl⟩
 |cons n r =>obtain⟨m,tk2,rfl,m1,m2⟩:=Xgx hn (EO _) (hv (by rw[hsz];exact EO _));exact⟨.int m,H2,I2.kept hk,⟨tk2,rfl⟩,qm m m1 m2⟩
variable{E:XK}
theorem Xgk{t u:TE}{f':FE}(h:EOk K C E Γ Δ m1 S1 t f)(h':EOk K C E Γ Δ m2 S2 u f'):EOk K C E Γ Δ 2 [] (Xmq K t u) (Dl.Zqb f f'):=fun H0 Hb H σ ρ A Q I p=>h H0 Hb H σ ρ A _ I (p.bind.imp (fun d q v H1 g1 r=>by
  obtain⟨B,r,r',_⟩:=r;cases d with
  |tup xs =>
    simp only at q;split at q;rename_i l hl;obtain⟨a,ys,rfl,e2,e3⟩:=r;have z:=e3.ofInts hl;subst z;refine⟨a,l,rfl,SqT.of e2,h' H0 Hb H1 σ ρ A _ (I.mono g1) (q.bind.imp (fun d2 q w H2 g2 r2=>?_) fun c x q H' g'=>q H' (g1.trans g'))⟩;obtain⟨B2,r2,_⟩:=r2;cases d2 with
    |int i =>
      obtain⟨rfl,rfl⟩:=r2;refine⟨SqT.of (g2 _ _ e2),i,rfl,fun z=>?_,fun mm h1 h2=>?_⟩;have q:Q _ _:=q (.int _) H2 (g1.trans g2) ⟨[],rpI,(fun _ z=>nomatch z),(fun z=>af z (by decide)),fun _=>Bb⟩;rw[aa z]at q;exact q;have hne:l≠[]:=fun z=>by rw[z]at h1;cases h1
      obtain⟨s1,s2⟩:=Zzc hne;have q:Q _ _:=q (.int _) H2 (g1.trans g2) ⟨[],rpI,(fun _ z=>nomatch z),(fun z=>af z (by decide)),fun _=>Bb⟩;rw[ae hne]at q;rw[show mm=Dl.Xkd l from K3 (h2 _ s1) (s2 mm h1)];exact q
    |_=>exact q.elim
    exact q.elim
  | _=>exact q.elim) fun c x q H' g'=>q H' g')
variable{fa:FE}
theorem Xfv(K:AN)(hg:Gl X "min")(hm:X.mg "min"=ao)(he:JE X C E Γ Δ m1 S1 e te fe)(ha:JE X C E Γ Δ m2 S2 a ta fa)(hs:Ad [e] X.env=(ar,A6 e X.env)::Ad [] X.env)(hc:X.calm=true:=by rfl)(hK:X.K=K:=by rfl) :
  JE X C E Γ Δ 2 [] (.Call (.Name "min" np) [e] [⟨ak "default",a,kp⟩] pos) (Xmq K te ta) (Dl.Zqb fe fa):=by
 subst hK;exact⟨⟨Xmt hc hg hm he.q.out ha.q.out hs⟩,Xgk he.o ha.o⟩
end L2
namespace L2
open PySem PySem.SeqAt PyProof.Rows
open Dl (ilt Zby)
abbrev nP(p:Int):Fd:=.int p
def lP(c:List Int):Fd:=.list (c.map nP)
theorem Xxc(p q:Int):DW (nP p) (nP q)=decide (p=q):=by by_cases h:p=q<;>simp[DW,h]
variable{p:Int}
theorem Xjj(_:True):(nP p).canLay0=true:=rfl
theorem Xvv(p:Int):(nP p).depth<=1:=by simp[FV]
variable{q:Int}
theorem Xwz(h:nP p=nP q):p=q:=by injection h
variable{A:Ba}{as:List Addr}{s:Af}{u v:Value}
theorem Xno{bs:List Addr}(ru:GI s.heap u (nP p) as)(rv:GI s.heap v (nP q) bs)(_:A.units<BE):Xvj A s u v (ilt p q):=by
 cases ru with
 |int i t1=>cases rv with
  |int j t2=>exact Xfl _ _ _ _
variable{h:Bg}
theorem Xjw(c d:List Int)(z:Int):∀(k i:Nat),i+k=min c.length d.length->Xkg (fun j=>decide (c.getD j z=d.getD j z)) (fun j=>ilt (c.getD j z) (d.getD j z)) c.length d.length ((AX (min c.length d.length)).drop i)=Zby (c.drop i) (d.drop i)
 |0,i,h=>by rw[DS (as:=AX _) (by simp;omega)];show decide (c.length<d.length)=_;by_cases h1:i<c.length;rw[DS (as:=d) (by omega),BD h1];exact ai (by omega);rw[DS (as:=c) (by omega)];by_cases h2:i<d.length;rw[BD h2];exact aj (by omega);rw[DS (as:=d) (by omega)];exact ai (by omega)
 |k+1,i,h=>by
  have h1:i<c.length:=by omega
  have h2:i<d.length:=by omega
  have e1:c.getD i z=c[i]:=by rw[AA,Ag h1];rfl
  have e2:d.getD i z=d[i]:=by rw[AA,Ag h2];rfl
  rw[BD (by simp;omega),JH,BD h1,BD h2];unfold Xkg Zby
  rw[Xjw c d z k (i+1) (by omega),e1,e2];by_cases e:c[i]=d[i];rw[aa (aj e),aa e];rw[ae (fun q=>e (of_decide_eq_true q)),ae e]
variable{c:List Int}
theorem Zlf(r:GI h u (lP c) as):∃l o vl n bs,u=.ref l/\h.get? l=ak o/\o.cls=.type "list"/\o.data=.seq (BJ vl) n/\Mn h vl (c.map nP) bs:=by
 generalize hd:lP c=d at r;cases r with
 |@list l o vs n xs as1 h1 h2 h3 h4 =>cases hd;obtain⟨vl⟩:=vs;exact⟨l,o,vl,n,_,rfl,h1,h2,h3,h4⟩
 |_=>cases hd
theorem Zdw{h:Bg}:∀{c:List Int} {vl:List Value} {bs:List Addr},Mn h vl (c.map nP) bs->vl.length=c.length/\∀j (h1:j<vl.length) (z:Int),∃as,GI h vl[j] (nP (c.getD j z)) as
 |[],vl,bs,r=>by cases r;exact⟨rfl,fun j h1=>af h1 (Fh _)⟩
 |p::c,vl,bs,r=>by
  cases r with
  |cons r1 r2 =>
   obtain⟨e1,e2⟩:=Zdw r2;refine⟨by rw[BK,BK,e1],fun j h1 z=>?_⟩
   match j,h1 with
   |0,_=>exact⟨_,r1⟩
   |j+1,h1=>exact e2 j (by simpa using h1) z
variable{d:List Int}
theorem Xlg{bs:List Addr}(ru:GI s.heap u (lP c) as)(rv:GI s.heap v (lP d) bs)(hc:∀p∈c,True)(hd:∀p∈d,True)(hu:A.units+8<BE):∃(l l':Addr) (vl vl':List Value) (n n':Nat) (dd dd':Option Addr) (sl sl':Array (Option Value)),u=.ref l/\v=.ref l'/\s.heap.get? l=ak {cls:=.type "list",dict:=dd,data:=.seq (BJ vl) n,slots:=sl}/\s.heap.get? l'=ak {cls:=.type "list",dict:=dd',data:=.seq (BJ vl') n',slots:=sl'}/\ vl.length=c.length/\vl'.length=d.length/\(∀j (h1:j<(BJ vl).size) (h2:j<(BJ vl').size),EqAt A.in1 s (BJ vl)[j] (BJ vl')[j] (decide (c.getD j 0=d.getD j 0)))/\ (∀j (h1:j<(BJ vl).size) (h2:j<(BJ vl').size),(decide (c.getD j 0=d.getD j 0):Bool)=ar->Xvj A.in1 s (BJ vl)[j] (BJ vl')[j] (ilt (c.getD j 0) (d.getD j 0))):=by
 obtain⟨l,⟨cls,dd,data,sl⟩,vl,n,as',rfl,h1,h2,h3,h4⟩:=Zlf ru;obtain⟨l',⟨cls',dd',data',sl'⟩,vl',n',bs',rfl,k1,k2,k3,k4⟩:=Zlf rv;simp only at h2 h3 k2 k3;subst h2 h3 k2 k3;obtain⟨e1,e2⟩:=Zdw h4;obtain⟨e3,e4⟩:=Zdw k4;have mem:∀{c:List Int} {j:Nat} (_:j<c.length),c.getD j 0∈c:=fun {c j} hj=>by rw[AA,Ag hj];exact Ca hj
 have hin:A.in1.units+1<BE:=by show A.units+1+1<BE;omega
 refine⟨l,l',vl,vl',n,n',dd,dd',sl,sl',rfl,rfl,h1,k1,e1,e3,fun j j1 j2=>?_,fun j j1 j2 _=>?_⟩;obtain⟨a1,r1⟩:=e2 j (by simpa using j1) 0;obtain⟨b1,r2⟩:=e4 j (by simpa using j2) 0;intro prog w E Q q;refine eqBoolOverData prog w A.in1 E s _ _ _ _ _ _ Q r1 r2 (Xjj (hc _ (mem (by simpa[e1] using j1)))) (Xjj (hd _ (mem (by simpa[e3] using j2)))) ?_ (by rw[Xxc];exact q);have:=Xvv (c.getD j 0);omega;obtain⟨a1,r1⟩:=e2 j (by simpa using j1) 0;obtain⟨b1,r2⟩:=e4 j (by simpa using j2) 0;exact Xno r1 r2 (by omega)
theorem Xnq(p:Int):ilt p p=false:=ai (Int.lt_irrefl p)
theorem Xwf{t:Int}(h:ilt p q=aq)(h2:ilt q t=aq):ilt p t=true:=aj (Iu (of_decide_eq_true h) (of_decide_eq_true h2))
theorem Xki(h:p≠q):ilt p q=aq\/ilt q p=true:=(Int.lt_or_gt_of_ne h).imp (fun z=>aj z) fun z=>aj z
theorem Zsq:∀c:List Int,Zby c c=ar
 |[]=>rfl
 |p::c=>by unfold Zby;rw[aa rfl];exact Zsq c
theorem Zon:∀{c d e:List Int},Zby c d=aq->Zby d e=aq->Zby c e=aq
 |[],[],_,h,_=>nomatch h
 |[],_::_,[],_,h=>nomatch h
 |[],_::_,_::_,_,_=>rfl
 |_::_,[],_,h,_=>nomatch h
 |_::_,_::_,[],_,h=>nomatch h
 |p::c,q::d,t::e,h,h2=>by unfold Zby at *;by_cases e1:p=q;rw[aa e1]at h;subst e1;by_cases e2:p=t;rw[aa e2]at h2 ⊢;exact Zon h h2;rw[ae e2]at h2 ⊢;exact h2;rw[ae e1]at h;by_cases e2:q=t;subst e2;rw[ae e1];exact h;rw[ae e2]at h2;have h3:=Xwf h h2;rw[ae (fun z=>by rw[z,Xnq]at h3;cases h3)];exact h3
theorem Zli:∀{c d:List Int},c≠d->Zby c d=aq\/Zby d c=aq
 |[],[],h=>af rfl h
 |[],_::_,_=>.inl rfl
 |_::_,[],_=>.inr rfl
 |p::c,q::d,h=>by
  unfold Zby
  by_cases e:p=q;rw[aa e,aa e.symm];exact Zli fun z=>h (by rw[e,z]);rw[ae e,ae (fun z=>e z.symm)];exact Xki e
theorem Zoy(h:Zby c d=aq):Zby d c=false:=by
 cases e:Zby d c with
 |false=>rfl
 |true=>rw[<- Zsq c,<- Zon h e]
theorem Zxc{e:List Int}(h:Zby d c=ar)(h2:Zby e d=ar):Zby e c=false:=by
 cases q:Zby e c with
 |false=>rfl
 |true =>by_cases e1:c=d;subst e1;rw[h2]at q;cases q;rcases Zli e1 with z|z;rw[<- h2,Zon q z];rw[h]at z;cases z
theorem Zzb(h:Zby d c=ar)(h2:Zby c d=ar):c=d:=by by_cases e:c=d;exact e;rcases Zli e with z|z;rw[h2]at z;cases z;rw[h]at z;cases z
noncomputable def Zfm(h:Bg)(v:Value):List Int:=open Classical in if q:∃c as,GI h v (lP c) as then q.choose else []
theorem Xtw(h:lP c=lP d):c=d:=by injection h with h;exact F0 (fun _ _=>Xwz) |>.mp h
theorem Zhm(r:GI h v (lP c) as):Zfm h v=c:=by have q:∃c as,GI h v (lP c) as:=⟨c,as,r⟩;unfold Zfm;rw[dif_pos q];obtain⟨bs,r2⟩:=q.choose_spec;exact Xtw (Reads.unique r2 _ _ r).1
def Xhk(h:Bg)(v:Value):Prop:=∃c as,GI h v (lP c) as/\∀p∈c,True
theorem Xhk.keeps{h':Bg}(i:Xhk h v)(k:∀b o,h.get? b=ak o->h'.get? b=ak o):Xhk h' v/\Zfm h' v=Zfm h v:=by obtain⟨c,as,r,ok⟩:=i;exact⟨⟨c,as,Lx k r,ok⟩,(Zhm (Lx k r)).trans (Zhm r).symm⟩
variable{prog:AR}{w:Bk}
theorem Xnr(hu:A.units+8<BE):Ask prog w A s oneType' (fun x=>Xhk s.heap x.1) (fun x y=>Zby (Zfm s.heap x.1) (Zfm s.heap y.1)) where
 run:=fun {x y Q E} hx hy _ q=>by
  obtain⟨c,as,ru,hc⟩:=hx;obtain⟨d,bs,rv,hd⟩:=hy;rw[Zhm ru,Zhm rv]at q;obtain⟨l,l',vl,vl',n,n',dd,dd',sl,sl',e1,e2,h1,k1,e3,e4,he,hlt⟩:=Xlg (A:=A) ru rv hc hd hu;rw[e1,e2,keyLt'_oneType,oneLt'_eq];simp only[if_true];refine Aa (wpAny_cRoomFor (by omega) ?_);have t:Xkg (fun j=>decide (c.getD j 0=d.getD j 0)) (fun j=>ilt (c.getD j 0) (d.getD j 0)) (BJ vl).size (BJ vl').size (AX (min (BJ vl).size (BJ vl').size))=Zby c d:=by have:=Xjw c d 0 (min c.length d.length) 0 (by omega);rw[Hr,Hr,Hr]at this;rw[Ay,Ay,e3,e4,this]
  refine Aa (wpAny_callSpecialIfBound?_slot (name:="__lt__") ⟨_,h1,rfl⟩ LM (Ic LM ⟨_,h1,rfl⟩ F.entry_list_lt (F.args_list_lt_2 _ _) (Xaa l l' _ _ n n' dd dd' sl sl' (fun j=>decide (c.getD j 0=d.getD j 0)) (fun j=>ilt (c.getD j 0) (d.getD j 0))) ⟨h1,k1,he,hlt,?_⟩));rw[t];exact CD q
 tr:=fun _ _ _ h1 h2=>Zxc h1 h2
 as:=fun _ _ h=>Zoy h
variable{M:Model}
theorem Xes(i:Xhk h v):PySem.W.Looks M h (La v) (.type "list"):=by obtain⟨c,as,r,_⟩:=i;obtain⟨l,o,vl,n,bs,rfl,h1,h2,_⟩:=Zlf r;have q:PySem.W.Looks M h (La (.ref l)) o.cls:=(PySem.W.Looks.ld h1).andThen .now;rw[h2]at q;exact q
end L2
namespace L2
open PySem PySem.Spec PyProof.Rows
open Dl (D R FE FT FA FO FS FI FB Fl Zby)
variable{d:D}
theorem Zgx(c:List Int):∀l,(Dl.Xrk c l).Perm (c::l)
 |[]=>Gz _
 |d::l=>by unfold Dl.Xrk;split;exact Gz _;exact((Zgx c l).cons d).trans (ME c d l)
variable{c:List Int}
theorem Js:∀l,(Dl.Xn l).Perm l
 |[]=>Gz _
 |c::l=>(Zgx c _).trans ((Js l).cons c)
variable{h:Bg}{x y:Value}
theorem Zxx(c:List Int):∀l,l.Pairwise (fun x y=>Zby y x=ar)->(Dl.Xrk c l).Pairwise (fun x y=>Zby y x=ar)
 |[],_=>HF _ _
 |d::l,h=>by obtain⟨h1,h2⟩:=FY.mp h;unfold Dl.Xrk;split;rename_i q;refine FY.mpr ⟨fun y hy=>?_,h⟩;rcases Aj.mp hy with e|e;rw[e];exact Zoy q;exact Zxc (Zoy q) (h1 y e);rename_i q;refine FY.mpr ⟨fun y hy=>?_,Zxx c l h2⟩;rcases Aj.mp ((Zgx c l).mem_iff.mp hy) with e|e;rw[e];exact Kq.mpr q;exact h1 y e
theorem Zhe:∀l,(Dl.Xn l).Pairwise (fun x y=>Zby y x=ar)
 |[]=>Ff
 |c::l=>Zxx c _ (Zhe l)
variable{l':List (List Int)}
theorem Zlq{l:List (List Int)}(hp:l'.Perm l)(hu:l'.Pairwise (fun x y=>Zby y x=ar)):Dl.Xn l=l':=MF (fun x y _ _ h1 h2=>Zzb h1 h2) (Zhe l) hu ((Js l).trans hp.symm)
variable{i:Nat}
theorem Zlw:∀{ds:List D} {c:List Int},Dl.intsOf ds=ak c->ds=c.map .int
 |[],c,h=>by cases h;rfl
 |d::ds,c,h=>by
  cases d with
  |int i =>obtain⟨r,h1,rfl⟩:=AH.mp (show(Dl.intsOf ds).map (i::·)=ak c from h);rw[Zlw h1];rfl
  |_=>cases h
theorem Xfk(h:Dl.Xbr d=ak c):d=Dl.ilD c:=by
 cases d with
 |lst ds=>rw[Zlw (show Dl.intsOf ds=ak c from h)];rfl
 |_=>cases h
theorem Zmh:∀{ds:List D} {cs:List (List Int)},Dl.Zfy ds=ak cs->ds=cs.map Dl.ilD
 |[],cs,h=>by cases h;rfl
 |d::ds,cs,h=>by obtain⟨c,h1,h⟩:=A7.mp (show((Dl.Xbr d).bind fun c=>(Dl.Zfy ds).bind fun cs=>ak (c::cs))=ak cs from h);obtain⟨cs',h2,h⟩:=A7.mp h;cases h;rw[Xfk h1,Zmh h2];rfl
variable{p:Pos}
theorem Xam:∀c:List Int,Dl.Zr (c.map D.int)=aq
 |[]=>rfl
 |p::c=>by rw[AZ,Dl.Zr,Xam c];rfl
theorem Zwo:∀c:List Int,Zcp (c.map .int)=c.map nP
 |[]=>rfl
 |p::c=>by show toPy (.int p)::Zcp _=nP p::_;rw[Zwo c];rfl
theorem Xwc(c:List Int):Dl.dep (Dl.ilD c)<=2:=by
 have:∀c:List Int,Dl.Zgy (c.map .int)<=1:=fun c=>by
  induction c with
  |nil=>simp[Dl.Zgy]
  |cons p c ih=>simp[Dl.Zgy,Dl.dep];omega
 have h:=this c;unfold Dl.ilD;rw[Dl.dep];omega
variable{B:List Addr}{C:String->Addr}{H:Hp}{K:AN}{b:Addr}{v:V}
theorem Rp.il(r:Rp K C H (Dl.ilD c) v B):(∃b,v=.ref b)/\Dn K H v (lP c)/\∀p∈c,True:=by
 obtain⟨h1,h2,_⟩:=r.dn (n:=50) (AD (Xwc c) (by decide)) (by decide);have e:toPy (Dl.ilD c)=lP c:=by show Lg (Zcp _)=Lg _;rw[Zwo]
 rw[e]at h1;refine⟨?_,h1,fun p hp=>trivial⟩;obtain⟨a,xs,B,rfl,_⟩:=r;exact⟨a,rfl⟩
theorem Rp.ilA(r:Rp K C H (Dl.ilD c) (.ref b) B):B=[b]:=by obtain⟨a,xs,B',e1,e2,e3,rfl⟩:=r;cases e1;rw[e3.flat (Xam c)]
variable{xs:Array Value}
theorem RpA.ilsA:∀{cs:List (List Int)} {xs:List V} {B:List Addr},RpA K C H (cs.map Dl.ilD) xs B->∃L:List (Addr×List Int),xs=L.map (fun x=>V.ref x.1)/\cs=L.map (·.2)/\B=L.map (·.1)/\∀x∈L,Rp K C H (Dl.ilD x.2) (.ref x.1) [x.1]
 |[],xs,B,r=>⟨[],r.1,rfl,r.2,fun _ h=>nomatch h⟩
 |c::cs,xs,B,r=>by obtain⟨x,l,B1,B2,rfl,h1,h2,rfl⟩:=r;obtain⟨⟨b,rfl⟩,_⟩:=Rp.il h1;obtain⟨L,rfl,e2,e3,h3⟩:=RpA.ilsA h2;have e1:=Rp.ilA h1;subst e1;refine⟨(b,c)::L,rfl,by rw[e2];rfl,by rw[e3];rfl,fun x hx=>?_⟩;rcases Aj.mp hx with z|z;subst z;exact h1;exact h3 x z
theorem RpA.pickI:∀{L:List (Addr×List Int)},(∀x∈L,Rp K C H (Dl.ilD x.2) (.ref x.1) [x.1])->RpA K C H ((L.map (·.2)).map Dl.ilD) (L.map fun x=>V.ref x.1) (L.map (·.1))
 |[],_=>⟨rfl,rfl⟩
 |x::L,h=>⟨_,_,[x.1],L.map (·.1),rfl,h x (.head _),RpA.pickI (L:=L) fun y hy=>h y (.tail _ hy),rfl⟩
variable{a:Addr}{kvs:List (List Key×V)}{o:Obj}
theorem Zuz.tf{k:List Key}(e:H a=ak (.frz o (.dT kvs)))(eb:H b=ak (.tup (k.map kV))):Zuz H a (.ref b) (Zoz kvs k):=.inr ⟨kvs,k,b,.inr ⟨o,e⟩,rfl,eb,rfl⟩
variable{e:Expr}
theorem Ztb{k:List Key}:∀{ks:List (List Key)} {ds:List D} {xs:List V} {d:D},RpA K C H ds xs []->Dl.tAt ks ds k=ak d->∃v,Zoz (ks.zip xs) k=ak v/\Rp K C H d v []
 |[],ds,xs,d,_,e=>by cases ds<;>cases e
 |j::ks,[],xs,d,_,e=>by cases e
 |j::ks,x::ds,xs,d,q,h=>by obtain⟨y,l,B,B',e1,e2,e3,e4⟩:=q;obtain⟨rfl,rfl⟩:=Fa.mp e4.symm;subst e1;rw[Dl.tAt]at h;by_cases e:j=k;rw[aa e]at h;cases h;exact⟨y,Zdy e,e2⟩;rw[ae e]at h;rw[Cp,Zew e];exact Ztb e3 h
theorem Zxa:GOk K C Xkp Dl.Znb:=by intro H x y d vx vy Bx By Q rx ry e q;unfold Dl.Znb at e;split at e;rename_i ks ds;obtain⟨k,hk,e⟩:=AH.mp e;cases e;obtain⟨a,o,ys,rfl,h1,h2,h3,_⟩:=ry;obtain⟨b,rfl,hb⟩:=Zdr hk rx;refine⟨a,_,rfl,Zuz.tf h1 hb,?_⟩;rw[<- Zgj,Zey (by rw[h2,h3.len])];exact Out.flat q rpB;cases e
variable{E:XK}{S1 S2:List (Nat×Bool)}{m1 m2:Nat}{Γ Δ:List Nat}
theorem Xec{td ty:TE}{fd fy:FE}(hd:EOk K C E Γ Δ m1 S1 td fd)(hy:EOk K C E Γ Δ m2 S2 ty fy):EOk K C E Γ Δ 2 [] (Zyz td ty) (Dl.f2 Dl.Zzg fd fy):=
  fun H0 Hb H σ ρ A Q I p=>hd H0 Hb H σ ρ A _ I (p.bind.imp (fun d q vd H1 g1 r1=>hy H0 Hb H1 σ ρ A _ (I.mono g1) (q.bind.imp (fun y q vy H2 g2 r2=>by
    obtain⟨z,e,q2⟩:=Zbm q;obtain⟨Bd,r1,_⟩:=r1;obtain⟨By,r2,_⟩:=r2;cases d with
    |fdt ks ds =>obtain⟨k,hk,e⟩:=A7.mp (show((Dl.Ztc y).bind fun k=>Dl.tAt ks ds k)=ak z from e);obtain⟨a,o,ys,rfl,h1,h2,h3,_⟩:=r1;obtain⟨b,rfl,hb⟩:=Zdr hk r2;obtain⟨v,v1,v2⟩:=Ztb (h3.same g2) e;refine⟨a,v,rfl,?_,q2 v H2 (g1.trans g2) (Res.flat v2)⟩;rw[<- v1];exact Zuz.tf (g2 _ _ h1) hb
    | _=>cases e) fun c x q H' g'=>q H' (g1.trans g'))) fun c x q H' g'=>q H' g')
variable{X:Cx}{a b:Expr}{fa fb:FE}{pos:Pos}{ta tb:TE}
theorem Xcn(ha:JE X C E Γ Δ m1 S1 a ta fa)(hb:JE X C E Γ Δ m2 S2 b tb fb)(hu:X.A.units+64<BE)(hs:NoSl b:=by intro _ _;rfl):JE X C E Γ Δ 2 [] (.Subscript a b pos) (Zyz ta tb) (Dl.f2 Dl.Zzg fa fb):=⟨⟨Zvs (by omega) ha.q.out hb.q.out hs⟩,Xec ha.o hb.o⟩
def KeyP(es:Array Dj):Nat->Value->Prop:=fun i v=>∃e,es[i]?=ak e/\v=e.key
variable{A:Ba}{a it:Addr}{ep:Nat}{es:Array Dj}{od:Obj}{prog:AR}{w:Bk}
theorem Zxt(hh:A.handled=ao)(hne:a≠it)(hdd:od.data=.dict es ep) :
  Walks prog w A it [it,a] [it] es.size (KeyP es) (fun i h=>h.IsKeyIter it a i es.size ep/\h.get? a=ak od) where
 sub:=fun b hb=>by simp at hb;simp[hb]
 frame:=fun _ _ _ st hk=>⟨st.1.at fun o e=>hk it (by simp) o e,hk a (by simp) _ st.2⟩
 item:=fun i s Q E hi st hQ=>Zmr st.1 st.2 hdd hi fun h' x1 x2=>hQ _ h' s.toks ⟨es[i],B3 hi,rfl⟩ ⟨x1,(x2.2 a hne).trans st.2⟩ fun b o hb e=>(x2.2 b fun z=>hb (by simp[z])).trans e
 done:=fun s Q E st hQ=>Zkt hh st.1 st.2 hdd (As _) fun h' x=>hQ h' s.toks fun b o hb e=>x b o (fun z=>hb (by simp[z])) e
 self:=fun _ _ _ _ st hQ=>KE st.1 hQ
theorem Xom(hs:(a==Ck)=ar)(hx:od.ExactDict)(hdd:od.data=.dict es ep):PySem.W.KdlSrc prog w "dict" a a es.size (KeyP es) (fun h=>h.get? a=ak od) where
 type:=fun s h=>⟨od,h,hx.1⟩
 there:=fun h e=>⟨AI e,AI e⟩
 keep:=fun h h' e k=>k a (.inl rfl) _ e
 notList:=by decide
 notTuple:=by decide
 hint:=fun A E s Q h q=>PySem.W.kdl_hint_dict ⟨od,h,hx.1⟩ q
 iter:=fun A s hh h=>⟨{cls:=.type "dict_keyiterator",data:=.fields #[.ref a,.int 0 0,.int es.size 0,.int ep 0]},_,fun E Q q=>Zms hs h hx hdd q,Zxt hh (AY (AI h)) hdd,⟨⟨_,Au _ rfl,rfl,rfl⟩,Ae _ h⟩⟩
variable{Q:Value->Af->Prop}{b:Addr}
def Zzj:List V->Hp->VK->Prop:=fun xs H Q=>∃(a:Addr) (o:Obj) (kvs:List (List Key×V)),xs=[.ref a]/\H a=ak (.frz o (.dT kvs))/\kvs.length<=1000000/\
 ∀(bs:List Addr) (r:Addr),bs.length=kvs.length->(∀(i:Nat) (kv:List Key×V) (b:Addr),kvs[i]?=ak kv->bs[i]?=ak b->H b=ak (.tup (kv.1.map kV)))->H r=ao->Q (.ref r) (upd H r (.lst (bs.map V.ref)))
theorem Zvd(hc:X.calm=aq):Zae X (.type "list") Zzj:=by
 intro pins s σ H xs us Q I r h;obtain⟨a,o,kvs,rfl,hq,hlim,q⟩:=h;obtain⟨u,rfl,rx⟩:=vals1 r;cases rx;obtain⟨ho,z,hd,ys,rel,o',es,ep,ho',h1,h2,h3,h5⟩:=I.hok a _ hq;rw[ho]at ho';cases ho';have hl:es.size=kvs.length:=by rw[<- BM,h3,Ai];exact(Paired.length rel).symm
 refine PySem.W.kdl_call (Xom hd h1 h2) (I.ok.hd hc) ho (by rw[hl,E5];omega) fun h' tk acc' c' hk hg hit=>?_;obtain⟨hsz,hv⟩:=hit;have hall:∀(i:Nat) (v:Value),acc'.toList[i]?=ak v->∃(b:Addr) (kv:List Key×V),v=.ref b/\kvs[i]?=ak kv/\H b=ak (.tup (kv.1.map kV)):=fun i v hi=>by
  obtain⟨e,he,rfl⟩:=hv i v (by rw[DO]at hi;exact hi);have hie:i<es.size:=(Hf.mp he).1;have hik:i<kvs.length:=by omega
  obtain⟨y,hy1,hy2,hy3,_⟩:=Paired.at_ rel (Ag hik);have:es.toList[i]?=ak (FC (C9 (Yi X.prog X.w)) y):=by rw[h3,AS,hy1];rfl
  rw[DO,he]at this;rw[AE this];exact⟨y.2.1,kvs[i],rfl,Ag hik,hy3⟩
 have eo:acc'.toList=(acc'.toList.map adr).map AQ:=by
  rw[AV]
  conv=>lhs;rw[<- Fy acc'.toList]
  refine BS fun v hv=>?_;obtain⟨i,hi⟩:=List.mem_iff_getElem?.mp hv;obtain⟨b,kv,rfl,_⟩:=hall i v hi;rfl
 have hlen:acc'.toList.length=kvs.length:=by rw[BM,hsz,hl]
 refine⟨.ref s.heap.objs.size,_,I.laid (t':=tk) (o:=.lst ((acc'.toList.map adr).map V.ref)) hk (As _) ⟨?_,acc'.toList,c',?_,?_⟩,rfl,q (acc'.toList.map adr) _ (by rw[Ai,hlen]) (fun i kv b e1 e2=>?_) I.fresh⟩;rw[Ai,Ai,hlen,E5];omega;rw[eo];have:=Zhk (acc'.toList.map adr);rw[show(EY adr (EY AQ (EY adr acc'.toList)))=EY adr acc'.toList by rw[AV,show(adr∘AQ)=id from rfl,Fy]];exact this;simpa using hg;rw[AS]at e2;obtain⟨v,h6,rfl⟩:=AH.mp e2;obtain⟨b,kv',rfl,h7,h8⟩:=hall i v h6;rw[e1]at h7;rw[AE h7];exact h8
theorem Zqw{H:Hp}:∀{ks:List (List Key)} {bs:List Addr},bs.length=ks.length->(ks.all fun k=>k.all Dl.kOk)=aq->(∀(i:Nat) (k:List Key) (b:Addr),ks[i]?=ak k->bs[i]?=ak b->H b=ak (.tup (k.map kV)))->RpA K C H (ks.map Dl.Zdu) (bs.map V.ref) []
 |[],[],_,_,_=>RpA.nil
 |k::ks,b::bs,hl,hk,h=>by rw[Li,AC]at hk;exact⟨_,_,[],[],rfl,Zzl hk.1 (h 0 k b rfl rfl),Zqw (BX hl) hk.2 (fun i k' b' h1 h2=>h (i+1) k' b' (by simpa using h1) (by simpa using h2)),rfl⟩
 |[],_::_,hl,_,_=>nomatch hl
 |_::_,[],hl,_,_=>nomatch hl
theorem Zzx:GAk K C Zzj Dl.Zqr:=by
  intro H xs d vs Bx Q r e q
  match xs,e with
  |[x],e =>
    obtain⟨v,l,B1,B2,rfl,r1,r2,_⟩:=r;obtain⟨rfl,_⟩:=r2;cases x with
    |fdt ks ds =>
      have e:(if ks.length<=Dl.lim/\(ks.all fun k=>k.all Dl.kOk)=aq then ak (D.lst (ks.map Dl.Zdu)) else ao)=ak d:=e;split at e
      · rename_i hh;cases e;obtain⟨a,o,ys,rfl,e1,e2,e3,_⟩:=r1;have hl:ks.length=ys.length:=by rw[e2,e3.len]
        have hz:(ks.zip ys).length=ks.length:=by rw[Fz];omega
        refine ⟨a,o,_,rfl,e1,by rw [hz];exact hh.1,fun bs p hb hbs hp=>?_⟩;have g2:=sameNew hp (.lst (bs.map V.ref));have hr:RpA K C (upd H p (.lst (bs.map V.ref))) (ks.map Dl.Zdu) (bs.map V.ref) []:=RpA.same g2 (Zqw (by rw [hb,hz]) hh.2 fun i k b h1 h2=>by
          have hi:=(Am.mp h1).1;exact hbs i (k,ys[i]'(by omega)) b (by rw [Ds];exact ⟨h1,Ag _⟩) h2)
        exact q _ _ [p] g2 ⟨p,_,[],rfl,Zw,hr,rfl⟩ (AB.mpr ⟨(fun z=>nomatch z),Bb⟩) fun c hc=>by rw[Ap.mp hc];exact hp
      cases e
    |_=>cases e
  |[],e=>cases e
  |x::_::_,e=>cases x<;>cases e
def gIt(T:Bool)(h:Bg)(it l:Addr)(i:Nat):Prop:=match T with
 |true=>h.IsTupleIter it l i
 |false=>h.IsListIter it l i
def gSq(T:Bool)(h:Bg)(l:Addr)(xs:Array Value):Prop:=match T with
 |true=>h.IsTuple l xs
 |false=>h.IsList l xs
variable{T:Bool}{h':Bg}
theorem gIt.at_{l:Addr}(x:gIt T h it l i)(k:∀o,h.get? it=ak o->h'.get? it=ak o):gIt T h' it l i:=by cases T;exact Heap.IsListIter.at x k;obtain⟨o,e,r⟩:=x;exact⟨o,k o e,r⟩
theorem gIt.obj{l:Addr}(x:gIt T h it l i):∃o,h.get? it=ak o/\∀v,o.data≠.cell v:=by cases T;obtain⟨o,e,_,d⟩:=x;exact⟨o,e,fun v z=>by rw[d]at z;cases z⟩;obtain⟨o,e,_,d⟩:=x;exact⟨o,e,fun v z=>by rw[d]at z;cases z⟩
theorem gIt.extBut{l:Addr}(x:gIt T h it l i)(hs:EG b h h')(hab:it≠b):gIt T h' it l i:=x.at_ fun o e=>hs it o hab e
theorem gSq.extBut{l:Addr}(x:gSq T h l xs)(hs:EG b h h')(hab:l≠b):gSq T h' l xs:=by cases T;exact Mq x hs hab;exact L6 x hs hab
variable{E:Value->Af->Prop}{items:Array Value}{s:Af}
theorem Zfl{t:Addr}(hit:gIt T s.heap it t i)(ht:gSq T s.heap t items)(hx:items[i]?=ak x)(hQ:∀h',gIt T h' it t (i+1)->BZ it s.heap h'->Q x {s with heap:=h'}):Ak (Aw prog w) A (A3 (.ref it)) Q E s:=by cases T;exact wpAny_nextOf_list_item hit ht hx hQ;exact Zus hit ht hx hQ
theorem Znv{t:Addr}(hh:A.handled=ao)(hit:gIt T s.heap it t i)(ht:gSq T s.heap t items)(hx:items[i]?=ao)(hE:∀h' e,EG it s.heap h'->(∃o,h'.get? e=ak o/\o.cls=.type "StopIteration")->E (.ref e) {s with heap:=h'}):Ak (Aw prog w) A (A3 (.ref it)) Q E s:=by cases T;exact wpAny_nextOf_list_end hh hit ht hx hE;exact Zwi hh hit ht hx hE
variable{T1 T2:Bool}{i1 i2 l1 l2 z:Addr}{k1 k2:Nat}{ys:Array Value}
theorem Zyp{TI TO:Addr}{a b:Value}(D:Ih z TI TO i1 i2 l1 l2)(hz:Fb s.heap z TI TO .none)(hTI:CM s.heap TI (.ref i1) (.ref i2))(hTO:CM s.heap TO a b)(h1:gIt T1 s.heap i1 l1 k1)(h2:gIt T2 s.heap i2 l2 k2)(hl1:gSq T1 s.heap l1 xs)(hl2:gSq T2 s.heap l2 ys)(hx:xs[k1]?=ak x)(hy:ys[k2]?=ak y)(hQ:∀h',Fb h' z TI TO (Cu s.heap.objs.size)->CM h' TO x y->gIt T1 h' i1 l1 (k1+1)->gIt T2 h' i2 l2 (k2+1)->CM h' s.heap.objs.size x y->h'.objs.size=s.heap.objs.size+1->(∀c o,c≠z->c≠TO->c≠i1->c≠i2->s.heap.get? c=ak o->h'.get? c=ak o)->Q (.ref s.heap.objs.size) {s with heap:=h'}):Ak (Aw prog w) A (D6.«zip.__next__» ⟨[.ref z],[]⟩) (fun fin s'=>∃v,fin=.done (.ret v)/\Q v s') E s:=by
  show Ak _ _ (HZ (.ref z) 2 >>= _) _ _ _;refine Aa (Bq hz rfl (x:=.bool ar) rfl ?_);show Ak _ _ (HZ (.ref z) 3 >>= _) _ _ _;refine Aa (Bq hz rfl (x:=.ref TI) rfl (Aa (Bu hTI rfl ?_)));show Ak _ _ (B9 (.ref z) >>= _) _ _ _;refine Aa ?_;unfold B9;refine Aa (Bq hz rfl (x:=.none) rfl (Ac ?_));simp only[if_true];refine Aa (Fv (Aa (Bq hz rfl (x:=.ref TO) rfl (Aa (Bo hz (by simp) fun h₁ hz₁ hs₁=>?_)))));replace hz₁:Fb h₁ z TI TO .ellipsis:=hz₁;refine Aa ?_;simp only[Kw,KR,GQ,Hj];refine Aa (Aa (GF ?_));show Ak _ _ (A3 (.ref i1) >>= _) _ _ _;refine Aa (Zfl (h1.extBut hs₁.extBut D.i1z) (hl1.extBut hs₁.extBut D.l1z) hx fun h₂ h1₂ hs₂=>Ac ?_);have hTO₂:CM h₂ TO a b:=hs₂.extBut _ _ D.TOi1 (hs₁.extBut _ _ D.TOz hTO);refine Aa (Bu hTO₂ rfl (Aa (Gd hTO₂ fun h₃ hTO₃ hs₃=>?_)));replace hTO₃:CM h₃ TO x b:=hTO₃;refine Aa (Cg (Ac ?_));refine Aa (Aa (GF ?_));show Ak _ _ (A3 (.ref i2) >>= _) _ _ _;refine Aa (Zfl (((h2.extBut hs₁.extBut D.i2z).extBut hs₂.extBut D.i12.symm).extBut hs₃.extBut D.TOi2.symm) (((hl2.extBut hs₁.extBut D.l2z).extBut hs₂.extBut D.l2i1).extBut hs₃.extBut D.l2TO) hy fun h₄ h2₄ hs₄=>Ac ?_);have hTO₄:CM h₄ TO x b:=hs₄.extBut _ _ D.TOi2 hTO₃;refine Aa (Bu hTO₄ rfl (Aa (Gd hTO₄ fun h₅ hTO₅ hs₅=>?_)));replace hTO₅:CM h₅ TO x y:=hTO₅;refine Aa (Cg (Ac (Ac ?_)));refine Aa (Bu hTO₅ rfl (Aa (HQ ?_)));have hsz:h₅.objs.size=s.heap.objs.size:=by rw[hs₅.1,hs₄.1,hs₃.1,hs₂.1,hs₁.1];done
  have hz₅:Fb h₅ z TI TO .ellipsis:=hs₅.extBut _ _ (Ne.symm D.TOz) (hs₄.extBut _ _ (Ne.symm D.i2z) (hs₃.extBut _ _ (Ne.symm D.TOz) (hs₂.extBut _ _ (Ne.symm D.i1z) hz₁)));have hk₅:∀c o,c≠z->c≠TO->c≠i1->c≠i2->s.heap.get? c=ak o->h₅.get? c=ak o:=fun c o c1 c2 c3 c4 e=>hs₅.extBut _ _ c2 (hs₄.extBut _ _ c4 (hs₃.extBut _ _ c2 (hs₂.extBut _ _ c3 (hs₁.extBut _ _ c1 e))));have h1₅:gIt T1 h₅ i1 l1 (k1+1):=((h1₂.extBut hs₃.extBut D.TOi1.symm).extBut hs₄.extBut D.i12).extBut hs₅.extBut D.TOi1.symm;have h2₅:gIt T2 h₅ i2 l2 (k2+1):=h2₄.extBut hs₅.extBut D.TOi2.symm;have hzlt:z<h₅.objs.size:=AI (hz₅);show Ak _ _ (Er (.ref z) (.ref h₅.objs.size) >>= _) _ _ _;refine Aa ?_;unfold Er;refine Aa (Bo (show Fb (h₅.push {cls:=.type "tuple",data:=.seq #[x,y]}) z TI TO .ellipsis from Ae _ hz₅) (by simp) fun h₇ hz₇ hs₇=>?_);replace hz₇:Fb h₇ z TI TO (Cu h₅.objs.size):=hz₇;refine Bo hz₇ (by simp) fun h₈ hz₈ hs₈=>?_;replace hz₈:Fb h₈ z TI TO (Cu h₅.objs.size):=hz₈;have up:∀c o,c≠z->h₅.get? c=ak o->h₈.get? c=ak o:=fun c o c1 e=>hs₈.extBut c o c1 (hs₇.extBut c o c1 (Ae _ e));have hT₈:CM h₈ h₅.objs.size x y:=hs₈.extBut _ _ (ES hzlt) (hs₇.extBut _ _ (ES hzlt) (by exact Au _ rfl));have hz8:h₈.objs.size=h₅.objs.size+1:=hs₈.1.trans (hs₇.1.trans (EI ..));rw[hsz]at hz₈ hT₈ hz8;refine Ac ⟨_,rfl,?_⟩;show Q (.ref h₅.objs.size) _;rw[hsz];exact hQ h₈ hz₈ (up _ _ D.TOz hTO₅) (h1₅.at_ fun o e=>up _ o D.i1z e) (h2₅.at_ fun o e=>up _ o D.i2z e) hT₈ hz8 fun c o c1 c2 c3 c4 e=>up c o c1 (hk₅ c o c1 c2 c3 c4 e)
theorem Xde{TI TO:Addr}{a b:Value}{Q:Fin->Af->Prop}(hh:A.handled=ao)(D:Ih z TI TO i1 i2 l1 l2)(hz:Fb s.heap z TI TO .none)(hTI:CM s.heap TI (.ref i1) (.ref i2))(hTO:CM s.heap TO a b)(h1:gIt T1 s.heap i1 l1 k1)(h2:gIt T2 s.heap i2 l2 k2)(hl1:gSq T1 s.heap l1 xs)(hl2:gSq T2 s.heap l2 ys)(hend:xs[k1]?=ao\/ys[k2]?=ao)(hE:∀h' e,(∀c o,c≠z->c≠TO->c≠i1->c≠i2->s.heap.get? c=ak o->h'.get? c=ak o)->(∃o,h'.get? e=ak o/\o.cls=.type "StopIteration")->E (.ref e) {s with heap:=h'}):Ak (Aw prog w) A (D6.«zip.__next__» ⟨[.ref z],[]⟩) Q E s:=by
 show Ak _ _ (HZ (.ref z) 2 >>= _) _ _ _;refine Aa (Bq hz rfl (x:=.bool ar) rfl ?_);show Ak _ _ (HZ (.ref z) 3 >>= _) _ _ _;refine Aa (Bq hz rfl (x:=.ref TI) rfl (Aa (Bu hTI rfl ?_)));show Ak _ _ (B9 (.ref z) >>= _) _ _ _;refine Aa ?_;unfold B9;refine Aa (Bq hz rfl (x:=.none) rfl (Ac ?_));simp only[if_true];refine Aa (Fv (Aa (Bq hz rfl (x:=.ref TO) rfl (Aa (Bo hz (by simp) fun h₁ hz₁ hs₁=>?_)))));replace hz₁:Fb h₁ z TI TO .ellipsis:=hz₁;refine Aa ?_;simp only[Kw,KR,GQ,Hj];refine Aa (Aa (GF ?_));show Ak _ _ (A3 (.ref i1) >>= _) _ _ _;cases hx:xs[k1]? with
 |none =>
  refine Aa (Znv hh (h1.extBut hs₁.extBut D.i1z) (hl1.extBut hs₁.extBut D.l1z) hx fun h₂ e hs₂ he=>?_);obtain⟨oe,hoe,hce⟩:=he;have hz₂:Fb h₂ z TI TO .ellipsis:=hs₂ _ _ (Ne.symm D.i1z) hz₁;have hez:e≠z:=fun x=>by subst x;rw[hz₂]at hoe;cases hoe;exact af hce (by simp)
  exact Bo hz₂ (by simp) fun h₃ _ hs₃=>hE h₃ e (fun c o c1 _ c3 _ x=>hs₃.extBut _ _ c1 (hs₂ _ _ c3 (hs₁.extBut _ _ c1 x))) ⟨oe,hs₃.extBut _ _ hez hoe,hce⟩
 |some x =>
  have hy:ys[k2]?=none:=hend.elim (fun h=>by rw[hx]at h;cases h) id;refine Aa (Zfl (h1.extBut hs₁.extBut D.i1z) (hl1.extBut hs₁.extBut D.l1z) hx fun h₂ h1₂ hs₂=>Ac ?_);have hTO₂:CM h₂ TO a b:=hs₂.extBut _ _ D.TOi1 (hs₁.extBut _ _ D.TOz hTO);refine Aa (Bu hTO₂ rfl (Aa (Gd hTO₂ fun h₃ hTO₃ hs₃=>?_)));refine Aa (Cg (Ac ?_));refine Aa (Aa (GF ?_));show Ak _ _ (A3 (.ref i2) >>= _) _ _ _;refine Aa (Znv hh (((h2.extBut hs₁.extBut D.i2z).extBut hs₂.extBut D.i12.symm).extBut hs₃.extBut D.TOi2.symm) (((hl2.extBut hs₁.extBut D.l2z).extBut hs₂.extBut D.l2i1).extBut hs₃.extBut D.l2TO) hy fun h₄ e hs₄ he=>?_);obtain⟨oe,hoe,hce⟩:=he;have hz₄:Fb h₄ z TI TO .ellipsis:=hs₄ _ _ (Ne.symm D.i2z) (hs₃.extBut _ _ (Ne.symm D.TOz) (hs₂.extBut _ _ (Ne.symm D.i1z) hz₁));have hez:e≠z:=fun x=>by subst x;rw[hz₄]at hoe;cases hoe;exact af hce (by simp)
  exact Bo hz₄ (by simp) fun h₅ _ hs₅=>hE h₅ e (fun c o c1 c2 c3 c4 x=>hs₅.extBut _ _ c1 (hs₄ _ _ c4 (hs₃.extBut _ _ c2 (hs₂.extBut _ _ c3 (hs₁.extBut _ _ c1 x))))) ⟨oe,hs₅.extBut _ _ hez hoe,hce⟩
theorem Zmp{TI TO:Addr}{a b:Value}{Q:Option Value->Af->Prop}(D:Ih z TI TO i1 i2 l1 l2)(hz:Fb s.heap z TI TO .none)(hTI:CM s.heap TI (.ref i1) (.ref i2))(hTO:CM s.heap TO a b)(h1:gIt T1 s.heap i1 l1 k1)(h2:gIt T2 s.heap i2 l2 k2)(hl1:gSq T1 s.heap l1 xs)(hl2:gSq T2 s.heap l2 ys)(hx:xs[k1]?=ak x)(hy:ys[k2]?=ak y)(hQ:∀h',Fb h' z TI TO (Cu s.heap.objs.size)->CM h' TO x y->gIt T1 h' i1 l1 (k1+1)->gIt T2 h' i2 l2 (k2+1)->CM h' s.heap.objs.size x y->h'.objs.size=s.heap.objs.size+1->(∀c o,c≠z->c≠TO->c≠i1->c≠i2->s.heap.get? c=ak o->h'.get? c=ak o)->Q (ak (.ref s.heap.objs.size)) {s with heap:=h'}):Ak (Aw prog w) A (C1 (.ref z)) Q E s:=by
  have hT:s.TypeIs (.ref z) "zip":=⟨_,hz,rfl⟩;unfold C1;exact Aa (DL (Bw (name:=BB "__next__") hT Fu (Bl Fu hT Lm (Zyp D hz hTI hTO h1 h2 hl1 hl2 hx hy fun h' a1 a2 a3 a4 a5 a6 a7=>Ac (hQ h' a1 a2 a3 a4 a5 a6 a7)) (K4 _))))
theorem Zof{TI TO:Addr}{a b:Value}{Q:Option Value->Af->Prop}(hh:A.handled=ao)(D:Ih z TI TO i1 i2 l1 l2)(hz:Fb s.heap z TI TO .none)(hTI:CM s.heap TI (.ref i1) (.ref i2))(hTO:CM s.heap TO a b)(h1:gIt T1 s.heap i1 l1 k1)(h2:gIt T2 s.heap i2 l2 k2)(hl1:gSq T1 s.heap l1 xs)(hl2:gSq T2 s.heap l2 ys)(hend:xs[k1]?=ao\/ys[k2]?=ao)(hQ:∀h',(∀c o,c≠z->c≠TO->c≠i1->c≠i2->s.heap.get? c=ak o->h'.get? c=ak o)->Q ao {s with heap:=h'}):Ak (Aw prog w) A (C1 (.ref z)) Q E s:=by
 have hT:s.TypeIs (.ref z) "zip":=⟨_,hz,rfl⟩;unfold C1;refine Aa (DL (Bw (name:=BB "__next__") hT Fu (Bl Fu hT Lm (Xde hh D hz hTI hTO h1 h2 hl1 hl2 hend fun h' e hk he=>?_) (K4 _))));obtain⟨o,ho,hc⟩:=he;exact Aa (Eb (T:="StopIteration") (b:=aq) ⟨o,ho,hc⟩ HY (Ac (hQ _ hk)))
def SqG(T:Bool)(K:AN)(H:Hp)(a:Addr)(xs:List V):Prop:=match T with
 |true=>SqT K H a xs
 |false=>SqL K H a xs
variable{pins:List (Addr×Obj)}{σ:St}
theorem Inv.seqG{xs:List V}(I:Inv X pins σ H s)(h:SqG T X.K H a xs):∃its:List Value,Yl xs its/\gSq T s.heap a its.toArray/\xs.length<=Ar:=by cases T;obtain⟨its,r,p,z⟩:=I.list h;exact⟨its,r,p.isList,z⟩;obtain⟨its,r,p,z⟩:=I.tuple h;exact⟨its,r,p,z⟩
theorem Inv.seqG_inj{xs ys:List V}(I:Inv X pins σ H s)(h:SqG T X.K H a xs)(h':SqG T X.K H a ys):xs=ys:=by cases T;exact I.list_inj h h';exact I.tuple_inj h h'
def ItzG(T1 T2:Bool)(K:AN)(a b:Addr):It:=
  ⟨fun i H=>∃xs ys x y,SqG T1 K H a xs/\SqG T2 K H b ys/\xs[i]?=ak x/\ys[i]?=ak y,
   fun i H v H'=>∃p,v=.ref p/\H p=ao/\∀xs ys,SqG T1 K H a xs->SqG T2 K H b ys->∃x y,xs[i]?=ak x/\ys[i]?=ak y/\H'=upd H p (.tup [x,y]),
   fun i H=>∃xs ys,SqG T1 K H a xs/\SqG T2 K H b ys/\(xs.length<=i\/ys.length<=i)⟩
variable{P:AR}{elts:List Expr}{x1:Nat}
theorem Xae{TI TO:Addr}(Dd:Ih z TI TO i1 i2 a b) :
    Turn P w K (.Tuple elts x1 pos) (ItzG T1 T2 K a b) [z,TI,TO,i1,i2] z (fun i h=>Fb h z TI TO .none/\CM h TI (.ref i1) (.ref i2)/\(∃u v,CM h TO u v)/\gIt T1 h i1 a i/\gIt T2 h i2 b i) where
  mem:=by simp
  obj:=fun i h st c hc=>by obtain⟨h1,h2,⟨u,v,h3⟩,h4,h5⟩:=st;obtain⟨o4,e4,d4⟩:=h4.obj;obtain⟨o5,e5,d5⟩:=h5.obj;simp only[Aj,BO,or_false]at hc;rcases hc with rfl|rfl|rfl|rfl|rfl;exact⟨_,h1,fun v z=>by cases z⟩;exact⟨_,h2,fun v z=>by cases z⟩;exact⟨_,h3,fun v z=>by cases z⟩;exact⟨_,e4,d4⟩;exact⟨_,e5,d5⟩
  keep:=fun i h h' st k=>by obtain⟨h1,h2,⟨u,v,h3⟩,h4,h5⟩:=st;exact⟨k z (by simp) _ h1,k TI (by simp) _ h2,⟨u,v,k TO (by simp) _ h3⟩,h4.at_ fun o e=>k i1 (by simp) o e,h5.at_ fun o e=>k i2 (by simp) o e⟩
  item:=by
    intro X hP hw hK hc i pins s σ H E I hf st hg;subst hP hw hK;obtain ⟨xs,ys,x,y,hq1,hq2,hx,hy⟩:=hg;obtain ⟨h1,h2,⟨u0,v0,h3⟩,h4,h5⟩:=st;obtain ⟨its1,rv1,p1,hz1⟩:=I.seqG hq1;obtain ⟨its2,rv2,p2,hz2⟩:=I.seqG hq2;obtain ⟨u,hu,ru⟩:=rv1.get hx;obtain ⟨v,hv,rv⟩:=rv2.get hy;refine Zmp Dd h1 h2 h3 h4 h5 p1 p2 (x:=u) (y:=v) (by simpa using hu) (by simpa using hv) fun h' a1 a2 a3 a4 a5 a6 a7=>?_;refine ⟨_,rfl,wpAny_letOwnedTupleGo_zip a1 fun h'' b1 b2=>?_⟩;have hne:s.heap.objs.size≠z:=fun e=>af (AI h1) (by rw [<- e];exact Bm _);have ht:CM h'' s.heap.objs.size u v:=b2.extBut _ _ hne a5;have I2:=I.turnTup (t':=s.toks) (h':=h'') (ch:=[z,TO,i1,i2]) (p:=s.heap.objs.size) (xs:=[x,y]) (its:=[u,v]) (fun c o hc e=>by
        simp only [Aj,BO,or_false,not_or] at hc;exact b2.extBut _ _ hc.1 (a7 c o hc.1 hc.2.1 hc.2.2.1 hc.2.2.2 e)) (fun c hc=>hf c (by
        simp only [Aj,BO,or_false] at hc ⊢;rcases hc with h | h | h | h<;>simp [h])) (As _) (by show 2<=Ar;decide) (Zjt ru rv) ⟨_,ht,rfl,_,rfl⟩
    refine⟨.ref s.heap.objs.size,_,I2,rfl,⟨_,rfl,I.hok.fresh (As _),fun xs' ys' e1 e2=>⟨x,y,by rw[I.seqG_inj e1 hq1];exact hx,by rw[I.seqG_inj e2 hq2];exact hy,rfl⟩⟩,⟨b1,?_,⟨u,v,b2.extBut _ _ Dd.TOz a2⟩,a3.extBut b2.extBut Dd.i1z,a4.extBut b2.extBut Dd.i2z⟩,fun c hc=>?_⟩;exact b2.extBut _ _ Dd.TIz (a7 _ _ Dd.TIz Dd.TITO Dd.TIi1 Dd.TIi2 h2);rw[Zy];exact(hf c hc).1;rintro rfl;have:∃o,s.heap.get? s.heap.objs.size=ak o:=by simp only[Aj,BO,or_false]at hc;rcases hc with e|e|e|e|e;exact⟨_,by rw[e];exact h1⟩;exact⟨_,by rw[e];exact h2⟩;exact⟨_,by rw[e];exact h3⟩;obtain⟨o,q,_⟩:=h4.obj;exact⟨o,by rw[e];exact q⟩;obtain⟨o,q,_⟩:=h5.obj;exact⟨o,by rw[e];exact q⟩
    obtain⟨o,q⟩:=this;exact af (AI q) (Bm _)
  done:=by
    intro X hP hw hK hc i pins s σ H E I hf st hg;subst hP hw hK;obtain ⟨xs,ys,hq1,hq2,hl⟩:=hg;obtain ⟨h1,h2,⟨u0,v0,h3⟩,h4,h5⟩:=st;obtain ⟨its1,rv1,p1,hz1⟩:=I.seqG hq1;obtain ⟨its2,rv2,p2,hz2⟩:=I.seqG hq2;have l1:=rv1.length;have l2:=rv2.length;refine Zof (I.ok.hd hc) Dd h1 h2 h3 h4 h5 p1 p2 ?_ fun h' k=>⟨rfl,I.turneds (t':=s.toks) (ch:=[z,TO,i1,i2]) (fun c o hc e=>by
        simp only [Aj,BO,or_false,not_or] at hc;exact k c o hc.1 hc.2.1 hc.2.2.1 hc.2.2.2 e) (fun c hc=>hf c (by
        simp only [Aj,BO,or_false] at hc ⊢;rcases hc with h | h | h | h<;>simp [h]))⟩
    rcases hl with hl|hl;exact .inl (by simp;omega);exact .inr (by simp;omega)
  self:=fun _ _ _ _ _ st h=>LB st.1 h
abbrev zI(T:Bool)(t:Addr):Obj:={cls:=.type (cond T "tuple_iterator" "list_iterator"),data:=.fields #[.ref t,.int 0 0]}
theorem gIt.mk{l:Addr}(e:h.get? it=ak (zI T l)):gIt T h it l 0:=by cases T<;>exact⟨_,e,rfl,rfl⟩
abbrev zJ2(T1 T2:Bool)(h:Bg)(a b:Addr):Bg:=(h.push (zI T1 a)).push (zI T2 b)
abbrev zJ4(T1 T2:Bool)(h:Bg)(a b:Addr):Bg:=((zJ2 T1 T2 h a b).push {cls:=.type "tuple",data:=.seq #[.ref h.objs.size,.ref (h.push (zI T1 a)).objs.size]}).push {cls:=.type "tuple",data:=.seq #[.none,.none]}
abbrev zJ5(T1 T2:Bool)(h:Bg)(a b:Addr):Bg:=(zJ4 T1 T2 h a b).push {cls:=.type "zip",data:=.fields #[.none,.bool ar,.bool ar,.ref (zJ2 T1 T2 h a b).objs.size,.ref ((zJ2 T1 T2 h a b).push {cls:=.type "tuple",data:=.seq #[.ref h.objs.size,.ref (h.push (zI T1 a)).objs.size]}).objs.size]}
theorem Xaj{t:Addr}(ht:gSq T s.heap t items)(hQ:Q (.ref s.heap.objs.size) {s with heap:=s.heap.push (zI T t)}):Ak (Aw prog w) A (HV (.ref t)) Q E s:=by cases T;exact E3 ht hQ;exact K8 ht hQ
theorem Zty(a b:Addr)(xs ys:Array Value):Meets (D6.«zip.__new__» ⟨[.type "zip",.ref a,.ref b],[]⟩) (fun _ R s=>gSq T1 s.heap a xs/\gSq T2 s.heap b ys/\R (.ok (.ret (.ref (zJ4 T1 T2 s.heap a b).objs.size))) {s with heap:=zJ5 T1 T2 s.heap a b}):=.of_wp fun prog w A R s h=>by
 obtain⟨hp,g,d,tk,os⟩:=s;obtain⟨hl1,hl2,h⟩:=h;have hsub:=sub_zip;have hL1:gSq T1 (Le ⟨hp,g,d,tk,os⟩) a xs:=hl1;have hL2:gSq T2 (Le ⟨hp.push (zI T1 a),g,d,tk,os⟩) b ys:=by cases T2;exact Mp hl2 _;exact L5 hl2 _
 wp_walk using Xaj hL1,Xaj hL2
 exact⟨_,rfl,h⟩
theorem Xcm(hl1:gSq T1 s.heap l1 xs)(hl2:gSq T2 s.heap l2 ys)(h:∀h',Fb h' (s.heap.objs.size+4) (s.heap.objs.size+2) (s.heap.objs.size+3) .none->CM h' (s.heap.objs.size+2) (.ref s.heap.objs.size) (.ref (s.heap.objs.size+1))->CM h' (s.heap.objs.size+3) .none .none->gIt T1 h' s.heap.objs.size l1 0->gIt T2 h' (s.heap.objs.size+1) l2 0->(∀c o,s.heap.get? c=ak o->h'.get? c=ak o)->Q (.ref (s.heap.objs.size+4)) {s with heap:=h'}):Ak (Aw prog w) A (call (.type "zip") [.ref l1,.ref l2]) Q E s:=by
  refine callType_new F.called_zip (by decide) (F.typeCall_zip_2 _ _) (F.newCall_zip_2 _ _) (fun obj=>F.args_object_init_3 obj _ _) F.entry_zip_new (Zty l1 l2 xs ys) ⟨hl1,hl2,?_⟩;have z1:(s.heap.push (zI T1 l1)).objs.size=s.heap.objs.size+1:=EI ..;have z2:(zJ2 T1 T2 s.heap l1 l2).objs.size=s.heap.objs.size+2:=by rw[EI,z1]
  have z3:((zJ2 T1 T2 s.heap l1 l2).push {cls:=.type "tuple",data:=.seq #[.ref s.heap.objs.size,.ref (s.heap.push (zI T1 l1)).objs.size]}).objs.size=s.heap.objs.size+3:=by rw[EI,z2]
  have z4:(zJ4 T1 T2 s.heap l1 l2).objs.size=s.heap.objs.size+4:=by rw[EI,z3]
  have g5:(zJ5 T1 T2 s.heap l1 l2).get? (zJ4 T1 T2 s.heap l1 l2).objs.size=ak _:=Au _ rfl;have g4:(zJ5 T1 T2 s.heap l1 l2).get? ((zJ2 T1 T2 s.heap l1 l2).push {cls:=.type "tuple",data:=.seq #[.ref s.heap.objs.size,.ref (s.heap.push (zI T1 l1)).objs.size]}).objs.size=ak _:=Ae _ (Au _ rfl);have g3:(zJ5 T1 T2 s.heap l1 l2).get? (zJ2 T1 T2 s.heap l1 l2).objs.size=ak _:=Ae _ (Ae _ (Au _ rfl));have g2:(zJ5 T1 T2 s.heap l1 l2).get? (s.heap.push (zI T1 l1)).objs.size=ak _:=Ae _ (Ae _ (Ae _ (Au _ rfl)));have g1:(zJ5 T1 T2 s.heap l1 l2).get? s.heap.objs.size=ak _:=Ae _ (Ae _ (Ae _ (Ae _ (Au _ rfl))));show _/\_;rw[z2,z3,z4]at g5;rw[z1,z2]at g3;rw[z3]at g4;rw[z1]at g2;rw[z4];exact⟨⟨_,g5,rfl⟩,h _ g5 g3 g4 (gIt.mk g1) (gIt.mk g2) fun c o x=>Ae _ (Ae _ (Ae _ (Ae _ (Ae _ x))))⟩
def Zya(T1 T2:Bool)(K:AN)(ta tb:TE):TI:=fun σ H R=>Zbk ta (Zbk tb Zoq) σ H fun vs H1=>∃p q,vs=[.ref p,.ref q]/\(∃xs,SqG T1 K H1 p xs)/\(∃ys,SqG T2 K H1 q ys)/\R (ItzG T1 T2 K p q) H1
theorem SqG.lt{p:Addr}{xs:List V}(I:Inv X pins σ H s)(h:SqG T X.K H p xs):p<s.heap.objs.size:=by obtain⟨its,_,q,_⟩:=I.seqG h;cases T;obtain⟨o,e,_⟩:=q;exact AI e;obtain⟨o,e,_⟩:=q;exact AI e
variable{a b:Expr}{tpos:Pos}
theorem Zqc(hg:Gl X "zip")(hm:X.mg "zip"=ao)(ha:PE X a ta)(hb:PE X b tb)(hs:Ad [a,b] X.env=(ar,A6 a X.env)::Ad [b] X.env)(hs2:Ad [b] X.env=(ar,A6 b X.env)::Ad [] X.env)(hs3:Ad ([]:List Expr) X.env=[]:=by rfl) :
  PI X (.Tuple elts x1 tpos) (.Call (.Name "zip" p) [a,b] [] pos) (Zya T1 T2 X.K ta tb):=by
 intro pins s σ H R I h;refine Call_ (Zdh I hg hm boot_zip (BC (thn (Zdt ha (Zdt hb Ziz hs2) hs pos pins s σ H _ I h) fun us s1 ⟨vs,H1,I1,r1,q1⟩=>?_) (by rw[hs,hs2]) (by rw[hs2,hs3];rfl)));obtain⟨l1,l2,rfl,⟨xs,hq1⟩,⟨ys,hq2⟩,q⟩:=q1;obtain⟨u,v,rfl,rx,ry⟩:=vals2 r1;cases rx;cases ry;obtain⟨its1,rv1,p1,hz1⟩:=I1.seqG hq1;obtain⟨its2,rv2,p2,hz2⟩:=I1.seqG hq2;have lt1:@LT.lt Nat _ l1 s1.heap.objs.size:=SqG.lt I1 hq1;have lt2:@LT.lt Nat _ l2 s1.heap.objs.size:=SqG.lt I1 hq2;refine Xcm p1 p2 fun h' z1 z2 z3 z4 z5 z7=>?_;refine LB z1 ?_;have I2:Inv X pins σ H1 {s1 with heap:=h'}:=I1.kept (t':=s1.toks) z7;refine⟨_,[s1.heap.objs.size+4,s1.heap.objs.size+2,s1.heap.objs.size+3,s1.heap.objs.size,s1.heap.objs.size+1],_,_,H1,rfl,I2,Xae (a:=l1) (b:=l2) ?_,⟨z1,z2,⟨_,_,z3⟩,z4,z5⟩,fun c hc=>?_,q⟩;constructor<;>first|exact AY (by omega)|exact ES (by omega)
 have hc':s1.heap.objs.size<=c:=by simp only[Aj,BO,or_false]at hc;rcases hc with rfl|rfl|rfl|rfl|rfl<;>first|exact As _|exact DC _ _
 exact I1.fpOk hc' (I1.hok.fresh hc')
variable{a b:Addr}
theorem Zxq{ds es:List D}{vs ws:List V}{Hc:Hp}(r:RpA K C Hc ds vs [])(r':RpA K C Hc es ws [])(h:∀H2,Xf Hc H2->SqG T1 K H2 a vs/\SqG T2 K H2 b ws):Goes K C (ItzG T1 T2 K a b) (A8 (fun x y=>.tup [x,y]) ds es) Hc:=fun H2 g=>by
 obtain⟨qa,qb⟩:=h H2 g;have hl:=r.len;have hl':=r'.len;have he:(A8 (fun x y=>D.tup [x,y]) ds es).length=min ds.length es.length:=by simp
 refine⟨fun i hi=>⟨vs,ws,vs[i]'(by omega),ws[i]'(by omega),qa,qb,Ag (by omega),Ag (by omega)⟩,fun i hi=>⟨vs,ws,qa,qb,by omega⟩,fun i x H3 hi y=>?_⟩;obtain⟨p,rfl,hp,yy⟩:=y;obtain⟨x,y,hx,hy,rfl⟩:=yy vs ws qa qb;have hi1:i<ds.length:=by omega
 have hi2:i<es.length:=by omega
 obtain⟨x',e1,q2⟩:=r.at1 (Ag hi1);obtain⟨y',e2,p2⟩:=r'.at1 (Ag hi2);obtain rfl:=AE (hx.symm.trans e1);obtain rfl:=AE (hy.symm.trans e2);have sm:=sameNew hp (.tup [x,y]);refine⟨sm,.tup [ds[i],es[i]],[],by rw[Ir,Ag hi1,Ag hi2],⟨p,[x,y],rfl,Zw,RpA.two (A:=[]) (B:=[]) ((q2.same g).same sm) ((p2.same g).same sm)⟩,fun _ z=>nomatch z⟩
def Xqn:Bool->D->Option (List D)
 |true,.tup xs=>ak xs
 |false,.lst xs=>ak xs
 |_,_=>ao
theorem Rp.seqG{xs:List D}(e:Xqn T d=ak xs)(hf:Dl.Zr xs=aq)(r:Rp K C H d v B):∃a vs,v=.ref a/\RpA K C H xs vs []/\(∀c∈B,∃o,H c=ak o/\IsM o)/\∀H2,(∀o,H a=ak o->a∈B\/¬IsM o->H2 a=ak o)->SqG T K H2 a vs:=by
 cases T;cases d with
 |lst ys =>cases e;obtain⟨a,vs,B',rfl,h1,h2,rfl⟩:=r;have b:=h2.flat hf;subst b;exact⟨a,vs,rfl,h2,fun c hc=>by rw[Ap.mp hc];exact⟨_,h1,.lst⟩,fun H2 k=>SqL.of (k _ h1 (.inl (.head _)))⟩
 |_=>cases e
 cases d with
 |tup ys =>cases e;obtain⟨a,vs,rfl,h1,h2⟩:=r;have b:=h2.flat hf;subst b;exact⟨a,vs,rfl,h2,(fun _ z=>nomatch z),fun H2 k=>SqT.of (k _ h1 (.inr fun z=>by cases z))⟩
 |_=>cases e
variable{E:XK}
theorem Zjl{t u:TE}{f f':FE}{j:FI}(hj:∀ρ,j ρ=(f ρ).bind fun x=>(f' ρ).bind fun y=>match Xqn T1 x,Xqn T2 y with
    |some xs,ak ys=>if xs.length<=Dl.lim/\Dl.Zr xs=aq/\Dl.Zr ys=aq then .ok (A8 (fun x y=>.tup [x,y]) xs ys) else .bad
    | _,_=>.bad)(h:EOk K C E Γ Δ m1 S1 t f)(h':EOk K C E Γ Δ m2 S2 u f'):IOk K C E Γ Δ (S1++S2) (Zya T1 T2 K t u) j:=fun H0 Hb H σ ρ A Rr I p=>by
  rw [hj] at p;exact h H0 Hb H σ ρ A _ I (p.bind.imp (fun d q v H1 g1 r=>h' H0 Hb H1 σ ρ A _ (I.mono g1) (q.bind.imp (fun e q w H2 g2 r2=>by
    obtain⟨B,r,r',_⟩:=r;obtain⟨B2,r2,r2',_⟩:=r2;split at q;rename_i xs ys ex ey;split at q;rename_i hl;obtain⟨a,vs,rfl,e3,m1,e2⟩:=Rp.seqG ex hl.2.1 r;obtain⟨b,ws,rfl,f3,m2,f2⟩:=Rp.seqG ey hl.2.2 r2;refine⟨a,b,rfl,⟨vs,e2 H2 fun o z _=>g2 _ _ z⟩,⟨ws,f2 H2 fun o z _=>z⟩,q _ H2 (B++B2) (g1.trans g2) (fun c hc=>?_) (by rw[Cy];exact AD (Fi _ _) hl.1) fun Hc h1=>Zxq ((e3.same g2).agree h1 fun _ z=>nomatch z) (f3.agree h1 fun _ z=>nomatch z) fun H3 g3=>⟨e2 H3 fun o z hm=>g3 _ _ (hm.elim (fun hb=>(h1.1 a (Aq _ hb)).trans (g2 _ _ z)) fun nm=>h1.2 a _ (g2 _ _ z) nm),f2 H3 fun o z hm=>g3 _ _ (hm.elim (fun hb=>(h1.1 b (Ah _ hb)).trans z) fun nm=>h1.2 b _ z nm)⟩⟩;rcases Al.mp hc with z|z;obtain⟨o,ho,hm⟩:=m1 c z;exact⟨⟨o,g2 _ _ ho,hm⟩,(r' c z).imp id (·.left)⟩;exact⟨m2 c z,(r2' c z).imp (fun q=>g1.free q) (·.right)⟩;exact q.elim
    · exact q.elim) fun c x q H' g'=>q H' (g1.trans g'))) fun c x q H' g'=>q H' g')
variable{a b:Expr}
theorem Xpk(hg:Gl X "zip")(hm:X.mg "zip"=ao)(ha:JE X C E Γ Δ m1 S1 a ta fa)(hb:JE X C E Γ Δ m2 S2 b tb fb)(hs:Ad [a,b] X.env=(ar,A6 a X.env)::Ad [b] X.env)(hs2:Ad [b] X.env=(ar,A6 b X.env)::Ad [] X.env):JI X C E Γ Δ (S1++S2) (.Tuple elts x1 tpos) (.Call (.Name "zip" p) [a,b] [] pos) (Zya aq aq X.K ta tb) (Dl.Zth fa fb):=⟨⟨Zqc hg hm ha.q.out hb.q.out hs hs2⟩,Zjl (fun ρ=>by
  show R.bind _ _=R.bind _ _;congr 1;funext x;congr 1;funext y;cases x<;>first | rfl | (cases y<;>rfl)) ha.o hb.o⟩
theorem Xnd(hg:Gl X "zip")(hm:X.mg "zip"=ao)(ha:JE X C E Γ Δ m1 S1 a ta fa)(hb:JE X C E Γ Δ m2 S2 b tb fb)(hs:Ad [a,b] X.env=(ar,A6 a X.env)::Ad [b] X.env)(hs2:Ad [b] X.env=(ar,A6 b X.env)::Ad [] X.env):JI X C E Γ Δ (S1++S2) (.Tuple elts x1 tpos) (.Call (.Name "zip" p) [a,b] [] pos) (Zya aq ar X.K ta tb) (Dl.Zxn fa fb):=⟨⟨Zqc hg hm ha.q.out hb.q.out hs hs2⟩,Zjl (fun ρ=>by
  show R.bind _ _=R.bind _ _;congr 1;funext x;congr 1;funext y;cases x<;>first | rfl | (cases y<;>rfl)) ha.o hb.o⟩
theorem Zxu(hg:Gl X "zip")(hm:X.mg "zip"=ao)(ha:JE X C E Γ Δ m1 S1 a ta fa)(hb:JE X C E Γ Δ m2 S2 b tb fb)(hs:Ad [a,b] X.env=(ar,A6 a X.env)::Ad [b] X.env)(hs2:Ad [b] X.env=(ar,A6 b X.env)::Ad [] X.env):JI X C E Γ Δ (S1++S2) (.Tuple elts x1 tpos) (.Call (.Name "zip" p) [a,b] [] pos) (Zya ar ar X.K ta tb) (Dl.Zhb fa fb):=⟨⟨Zqc hg hm ha.q.out hb.q.out hs hs2⟩,Zjl (fun ρ=>by
  show R.bind _ _=R.bind _ _;congr 1;funext x;congr 1;funext y;cases x<;>first | rfl | (cases y<;>rfl)) ha.o hb.o⟩
end L2
namespace L2
open PySem PyProof.Rows
def Zqe(r:AL->AL->Bool)(d0:AL)(st st':C4):Prop:=(AF st').Perm (AF st)/\D4 st'=ao/\Da st'=#[(0,(AF st).size,0)]/\Zok r (gx d0 0 (AF st')) (AF st).size
variable{d0:AL}{r:AL->AL->Bool}{st st':C4}{κ:Gn}
theorem SC.oneN(hp:Da st=#[])(c:SC κ 0 st st')(u:Zok r (gx d0 0 (AF st')) (AF st).size):Zqe r d0 st (setPending st' ((Da st').push (0,(AF st).size,0))):=⟨c.m,c.f,by show(Da st').push _=_;rw[c.p,hp];rfl,u⟩
variable{a:Array AL}{n:Nat}
theorem upN(e:a.size=n)(h:Zok r (gx d0 0 a) n):Up r a.toList:=by
 refine List.pairwise_iff_getElem.mpr fun i j hi hj hij=>?_;have g:∀k,(hk:k<a.toList.length)->gx d0 0 a k=a.toList[k]:=fun k hk=>by unfold gx;rw[HP,<- DO,Ag hk];rfl
 rw[<- g i hi,<- g j hj];exact h i j (HX hij) (by rw[<- e,<- BM];exact hj)
variable{A:Ba}{E:Value->Af->Prop}{P:AL->Prop}{Q:Unit->C4->Prop}{prog:AR}{s:Af}{w:Bk}
theorem Zwe(d0:AL)(K:Ask prog w A s κ P r)(hP:∀x∈(AF st).toList,P x)(hk:CU st=κ)(hf:D4 st=ao)(hp:Da st=#[])(h2:1<=(AF st).size)(h64:(AF st).size<64)(h:∀st',(AF st').toList.Perm (AF st).toList->D4 st'=ao->Up r (AF st').toList->Q () st'):wpS (Aw prog w) A E s sortRuns' Q st:=by
 rw[sortRuns'_eq];refine Be (HK ?_);dsimp only;obtain⟨n,hn⟩:∃n,n=(AF st).size:=⟨_,rfl⟩;have hmr:minRun' n n 0=n:=by
  obtain⟨f,hf⟩:∃f,n=f+1:=⟨n-1,by omega⟩;have z:minRun' (f+1) n 0=n:=by rw[minRun'_succ,aa (by omega)];rfl
  rwa [<- hf]at z
 rw[<- hn]at h2 h64 ⊢;rw[hmr];refine Be (Gc (ED (I:=fun x c st'=>(x=0/\c=(ao,0)/\st'=st)\/(1<=x/\c=(ao,n)/\Zqe r d0 st st')) (Q:=fun c st'=>c=(ao,n)/\Zqe r d0 st st') ?step ?fin (.inl ⟨rfl,rfl,rfl⟩)) ?post)
 case fin =>
  rintro c st' (⟨hx,_,_⟩|⟨_,hc,hD⟩)
  ·omega
  ·exact⟨hc,hD⟩
 case step =>
  rintro x c st' _ hx (⟨rfl,rfl,rfl⟩|⟨hx1,rfl,hD⟩)
  ·dsimp only;rw[ae (by omega)];simp only[Il,HW,HP];refine Be (Xas (lo:=0) (nrem:=n) d0 K hP hk hf (by omega) h2 fun m st2 c2 m1 m2 s2=>?_);dsimp only;by_cases hlt:m<n
   ·rw[aa hlt];refine Be (Mf (Fv ⟨rfl,Be (Xns (lo:=0) (nrem:=n) d0 K hP (by omega) c2 (As n) m2 h2 s2 fun st3 c3 s3=>?_)⟩));simp only[Lo,AT,if_false];refine Be (HK ?_);rw[show(Da st3).back?=ao by rw[c3.p,hp];rfl];dsimp only;refine Be (K7 (BR (.inr ⟨by omega,rfl,?_⟩)));have:=c3.oneN hp (hn▸s3);rw[<- hn]at this;exact this
   ·rw[ae hlt];have hm:m=n:=by omega
    subst hm;refine Be (HK ?_);rw[show(Da st2).back?=ao by rw[c2.p,hp];rfl];dsimp only;refine Be (K7 (BR (.inr ⟨by omega,rfl,?_⟩)));have:=c2.oneN hp (hn▸s2);rw[<- hn]at this;exact this
  ·dsimp only;rw[aa (As _)];exact BR ⟨rfl,hD⟩
 case post =>
  rintro c st' ⟨rfl,h3,h4,h5,h6⟩;dsimp only;refine Be (Gc (ED (I:=fun _ c st''=>st''=st'/\c=(ao,())) (Q:=fun c st''=>st''=st'/\c=(ao,())) ?_ (fun _ _ hh=>hh) ⟨rfl,rfl⟩) ?_)
  ·rintro x c st'' _ _ ⟨rfl,rfl⟩;refine Be (HK ?_);rw[aa (by rw[h5];exact As 1)];exact BR ⟨rfl,rfl⟩
  ·rintro c st'' ⟨rfl,rfl⟩;exact BR (h _ (Array.perm_iff_toList_perm.mp h3) h4 (upN h3.size_eq h6))
end L2
namespace L2
open PySem PySem.SeqAt PyProof.Rows
open Dl (ilt Zby)
variable{A:Ba}{E:Value->Af->Prop}{P:Fin->Af->Prop}{a:Addr}{n:Nat}{prog:AR}{s:Af}{vs:List Value}{w:Bk}
theorem Xez(ho:s.heap.get? a=ak (Bj "list" vs.toArray n))(hI:∀s':Af,(∀b o,b≠a->s.heap.get? b=ak o->s'.heap.get? b=ak o)->∀v∈vs,Xhk s'.heap v/\Zfm s'.heap v=Zfm s.heap v)(hm:vs.length<=Ar)(hu:A.units+8<BE)(h64:vs.length<=63)(h:∀out:Array Value,out.toList.Perm vs->(out.toList.map (Zfm s.heap)).Pairwise (fun c d=>Zby d c=ar)->P (.done (.ret .none)) {s with heap:=sortedHeap s.heap a vs out}):Ak (Aw prog w) A (D6.«list.sort» ⟨[.ref a],[]⟩) P E s:=by
  have hlt:=AI ho;obtain⟨e0,h1⟩:∃e0,(s.heap.update a (Bc fun _=>#[])).get? a=ak (Bj "list" #[] e0):=⟨_,HC ho (fun _=>#[])⟩;have h6:(((s.heap.update a (Bc fun _=>#[])).push (Bj "tuple" vs.toArray 0)).push (Bj "list" #[] 0)).get? a=ak (Bj "list" #[] e0):=by rw[Ko _ _ _ (AY (by rw[GP,GM];exact De hlt)),Ko _ _ _ (AY (by rw[GM];exact hlt))];exact h1
  have keep:∀b o,b≠a->s.heap.get? b=ak o->(((s.heap.update a (Bc fun _=>#[])).push (Bj "tuple" vs.toArray 0)).push (Bj "list" #[] 0)).get? b=ak o:=fun b o hb q=>by refine Ae _ (Ae _ ?_);rw[IT _ _ _ _ hb];exact q
  have hI6:=hI {s with heap:=((s.heap.update a (Bc fun _=>#[])).push (Bj "tuple" vs.toArray 0)).push (Bj "list" #[] 0)} keep;rw [list_sort_plain];refine Aa (listItems_at ho rfl (Aa (Mt ho rfl (Aa (seqEpoch_at h1 rfl (Aa (HQ (Aa (IE (Bp ?_))) (by simpa using hm)))))
    (by simpa using hm))))
  have fin:∀(st':C4),(AF st').toList.Perm (vs.map fun v=>(v,v))->D4 st'=ao->((AF st').toList.map fun x=>Zfm s.heap x.1).Pairwise (fun c d=>Zby d c=ar)->
      Ak (Aw prog w) A (do
        let touched:=(<- seqEpoch a) != e0
        GB (.ref a) fun _=>(AF st').map (·.2)
        if let ak e:=D4 st' then rule "list.sort.comparison-raised";throw e
        if touched then rule "list.sort.modified";raiseError "ValueError" "list modified during sort"
        ret .none) P E {s with heap:=((s.heap.update a (Bc fun _=>#[])).push (Bj "tuple" vs.toArray 0)).push (Bj "list" #[] 0)}:=fun st' hp hf hs=>by
    have same:∀x∈(AF st').toList,x.1=x.2:=fun x hx=>by obtain⟨v,_,rfl⟩:=Az.mp (hp.mem_iff.mp hx);rfl
    refine Aa (seqEpoch_at h6 rfl (Aa (Mt h6 rfl ?_ (hsz2:=by
      refine AD (LJ (Array.size_map ..)) ?_;rw [<- BM,hp.length_eq,Ai];omega))))
    rw[hf];simp only[bne_self_eq_false,AT,if_false];refine Ac (h _ ?_ ?_);rw[Kr];have:=hp.map (·.2);rw[AV,show((fun x:AL=>x.2)∘fun v:Value=>(v,v))=id from rfl,Fy]at this;exact this;rw[Kr,AV];rw[BS (g:=fun x=>Zfm s.heap x.1) (fun x hx=>by show Zfm s.heap x.2=_;rw[same x hx])];exact hs
  by_cases h2:vs.toArray.size<2;simp only[aa h2];refine Aa (Ac ?_);rw[StateT.run_pure];refine Aa (Ac ?_);refine fin (Lw general' (vs.toArray.zip vs.toArray) #[] 7 ao) (by show(vs.toArray.zip vs.toArray).toList.Perm _;rw[Zbs]) rfl ?_;show((vs.toArray.zip vs.toArray).toList.map fun x=>Zfm s.heap x.1).Pairwise _;rw[Zbs]
  match vs,h2 with
  |[],_=>exact Ff
  |[v],_=>exact HF _ _
  |_::_::_,h2=>exact af h2 (by simp)
  simp only[ae h2];have h2':2<=vs.length:=by rw[Ay]at h2;omega
  refine Aa (PySem.W.kas_kind h2' (fun v hv=>Xes (hI6 v hv).1) (by decide) (by decide) ?_);have hne:∃x,x∈vs:=⟨vs[0],Ca (by omega)⟩;obtain⟨v0,hv0⟩:=hne;refine Aa (BF (Zwe (st:=Lw oneType' (vs.toArray.zip vs.toArray) #[] 7 ao) (Q:=fun _ st'=>(AF st').toList.Perm (vs.map fun v=>(v,v))/\D4 st'=ao/\((AF st').toList.map fun x=>Zfm s.heap x.1).Pairwise (fun c d=>Zby d c=ar)) (v0,v0) (Xnr hu) ?_ rfl rfl rfl ?_ ?_ fun st' q1 q2 q3=>⟨?_,q2,?_⟩) ?_ fun _ _ e=>e);intro x hx;have hx:x∈(vs.toArray.zip vs.toArray).toList:=hx;rw[Zbs]at hx;obtain⟨v,hv,rfl⟩:=Az.mp hx;exact(hI6 v hv).1;show 1<=(vs.toArray.zip vs.toArray).size;rw[<- BM,Zbs,Ai];omega;show(vs.toArray.zip vs.toArray).size<64;rw[<- BM,Zbs,Ai];omega;have q1:(AF st').toList.Perm (vs.toArray.zip vs.toArray).toList:=q1;rw[Zbs]at q1;exact q1;have q1:(AF st').toList.Perm (vs.toArray.zip vs.toArray).toList:=q1;rw[Zbs]at q1;refine EF.mpr (D9 (fun {x y} hx hy z=>?_) q3);obtain⟨v,hv,rfl⟩:=Az.mp (q1.mem_iff.mp hx);obtain⟨v',hv',rfl⟩:=Az.mp (q1.mem_iff.mp hy);have e1:=(hI6 v hv).2;have e2:=(hI6 v' hv').2;show Zby (Zfm s.heap v') (Zfm s.heap v)=ar;rw[<- e1,<- e2];exact z;rintro⟨⟨⟩,st'⟩ s' ⟨rfl,q1,q2,q3⟩;exact fin st' q1 q2 q3
variable{Q:Value->Af->Prop}
theorem Ztj{l:Addr}(hl:s.heap.IsList l vs.toArray)(hI:∀v∈vs,Xhk s.heap v)(hm:vs.length<=Ar)(hu:A.units+12<BE)(h64:vs.length<=63)(h:∀out:Array Value,out.toList.Perm vs->(out.toList.map (Zfm s.heap)).Pairwise (fun c d=>Zby d c=ar)->Q (.ref (s.heap.objs.size+1)) {s with heap:=sortedAll s.heap vs out}):Ak (Aw prog w) A (call (.builtin "sorted") [.ref l]) Q E s:=by
 have hz:((s.heap.push (Bj "list" #[] 0)).update s.heap.objs.size (Bc (·++vs.toArray))).objs.size=s.heap.objs.size+1:=by rw[GM,GP]
 have hL:=Au ((s.heap.push (Bj "list" #[] 0)).update s.heap.objs.size (Bc (·++vs.toArray))) (o:=Bj "list" vs.toArray 0) rfl;rw[hz]at hL;have keep:∀b o,s.heap.get? b=ak o->(((s.heap.push (Bj "list" #[] 0)).update s.heap.objs.size (Bc (·++vs.toArray))).push (Bj "list" vs.toArray 0)).get? b=ak o:=fun b o q=>by refine Ae _ ?_;rw[IT _ _ _ _ (AY (AI q))];exact Ae _ q
 refine Calls.call_function_entry kind_sorted plain_sorted entry_sorted (args_sorted1 _) ?_;unfold D6.«sorted»;refine Aa (m:=checkCount "sorted" 1 1 _) (Ac (Aa (collect_list hl (Aa (IE ?_ (by simpa using hm))) hm)));simp only[hz];have hI0:∀v∈vs,Xhk (((s.heap.push (Bj "list" #[] 0)).update s.heap.objs.size (Bc (·++vs.toArray))).push (Bj "list" vs.toArray 0)) v/\Zfm (((s.heap.push (Bj "list" #[] 0)).update s.heap.objs.size (Bc (·++vs.toArray))).push (Bj "list" vs.toArray 0)) v=Zfm s.heap v:=fun v hv=>(hI v hv).keeps keep;have old:∀b o,s.heap.get? b=ak o->b≠s.heap.objs.size+1:=fun b o q=>AY (De (AI q));refine Aa (Bp (Bl slot_list_sort ⟨_,hL,rfl⟩ entry_list_sort (Xez hL (fun s' k v hv=>?_) hm (by show A.units+1+1+8<BE;omega) h64 fun out q1 q2=>⟨_,rfl,?_⟩) (args_list_sort _)));have:=(hI v hv).keeps (h':=s'.heap) fun b o q=>k b o (old b o q) (keep b o q);exact⟨this.1,this.2.trans (hI0 v hv).2.symm⟩;refine Ac ⟨_,rfl,h out q1 ?_⟩;rw[BS (g:=Zfm (((s.heap.push (Bj "list" #[] 0)).update s.heap.objs.size (Bc (·++vs.toArray))).push (Bj "list" vs.toArray 0))) (fun v hv=>((hI0 v (q1.mem_iff.mp hv)).2).symm)];exact q2
end L2
namespace L2
open PySem PySem.Spec PyProof.Rows
open Dl (D R FE FT FA FO FS FI FB Fl Zby)
def Zla(K:AN):List V->Hp->VK->Prop:=fun vs H Q=>∃(a:Addr) (L:List (Addr×List Int)),vs=[.ref a]/\SqL K H a (L.map fun x=>V.ref x.1)/\(∀x∈L,Dn K H (.ref x.1) (lP x.2)/\∀p∈x.2,True)/\L.length<=63/\
 ∀(L':List (Addr×List Int)) (r:Addr),L'.Perm L->(L'.map (·.2)).Pairwise (fun x y=>Zby y x=ar)->H r=ao->Q (.ref r) (upd H r (.lst (L'.map fun x=>V.ref x.1)))
variable{X:Cx}
theorem Zov(hu:X.A.units+64<BE):Zae X (.builtin "sorted") (Zla X.K):=by
 intro pins s σ H xs us Q I r h;obtain⟨a,L,rfl,hq,hL,hl,q⟩:=h;obtain⟨u,rfl,rx⟩:=vals1 r;cases rx;obtain⟨its,rv,p,hz⟩:=I.list hq;have rv':Yl ((L.map (·.1)).map V.ref) its:=by rw[AV];exact rv
 have ei:=Zne rv';have rd:∀x∈L,∃as,GI s.heap (.ref x.1) (lP x.2) as:=fun x hx=>(hL x hx).1.reads I rfl;have hI:∀v∈its,Xhk s.heap v:=fun v hv=>by rw[ei,AV]at hv;obtain⟨x,hx,rfl⟩:=Az.mp hv;obtain⟨as,ra⟩:=rd x hx;exact⟨_,as,ra,(hL x hx).2⟩
 have hlen:its.length<=Ar:=by rw[ei,Ai,Ai,E5];omega
 refine Ztj p.isList hI hlen (by omega) (by rw[ei,Ai,Ai];exact hl) fun out q1 q2=>?_;obtain⟨e,he⟩:=sortedAll_at s.heap its out;have hn:H (s.heap.objs.size+1)=none:=I.hok.fresh (G3 _);have eo:out.toList=(out.toList.map adr).map AQ:=by
  rw[AV]
  conv=>lhs;rw[<- Fy out.toList]
  refine BS fun v hv=>?_;have:=q1.mem_iff.mp hv;rw[ei]at this;obtain⟨b,_,rfl⟩:=Az.mp this;rfl
 have pb:(out.toList.map adr).Perm (L.map (·.1)):=by have:=q1.map adr;rw[ei,AV,show(adr∘AQ)=id from rfl,Fy]at this;exact this
 have cut:∀x∈L,Zfm s.heap (.ref x.1)=x.2:=fun x hx=>by obtain⟨as,ra⟩:=rd x hx;exact Zhm ra
 have eL:L=(L.map (·.1)).map fun b=>(b,Zfm s.heap (.ref b)):=by
  rw[AV]
  conv=>lhs;rw[<- Fy L]
  refine BS fun x hx=>?_;show x=(x.1,Zfm s.heap (.ref x.1));rw[cut x hx]
 have pL:((out.toList.map adr).map fun b=>(b,Zfm s.heap (.ref b))).Perm L:=by
  conv=>rhs;rw[eL]
  exact pb.map _
 have hs:(((out.toList.map adr).map fun b=>(b,Zfm s.heap (.ref b))).map (·.2)).Pairwise (fun x y=>Zby y x=ar):=by rw[eo,AV]at q2;rw[AV];exact q2
 have hv:Yl ((((out.toList.map adr).map fun b=>(b,Zfm s.heap (.ref b))).map fun x=>V.ref x.1)) out.toList:=by rw[AV,eo];have:=Zhk (out.toList.map adr);rw[show(EY adr (EY AQ (EY adr out.toList)))=EY adr out.toList by rw[AV,show(adr∘AQ)=id from rfl,Fy]];exact this
 have hv2:=hv.length;have I2:=I.laid (t':=s.toks) (o:=.lst ((((out.toList.map adr).map fun b=>(b,Zfm s.heap (.ref b))).map fun x=>V.ref x.1))) (h':=sortedAll s.heap its out) (fun b o q=>sortedAll_old q) (G3 _) ⟨by rw[Ai,pL.length_eq];exact AD hl (by decide),out.toList,e,hv,by simpa[Bj] using he⟩;exact⟨.ref (s.heap.objs.size+1),_,I2,rfl,q _ _ pL hs hn⟩
variable{C:String->Addr}{E:XK}{K:AN}{S:List (Nat×Bool)}{fe:FE}{te:TE}{Γ Δ:List Nat}
theorem Ztu(he:EOk K C E Γ Δ 2 S te fe):EOk K C E Γ Δ 2 S (tCB (Zla K) (Zbk te Zoq)) (Dl.fA Dl.Zib (Dl.Zc fe Dl.Zt)):=fun H0 Hb H σ ρ A Q I p =>
  he H0 Hb H σ ρ A _ I (by
    have p':=Xd.bind (Xd.bind p);refine Xd.imp p' (fun d q v H1 g1 r=>?_) fun c x q H' g'=>q H' g';have q:Xd (Dl.oR (Dl.Zib [d])) (fun d=>∀v H',Xf H H'->Res K C 2 S H A d v H'->Q v H') (fun c x=>∀H',Xf H H'->EC C E c x H'):=q;obtain⟨z,e,q⟩:=Zbm q;obtain⟨B,r,r',_,nd⟩:=r;have nd:=nd rfl;show Zla K [v] H1 Q;cases d with
    |lst ds =>
      obtain⟨cs,h1,h2⟩:=A7.mp (show((Dl.Zfy ds).bind fun cs=>if cs.length<=63 then ak (D.lst ((Dl.Xn cs).map Dl.ilD)) else ao)=ak z from e);split at h2;rename_i hlen;cases h2;rw[Zmh h1]at r;obtain⟨a,xs,B',rfl,e2,e3,e4⟩:=r;subst e4;obtain⟨L,rfl,ec,eB,hL⟩:=RpA.ilsA e3;refine⟨a,L,rfl,SqL.of e2,fun x hx=>(Rp.il (hL x hx)).2,by rw[ec,Ai]at hlen;exact hlen,fun L' l pL hs hl=>?_⟩;have g2:=sameNew hl (.lst (L'.map fun x=>V.ref x.1));have es:Dl.Xn cs=L'.map (·.2):=Zlq (by rw[ec];exact pL.map _) hs;have q1:=RpA.pickI (L:=L') fun x hx=>hL x (pL.mem_iff.mp hx);have pB:(L'.map (·.1)).Perm B':=by rw[eB];exact pL.map _
      rw[es]at q;refine q _ _ (g1.trans g2) ⟨l::L'.map (·.1),⟨l,_,L'.map (·.1),rfl,Zw,q1.same g2,rfl⟩,fun b hb=>?_,(fun z=>nomatch z),fun _=>?_⟩;rcases Aj.mp hb with z|z;rw[z];exact .inl (g1.free hl);exact r' b (.tail _ (pB.mem_iff.mp z));refine AB.mpr ⟨fun h=>?_,pB.nodup_iff.mpr (AB.mp nd).2⟩;obtain⟨ys,w,_⟩:=q1.isl l h;rw[w]at hl;cases hl;cases h2
    | _=>cases e)
variable{e:Expr}{p pos:Pos}
theorem Xch(K:AN)(hu:X.A.units+64<BE)(hg:Gl X "sorted")(hm:X.mg "sorted"=ao)(he:JE X C E Γ Δ 2 S e te fe)(hse:Ad [e] X.env=(ar,A6 e X.env)::Ad [] X.env)(hpl:(BL pos (Ad ([]:List Expr) X.env)).any (·.1)=false:=by rfl)(hK:X.K=K:=by rfl) :
  JE X C E Γ Δ 2 S (.Call (.Name "sorted" p) [e] [] pos) (tCB (Zla K) (Zbk te Zoq)) (Dl.fA Dl.Zib (Dl.Zc fe Dl.Zt)):=by
 subst hK;exact⟨Zsv (Zov hu) hg hm LW (Zdv he.q Zre hse) (by decide) (by decide) hse hpl,Ztu he.o⟩
variable{m:Nat}{tg:Expr}
theorem Xik(K:AN)(h:JE X C E Γ Δ m S e te fe)(hK:X.K=K:=by rfl):JI X C E Γ Δ S tg e (Xap K te) (Dl.Zai fe):=by subst hK;exact Zar h
variable{T:List Addr}{c:Addr}
theorem Zeb{k:ClassData}(e:Gk K c=ak k)(h:T.contains c=ar):Gk (Ji T K) c=ak k:=by unfold Gk at e ⊢;rw[Yo h];exact e
theorem Zko{t:Value}(e:Fw K (.ref c)=ak t)(h:T.contains c=ar):Fw (Ji T K) (.ref c)=ak t:=by show((Ji T K).lookup c).map _=_;rw[Yo h];exact e
variable{b:Bool}{v:Value}
theorem Yx(e:Dq K (.ref c) v=ak b)(h:T.contains c=ar):Dq (Ji T K) (.ref c) v=ak b:=by show(Gk (Ji T K) c).bind _=_;obtain⟨k,e1,e2⟩:=A7.mp (show(Gk K c).bind _=_ from e);rw[Zeb e1 h];exact e2
end L2
namespace Dl
open PySem
def Zqn:FS:=
  (Xu (sIf (cOr (cE (f2 gLt (fV 1) (fC (.int 0)))) (cOr (cE (f2 gGt (fV 2) (fA Zbp (Zc (fV 0) Zt)))) (cE (f2 gGt (fV 1) (fV 2))))) Zjh sNx)
    (Zcb (fA Xir (Zc (fSl gSl (fV 0) (Zbu (fV 1)) (Zbu (fV 2))) Zt))))
def Zcw(ds:List D):R D:=(run 3 Zqn ds).calm
def Xgr:FS:=
 (Zcb (f1 Zzf (fV 0)))
def Zcs(ds:List D):R D:=(run 1 Xgr ds).calm
def Zfe:FS:=
 (Xma 1 Ztm (f2 Jn (fV 2) (fC (.int 1))))
def Xhg:FS:=
  (Xu (Yq 1 (fC (.int 1)))
    (Xu (Zkz (Zai (fV 0)) (Zv 2) Zfe)
    (Zcb (fV 1))))
def Zfa(ds:List D):R D:=(run 3 Xhg ds).calm
def Zep:FS:=
 (Yq 2 (f2 Zfb (f2 Jn (f2 Jn (f2 Zag (fV 2) (fC (.int 48271))) (f2 Zfb (fV 3) (fC (.int 1000003)))) (fC (.int 1))) (fC (.int 2147483647))))
def Zod:FS:=
  (Xu (sIf (cE (f2 gLt (fV 1) (fA Zbp (Zc (fV 0) Zt)))) (Zcb (f1 Jd (f2 gIx (fV 0) (fV 1)))) sNx)
    (Xu (Yq 2 (fC (.int 5)))
    (Xu (Zkz (Zai (fSl gSl (fV 0) Zdd (Zbu (fC (.int 63))))) (Zv 3) Zep)
    (Zcb (f2 Zfb (f2 Jn (fV 2) (f2 Zag (fC (.int 7919)) (fV 1))) (fC (.int 1000003)))))))
def Jt(ds:List D):R D:=(run 4 Zod ds).calm
def Ztk:FS:=
  (Xu (Yq 2 (f2 Zfb (f2 Zjj (f2 Jn (f2 Jn (f2 Zfb (fV 0) (fC (.int 2147483629))) (f2 Zag (fC (.int 1013)) (fV 1))) (fC (.int 7919))) (fC (.int 3))) (fC (.int 2147483647))))
    (Xu (Yq 3 (f2 Zfb (f2 Jn (f2 Jn (f2 Zag (fV 2) (fC (.int 40699))) (f2 Zag (f2 Zag (fC (.int 3793)) (fV 1)) (fV 1))) (fC (.int 11))) (fC (.int 2147483399))))
    (Zcb (f2 Xrn (fV 3) (fC (.int 101))))))
def Zah(ds:List D):R D:=(run 4 Ztk ds).calm
def Xsg:FS:=
  (Xu (Yq 3 (f2 Jn (fV 2) (f2 gIx (fV 1) (fC (.int 1)))))
    (Xu (sIf (cOr (cE (f2 gLt (fV 2) (fC (.int 0)))) (cE (f2 gGt (fV 3) (fA Zbp (Zc (fV 0) Zt))))) (Zcb (fC (.bl ar))) sNx)
    (Zcb (f2 gLe (Ya Zcw (Zc (fV 0) (Zc (fV 2) (Zc (fV 3) Zt)))) (f2 gIx (fV 1) (fC (.int 3)))))))
def Znp(ds:List D):R D:=(run 4 Xsg ds).calm
def Zcf:FS:=
  (Xu (sIf (cE (fA gAny (Zc (Jm 2 1 (Zai (fV 0)) (Zv 2) Zcr (f2 gGt (fA Zbp (Zc (fV 2) Zt)) (fC (.int 40)))) Zt))) Zjh sNx)
    (sIf (cE (f2 gGt (Ya Zfa (Zc (fV 1) Zt)) (fC (.int 120)))) Zjh sNx))
def Jz(ds:List D):R D:=(run 2 Zcf ds).calm
def Zft:FS:=
  (sIf (cE (f2 gLt (fV 3) (f2 Zjj (fC (.int 10)) (fC (.int 18))))) (Zxf 5 (f2 Zfb (Ya Zah (Zc (fV 3) (Zc (fV 6) Zt))) (f2 gIx (fV 2) (fV 6)))) (sIf (cE (f2 gGt (fV 4) (fC (.int 0)))) (Xu (Zxf 5 (f2 Zfb (fV 4) (f2 gIx (fV 2) (fV 6))))
    (Yq 4 (f2 Xrn (fV 4) (f2 gIx (fV 2) (fV 6))))) (Xu (Yq 7 (Ya Jt (Zc (fV 0) (Zc (f2 Zfb (f2 Jn (f2 Jn (fV 1) (fC (.int 1))) (fV 6)) (fC (.int 63))) Zt))))
    (Zxf 5 (f2 Zfb (Ya Zah (Zc (fV 7) (Zc (fV 6) Zt))) (f2 gIx (fV 2) (fV 6)))))))
def Ztr:FS:=
  (Xu (Yq 3 (Ya Jt (Zc (fV 0) (Zc (fV 1) Zt))))
    (Xu (Yq 4 (f1 Jd (fV 3)))
    (Xu (Yq 5 (fA Jp Zt))
    (Xu (Zkz (Zmq (Zc (fA Zbp (Zc (fV 2) Zt)) Zt)) (Zv 6) Zft)
    (Zcb (fV 5))))))
def Xt(ds:List D):R D:=(run 8 Ztr ds).calm
def Zbh:FS:=
  (Xu (Yq 9 (f2 Jn (f2 Zag (fC (.int 3)) (fV 8)) (fC (.int 6))))
    (Xu (Yq 10 (f1 Jd (f2 gIx (fA Jp (Zc (fC (.int 1)) (Zc (fC (.int 2)) (Zc (fC (.int 3)) (Zc (fC (.int 4)) (Zc (fC (.int 5)) (Zc (fC (.int 6)) (Zc (fC (.int 2)) (Zc (fC (.int 3)) (Zc (fC (.int 11)) (Zc (fC (.int 40)) (Zc (f2 gIx (fA Jp (Zc (fC (.int 150)) (Zc (fC (.int 200)) Zt))) (f2 Zfb (fV 8) (fC (.int 2)))) Zt)))))))))))) (f2 gIx (fV 4) (fV 9)))))
    (Xu (Yq 11 (f2 Jn (fC (.int 1)) (f2 gIx (fV 4) (f2 Jn (fV 9) (fC (.int 1))))))
    (Xu (sIf (cE (f2 gEq (f2 gIx (fV 4) (fC (.int 3))) (fC (.int 1)))) (Yq 11 (f2 Jn (f2 Zag (fC (.int 3)) (fV 10)) (f2 Zfb (f2 gIx (fV 4) (f2 Jn (fV 9) (fC (.int 1)))) (fC (.int 4))))) sNx)
    (Xu (sIf (cE (f2 gEq (f2 gIx (fV 4) (fC (.int 3))) (fC (.int 2)))) (Yq 11 (f2 Jn (fC (.int 1)) (f2 Zfb (f2 gIx (fV 4) (f2 Jn (fV 9) (fC (.int 1)))) (fC (.int 3))))) sNx)
    (Xu (sIf (cE (f2 gEq (f2 gIx (fV 4) (fC (.int 3))) (fC (.int 3)))) (Yq 11 (f1 Jd (fV 10))) sNx)
    (Xu (Yq 12 (fA Xfe (Zc (f2 Zag (f2 gIx (fA Jp (Zc (fC (.int 0)) (Zc (fC (.int 0)) (Zc (fC (.int 1)) (Zc (fC (.int 2)) (Zc (fC (.int 3)) (Zc (fC (.int 12)) Zt))))))) (f2 gIx (fV 4) (f2 Jn (fV 9) (fC (.int 2))))) (fV 5)) (Zc (f2 Zia (f2 Zjj (fC (.int 10)) (fC (.int 18))) (fC (.int 1))) Zt))))
    (Xu (Yq 13 (f1 Jd (f2 gIx (fV 3) (f2 Zfb (f2 Jn (f2 gIx (fV 4) (fC (.int 4))) (f2 Zag (f2 Jn (f2 Zag (fC (.int 2)) (f2 gIx (fV 4) (fC (.int 5)))) (fC (.int 1))) (fV 8))) (fC (.int 16))))))
    (Zxf 7 (fA Zfg (Zc (f1 Jd (fV 13)) (Zc (f1 Jd (fV 10)) (Zc (fA Xfe (Zc (f2 Zag (fV 11) (fV 6)) (Zc (f2 Zjj (fC (.int 10)) (fC (.int 18))) Zt))) (Zc (f1 Jd (fV 12)) Zt))))))))))))))
def Zny:FS:=
  (Xu (Yq 3 (fA Jp (Zc (fC (.str ("a":Str))) (Zc (fC (.str ("ab":Str))) (Zc (fC (.str ("abc":Str))) (Zc (fC (.str ("b":Str))) (Zc (fC (.str ("ba":Str))) (Zc (fC (.str ("z":Str))) (Zc (fC (.str ("zzzzzzzz":Str))) (Zc (fC (.str ("roll":Str))) (Zc (fC (.str ("cut":Str))) (Zc (fC (.str ("by":Str))) Zt))))))))))))
    (Xu (Yq 3 (f2 Jn (fV 3) (fA Jp (Zc (fC (.str ("aab":Str))) (Zc (fC (.str ("zz":Str))) (Zc (fC (.str ("kind":Str))) (Zc (fC (.str ("qsvw":Str))) (Zc (fC (.str ("fghjmp":Str))) (Zc (fC (.str ("x":Str))) Zt)))))))))
    (Xu (Yq 4 (Ya Xt (Zc (fV 0) (Zc (fV 1) (Zc (f2 Jn (fA Jp (Zc (f2 Jn (fV 2) (fC (.int 1))) (Zc (fC (.int 4)) (Zc (fC (.int 4)) (Zc (fC (.int 4)) (Zc (fC (.int 16)) (Zc (fC (.int 4)) Zt))))))) (f2 Zag (fA Jp (Zc (fC (.int 11)) (Zc (fC (.int 40)) (Zc (fC (.int 6)) Zt)))) (fV 2))) Zt)))))
    (Xu (Yq 5 (f1 Jd (f2 gIx (fA Jp (Zc (fC (.int 1)) (Zc (fC (.int 1)) (Zc (fC (.int 7)) (Zc (f2 Zjj (fC (.int 10)) (fC (.int 17))) Zt))))) (f2 gIx (fV 4) (fC (.int 1))))))
    (Xu (Yq 6 (f1 Jd (f2 gIx (fA Jp (Zc (fC (.int 1)) (Zc (fC (.int 1)) (Zc (f2 Zjj (fC (.int 10)) (fC (.int 6))) (Zc (f2 Zag (fC (.int 25)) (f2 Zjj (fC (.int 10)) (fC (.int 15)))) Zt))))) (f2 gIx (fV 4) (fC (.int 2))))))
    (Xu (Yq 7 (fA Jp Zt))
    (Xu (Zkz (Zmq (Zc (f2 gIx (fV 4) (fC (.int 0))) Zt)) (Zv 8) Zbh)
    (Zcb (fV 7)))))))))
def Jy(ds:List D):R D:=(run 14 Zny ds).calm
def Zow:FS:=
 (Zcb (f1 Jd (f2 gIx (fA Jp (Zc (fC (.int 1)) (Zc (fC (.int 1)) (Zc (fC (.int 7)) (Zc (f2 Zjj (fC (.int 10)) (fC (.int 17))) Zt))))) (f2 gIx (Ya Xt (Zc (fV 0) (Zc (fV 1) (Zc (fA Jp (Zc (f2 Jn (fV 2) (fC (.int 1))) (Zc (fC (.int 4)) Zt))) Zt)))) (fC (.int 1))))))
def Zal(ds:List D):R D:=(run 3 Zow ds).calm
def Zeu:FS:=
  (Xu (Yq 8 (f2 Jn (f2 Zag (fC (.int 2)) (fV 7)) (fC (.int 3))))
    (Xu (Yq 9 (fC (.int 0)))
    (Xu (sIf (cE (f2 gLt (f2 gIx (fV 4) (fV 8)) (f2 gIx (fA Jp (Zc (fC (.int 0)) (Zc (fC (.int 1)) (Zc (fC (.int 3)) (Zc (fC (.int 6)) Zt))))) (f2 gIx (fV 4) (fC (.int 1)))))) (Yq 9 (f1 Jd (f2 gIx (fA Jp (Zc (fV 3) (Zc (fV 3) (Zc (f2 Zag (fC (.int 2)) (fV 3)) (Zc (f2 Zag (fC (.int 3)) (fV 3)) (Zc (fV 5) Zt)))))) (f2 gIx (fV 4) (f2 Jn (fV 8) (fC (.int 1))))))) sNx)
    (Zxf 6 (f1 Jd (fV 9))))))
def Zpg:FS:=
  (Xu (Yq 4 (Ya Xt (Zc (fV 0) (Zc (fV 1) (Zc (f2 Jn (fA Jp (Zc (f2 Jn (fV 2) (fC (.int 1))) (Zc (fC (.int 4)) (Zc (fC (.int 3)) Zt)))) (f2 Zag (fA Jp (Zc (fC (.int 8)) (Zc (fC (.int 5)) Zt))) (fV 2))) Zt)))))
    (Xu (Yq 5 (f2 Zag (fC (.int 9)) (fV 3)))
    (Xu (sIf (cE (f2 gEq (f2 gIx (fV 4) (fC (.int 2))) (fC (.int 0)))) (Yq 5 (f2 Zjj (fC (.int 10)) (fC (.int 18)))) sNx)
    (Xu (Yq 6 (fA Jp Zt))
    (Xu (Zkz (Zmq (Zc (f2 gIx (fV 4) (fC (.int 0))) Zt)) (Zv 7) Zeu)
    (Zcb (fV 6)))))))
def Jr(ds:List D):R D:=(run 10 Zpg ds).calm
@[simp] theorem ev_fC(d:D)(ρ:Env):fC d ρ=.ok d:=(rfl)
variable{x:D}
@[simp] theorem Xuh(g:D->Option D)(a:FE)(ρ:Env):f1 g a ρ=(a ρ).bind fun x=>oR (g x):=(rfl)
@[simp] theorem Xxf(g:D->D->Option D)(a b:FE)(ρ:Env):f2 g a b ρ=(a ρ).bind fun x=>(b ρ).bind fun y=>oR (g x y):=(rfl)
@[simp] theorem ev_aNil(ρ:Env):Zt ρ=.ok []:=(rfl)
variable{xs:List D}
@[simp] theorem Xcs(a:FE)(r:FA)(ρ:Env):Zc a r ρ=(a ρ).bind fun x=>(r ρ).bind fun xs=>.ok (x::xs):=(rfl)
@[simp] theorem ev_fA(g:List D->Option D)(a:FA)(ρ:Env):fA g a ρ=(a ρ).bind fun xs=>oR (g xs):=(rfl)
@[simp] theorem Zsn(F:List D->R D)(a:FA)(ρ:Env):Ya F a ρ=(a ρ).bind F:=(rfl)
@[simp] theorem ev_fV0(d:D)(ρ:Env):fV 0 (ak d::ρ)=.ok d:=(rfl)
@[simp] theorem ev_fVs(i:Nat)(o:Option D)(ρ:Env):fV (i+1) (o::ρ)=fV i ρ:=by simp[fV]
variable{b:Int}{d:D}
@[simp] theorem ev_cE(a:FE)(ρ:Env):cE a ρ=(a ρ).bind fun d=>match d with| .bl b=>.ok b|_=>.bad:=(rfl)
@[simp] theorem ev_cNot(a:FT)(ρ:Env):cNot a ρ=(a ρ).bind fun b=>.ok (!b):=(rfl)
@[simp] theorem Xcd(a b:FT)(ρ:Env):Xpn a b ρ=(a ρ).bind fun x=>if x then b ρ else .ok false:=(rfl)
@[simp] theorem Xjm(a b:FT)(ρ:Env):cOr a b ρ=(a ρ).bind fun x=>if x then .ok aq else b ρ:=(rfl)
@[simp] theorem ev_cYes(ρ:Env):Zcr ρ=.ok true:=(rfl)
@[simp] theorem ev_fAnd(a b:FE)(ρ:Env):fAnd a b ρ=(a ρ).bind fun x=>match x with| .bl aq=>b ρ| .bl ar=>.ok (.bl ar)|_=>.bad:=(rfl)
@[simp] theorem ev_fOr(a b:FE)(ρ:Env):fOr a b ρ=(a ρ).bind fun x=>match x with| .bl aq=>.ok (.bl aq)| .bl ar=>b ρ|_=>.bad:=(rfl)
@[simp] theorem Xtl(c:FT)(a b:FE)(ρ:Env):fIf c a b ρ=(c ρ).bind fun x=>if x then a ρ else b ρ:=(rfl)
variable{z:D}
@[simp] theorem Xwe(g g':D->D->Option D)(a b c:FE)(ρ:Env):Xuf g g' a b c ρ=(a ρ).bind fun x=>(b ρ).bind fun y=>(oR (g x y)).bind fun z=>match z with| .bl aq=>(c ρ).bind fun w=>oR (g' y w)| .bl ar=>.ok (.bl ar)|_=>.bad:=(rfl)
variable{hi:Option Int}{lo:Int}
@[simp] theorem Xwy(g:D->Option Int->Option Int->Option D)(a:FE)(l h:FO)(ρ:Env):fSl g a l h ρ=(a ρ).bind fun x=>(l ρ).bind fun lo=>(h ρ).bind fun hi=>oR (g x lo hi):=(rfl)
@[simp] theorem ev_oNone(ρ:Env):Zdd ρ=.ok none:=(rfl)
variable{i:Int}
@[simp] theorem Xed(a:FE)(ρ:Env):Zbu a ρ=(a ρ).bind fun d=>match d with| .int i=>.ok (ak i)|_=>.bad:=(rfl)
variable{ns:List Int}
@[simp] theorem Xen(a:FE)(ρ:Env):Zai a ρ=(a ρ).bind fun d=>match d with| .lst xs=>if xs.length<=lim then .ok xs else .bad| .scr ns=>if ns.length<=lim then .ok (ns.map D.int) else .bad|_=>.bad:=(rfl)
@[simp] theorem ev_jTup(a:FE)(ρ:Env):jTup a ρ=(a ρ).bind fun d=>match d with| .tup xs=>if xs.length<=lim then .ok xs else .bad|_=>.bad:=(rfl)
variable{ds:List D}{j:Int}
@[simp] theorem Xgw(a:FA)(ρ:Env):Zmq a ρ=(a ρ).bind fun ds=>match ds with|[.int j]=>if -1000000000<=j/\j<=1000000 then .ok (Zgt 0 j.toNat) else .bad|_=>.bad:=(rfl)
def Zmc(ds:List D):R (List D):=match ds with
 |[.int i,.int j]=>if -1000000000<=i/\i<=1000000000/\-1000000000<=j/\j<=1000000000/\(j-i).toNat<=lim then .ok (Zgt i (j-i).toNat) else .bad
 |_=>.bad
@[simp] theorem Xdn(a:FA)(ρ:Env):Zyk a ρ=(a ρ).bind Zmc:=(rfl)
variable{n:Nat}
theorem Zzn(hn:n=(j-i).toNat)(h1:-1000000<=i)(h2:i<=1000000)(h3:-1000000<=j)(h4:j<=1000000)(h5:n<=1000000):Zmc [.int i,.int j]=.ok (Zgt i n):=by subst hn;unfold Zmc;simp only[];rw[aa ⟨by omega,by omega,by omega,by omega,h5⟩]
variable{ys:List Int}
@[simp] theorem Xhi(n k:Nat)(it:FI)(b:FB)(c:FT)(e:FE)(ρ:Env):Jm n k it b c e ρ=if ρ.length=n then (it ρ).bind fun xs=>(Zbd k b c e ρ xs).calm.bind fun ys=>.ok (.lst ys) else .bad:=(rfl)
@[simp] theorem ev_sNx(ρ:Env):sNx ρ=.ok (.nx ρ):=(rfl)
@[simp] theorem Xtt(ρ:Env):Zjh ρ=.bad:=(rfl)
variable{fl:Int}{ρ':Env}
@[simp] theorem Zlj(a b:FS)(ρ:Env):Xu a b ρ=(a ρ).bind fun fl=>match fl with| .nx ρ'=>b ρ'|fl=>.ok fl:=(rfl)
@[simp] theorem Xqf(i:Nat)(e:FE)(ρ:Env):Yq i e ρ=(e ρ).bind fun d=>.ok (.nx (ρ.set i (ak d))):=(rfl)
@[simp] theorem Zyu(e:FE)(ρ:Env):Zcb e ρ=(e ρ).bind fun d=>.ok (.ret d):=(rfl)
@[simp] theorem Zvr(c:FT)(a b:FS)(ρ:Env):sIf c a b ρ=(c ρ).bind fun x=>if x then a ρ else b ρ:=(rfl)
variable{v:Int}
@[simp] theorem Xot(i:Nat)(e:FE)(ρ:Env):Zxf i e ρ=(fV i ρ).bind fun v=>match v with| .lst xs=>(e ρ).bind fun d=>if xs.length<lim then .ok (.nx (ρ.set i (ak (.lst (xs++[d]))))) else .bad|_=>.bad:=by unfold Zxf fV;split;rename_i xs e;simp[e];rename_i h;split;rename_i d e;cases d<;>simp;rename_i xs;exact af e (h xs);rfl
@[simp] theorem Xuj(c:String)(f:FA)(ρ:Env):Zrw c f ρ=(f ρ).bind fun _=>.err c none:=(rfl)
@[simp] theorem ev_sAug(i:Nat)(g:D->D->Option D)(e:FE)(ρ:Env):Xma i g e ρ=(fV i ρ).bind fun x=>(e ρ).bind fun y=>(oR (g x y)).bind fun z=>.ok (.nx (ρ.set i (ak z))):=by unfold Xma fV;split;rename_i x e;simp;rfl
@[simp] theorem Xpo(i:Nat)(k e:FE)(ρ:Env):Xro i k e ρ=(e ρ).bind fun d=>(fV i ρ).bind fun v=>match v with| .lst xs=>(k ρ).bind fun z=>(match z with| .int n=>if flat d=aq/\Zr xs=aq then (match ixD xs.length n with|some j=>.ok (.nx (ρ.set i (ak (.lst (xs.set j d)))))|none=>.bad) else .bad|_=>.bad)|_=>.bad:=by unfold Xro;congr 1;funext d;unfold fV;split;rename_i xs e;simp[e]<;>rfl;rename_i h;split;rename_i d e;cases d<;>simp;rename_i xs;exact af e (h xs);rfl
@[simp] theorem Xqp(it:FI)(b:FB)(s:FS)(ρ:Env):Zkz it b s ρ=(it ρ).bind fun xs=>Zkb b s xs ρ:=(rfl)
@[simp] theorem Xsl(n:Nat)(c:FT)(s:FS)(ρ:Env):Xwg n c s ρ=Zrt c s n ρ:=(rfl)
@[simp] theorem ev_sAsg(e:FE)(b:FB)(ρ:Env):Xrf e b ρ=(e ρ).bind fun d=>(b d ρ).calm.bind fun ρ'=>.ok (.nx ρ'):=(rfl)
@[simp] theorem ev_bName(i:Nat)(d:D)(ρ:Env):Zv i d ρ=.ok (ρ.set i (ak d)):=(rfl)
@[simp] theorem ev_bNil(ρ:Env):Zef [] ρ=.ok ρ:=(rfl)
@[simp] theorem ev_bCons(b:FB)(r:List D->Env->R Env)(d:D)(ds:List D)(ρ:Env):Xx b r (d::ds) ρ=(b d ρ).bind fun ρ'=>r ds ρ':=(rfl)
@[simp] theorem ev_bTup(r:List D->Env->R Env)(ds:List D)(ρ:Env):Zfc r (.tup ds) ρ=r ds ρ:=(rfl)
@[simp] theorem ev_run(N:Nat)(b:FS)(ds:List D):run N b ds=(b (ds.map ak++Ab (N-ds.length) ao)).bind fun fl=>match fl with| .nx _=>.ok .non| .ret d=>.ok d|_=>.bad:=(rfl)
@[simp] theorem forD_nil(b:FB)(s:FS)(ρ:Env):Zkb b s [] ρ=.ok (.nx ρ):=(rfl)
theorem Znn(b:FB)(s:FS)(x:D)(xs:List D)(ρ:Env):Zkb b s (x::xs) ρ=(b x ρ).calm.bind fun ρ1=>(s ρ1).bind fun fl=>match fl with| .nx ρ2=>Zkb b s xs ρ2| .cnt ρ2=>Zkb b s xs ρ2| .brk ρ2=>.ok (.nx ρ2)| .ret d=>.ok (.ret d):=rfl
@[simp] theorem add_ii(i j:Int):Jn (.int i) (.int j)=ak (.int (i+j)):=rfl
@[simp] theorem sub_ii(i j:Int):Zia (.int i) (.int j)=ak (.int (i-j)):=rfl
@[simp] theorem lt_ii(i j:Int):gLt (.int i) (.int j)=ak (.bl (decide (i<j))):=rfl
@[simp] theorem le_ii(i j:Int):gLe (.int i) (.int j)=ak (.bl (decide (i<=j))):=rfl
@[simp] theorem gt_ii(i j:Int):gGt (.int i) (.int j)=ak (.bl (decide (j<i))):=rfl
@[simp] theorem neg_i(i:Int):Xru (.int i)=ak (.int (-i)):=rfl
@[simp] theorem eq_bb(i j:Bool):gEq (.bl i) (.bl j)=ak (.bl (i==j)):=rfl
@[simp] theorem ne_bb(i j:Bool):gNe (.bl i) (.bl j)=ak (.bl (!(i==j))):=rfl
theorem Xjf(h:(-(2^64)<i/\i<2^64)\/(-(2^64)<j/\j<2^64)):Zag (.int i) (.int j)=ak (.int (i*j)):=by
 have:(short i||short j)=true:=by simp[short];exact h
 simp[Zag,this]
theorem Zax(h:0<j):Zfb (.int i) (.int j)=ak (.int (i%j)):=by simp[Zfb,h]
theorem div_ii(h:0<j)(h2:j<2^200):Xrn (.int i) (.int j)=ak (.int (i/j)):=by simp only[Xrn];rw[aa ⟨h,h2⟩]
theorem Zmv(h:0<=j)(h2:j<=1000000)(h3:i.natAbs<2^64):Zjj (.int i) (.int j)=ak (.int (i^j.toNat)):=by simp only[Zjj];rw[aa ⟨h,h2,h3⟩]
@[simp] theorem pow10_6:Zjj (.int 10) (.int 6)=ak (.int 1000000):=by rw[Zmv (by omega) (by omega) (by decide)];rfl
@[simp] theorem Xib:Zjj (.int 10) (.int 15)=ak (.int 1000000000000000):=by rw[Zmv (by omega) (by omega) (by decide)];rfl
@[simp] theorem Zrn:Zjj (.int 10) (.int 17)=ak (.int 100000000000000000):=by rw[Zmv (by omega) (by omega) (by decide)];rfl
@[simp] theorem Zgo:Zjj (.int 10) (.int 18)=ak (.int 1000000000000000000):=by rw[Zmv (by omega) (by omega) (by decide)];rfl
@[simp] theorem flat_i(i:Int):flat (.int i)=true:=rfl
@[simp] theorem flat_b(i:Bool):flat (.bl i)=true:=rfl
@[simp] theorem flat_s(i:Str):flat (.str i)=true:=rfl
@[simp] theorem flat_n:flat .non=true:=rfl
@[simp] theorem flat_t(xs:List D):flat (.tup xs)=Zr xs:=rfl
@[simp] theorem flatA_n:Zr []=true:=rfl
@[simp] theorem flatA_c(x:D)(xs:List D):Zr (x::xs)=(flat x&&Zr xs):=rfl
variable{a:FE}
theorem Zha{α:Type}{f:α->D}(h:∀a,flat (f a)=aq):∀xs:List α,Zr (xs.map f)=aq
 |[]=>rfl
 |x::xs=>by simp[h x,Zha h xs]
@[simp] theorem Zfn(ns:List Int):Zr (ns.map D.int)=true:=Zha (fun _=>rfl) ns
@[simp] theorem gFlat_i(i:Int):Jd (.int i)=ak (.int i):=rfl
@[simp] theorem gFlat_b(i:Bool):Jd (.bl i)=ak (.bl i):=rfl
@[simp] theorem gFlat_s(i:Str):Jd (.str i)=ak (.str i):=rfl
@[simp] theorem gFlat_n:Jd .non=ak .non:=rfl
@[simp] theorem ints_map(ns:List Int):intsOf (ns.map D.int)=ak ns:=by
 induction ns with
 |nil=>rfl
 |cons n ns ih=>simp[intsOf,ih]
@[simp] theorem len_l(xs:List D):Zbp [.lst xs]=ak (.int xs.length):=(rfl)
@[simp] theorem len_t(xs:List D):Zbp [.tup xs]=ak (.int xs.length):=(rfl)
@[simp] theorem len_scr(xs:List Int):Zbp [.scr xs]=ak (.int xs.length):=(rfl)
@[simp] theorem sum_ints(ns:List Int):Xir [.lst (ns.map D.int)]=ak (.int ns.sum):=by simp[Xir]
@[simp] theorem Xiw(i j:Int):Xfe [.int i,.int j]=ak (.int (min i j)):=by simp only[Xfe];congr 2;by_cases h:j<i;rw[aa h];omega;rw[ae h];omega
variable{α:Type}
theorem Zpl{xs:List α}{k:Nat}{x:α}(e:i=(k:Int))(h:xs[k]?=ak x):atD xs i=ak x:=by subst e;have hk:=(Am.mp h).1;unfold atD ixD;rw[aa (by omega),aa (by omega)];simpa using h
theorem Xdz(xs:List α)(x:α):atD (xs++[x]) (-1)=ak x:=by
 unfold atD ixD;rw[ae (by omega),aa (by simp;omega)];simp only[Option.bind_some];have:(-1+(((xs++[x]).length:Nat):Int)).toNat=xs.length:=by simp;omega
 rw[this];simp
theorem Xrs{k:Nat}(e:i=(k:Int))(h:xs[k]?=ak x):gIx (.lst xs) (.int i)=ak x:=Zpl e h
theorem Xye{k:Nat}(e:i=(k:Int))(h:xs[k]?=ak x):gIx (.tup xs) (.int i)=ak x:=Zpl e h
@[simp] theorem ixL_l(xs:List D)(y:D):gIxL (.lst xs) y=gIx (.lst xs) y:=(rfl)
@[simp] theorem listV_l(xs:List D):Xsk [.lst xs]=ak (.lst xs):=(rfl)
@[simp] theorem Xlz(xs:List D)(x:D):gIx (.lst (xs++[x])) (.int (-1))=ak x:=Xdz xs x
theorem Zff{k:Nat}(e:i=(k:Int))(h:k<ns.length):gIx (.lst (ns.map D.int)) (.int i)=ak (.int (ns.getD k 0)):=Xrs e (by simp[h,CA])
variable{β:Type}
theorem Xpa(f:α->β)(xs:List α)(lo hi:Option Int):cut (xs.map f) lo hi=(cut xs lo hi).map f:=by unfold cut;rw[Ai,Fo,G2]
theorem Xxu{xs:List α}{a:Int}(h0:0<=a)(h1:a<=b)(h2:b<=xs.length):cut xs (ak a) (ak b)=(xs.drop a.toNat).take (b.toNat-a.toNat):=by unfold cut Zpj;simp only[];rw[ae (by omega),ae (by omega),Fj (by omega),Fj (by omega)]
theorem Zqy{xs:List α}(h0:0<=b):cut xs ao (ak b)=xs.take b.toNat:=by unfold cut Zpj;simp only[];rw[ae (by omega),Hr,Il];by_cases h:b.toNat<=xs.length;rw[Fj h];rw[KP (by omega),DQ (As _),DQ (by omega)]
theorem Zsk{xs:List α}{a:Int}(h0:0<=a):cut xs (ak a) ao=xs.drop a.toNat:=by unfold cut Zpj;simp only[];rw[ae (by omega)];by_cases h:a.toNat<=xs.length;rw[Fj h,DQ (by simp)];rw[KP (by omega),E9 (As _),E9 (by omega)];simp
@[simp] theorem sl_ints(ns:List Int)(lo hi:Option Int):gSl (.lst (ns.map D.int)) lo hi=ak (.lst ((cut ns lo hi).map D.int)):=by simp[gSl,Xpa]
@[simp] theorem sl_scr(ns:List Int)(lo hi:Option Int):gSl (.scr ns) lo hi=ak (.lst ((cut ns lo hi).map D.int)):=(rfl)
@[simp] theorem gLst_0:Jp []=ak (.lst []):=rfl
@[simp] theorem gLst_1(a:D):Jp [a]=ak (.lst [a]):=rfl
@[simp] theorem gLst_2(a b:D):Jp [a,b]=ak (.lst [a,b]):=rfl
@[simp] theorem gLst_3(a b c:D):Jp [a,b,c]=ak (.lst [a,b,c]):=rfl
@[simp] theorem gLst_4(a0 a1 a2 a3:D):Jp [a0,a1,a2,a3]=ak (.lst [a0,a1,a2,a3]):=rfl
@[simp] theorem gLst_5(a0 a1 a2 a3 a4:D):Jp [a0,a1,a2,a3,a4]=ak (.lst [a0,a1,a2,a3,a4]):=rfl
@[simp] theorem gLst_6(a0 a1 a2 a3 a4 a5:D):Jp [a0,a1,a2,a3,a4,a5]=ak (.lst [a0,a1,a2,a3,a4,a5]):=rfl
@[simp] theorem gLst_10(a0 a1 a2 a3 a4 a5 a6 a7 a8 a9:D):Jp [a0,a1,a2,a3,a4,a5,a6,a7,a8,a9]=ak (.lst [a0,a1,a2,a3,a4,a5,a6,a7,a8,a9]):=rfl
@[simp] theorem gLst_11(a0 a1 a2 a3 a4 a5 a6 a7 a8 a9 a10:D):Jp [a0,a1,a2,a3,a4,a5,a6,a7,a8,a9,a10]=ak (.lst [a0,a1,a2,a3,a4,a5,a6,a7,a8,a9,a10]):=rfl
@[simp] theorem gTup_2(a b:D):Zfg [a,b]=ak (.tup [a,b]):=rfl
@[simp] theorem gTup_3(a b c:D):Zfg [a,b,c]=ak (.tup [a,b,c]):=rfl
@[simp] theorem gTup_4(a b c d:D):Zfg [a,b,c,d]=ak (.tup [a,b,c,d]):=rfl
@[simp] theorem Zcj(a:α)(f:α->R β):((R.ok a).calm).bind f=f a:=(rfl)
variable{Rr:R Fl->Prop}{s:FS}{ρ:Env}
theorem Zgi{b:FB}{P:Nat->Env->Prop}(h0:P 0 ρ)(hs:∀i x ρ,xs[i]?=ak x->P i ρ->∃ρ1,b x ρ=.ok ρ1/\((∃ρ2,(s ρ1=.ok (.nx ρ2)\/s ρ1=.ok (.cnt ρ2))/\P (i+1) ρ2)\/(∃d,s ρ1=.ok (.ret d)/\Rr (.ok (.ret d)))\/∃ρ2,s ρ1=.ok (.brk ρ2)/\Rr (.ok (.nx ρ2))))(hd:∀ρ,P xs.length ρ->Rr (.ok (.nx ρ))):Rr (Zkb b s xs ρ):=by
 have key:∀n i ρ,n+i=xs.length->P i ρ->Rr (Zkb b s (xs.drop i) ρ):=by
  intro n
  induction n with
  |zero =>
   intro i ρ hn p;rw[E9 (by omega)];have e:i=xs.length:=by omega
   subst e;exact hd ρ p
  |succ n ih =>
   intro i ρ hn p;have hi:i<xs.length:=by omega
   rw[BD hi,Znn];obtain⟨ρ1,e1,h⟩:=hs i xs[i] ρ (Ag hi) p;rw[e1,Zcj];rcases h with⟨ρ2,e2|e2,p2⟩|⟨d,e2,p2⟩|⟨ρ2,e2,p2⟩;rw[e2];exact ih (i+1) ρ2 (by omega) p2;rw[e2];exact ih (i+1) ρ2 (by omega) p2;rw[e2];exact p2;rw[e2];exact p2
 have:=key xs.length 0 ρ (by omega) h0;simpa using this
variable{i:Nat}
theorem Xdy(h:i<n):(Zgt lo n)[i]?=ak (.int (lo+i)):=by simp[Zgt,h]
theorem Zoi(h:(Zgt lo n)[i]?=ak x):i<n/\x=.int (lo+i):=by
 have hi:=(Am.mp h).1;have hn:i<n:=by simpa[Zgt] using hi
 rw[Xdy hn]at h;exact⟨hn,(AE h).symm⟩
@[simp] theorem Zbv(lo:Int)(n:Nat):(Zgt lo n).length=n:=by simp[Zgt]
variable{c:FT}{e:FE}
theorem Xck{k:Nat}{b:FB}{enc:α->D}{ρ1:α->Env}{p:α->Bool}{v:α->D}{xs:List α}(h:∀x∈xs,b (enc x) (ρ++Ab k ao)=.ok (ρ1 x)/\c (ρ1 x)=.ok (p x)/\(p x=aq->e (ρ1 x)=.ok (v x))):Zbd k b c e ρ (xs.map enc)=.ok ((xs.filter p).map v):=by
 induction xs with
 |nil=>rfl
 |cons x xs ih =>
  obtain⟨h0,h1,h2⟩:=h x (.head _);have ih:=ih fun y hy=>h y (.tail _ hy);rw[AZ];unfold Zbd;rw[h0,Zcj,h1];cases hp:p x with
  |false=>simp[ih,hp]
  |true=>simp[ih,hp,h2 hp]
theorem comp1{enc:α->D}{p:α->Bool}{v:α->D}{xs:List α}(hn:ρ.length=n)(h:∀x∈xs,c (ρ++[ak (enc x)])=.ok (p x)/\(p x=aq->e (ρ++[ak (enc x)])=.ok (v x))):Zbd 1 (Zv n) c e ρ (xs.map enc)=.ok ((xs.filter p).map v):=
  Xck (ρ1:=fun x=>ρ++[ak (enc x)]) fun x hx=>⟨by
    show R.ok ((ρ++[ao]).set n (ak (enc x)))=_;rw [<- hn,DA _ _ (As _),Fn];rfl,h x hx⟩
theorem Zlv{enc:α->D}{v:α->D}{xs:List α}(hn:ρ.length=n)(h:∀x∈xs,e (ρ++[ak (enc x)])=.ok (v x)):Zbd 1 (Zv n) Zcr e ρ (xs.map enc)=.ok (xs.map v):=by have:=comp1 (p:=fun _=>aq) (c:=Zcr) hn (xs:=xs) (enc:=enc) (e:=e) (v:=v) fun x hx=>⟨rfl,fun _=>h x hx⟩;rw[this,IQ.mpr fun _ _=>rfl]
theorem comp2{f g:α->D}{p:α->Bool}{v:α->D}{xs:List α}(hn:ρ.length=n)(h:∀x∈xs,c (ρ++[ak (f x),ak (g x)])=.ok (p x)/\(p x=aq->e (ρ++[ak (f x),ak (g x)])=.ok (v x))):Zbd 2 (Zfc (Xx (Zv n) (Xx (Zv (n+1)) Zef))) c e ρ (xs.map fun x=>.tup [f x,g x])=.ok ((xs.filter p).map v):=
  Xck (enc:=fun x=>D.tup [f x,g x]) (ρ1:=fun x=>ρ++[ak (f x),ak (g x)]) fun x hx=>⟨by
    show R.ok (((ρ++[ao,ao]).set n (ak (f x))).set (n+1) (ak (g x)))=_;rw [<- hn,DA _ _ (As _),Fn,DA _ _ (by omega)];simp,h x hx⟩
theorem Zyj{f g:α->D}{v:α->D}{xs:List α}(hn:ρ.length=n)(h:∀x∈xs,e (ρ++[ak (f x),ak (g x)])=.ok (v x)):Zbd 2 (Zfc (Xx (Zv n) (Xx (Zv (n+1)) Zef))) Zcr e ρ (xs.map fun x=>.tup [f x,g x])=.ok (xs.map v):=by
 have:=comp2 (p:=fun _=>aq) (c:=Zcr) hn (xs:=xs) (f:=f) (g:=g) (e:=e) (v:=v) fun x hx=>⟨rfl,fun _=>h x hx⟩;rw[this,IQ.mpr fun _ _=>rfl]
theorem Xi(h:e ρ=.ok d):Yq i e ρ=.ok (.nx (ρ.set i (ak d))):=by rw[Xqf,h];rfl
theorem Zq{a b:FS}{r:R Fl}(h:a ρ=.ok (.nx ρ'))(h2:b ρ'=r):Xu a b ρ=r:=by rw[Zlj,h];exact h2
theorem Zej{g:D->Option D}(ha:a ρ=.ok x)(h:g x=ak z):f1 g a ρ=.ok z:=by rw[Xuh,ha];show oR (g x)=_;rw[h];rfl
variable{g:D->D->Option D}
theorem Zn{b:FE}{y:D}(ha:a ρ=.ok x)(hb:b ρ=.ok y)(h:g x y=ak z):f2 g a b ρ=.ok z:=by rw[Xxf,ha,hb];show oR (g x y)=_;rw[h];rfl
theorem Jj{g:List D->Option D}{a:FA}(ha:a ρ=.ok xs)(h:g xs=ak z):fA g a ρ=.ok z:=by rw[ev_fA,ha];show oR (g xs)=_;rw[h];rfl
theorem Zd{r:FA}(ha:a ρ=.ok x)(hr:r ρ=.ok xs):Zc a r ρ=.ok (x::xs):=by rw[Xcs,ha,hr];rfl
variable{F:List D->R D}
theorem Xm{a:FA}(ha:a ρ=.ok xs)(h:F xs=.ok d):Ya F a ρ=.ok d:=by rw[Zsn,ha];exact h
theorem Jq{b:Bool}(h:a ρ=.ok (.bl b)):cE a ρ=.ok b:=by rw[ev_cE,h];rfl
theorem Zbz{a b:FS}{r:R Fl}(hc:c ρ=.ok aq)(h:a ρ=r):sIf c a b ρ=r:=by rw[Zvr,hc];exact h
theorem Jc{a b:FS}{r:R Fl}(hc:c ρ=.ok ar)(h:b ρ=r):sIf c a b ρ=r:=by rw[Zvr,hc];exact h
theorem Zui(hv:fV i ρ=.ok (.lst xs))(h:e ρ=.ok d)(hl:xs.length<lim):Zxf i e ρ=.ok (.nx (ρ.set i (ak (.lst (xs++[d]))))):=by rw[Xot,hv,h];exact aa hl
theorem Zat(h:e ρ=.ok d):Zcb e ρ=.ok (.ret d):=by rw[Zyu,h];rfl
theorem Xfw{a:FA}(h:a ρ=.ok [.int j])(h1:-1000000000<=j/\j<=1000000):Zmq a ρ=.ok (Zgt 0 j.toNat):=by rw[Xgw,h];exact aa h1
variable{it:FI}
theorem Zgh{b:FB}{r:R Fl}(h:it ρ=.ok xs)(h2:Zkb b s xs ρ=r):Zkz it b s ρ=r:=by rw[Xqp,h];exact h2
variable{N:Nat}
theorem Zaq{q:FS}(h:q (ds.map ak++Ab (N-ds.length) ao)=.ok (.ret d)):(run N q ds).calm=.ok d:=by unfold run;rw[h];rfl
theorem Zog{a:Int}(h0:0<=a)(h1:a<=1000000):Zag (.int a) (.int b)=ak (.int (a*b)):=Xjf (.inl ⟨by omega,by omega⟩)
theorem Zzh{a b:FS}(h:a ρ=.ok (.ret d)):Xu a b ρ=.ok (.ret d):=by rw[Zlj,h];rfl
theorem mulR{a:Int}(h0:0<=b)(h1:b<=1000000):Zag (.int a) (.int b)=ak (.int (a*b)):=Xjf (.inr ⟨by omega,by omega⟩)
theorem Zdp(h:a ρ=.ok (.lst xs))(hl:xs.length<=lim):Zai a ρ=.ok xs:=by rw[Xen,h];exact aa hl
theorem r_aug{v:D}(hv:fV i ρ=.ok v)(he:e ρ=.ok d)(h:g v d=ak z):Xma i g e ρ=.ok (.nx (ρ.set i (ak z))):=by simp[hv,he,h]
theorem Xpf{a b:FT}{r:R Bool}(h:a ρ=.ok aq)(h2:b ρ=r):Xpn a b ρ=r:=by rw[Xcd,h];exact h2
theorem Xkt{a b:FT}(h:a ρ=.ok ar):Xpn a b ρ=.ok false:=by rw[Xcd,h];rfl
variable{p:Prop}
theorem Xiu[Decidable p](h:p):ak (D.bl (decide p))=ak (D.bl aq):=ah (fun b=>ak (D.bl b)) (aj h)
theorem Ztg[Decidable p](h:¬p):ak (D.bl (decide p))=ak (D.bl ar):=ah (fun b=>ak (D.bl b)) (ai h)
theorem Zmt{a b:FT}{r:R Bool}(h:a ρ=.ok ar)(h2:b ρ=r):cOr a b ρ=r:=by rw[Xjm,h];exact h2
theorem r_asg{b:FB}(h:e ρ=.ok d)(hb:b d ρ=.ok ρ'):Xrf e b ρ=.ok (.nx ρ'):=by unfold Xrf;rw[h];show(b d ρ).calm.bind _=_;rw[hb];rfl
variable{g:D->Option Int->Option Int->Option D}
theorem Xtf{l h:FO}{lo:Option Int}(ha:a ρ=.ok x)(hl:l ρ=.ok lo)(hh:h ρ=.ok hi)(hg:g x lo hi=ak z):fSl g a l h ρ=.ok z:=by rw[Xwy,ha];show(l ρ).bind _=_;rw[hl];show(h ρ).bind _=_;rw[hh];show oR (g x lo hi)=_;rw[hg];rfl
theorem Xug{a:FA}(h:a ρ=.ok ds)(h1:Zmc ds=.ok xs):Zyk a ρ=.ok xs:=by rw[Xdn,h];exact h1
theorem Zei{k:Nat}{b:FB}{ys:List D}(hn:ρ.length=n)(h:it ρ=.ok xs)(h1:Zbd k b c e ρ xs=.ok ys):Jm n k it b c e ρ=.ok (.lst ys):=by rw[Xhi,aa hn,h];show(Zbd k b c e ρ xs).calm.bind _=_;rw[h1];rfl
theorem Xjc{a b:FT}(h:a ρ=.ok aq):cOr a b ρ=.ok true:=by rw[Xjm,h];rfl
variable{i:Int}
theorem Zhp(h:a ρ=.ok (.int i)):Zbu a ρ=.ok (ak i):=by rw[Xed,h];rfl
set_option genInjectivity true in
structure Kd where
 name:Str
 w:Int
 wo:Int
 al:Int
def kD(k:Kd):D:=.tup [.str k.name,.int k.w,.int k.wo,.int k.al]
def iD(ns:List Int):D:=.lst (ns.map D.int)
def tD(ks:List Kd):D:=.lst (ks.map kD)
def pD(p:Int×Str):D:=.tup [.int p.1,.str p.2]
@[simp] theorem flat_kD(k:Kd):flat (kD k)=true:=rfl
@[simp] theorem flat_pD(k:Int×Str):flat (pD k)=true:=rfl
@[simp] theorem gFlat_kD(k:Kd):Jd (kD k)=ak (kD k):=rfl
@[simp] theorem gFlat_pD(k:Int×Str):Jd (pD k)=ak (pD k):=rfl
@[simp] theorem flatA_kD(ks:List Kd):Zr (ks.map kD)=true:=Zha (fun _=>rfl) ks
@[simp] theorem kD_0(k:Kd):gIx (kD k) (.int 0)=ak (.str k.name):=Xye (k:=0) rfl rfl
@[simp] theorem kD_1(k:Kd):gIx (kD k) (.int 1)=ak (.int k.w):=Xye (k:=1) rfl rfl
@[simp] theorem kD_2(k:Kd):gIx (kD k) (.int 2)=ak (.int k.wo):=Xye (k:=2) rfl rfl
@[simp] theorem kD_3(k:Kd):gIx (kD k) (.int 3)=ak (.int k.al):=Xye (k:=3) rfl rfl
def pre(ns:List Int)(i:Nat):Int:=(ns.take i).sum
theorem Xne(ns:List Int)(a b:Nat)(h:a<=b):((ns.drop a).take (b-a)).sum=pre ns b-pre ns a:=by
 unfold pre;have e:ns.take b=ns.take a++(ns.drop a).take (b-a):=by have:=List.take_add (l:=ns) (i:=a) (j:=b-a);rw[show a+(b-a)=b by omega]at this;exact this
 rw[e,Dv];omega
def good(ns:List Int)(k:Kd)(p:Int):Bool:=decide (0<=p/\p+k.w<=ns.length/\pre ns (p+k.w).toNat-pre ns p.toNat<=k.al)
theorem Xbb{e:Int}(h0:0<=b)(h1:b<=e)(h2:e<=ns.length):Zcw [iD ns,.int b,.int e]=.ok (.int (pre ns e.toNat-pre ns b.toNat)):=by
 have a1:¬b<0:=by omega
 have a2:¬(ns.length:Int)<e:=by omega
 have a3:¬e<b:=by omega
 simp[-Fo,-G2,Zcw,Zqn,iD,a1,a2,a3,Xxu h0 h1 h2,Xne _ _ _ (show b.toNat<=e.toNat by omega)]
theorem Zwg(ns:List Int)(k:Kd)(p:Int)(hw:1<=k.w):Znp [iD ns,kD k,.int p]=.ok (.bl (good ns k p)):=by
 have l1:Zbp [iD ns]=ak (.int ns.length):=by simp[iD]
 by_cases h0:p<0;have e:good ns k p=false:=ai (by omega);rw[e];exact Zaq (Zq (Xi (Zn rfl (Zn rfl rfl (kD_1 k)) rfl)) (Zzh (Zbz (Xjc (Jq (Zn rfl rfl (Xiu h0)))) (Zat rfl))));by_cases h1:(ns.length:Int)<p+k.w;have e:good ns k p=false:=ai (by omega);rw[e];exact Zaq (Zq (Xi (Zn rfl (Zn rfl rfl (kD_1 k)) rfl)) (Zzh (Zbz (Zmt (Jq (Zn rfl rfl (Ztg h0))) (Jq (Zn rfl (Jj (Zd rfl rfl) l1) (Xiu h1)))) (Zat rfl))));have hs:=Xbb (ns:=ns) (b:=p) (e:=p+k.w) (by omega) (by omega) (by omega);have e:good ns k p=decide (pre ns (p+k.w).toNat-pre ns p.toNat<=k.al):=by unfold good;apply decide_eq_decide.mpr;constructor;exact fun z=>z.2.2;exact fun z=>⟨by omega,by omega,z⟩
 rw[e];exact Zaq (Zq (Xi (Zn rfl (Zn rfl rfl (kD_1 k)) rfl)) (Zq (Jc (Zmt (Jq (Zn rfl rfl (Ztg h0))) (Jq (Zn rfl (Jj (Zd rfl rfl) l1) (Ztg h1)))) rfl) (Zat (Zn (Xm (Zd rfl (Zd rfl (Zd rfl rfl))) hs) (Zn rfl rfl (kD_3 k)) rfl))))
theorem Zxi(ns:List Int)(hn:ns.length<=63)(h0:0<=i)(h1:i<1000000):∃n:Int,Jt [.scr ns,.int i]=.ok (.int n):=by
 have c:(cE (f2 gLt (fV 1) (fA Zbp (Zc (fV 0) Zt)))) [ak (.scr ns),ak (.int i),ao,ao]=.ok (decide (i<ns.length)):=Jq (Zn rfl (Jj (Zd rfl rfl) rfl) rfl);by_cases h:i<ns.length;have hi:i.toNat<ns.length:=(El h0).mpr h;have e:gIx (.scr ns) (.int i)=ak (.int (ns.getD i.toNat 0)):=ah (Option.map D.int) (Zpl (k:=i.toNat) (Cj h0).symm (by simp[CA,hi]));exact⟨_,Zaq (Zzh (Zbz (c.trans (ah Dl.R.ok (aj h))) (Zat (Zej (Zn rfl rfl e) rfl))))⟩;have key:∃seed:Int,∃o,Zkb (Zv 3) Zep ((ns.take 63).map D.int) [ak (.scr ns),ak (.int i),ak (.int 5),ao]=.ok (.nx [ak (.scr ns),ak (.int i),ak (.int seed),o]):=by refine Zgi (P:=fun _ ρ=>∃seed:Int,∃o,ρ=[ak (.scr ns),ak (.int i),ak (.int seed),o]) (Rr:=fun r=>∃seed:Int,∃o,r=.ok (.nx [ak (.scr ns),ak (.int i),ak (.int seed),o])) ⟨5,ao,rfl⟩ ?_ ?_;rintro j x ρ hx ⟨seed,o,rfl⟩;rw[AS]at hx;obtain⟨y,hy,rfl⟩:=AH.mp hx;exact⟨_,rfl,.inl ⟨_,.inl (Xi (Zn (Zn (Zn (Zn rfl rfl (mulR (by decide) (by decide))) (Zn rfl rfl (Zax (by decide))) rfl) rfl rfl) rfl (Zax (by decide)))),_,_,rfl⟩⟩;rintro ρ ⟨seed,o,rfl⟩;exact⟨seed,o,rfl⟩
 obtain⟨seed,o,e⟩:=key;have hc:cut ns ao (ak 63)=ns.take 63:=Zqy (by decide);have hl:(Zai (fSl gSl (fV 0) Zdd (Zbu (fC (.int 63))))) [ak (.scr ns),ak (.int i),ak (.int 5),ao]=.ok ((ns.take 63).map D.int):=by
  have hm:min 63 ns.length<=lim:=by show _<=1000000;omega
  simp[-Fo,hc,hm]
 exact⟨_,Zaq (Zq (Jc (c.trans (ah Dl.R.ok (ai h))) rfl) (Zq (Xi rfl) (Zq (Zgh hl e) (Zat (Zn (Zn rfl (Zn rfl rfl (Zog (by decide) (by decide))) rfl) rfl (Zax (by decide)))))))⟩
theorem Xjx(c:Int){k:Int}(h0:0<=k)(h1:k<1000000):∃n:Int,Zah [.int c,.int k]=.ok (.int n):=by have n0:0<=c%2147483629+1013*k+7919:=Hv (Hv (C0 _ (by decide)) (Fx (by decide) h0)) (by decide);have n1:c%2147483629+1013*k+7919<2147483629+1013*1000000+7919:=Int.add_lt_add_right (Int.add_lt_add_of_lt_of_le (CV _ (by decide)) (Cc (Eo h1) (by decide))) _;have b:(c%2147483629+1013*k+7919).natAbs<2^64:=Dt.mp (by rw[Int.natAbs_of_nonneg n0];exact Iu n1 (by decide));have e1:=Zmv (i:=c%2147483629+1013*k+7919) (j:=3) (by decide) (by decide) b;exact⟨_,Zaq (Zq (Xi (Zn (Zn (Zn (Zn (Zn rfl rfl (Zax (by decide))) (Zn rfl rfl (Zog (by decide) (by decide))) rfl) rfl rfl) rfl e1) rfl (Zax (by decide)))) (Zq (Xi (Zn (Zn (Zn (Zn rfl rfl (mulR (by decide) (by decide))) (Zn (Zn rfl rfl (Zog (by decide) (by decide))) rfl (mulR h0 (Eo h1))) rfl) rfl rfl) rfl (Zax (by decide)))) (Zat (Zn rfl rfl (div_ii (by decide) (by decide))))))⟩
structure Row(ms os:List Int):Prop where
 len:os.length=ms.length
 at_:∀k,k<ms.length->0<=os.getD k 0/\os.getD k 0<ms.getD k 0
theorem Row.nil(ms:List Int):Row (ms.take 0) []:=⟨by simp,fun k hk=>by simp at hk⟩
variable{ms os:List Int}
theorem Row.all(h:Row (ms.take ms.length) os):Row ms os:=by rw[Kx]at h;exact h
theorem Row.push{k:Nat}(h:Row (ms.take k) os)(hk:k<ms.length)(h0:0<=v)(h1:v<ms.getD k 0):Row (ms.take (k+1)) (os++[v]):=by
 have hl:=h.len;rw[BY]at hl;have hm:min k ms.length=k:=by omega
 have hm':min (k+1) ms.length=k+1:=by omega
 refine⟨by rw[Av,BY,hm',Iq];omega,fun j hj=>?_⟩;rw[BY,hm']at hj;by_cases e:j=k;subst e;have e1:(os++[v]).getD j 0=v:=by
  have:os.length=j:=by omega
  simp[CA,<- this]
 have e2:(ms.take (j+1)).getD j 0=ms.getD j 0:=by simp[CA,JK]
 rw[e1,e2];exact⟨h0,h1⟩;have hj':j<k:=by omega
 have q:=h.at_ j (by rw[BY];omega);have e1:(os++[v]).getD j 0=os.getD j 0:=by
  have:j<os.length:=by omega
  simp[CA,AM this]
 have e2:(ms.take (k+1)).getD j 0=(ms.take k).getD j 0:=by
  have h1:j<k+1:=by omega
  simp[CA,JK,hj',h1]
 rw[e1,e2];exact q
variable{P:Int->Prop}{ws:List Int}
theorem Zba{i:Nat}(h:∀w∈ws,P w)(hi:i<ws.length):P (ws.getD i 0):=by
 have e:ws.getD i 0=ws[i]:=by simp[CA,hi]
 rw[e];exact h _ (Ca hi)
variable{m:Int}
theorem Xlp(ns:List Int)(hn:ns.length<=63)(h0:0<=i)(h1:i<1000)(ms:List Int)(hm:ms.length<=2000)(hms:∀m∈ms,0<m/\m<2^200):∃os,Xt [.scr ns,.int i,iD ms]=.ok (iD os)/\Row ms os:=by
 obtain⟨c,hc⟩:=Zxi ns hn h0 (show i<1000000 by omega);have key:=Zgi (b:=Zv 6) (s:=Zft) (xs:=Zgt 0 ms.length) (ρ:=[ak (.scr ns),ak (.int i),ak (iD ms),ak (.int c),ak (.int c),ak (.lst []),ao,ao])
  (P:=fun k ρ=>∃(l:Int) (os:List Int) (o6 o7:Option D),Row (ms.take k) os/\ρ=[ak (.scr ns),ak (.int i),ak (iD ms),ak (.int c),ak (.int l),ak (iD os),o6,o7])
  (Rr:=fun r=>∃(l:Int) (os:List Int) (o6 o7:Option D),Row ms os/\r=.ok (.nx [ak (.scr ns),ak (.int i),ak (iD ms),ak (.int c),ak (.int l),ak (iD os),o6,o7]))
  ⟨c,[],ao,ao,Row.nil ms,rfl⟩ ?_ ?_
 obtain⟨l,os,o6,o7,hr,e⟩:=key;refine⟨os,?_,hr⟩;have b1:-1000000000<=(ms.length:Int)/\(ms.length:Int)<=1000000:=by omega
 have gl:Zbp [iD ms]=ak (.int ms.length):=by simp[iD]
 exact Zaq (Zq (Xi (Xm (Zd rfl (Zd rfl rfl)) hc)) (Zq (Xi (Zej rfl rfl)) (Zq (Xi rfl) (Zq (Zgh (Xfw (Zd (Jj (Zd rfl rfl) gl) rfl) b1) e) (Zat rfl)))));rintro k x ρ hx ⟨l,os,o6,o7,hr,rfl⟩;obtain⟨hk,rfl⟩:=Zoi hx;rw[GA];have hol:os.length=k:=by have:=hr.len;rw[BY]at this;omega
 have hlim:(os.map D.int).length<lim:=by rw[Ai];show _<1000000;omega
 have c1:∀o5:Option D,(cE (f2 gLt (fV 3) (f2 Zjj (fC (.int 10)) (fC (.int 18))))) [ak (.scr ns),ak (.int i),ak (iD ms),ak (.int c),ak (.int l),o5,ak (.int k),o7]=.ok (decide (c<1000000000000000000)):=fun _=>Jq (Zn rfl (Zn rfl rfl Zgo) rfl);have ap:∀v:Int,iD (os++[v])=.lst (os.map D.int++[.int v]):=fun v=>ah D.lst A5;have hmk:=Zba hms hk;have ix:=Zff (ns:=ms) (i:=(k:Int)) (k:=k) rfl hk;have md:∀z:Int,Zfb (.int z) (.int (ms.getD k 0))=ak (.int (z%ms.getD k 0)):=fun z=>Zax hmk.1;have nn:∀z:Int,0<=z%ms.getD k 0/\z%ms.getD k 0<ms.getD k 0:=fun z=>⟨C0 _ (LL hmk.1),CV _ hmk.1⟩;have k0:0<=(k:Int)/\(k:Int)<1000000:=by omega
 obtain⟨x1,hx1⟩:=Xjx c k0.1 k0.2;obtain⟨c2,hc2⟩:=Zxi ns hn (i:=(i+1+k)%63) (C0 _ (by decide)) (Iu (CV _ (by decide)) (by decide));obtain⟨x2,hx2⟩:=Xjx c2 k0.1 k0.2;refine⟨_,rfl,.inl ?_⟩;by_cases a1:c<1000000000000000000;refine⟨[ak (.scr ns),ak (.int i),ak (iD ms),ak (.int c),ak (.int l),ak (iD (os++[x1%ms.getD k 0])),ak (.int k),o7],.inl ?_,l,_,_,o7,hr.push hk (nn x1).1 (nn x1).2,rfl⟩;rw[ap];exact Zbz ((c1 _).trans (ah Dl.R.ok (aj a1))) (Zui rfl (Zn (Xm (Zd rfl (Zd rfl rfl)) hx1) (Zn rfl rfl ix) (md x1)) hlim);by_cases a2:0<l;refine⟨[ak (.scr ns),ak (.int i),ak (iD ms),ak (.int c),ak (.int (l/ms.getD k 0)),ak (iD (os++[l%ms.getD k 0])),ak (.int k),o7],.inl ?_,_,_,_,o7,hr.push hk (nn l).1 (nn l).2,rfl⟩;rw[ap];exact Jc ((c1 _).trans (ah Dl.R.ok (ai a1))) (Zbz (Jq (Zn rfl rfl (ah (fun b=>ak (D.bl b)) (aj a2)))) (Zq (Zui rfl (Zn rfl (Zn rfl rfl ix) (md l)) hlim) (Xi (Zn rfl (Zn rfl rfl ix) (div_ii hmk.1 hmk.2)))));refine⟨[ak (.scr ns),ak (.int i),ak (iD ms),ak (.int c),ak (.int l),ak (iD (os++[x2%ms.getD k 0])),ak (.int k),ak (.int c2)],.inl ?_,l,_,_,_,hr.push hk (nn x2).1 (nn x2).2,rfl⟩;rw[ap];exact Jc ((c1 _).trans (ah Dl.R.ok (ai a1))) (Jc (Jq (Zn rfl rfl (ah (fun b=>ak (D.bl b)) (ai a2)))) (Zq (Xi (Xm (Zd rfl (Zd (Zn (Zn (Zn rfl rfl rfl) rfl rfl) rfl (Zax (by decide))) rfl)) hc2)) (Zui rfl (Zn (Xm (Zd rfl (Zd rfl rfl)) hx2) (Zn rfl rfl ix) (md x2)) hlim)));rintro ρ ⟨l,os,o6,o7,hr,rfl⟩;rw[Zbv]at hr;exact⟨l,os,o6,o7,hr.all,rfl⟩
theorem Zmi(ns:List Int)(hn:ns.length<=63)(h0:0<=i)(h1:i<1000)(ms:List Int)(hm:ms.length<=1000)(hms:∀m∈ms,0<m/\m<2^200):∃os,Xt [.scr ns,.int i,iD ms]=.ok (iD os)/\Row ms os:=Xlp ns hn h0 h1 ms (AD hm (by decide)) hms
theorem Zfz(ws:List Int)(h0:0<=i)(h1:i<ws.length):gIx (.lst (ws.map D.int)) (.int i)=ak (.int (ws.getD i.toNat 0)):=Zff (by omega) (by omega)
theorem Zho(l:List Int):∀n:Nat,(Ab n l).flatten.length=n*l.length
 |0=>by simp
 |n+1=>by rw[Bn,B7,Av,Zho l n,Ik,Ip]
theorem Xoz(l:List Int)(n:Nat):(Ab n (l.map D.int)).flatten=(Ab n l).flatten.map D.int:=by rw[List.map_flatten,List.map_replicate]
theorem Zki(h0:0<=m)(h1:m<=200)(hl:ws.length<=1000):Zag (.lst (ws.map D.int)) (.int m)=ak (iD (Ab m.toNat ws).flatten):=by
  simp only [Zag];rw [aa ⟨by omega,by
    rw [Ai];show ws.length*m.toNat<=1000000;have:ws.length*m.toNat<=1000*200:=ET hl (by omega);omega,by omega,Zfn ws⟩,Xoz]
  rfl
theorem Zkf{xs:List Int}(h:xs.length+ys.length<=1000000):Jn (iD xs) (iD ys)=ak (iD (xs++ys)):=by show(if (xs.map D.int).length+(ys.map D.int).length<=lim/\Zr (xs.map D.int)/\Zr (ys.map D.int) then ak (D.lst (xs.map D.int++ys.map D.int)) else ao)=_;rw[aa ⟨by rw[Ai,Ai];exact h,Zfn _,Zfn _⟩,<- A5];rfl
theorem Zqo(x y:Int):∀(n k:Nat),k<n->(Ab n [x,y]).flatten.getD (2*k) 0=x/\(Ab n [x,y]).flatten.getD (2*k+1) 0=y
 |0,k,h=>by omega
 |n+1,0,_=>by simp[Bn,B7,CA]
 |n+1,k+1,h=>by
  have q:=Zqo x y n k (by omega);have e1:2*(k+1)=2*k+2:=by omega
  rw[Bn,B7,e1];exact q
theorem Zra(x y z:Int):∀(n k:Nat),k<n->(Ab n [x,y,z]).flatten.getD (3*k) 0=x/\(Ab n [x,y,z]).flatten.getD (3*k+1) 0=y/\(Ab n [x,y,z]).flatten.getD (3*k+2) 0=z
 |0,k,h=>by omega
 |n+1,0,_=>by simp[Bn,B7,CA]
 |n+1,k+1,h=>by
  have q:=Zra x y z n k (by omega);have e1:3*(k+1)=3*k+3:=by omega
  rw[Bn,B7,e1];exact q
theorem Zxy{l:List Int}{z:Int}(h:z∈(Ab n l).flatten):z∈l:=by
 obtain⟨l',hl,hz⟩:=List.mem_flatten.mp h
 rwa [(List.mem_replicate.mp hl).2]at hz
def Zbg:List Str:=["a","ab","abc","b","ba","z","zzzzzzzz","roll","cut","by","aab","zz","kind","qsvw","fghjmp","x"]
theorem Xhr:∀j:Nat,j<16->∀k:Nat,k<16->Zbg.getD j ""=Zbg.getD k ""->j=k:=by decide+kernel
def nameAt(s4 s5:Int)(k:Nat):Str:=Zbg.getD ((s4+(2*s5+1)*(k:Int))%16).toNat ""
theorem Xff:∀t:Nat,t<4->∀j:Nat,j<8->∀k:Nat,k<8->((2*(t:Int)+1)*j-(2*(t:Int)+1)*k)%16=0->j=k:=by decide+kernel
theorem Zvh{s4 s5:Int}(h0:0<=s5)(h1:s5<4){j k:Nat}(hj:j<8)(hk:k<8)(e:nameAt s4 s5 j=nameAt s4 s5 k):j=k:=by have lt:∀x:Int,(x%16).toNat<16:=fun x=>(El (C0 x (by decide))).mpr (CV x (by decide));have q:=ah Int.ofNat (Xhr _ (lt _) _ (lt _) e);have q1:(s4+(2*s5+1)*(j:Int))%16=(s4+(2*s5+1)*(k:Int))%16:=(Cj (C0 _ (by decide))).symm.trans (q.trans (Cj (C0 _ (by decide))));have q2:=Int.emod_eq_emod_iff_emod_sub_eq_zero.mp q1;rw[Int.add_sub_add_left]at q2;obtain⟨t,rfl⟩:=E2 h0;exact Xff t (Dt.mp h1) j hj k hk q2
theorem Zuh(s4 s5:Int)(k:Nat):nameAt s4 s5 k∈Zbg:=by
 unfold nameAt;have h:((s4+(2*s5+1)*(k:Int))%16).toNat<Zbg.length:=by show _<16;omega
 have e:Zbg.getD ((s4+(2*s5+1)*(k:Int))%16).toNat ""=Zbg[((s4+(2*s5+1)*(k:Int))%16).toNat]:=by simp[CA,h]
 rw[e];exact Ca h
variable{nm:Str}
structure Zqj(k:Kd):Prop where
 nm:k.name∈Zbg
 w1:1<=k.w
 w2:k.w<=200
 o1:1<=k.wo
 o2:k.wo<=1000000000000000000
 a1:0<=k.al
 a2:k.al<1000000000000000000
structure Xxh(ks:List Kd):Prop where
 ok:∀k∈ks,Zqj k
 nd:(ks.map (·.name)).Nodup
theorem Xpr(h0:0<=i)(h1:i<16):gIx (.lst (Zbg.map D.str)) (.int i)=ak (.str (Zbg.getD i.toNat "")):=Xrs (k:=i.toNat) (by omega) (by
  have h:i.toNat<Zbg.length:=by show _<16;omega
  simp [CA,h])
theorem Zom(h:∀m∈ms,0<m/\m<=1000000):∀m∈ms,0<m/\m<2^200:=fun m hm=>⟨(h m hm).1,Km (h m hm).2 (by decide)⟩
variable{x:Int}
theorem four(h:0<=x/\x<4):x=0\/x=1\/x=2\/x=3:=by
 obtain⟨n,rfl⟩:=E2 h.1
 match n,Dt.mp h.2 with
 |0,_=>exact .inl rfl
 |1,_=>exact .inr (.inl rfl)
 |2,_=>exact .inr (.inr (.inl rfl))
 |3,_=>exact .inr (.inr (.inr rfl))
theorem Zjc(hm:0<m):0<=x%m/\x%m<m:=⟨C0 _ (LL hm),CV _ hm⟩
variable{T:List D}
theorem Xct{d0 d1 d2 o9 o10 o11 o12 o13:Option D}{O:D}{gn bw wd am x3 x4 x5 x6 x7 x8:Int}{k:Nat}(j0:gIx O (.int (3*(k:Int)+6))=ak (.int x6))(j1:gIx O (.int (3*(k:Int)+6+1))=ak (.int x7))(j2:gIx O (.int (3*(k:Int)+6+2))=ak (.int x8))(j3:gIx O (.int 3)=ak (.int x3))(j4:gIx O (.int 4)=ak (.int x4))(j5:gIx O (.int 5)=ak (.int x5))(ib:gIx (.lst [.int 150,.int 200]) (.int ((k:Int)%2))=ak (.int bw))(iw:gIx (.lst [.int 1,.int 2,.int 3,.int 4,.int 5,.int 6,.int 2,.int 3,.int 11,.int 40,.int bw]) (.int x6)=ak (.int wd))(ia:gIx (.lst [.int 0,.int 0,.int 1,.int 2,.int 3,.int 12]) (.int x8)=ak (.int am))(iN:gIx (.lst (Zbg.map D.str)) (.int ((x4+(2*x5+1)*(k:Int))%16))=ak (.str nm))(w1:1<=wd/\wd<=200)(c7:0<=x7/\x7<40)(c3:0<=x3/\x3<4)(c5:0<=x5/\x5<4)(m1:0<=am/\am<=12)(sl:T.length<lim):∃wo:Int,(1<=wo/\wo<=1000)/\Zbh [d0,d1,d2,ak (.lst (Zbg.map D.str)),ak O,ak (.int fl),ak (.int gn),ak (.lst T),ak (.int k),o9,o10,o11,o12,o13] =.ok (.nx [d0,d1,d2,ak (.lst (Zbg.map D.str)),ak O,ak (.int fl),ak (.int gn),ak (.lst (T++[.tup [.str nm,.int wd,.int (min (wo*gn) 1000000000000000000),.int (min (am*fl) 999999999999999999)]])),ak (.int k),ak (.int (3*(k:Int)+6)),ak (.int wd),ak (.int wo),ak (.int (min (am*fl) 999999999999999999)),ak (.str nm)]):=by
  obtain ⟨wo,hb,mid⟩:∃wo:Int,(1<=wo/\wo<=1000)/\∀Q:FS,(Xu (sIf (cE (f2 gEq (f2 gIx (fV 4) (fC (.int 3))) (fC (.int 1)))) (Yq 11 (f2 Jn (f2 Zag (fC (.int 3)) (fV 10)) (f2 Zfb (f2 gIx (fV 4) (f2 Jn (fV 9) (fC (.int 1)))) (fC (.int 4))))) sNx)
    (Xu (sIf (cE (f2 gEq (f2 gIx (fV 4) (fC (.int 3))) (fC (.int 2)))) (Yq 11 (f2 Jn (fC (.int 1)) (f2 Zfb (f2 gIx (fV 4) (f2 Jn (fV 9) (fC (.int 1)))) (fC (.int 3))))) sNx)
    (Xu (sIf (cE (f2 gEq (f2 gIx (fV 4) (fC (.int 3))) (fC (.int 3)))) (Yq 11 (f1 Jd (fV 10))) sNx) Q))) [d0,d1,d2,ak (.lst (Zbg.map D.str)),ak O,ak (.int fl),ak (.int gn),ak (.lst T),ak (.int k),ak (.int (3*(k:Int)+6)),ak (.int wd),ak (.int (1+x7)),o12,o13] =
      Q [d0,d1,d2,ak (.lst (Zbg.map D.str)),ak O,ak (.int fl),ak (.int gn),ak (.lst T),ak (.int k),ak (.int (3*(k:Int)+6)),ak (.int wd),ak (.int wo),o12,o13]:=by
    rcases four c3 with rfl|rfl|rfl|rfl;exact⟨1+x7,⟨Hu c7.1,AU (JV (Eo c7.2) 1) (by decide)⟩,fun Q=>Zq (Jc (Jq (Zn (Zn rfl rfl j3) rfl rfl)) rfl) (Zq (Jc (Jq (Zn (Zn rfl rfl j3) rfl rfl)) rfl) (Zq (Jc (Jq (Zn (Zn rfl rfl j3) rfl rfl)) rfl) rfl))⟩;exact⟨3*wd+x7%4,⟨AU (show(1:Int)<=3*1+0 by decide) (Lk (Cc w1.1 (by decide)) (Zjc (by decide)).1),AU (Lk (Cc w1.2 (by decide)) (Eo (Zjc (by decide)).2)) (by decide)⟩,fun Q=>Zq (Zbz (Jq (Zn (Zn rfl rfl j3) rfl rfl)) (Xi (Zn (Zn rfl rfl (Zog (by decide) (by decide))) (Zn (Zn rfl (Zn rfl rfl rfl) j1) rfl (Zax (by decide))) rfl))) (Zq (Jc (Jq (Zn (Zn rfl rfl j3) rfl rfl)) rfl) (Zq (Jc (Jq (Zn (Zn rfl rfl j3) rfl rfl)) rfl) rfl))⟩;exact⟨1+x7%3,⟨Hu (Zjc (by decide)).1,AU (JV (Eo (Zjc (by decide)).2) 1) (by decide)⟩,fun Q=>Zq (Jc (Jq (Zn (Zn rfl rfl j3) rfl rfl)) rfl) (Zq (Zbz (Jq (Zn (Zn rfl rfl j3) rfl rfl)) (Xi (Zn rfl (Zn (Zn rfl (Zn rfl rfl rfl) j1) rfl (Zax (by decide))) rfl))) (Zq (Jc (Jq (Zn (Zn rfl rfl j3) rfl rfl)) rfl) rfl))⟩;exact⟨wd,⟨w1.1,AU w1.2 (by decide)⟩,fun Q=>Zq (Jc (Jq (Zn (Zn rfl rfl j3) rfl rfl)) rfl) (Zq (Jc (Jq (Zn (Zn rfl rfl j3) rfl rfl)) rfl) (Zq (Zbz (Jq (Zn (Zn rfl rfl j3) rfl rfl)) (Xi (Zej rfl rfl))) rfl))⟩
  exact ⟨wo,hb,Zq (Xi (Zn (Zn rfl rfl (Zog (by decide) (by decide))) rfl rfl)) (Zq (Xi (Zej (Zn (Jj (Zd rfl (Zd rfl (Zd rfl (Zd rfl (Zd rfl (Zd rfl (Zd rfl (Zd rfl (Zd rfl (Zd rfl (Zd (Zn rfl (Zn rfl rfl (Zax (by decide))) ib) rfl))))))))))) rfl) (Zn rfl rfl j0) iw) rfl)) (Zq (Xi (Zn rfl (Zn rfl (Zn rfl rfl rfl) j1) rfl)) ((mid _).trans
    (Zq (Xi (Jj (Zd (Zn (Zn rfl (Zn rfl (Zn rfl rfl rfl) j2) ia) rfl (Zog m1.1 (AU m1.2 (by decide)))) (Zd (Zn (Zn rfl rfl Zgo) rfl (show Zia (.int 1000000000000000000) (.int 1)=ak (.int 999999999999999999) from rfl)) rfl)) (Xiw _ _)))
    (Zq (Xi (Zej (Zn rfl (Zn (Zn (Zn rfl rfl j4) (Zn (Zn (Zn rfl (Zn rfl rfl j5) (Zog (by decide) (by decide))) rfl rfl) rfl (Zog (Hv (Fx (by decide) c5.1) (by decide)) (AU (IS (Cc (Eo c5.2) (by decide)) 1) (by decide)))) rfl) rfl (Zax (by decide))) iN) rfl))
    (Zui rfl (Jj (Zd (Zej rfl rfl) (Zd (Zej rfl rfl) (Zd (Jj (Zd (Zn rfl rfl (Zog (AU (by decide) hb.1) (AU hb.2 (by decide)))) (Zd (Zn rfl rfl Zgo) rfl)) (Xiw _ _)) (Zd (Zej rfl rfl) rfl)))) rfl) sl))))))⟩
theorem under{k:Nat}(h:k<x.toNat)(hx:x<m+1):k<m.toNat:=by omega
theorem Xdo{l:List Int}(h:∀z∈l,P z)(hb:P b):∀z∈l++[b],P z:=E8.mpr ⟨h,fun _ hz=>Ap.mp hz▸hb⟩
theorem Xxa{k j m:Nat}(h:k<m)(hj:j<3):3*k+(j+6)<6+m*3:=by omega
theorem Xgl(ns:List Int)(hn:ns.length<=63)(h0:0<=i)(h1:i<1000)(m0:0<=m)(m1:m<=8):∃ks,Jy [.scr ns,.int i,.int m]=.ok (tD ks)/\(ks.length:Int)<=m/\Xxh ks:=by
  have m8:m.toNat<=8:=LK.mpr m1;have m24:6+m.toNat*3<=30:=Nat.add_le_add_left (Nat.mul_le_mul_right 3 m8) 6;have ms_eq:Jn (iD [m+1,4,4,4,16,4]) (iD (Ab m.toNat [11,40,6]).flatten)=ak (iD ([m+1,4,4,4,16,4]++(Ab m.toNat [11,40,6]).flatten)):=Zkf (by
    rw [Zho];exact AD m24 (by decide))
  have mr:=Zki (ws:=[11,40,6]) m0 (AU m1 (by decide)) (by decide);have hml:([m+1,4,4,4,16,4]++(Ab m.toNat [(11:Int),40,6]).flatten).length=6+m.toNat*3:=by rw[Av,Zho];rfl
  obtain⟨os,hos,R⟩:=Zmi ns hn h0 h1 ([m+1,4,4,4,16,4]++(Ab m.toNat [11,40,6]).flatten) (by rw[hml];exact AD m24 (by decide)) (Zom (E8.mpr ⟨AK.mpr ⟨⟨Int.lt_add_one_of_le m0,AU (IS m1 1) (by decide)⟩,by decide⟩,fun z hz=>(by decide:∀z∈[(11:Int),40,6],0<z/\z<=1000000) z (Zxy hz)⟩));have hol:os.length=6+m.toNat*3:=by rw[R.len,hml]
  have hlt:∀{j:Nat},j<6->j<([m+1,4,4,4,16,4]++(Ab m.toNat [(11:Int),40,6]).flatten).length:=fun h=>by rw[hml];exact AG h (DC _ _)
  have hlo:∀{j:Nat},j<6->j<os.length:=fun h=>by rw[hol];exact AG h (DC _ _)
  have tri:∀k j:Nat,k<m.toNat->j<3->3*k+(j+6)<6+m.toNat*3:=fun _ _ h hj=>Xxa h hj;have a0:0<=os.getD 0 0/\os.getD 0 0<m+1:=R.at_ 0 (hlt (by decide));have a1:0<=os.getD 1 0/\os.getD 1 0<4:=R.at_ 1 (hlt (by decide));have a2:0<=os.getD 2 0/\os.getD 2 0<4:=R.at_ 2 (hlt (by decide));have a3:0<=os.getD 3 0/\os.getD 3 0<4:=R.at_ 3 (hlt (by decide));have a4:0<=os.getD 4 0/\os.getD 4 0<16:=R.at_ 4 (hlt (by decide));have a5:0<=os.getD 5 0/\os.getD 5 0<4:=R.at_ 5 (hlt (by decide));have b3:∀k:Nat,k<m.toNat->(0<=os.getD (3*k+6) 0/\os.getD (3*k+6) 0<11)/\(0<=os.getD (3*k+7) 0/\os.getD (3*k+7) 0<40)/\(0<=os.getD (3*k+8) 0/\os.getD (3*k+8) 0<6):=fun k hk=>by obtain⟨g1,g2,g3⟩:=Zra 11 40 6 m.toNat k hk;have e:∀j:Nat,([m+1,4,4,4,16,4]++(Ab m.toNat [(11:Int),40,6]).flatten).getD (j+6) 0=(Ab m.toNat [(11:Int),40,6]).flatten.getD j 0:=fun j=>rfl;have r1:=R.at_ (3*k+6) (by rw[hml];exact tri k 0 hk (by decide));have r2:=R.at_ (3*k+7) (by rw[hml];exact tri k 1 hk (by decide));have r3:=R.at_ (3*k+8) (by rw[hml];exact tri k 2 hk (by decide));rw[e (3*k),g1]at r1;rw[show 3*k+7=(3*k+1)+6 from rfl,e (3*k+1),g2]at r2;rw[show 3*k+8=(3*k+2)+6 from rfl,e (3*k+2),g3]at r3;exact⟨r1,r2,r3⟩
  have ix:∀k:Nat,k<os.length->∀j:Int,j=(k:Int)->gIx (.lst (os.map D.int)) (.int j)=ak (.int (os.getD k 0)):=fun k hk j e=>Zff e hk;obtain⟨fl,hfl⟩:∃fl,fl=([1,1,7,100000000000000000]:List Int).getD (os.getD 1 0).toNat 0:=⟨_,rfl⟩;obtain⟨gn,hgn⟩:∃gn,gn=([1,1,1000000,25000000000000000]:List Int).getD (os.getD 2 0).toNat 0:=⟨_,rfl⟩;have fl1:1<=fl/\fl<=100000000000000000:=by rw[hfl];exact Zba (P:=fun z=>1<=z/\z<=100000000000000000) (by decide) (show _<4 from(El a1.1).mpr a1.2)
  have gn1:1<=gn/\gn<=25000000000000000:=by rw[hgn];exact Zba (P:=fun z=>1<=z/\z<=25000000000000000) (by decide) (show _<4 from(El a2.1).mpr a2.2)
  have i1:gIx (.lst [.int 1,.int 1,.int 7,.int 100000000000000000]) (.int (os.getD 1 0))=ak (.int fl):=by rw[hfl];exact Zfz [1,1,7,100000000000000000] a1.1 a1.2
  have i2:gIx (.lst [.int 1,.int 1,.int 1000000,.int 25000000000000000]) (.int (os.getD 2 0))=ak (.int gn):=by rw[hgn];exact Zfz [1,1,1000000,25000000000000000] a2.1 a2.2
  have key:=Zgi (b:=Zv 8) (s:=Zbh) (xs:=Zgt 0 (os.getD 0 0).toNat) (ρ:=[ak (.scr ns),ak (.int i),ak (.int m),ak (.lst (Zbg.map D.str)),ak (iD os),ak (.int fl),ak (.int gn),ak (.lst []),ao,ao,ao,ao,ao,ao])
    (P:=fun k ρ=>∃(ks:List Kd) (o8 o9 o10 o11 o12 o13:Option D),ks.length=k/\(∀x∈ks,Zqj x)/\ks.map (·.name)=(AX k).map (nameAt (os.getD 4 0) (os.getD 5 0))/\ρ=[ak (.scr ns),ak (.int i),ak (.int m),ak (.lst (Zbg.map D.str)),ak (iD os),ak (.int fl),ak (.int gn),ak (tD ks),o8,o9,o10,o11,o12,o13])
    (Rr:=fun r=>∃(ks:List Kd) (o8 o9 o10 o11 o12 o13:Option D),ks.length=(os.getD 0 0).toNat/\(∀x∈ks,Zqj x)/\ks.map (·.name)=(AX ks.length).map (nameAt (os.getD 4 0) (os.getD 5 0))/\r=.ok (.nx [ak (.scr ns),ak (.int i),ak (.int m),ak (.lst (Zbg.map D.str)),ak (iD os),ak (.int fl),ak (.int gn),ak (tD ks),o8,o9,o10,o11,o12,o13]))
    ⟨[],ao,ao,ao,ao,ao,ao,rfl,(fun _ h=>nomatch h),rfl,rfl⟩ ?_ ?_
  · obtain⟨ks,o8,o9,o10,o11,o12,o13,kl,kok,knm,e⟩:=key;have k8:ks.length<=8:=by rw[kl];exact LK.mpr (AU (Gp.mp a0.2) m1)
    refine⟨ks,?_,by rw[kl,Cj a0.1];exact Gp.mp a0.2,kok,?_⟩
    · have b1:-1000000000<=os.getD 0 0/\os.getD 0 0<=1000000:=⟨AU (by decide) a0.1,AU (Gp.mp a0.2) (AU m1 (by decide))⟩;have hp:Jn (.lst [.str ("a":Str),.str ("ab":Str),.str ("abc":Str),.str ("b":Str),.str ("ba":Str),.str ("z":Str),.str ("zzzzzzzz":Str),.str ("roll":Str),.str ("cut":Str),.str ("by":Str)]) (.lst [.str ("aab":Str),.str ("zz":Str),.str ("kind":Str),.str ("qsvw":Str),.str ("fghjmp":Str),.str ("x":Str)])=ak (.lst (Zbg.map D.str)):=rfl;have mr':Zag (.lst [.int 11,.int 40,.int 6]) (.int m)=_:=mr;have ms':Jn (.lst [.int (m+1),.int 4,.int 4,.int 4,.int 16,.int 4]) (iD (Ab m.toNat [11,40,6]).flatten)=_:=ms_eq;generalize iD ([m+1,4,4,4,16,4]++(Ab m.toNat [11,40,6]).flatten)=Mv at hos ms';generalize iD (Ab m.toNat [11,40,6]).flatten=Mw at mr' ms';exact Zaq (Zq (Xi rfl) (Zq (Xi (Zn rfl rfl hp)) (Zq (Xi (Xm (Zd rfl (Zd rfl (Zd (Zn (Jj (Zd (Zn rfl rfl rfl) rfl) rfl) (Zn rfl rfl mr') ms') rfl))) hos))
        (Zq (Xi (Zej (Zn (Jj (Zd rfl (Zd rfl (Zd rfl (Zd (Zn rfl rfl Zrn) rfl)))) rfl) (Zn rfl rfl (ix 1 (hlo (by decide)) 1 rfl)) i1) rfl))
        (Zq (Xi (Zej (Zn (Jj (Zd rfl (Zd rfl (Zd (Zn rfl rfl (show Zjj (.int 10) (.int 6)=ak (.int 1000000) by simp)) (Zd (Zn rfl (Zn rfl rfl Xib) (show Zag (.int 25) (.int 1000000000000000)=ak (.int 25000000000000000) from Zog (by decide) (by decide))) rfl)))) rfl) (Zn rfl rfl (ix 2 (hlo (by decide)) 2 rfl)) i2) rfl))
        (Zq (Xi rfl) (Zq (Zgh (Xfw (Zd (Zn rfl rfl (ix 0 (hlo (by decide)) 0 rfl)) rfl) b1) e) (Zat rfl))))))))
    rw[knm,Hi,EF];refine D9 ?_ (Hi.mp List.nodup_range);intro i j hi hj hij e;have hi:=Bi.mp hi;have hj:=Bi.mp hj;exact hij (Zvh a5.1 a5.2 (AG hi (AD k8 (by decide))) (AG hj (AD k8 (by decide))) e)
  rintro k x ρ hx ⟨ks,o8,o9,o10,o11,o12,o13,kl,kok,knm,rfl⟩;obtain⟨hk,rfl⟩:=Zoi hx;rw[GA];have hkm:k<m.toNat:=under hk a0.2;obtain⟨c1,c2,c3⟩:=b3 k hkm;have j0:=ix (3*k+6) (by rw[hol];exact tri k 0 hkm (by decide)) (3*k+6) rfl;have j1:=ix (3*k+7) (by rw[hol];exact tri k 1 hkm (by decide)) (3*k+6+1) (HH _ 6 1);have j2:=ix (3*k+8) (by rw[hol];exact tri k 2 hkm (by decide)) (3*k+6+2) (HH _ 6 2);have j3:=ix 3 (hlo (by decide)) 3 rfl;have j4:=ix 4 (hlo (by decide)) 4 rfl;have j5:=ix 5 (hlo (by decide)) 5 rfl;obtain⟨bw,hbw⟩:∃bw,bw=([150,200]:List Int).getD ((k:Int)%2).toNat 0:=⟨_,rfl⟩;have k2:0<=(k:Int)%2/\(k:Int)%2<2:=⟨C0 _ (by decide),CV _ (by decide)⟩;have bw1:1<=bw/\bw<=200:=by rw[hbw];exact Zba (P:=fun z=>1<=z/\z<=200) (by decide) (show _<2 from(El k2.1).mpr k2.2)
  have ib:gIx (.lst [.int 150,.int 200]) (.int ((k:Int)%2))=ak (.int bw):=by rw[hbw];exact Zfz [150,200] k2.1 k2.2
  obtain⟨wd,hwd⟩:∃wd,wd=([1,2,3,4,5,6,2,3,11,40,bw]:List Int).getD (os.getD (3*k+6) 0).toNat 0:=⟨_,rfl⟩;have wd1:1<=wd/\wd<=200:=by rw[hwd];exact Zba (P:=fun z=>1<=z/\z<=200) (Xdo (l:=[1,2,3,4,5,6,2,3,11,40]) (by decide) bw1) (show _<11 from(El c1.1).mpr c1.2)
  have iw:gIx (.lst [.int 1,.int 2,.int 3,.int 4,.int 5,.int 6,.int 2,.int 3,.int 11,.int 40,.int bw]) (.int (os.getD (3*k+6) 0))=ak (.int wd):=by rw[hwd];exact Zfz [1,2,3,4,5,6,2,3,11,40,bw] c1.1 c1.2
  obtain⟨am,ham⟩:∃am,am=([0,0,1,2,3,12]:List Int).getD (os.getD (3*k+8) 0).toNat 0:=⟨_,rfl⟩;have am1:0<=am/\am<=12:=by rw[ham];exact Zba (P:=fun z=>0<=z/\z<=12) (by decide) (show _<6 from(El c3.1).mpr c3.2)
  have ia:gIx (.lst [.int 0,.int 0,.int 1,.int 2,.int 3,.int 12]) (.int (os.getD (3*k+8) 0))=ak (.int am):=by rw[ham];exact Zfz [0,0,1,2,3,12] c3.1 c3.2
  have iN:=Xpr (i:=(os.getD 4 0+(2*os.getD 5 0+1)*(k:Int))%16) (C0 _ (by decide)) (CV _ (by decide));have sl:(ks.map kD).length<lim:=by rw[Ai,kl];exact AG hkm (AD m8 (by decide))
  obtain⟨wo,wo1,turn⟩:=Xct (d0:=ak (.scr ns)) (d1:=ak (.int i)) (d2:=ak (.int m)) (o9:=o9) (o10:=o10) (o11:=o11) (o12:=o12) (o13:=o13) (fl:=fl) (gn:=gn) j0 j1 j2 j3 j4 j5 ib iw ia iN wd1 c2 a3 a5 am1 sl;have pr:0<=am*fl:=Fx am1.1 (AU (by decide) fl1.1);have wg:1<=wo*gn:=Lj wo1.1 gn1.1 (by decide) (AU (by decide) wo1.1);have kd:Zqj ⟨nameAt (os.getD 4 0) (os.getD 5 0) k,wd,min (wo*gn) 1000000000000000000,min (am*fl) 999999999999999999⟩:=⟨Zuh _ _ _,wd1.1,wd1.2,Kn.mpr ⟨wg,by decide⟩,KW _ _,Kn.mpr ⟨pr,by decide⟩,Km (KW _ _) (by decide)⟩;refine⟨_,rfl,.inl ⟨[ak (.scr ns),ak (.int i),ak (.int m),ak (.lst (Zbg.map D.str)),ak (iD os),ak (.int fl),ak (.int gn),ak (tD (ks++[⟨nameAt (os.getD 4 0) (os.getD 5 0) k,wd,min (wo*gn) 1000000000000000000,min (am*fl) 999999999999999999⟩])),ak (.int k),ak (.int (3*k+6)),ak (.int wd),ak (.int wo),ak (.int (min (am*fl) 999999999999999999)),ak (.str (nameAt (os.getD 4 0) (os.getD 5 0) k))],.inl ?_,_,_,_,_,_,_,_,?_,?_,?_,rfl⟩⟩;rw[show tD (ks++[⟨nameAt (os.getD 4 0) (os.getD 5 0) k,wd,min (wo*gn) 1000000000000000000,min (am*fl) 999999999999999999⟩])=.lst (ks.map kD++[.tup [.str (nameAt (os.getD 4 0) (os.getD 5 0) k),.int wd,.int (min (wo*gn) 1000000000000000000),.int (min (am*fl) 999999999999999999)]]) from ah D.lst A5];exact turn;rw[Av,kl];rfl;intro x hx;rcases Al.mp hx with h|h;exact kok x h;rw[Ap.mp h];exact kd;rw[A5,knm,List.range_succ,A5];rfl;rintro ρ ⟨ks,o8,o9,o10,o11,o12,o13,kl,kok,knm,rfl⟩;rw[Zbv]at kl;exact⟨ks,o8,o9,o10,o11,o12,o13,kl,kok,by rw[kl];rw[Zbv]at knm;exact knm,rfl⟩
theorem Xmi(ns:List Int)(hn:ns.length<=63)(h0:0<=i)(h1:i<1000)(m0:0<=m)(m1:m<=1000):∃fl:Int,Zal [.scr ns,.int i,.int m]=.ok (.int fl)/\1<=fl/\fl<=100000000000000000:=by
 obtain⟨os,hos,R⟩:=Zmi ns hn h0 h1 [m+1,4] (by decide:2<=1000) (Zom (AK.mpr ⟨⟨by omega,by omega⟩,by decide⟩));have hol:os.length=2:=R.len;have a1:0<=os.getD 1 0/\os.getD 1 0<4:=R.at_ 1 (by decide:1<2);obtain⟨fl,hfl⟩:∃fl,fl=([1,1,7,100000000000000000]:List Int).getD (os.getD 1 0).toNat 0:=⟨_,rfl⟩;have fl1:1<=fl/\fl<=100000000000000000:=by rw[hfl];exact Zba (P:=fun z=>1<=z/\z<=100000000000000000) (by decide) (show _<4 from(El a1.1).mpr a1.2)
 have i1:gIx (.lst [.int 1,.int 1,.int 7,.int 100000000000000000]) (.int (os.getD 1 0))=ak (.int fl):=by rw[hfl];exact Zfz [1,1,7,100000000000000000] a1.1 a1.2
 have i0:=Zff (ns:=os) (i:=1) (k:=1) rfl (by rw[hol];decide);exact⟨fl,Zaq (Zat (Zej (Zn (Jj (Zd rfl (Zd rfl (Zd rfl (Zd (Zn rfl rfl Zrn) rfl)))) rfl) (Zn (Xm (Zd rfl (Zd rfl (Zd (Jj (Zd (Zn rfl rfl rfl) rfl) rfl) rfl))) hos) rfl i0) i1) rfl)),fl1⟩
theorem Xkj(ns:List Int)(hn:ns.length<=63)(h0:0<=i)(h1:i<1000)(m0:0<=m)(m1:m<=200)(f0:1<=fl)(f1:fl<=100000000000000000):∃ws,Jr [.scr ns,.int i,.int m,.int fl]=.ok (iD ws)/\(ws.length:Int)<=m/\∀w∈ws,0<=w/\w<=1000000000000000000:=by
  have ms_eq:Jn (iD [m+1,4,3]) (iD (Ab m.toNat [8,5]).flatten)=ak (iD ([m+1,4,3]++(Ab m.toNat [8,5]).flatten)):=Zkf (by
    rw [Zho];show 3+m.toNat*2<=1000000;omega)
  have mr:=Zki (ws:=[8,5]) m0 (show m<=200 by omega) (by decide);have hml:([m+1,4,3]++(Ab m.toNat [(8:Int),5]).flatten).length=3+m.toNat*2:=by rw[Av,Zho];rfl
  obtain⟨os,hos,R⟩:=Zmi ns hn h0 h1 ([m+1,4,3]++(Ab m.toNat [8,5]).flatten) (by omega) (Zom (E8.mpr ⟨AK.mpr ⟨⟨by omega,by omega⟩,by decide⟩,fun z hz=>(by decide:∀z∈[(8:Int),5],0<z/\z<=1000000) z (Zxy hz)⟩));have hol:os.length=3+m.toNat*2:=by rw[R.len,hml]
  have hlt:∀{j:Nat},j<3->j<([m+1,4,3]++(Ab m.toNat [(8:Int),5]).flatten).length:=fun h=>by rw[hml];exact AG h (DC _ _)
  have hlo:∀{j:Nat},j<3->j<os.length:=fun h=>by rw[hol];exact AG h (DC _ _)
  have tri:∀k j:Nat,k<m.toNat->j<2->2*k+(j+3)<3+m.toNat*2:=fun k j h hj=>by omega
  have a0:0<=os.getD 0 0/\os.getD 0 0<m+1:=R.at_ 0 (hlt (by decide));have a1:0<=os.getD 1 0/\os.getD 1 0<4:=R.at_ 1 (hlt (by decide));have a2:0<=os.getD 2 0/\os.getD 2 0<3:=R.at_ 2 (hlt (by decide));have b2:∀k:Nat,k<m.toNat->(0<=os.getD (2*k+3) 0/\os.getD (2*k+3) 0<8)/\(0<=os.getD (2*k+4) 0/\os.getD (2*k+4) 0<5):=fun k hk=>by obtain⟨g1,g2⟩:=Zqo 8 5 m.toNat k hk;have e:∀j:Nat,([m+1,4,3]++(Ab m.toNat [(8:Int),5]).flatten).getD (j+3) 0=(Ab m.toNat [(8:Int),5]).flatten.getD j 0:=fun j=>rfl;have r1:=R.at_ (2*k+3) (by rw[hml];exact tri k 0 hk (by decide));have r2:=R.at_ (2*k+4) (by rw[hml];exact tri k 1 hk (by decide));rw[e (2*k),g1]at r1;rw[show 2*k+4=(2*k+1)+3 from rfl,e (2*k+1),g2]at r2;exact⟨r1,r2⟩
  have ix:∀k:Nat,k<os.length->∀j:Int,j=(k:Int)->gIx (.lst (os.map D.int)) (.int j)=ak (.int (os.getD k 0)):=fun k hk j e=>Zff e hk;obtain⟨gr,hgr,gr1⟩:∃gr:Int,gr=(if os.getD 2 0=0 then 1000000000000000000 else 9*fl)/\0<=gr/\gr<=1000000000000000000:=by refine⟨_,rfl,?_⟩;split;exact⟨by decide,by decide⟩;exact⟨Fx (by decide) (AU (by decide) f0),AU (Cc f1 (by decide)) (by decide)⟩
  obtain⟨th,hth⟩:∃th,th=([0,1,3,6]:List Int).getD (os.getD 1 0).toNat 0:=⟨_,rfl⟩;have ith:gIx (.lst [.int 0,.int 1,.int 3,.int 6]) (.int (os.getD 1 0))=ak (.int th):=by rw[hth];exact Zfz [0,1,3,6] a1.1 a1.2
  have key:=Zgi (b:=Zv 7) (s:=Zeu) (xs:=Zgt 0 (os.getD 0 0).toNat) (ρ:=[ak (.scr ns),ak (.int i),ak (.int m),ak (.int fl),ak (iD os),ak (.int gr),ak (.lst []),ao,ao,ao])
    (P:=fun k ρ=>∃(ws:List Int) (o7 o8 o9:Option D),ws.length=k/\(∀x∈ws,0<=x/\x<=1000000000000000000)/\ρ=[ak (.scr ns),ak (.int i),ak (.int m),ak (.int fl),ak (iD os),ak (.int gr),ak (iD ws),o7,o8,o9])
    (Rr:=fun r=>∃(ws:List Int) (o7 o8 o9:Option D),ws.length=(os.getD 0 0).toNat/\(∀x∈ws,0<=x/\x<=1000000000000000000)/\r=.ok (.nx [ak (.scr ns),ak (.int i),ak (.int m),ak (.int fl),ak (iD os),ak (.int gr),ak (iD ws),o7,o8,o9]))
    ⟨[],ao,ao,ao,rfl,(fun _ h=>nomatch h),rfl⟩ ?_ ?_
  obtain⟨ws,o7,o8,o9,wl,wok,e⟩:=key;refine⟨ws,?_,by omega,wok⟩;have b1:-1000000000<=os.getD 0 0/\os.getD 0 0<=1000000:=by omega
  have mr':Zag (.lst [.int 8,.int 5]) (.int m)=_:=mr;have ms':Jn (.lst [.int (m+1),.int 4,.int 3]) (iD (Ab m.toNat [8,5]).flatten)=_:=ms_eq;generalize iD ([m+1,4,3]++(Ab m.toNat [8,5]).flatten)=Mv at hos ms';generalize iD (Ab m.toNat [8,5]).flatten=Mw at mr' ms';have t1:Zag (.int 9) (.int fl)=ak (.int (9*fl)):=Zog (by decide) (by decide);have body:∀Q r,Q [ak (.scr ns),ak (.int i),ak (.int m),ak (.int fl),ak (iD os),ak (.int gr),ao,ao,ao,ao]=r->(Xu (Yq 5 (f2 Zag (fC (.int 9)) (fV 3))) (Xu (sIf (cE (f2 gEq (f2 gIx (fV 4) (fC (.int 2))) (fC (.int 0)))) (Yq 5 (f2 Zjj (fC (.int 10)) (fC (.int 18)))) sNx) Q)) [ak (.scr ns),ak (.int i),ak (.int m),ak (.int fl),ak (iD os),ao,ao,ao,ao,ao]=r:=fun Q r h=>by have c:∀z:Option D,(cE (f2 gEq (f2 gIx (fV 4) (fC (.int 2))) (fC (.int 0)))) [ak (.scr ns),ak (.int i),ak (.int m),ak (.int fl),ak (iD os),z,ao,ao,ao,ao]=.ok (os.getD 2 0==0):=fun z=>Jq (Zn (Zn rfl rfl (ix 2 (hlo (by decide)) 2 rfl)) rfl rfl);by_cases d:os.getD 2 0=0;rw[aa d]at hgr;exact Zq (Xi (Zn rfl rfl t1)) (Zq (Zbz ((c _).trans (by rw[d];rfl)) (Xi (Zn rfl rfl Zgo))) (by rw[hgr]at h;exact h));rw[ae d]at hgr;exact Zq (Xi (Zn rfl rfl t1)) (Zq (Jc ((c _).trans (ah Dl.R.ok (beq_false_of_ne d))) rfl) (by rw[hgr]at h;exact h))
  exact Zaq (Zq (Xi (Xm (Zd rfl (Zd rfl (Zd (Zn (Jj (Zd (Zn rfl rfl rfl) rfl) rfl) (Zn rfl rfl mr') ms') rfl))) hos)) (body _ _ (Zq (Xi rfl) (Zq (Zgh (Xfw (Zd (Zn rfl rfl (ix 0 (hlo (by decide)) 0 rfl)) rfl) b1) e) (Zat rfl)))));rintro k x ρ hx ⟨ws,o7,o8,o9,wl,wok,rfl⟩;obtain⟨hk,rfl⟩:=Zoi hx;rw[GA];have hkm:k<m.toNat:=under hk a0.2;obtain⟨c1,c2⟩:=b2 k hkm;have j0:=ix (2*k+3) (by rw[hol];exact tri k 0 hkm (by decide)) (2*k+3) rfl;have j1:=ix (2*k+4) (by rw[hol];exact tri k 1 hkm (by decide)) (2*k+3+1) (HH _ 3 1);have jj:=ix 1 (hlo (by decide)) 1 rfl;have sl:ws.length<lim:=by show _<1000000;omega
  obtain⟨wt,hwt⟩:∃wt,wt=([fl,fl,2*fl,3*fl,gr]:List Int).getD (os.getD (2*k+4) 0).toNat 0:=⟨_,rfl⟩;have wt1:0<=wt/\wt<=1000000000000000000:=by rw[hwt];have g:∀n:Int,1<=n->n<=3->0<=n*fl/\n*fl<=1000000000000000000:=fun n n0 n1=>⟨Fx (AU (by decide) n0) (AU (by decide) f0),AU (Lj n1 f1 (AU (by decide) f0) (by decide)) (by decide)⟩;have g1:0<=fl/\fl<=1000000000000000000:=⟨AU (by decide) f0,AU f1 (by decide)⟩;exact Zba (P:=fun z=>0<=z/\z<=1000000000000000000) (AK.mpr ⟨g1,AK.mpr ⟨g1,AK.mpr ⟨g 2 (by decide) (by decide),AK.mpr ⟨g 3 (by decide) (by decide),AK.mpr ⟨gr1,fun _ h=>nomatch h⟩⟩⟩⟩⟩) (show _<5 from(El c2.1).mpr c2.2)
  have iw:gIx (.lst [.int fl,.int fl,.int (2*fl),.int (3*fl),.int gr]) (.int (os.getD (2*k+4) 0))=ak (.int wt):=by rw[hwt];exact Zfz [fl,fl,2*fl,3*fl,gr] c2.1 c2.2
  have t1:Zag (.int 2) (.int fl)=ak (.int (2*fl)):=Zog (by decide) (by decide);have t2:Zag (.int 3) (.int fl)=ak (.int (3*fl)):=Zog (by decide) (by decide);have t3:Zag (.int 2) (.int (k:Int))=ak (.int (2*k)):=Zog (by decide) (by decide);have c:(cE (f2 gLt (f2 gIx (fV 4) (fV 8)) (f2 gIx (fA Jp (Zc (fC (.int 0)) (Zc (fC (.int 1)) (Zc (fC (.int 3)) (Zc (fC (.int 6)) Zt))))) (f2 gIx (fV 4) (fC (.int 1)))))) [ak (.scr ns),ak (.int i),ak (.int m),ak (.int fl),ak (iD os),ak (.int gr),ak (iD ws),ak (.int k),ak (.int (2*k+3)),ak (.int 0)]=.ok (decide (os.getD (2*k+3) 0<th)):=Jq (Zn (Zn rfl rfl j0) (Zn rfl (Zn rfl rfl jj) ith) (by simp));have sl':(ws.map D.int).length<lim:=by rw[Ai];exact sl
  have all:∀z:Int,0<=z/\z<=1000000000000000000->∀x∈ws++[z],0<=x/\x<=1000000000000000000:=fun z hz x hx=>by rcases Al.mp hx with h|h;exact wok x h;rw[Ap.mp h];exact hz
  refine⟨_,rfl,.inl ?_⟩;by_cases d:os.getD (2*k+3) 0<th;refine⟨[ak (.scr ns),ak (.int i),ak (.int m),ak (.int fl),ak (iD os),ak (.int gr),ak (iD (ws++[wt])),ak (.int k),ak (.int (2*k+3)),ak (.int wt)],.inl ?_,_,_,_,_,by rw[Av,wl];rfl,all wt wt1,rfl⟩;rw[show iD (ws++[wt])=.lst (ws.map D.int++[.int wt]) from ah D.lst A5];exact Zq (Xi (Zn (Zn rfl rfl t3) rfl rfl)) (Zq (Xi rfl) (Zq (Zbz (c.trans (ah Dl.R.ok (aj d))) (Xi (Zej (Zn (Jj (Zd rfl (Zd rfl (Zd (Zn rfl rfl t1) (Zd (Zn rfl rfl t2) rfl)))) rfl) (Zn rfl (Zn rfl rfl rfl) j1) iw) rfl))) (Zui rfl (Zej rfl rfl) sl')));refine⟨[ak (.scr ns),ak (.int i),ak (.int m),ak (.int fl),ak (iD os),ak (.int gr),ak (iD (ws++[0])),ak (.int k),ak (.int (2*k+3)),ak (.int 0)],.inl ?_,_,_,_,_,by rw[Av,wl];rfl,all 0 ⟨by decide,by decide⟩,rfl⟩;rw[show iD (ws++[0])=.lst (ws.map D.int++[.int 0]) from ah D.lst A5];exact Zq (Xi (Zn (Zn rfl rfl t3) rfl rfl)) (Zq (Xi rfl) (Zq (Jc (c.trans (ah Dl.R.ok (ai d))) rfl) (Zui rfl (Zej rfl rfl) sl')));rintro ρ ⟨ws,o7,o8,o9,wl,wok,rfl⟩;rw[Zbv]at wl;exact⟨ws,o7,o8,o9,wl,wok,rfl⟩
end Dl
namespace Dl
def S:Nat->(Nat->Int)->Int
 |0,_=>0
 |n+1,f=>S n f+f n
def pth(e:Nat->Nat->Int)(a:Nat):Nat->List Int
 |0=>[1]
 |d+1=>pth e a d++[S (d+1) fun i=>e (a+i) (a+d+1)*(pth e a d).getD i 0]
def W(e:Nat->Nat->Int)(a d:Nat):Int:=(pth e a d).getD d 0
end Dl
namespace Dl
open PySem
def Xll(ns:List Int)(ks:List Kd)(cs:List Int):Int:=cs.getD (cs.length-1) 0+((ks.filter fun k=>good ns k ((cs.length:Int)-k.w)).map fun k=>cs.getD ((cs.length:Int)-k.w).toNat 0).sum
variable{j:Nat}
def cnts(ns:List Int)(ks:List Kd):Nat->List Int
 |0=>[1]
 |j+1=>cnts ns ks j++[Xll ns ks (cnts ns ks j)]
def cnt(ns:List Int)(ks:List Kd)(j:Nat):Int:=(cnts ns ks j).getD j 0
variable{ns:List Int}{p:Int}
theorem Xni{k:Kd}(h:good ns k p=aq):0<=p/\p+k.w<=ns.length:=by have:=of_decide_eq_true h;exact⟨this.1,this.2.1⟩
variable{i:Nat}
theorem Zjz(ns:List Int)(h:i<=ns.length):pre ns.reverse i=pre ns ns.length-pre ns (ns.length-i):=by
 unfold pre;rw[List.take_reverse,List.sum_reverse,Kx];have e:=Fk (ns.length-i) ns;have:ns.sum=(ns.take (ns.length-i)).sum+(ns.drop (ns.length-i)).sum:=by rw[<- Dv,e]
 omega
theorem Xer{k:Kd}(hw:1<=k.w):good ns.reverse k p=good ns k (ns.length-p-k.w):=by unfold good;apply decide_eq_decide.mpr;rw[CT];constructor;rintro⟨h1,h2,h3⟩;refine⟨by omega,by omega,?_⟩;rw[Zjz ns (by omega),Zjz ns (by omega)]at h3;rw[show ns.length-(p+k.w).toNat=((ns.length:Int)-p-k.w).toNat by omega,show ns.length-p.toNat=((ns.length:Int)-p-k.w+k.w).toNat by omega]at h3;omega;rintro⟨h1,h2,h3⟩;refine⟨by omega,by omega,?_⟩;rw[Zjz ns (by omega),Zjz ns (by omega)];rw[show ns.length-(p+k.w).toNat=((ns.length:Int)-p-k.w).toNat by omega,show ns.length-p.toNat=((ns.length:Int)-p-k.w+k.w).toNat by omega];omega
abbrev Cut:=List (Int×Str)×Int
variable{c:List Nat}
def addK(ns:List Int)(rows:List (List Cut))(e:Nat)(k:Kd):List Cut:=if good ns k ((e:Int)-k.w)=aq then (rows.getD ((e:Int)-k.w).toNat []).map fun c=>(c.1++[((e:Int)-k.w,k.name)],c.2+k.wo) else []
def rowOf(ns:List Int)(ks:List Kd)(rows:List (List Cut)):List Cut:=rows.getD (rows.length-1) []++(ks.map (addK ns rows rows.length)).flatten
def Xve(ns:List Int)(ks:List Kd):Nat->List (List Cut)
 |0=>[[([],0)]]
 |j+1=>Xve ns ks j++[rowOf ns ks (Xve ns ks j)]
variable{a:FE}{b:List Nat}{d:D}{h:FS}{x:List Int}{xs:List D}
mutual
theorem Zsa:∀d:D,dep d<=20->eqv d d=aq
 | .non,_=>rfl
 | .bl b,_=>beq_self_eq_true b
 | .int b,_=>beq_self_eq_true b
 | .str b,_=>beq_self_eq_true b
 | .lst xs,h=>Zhr xs (Ku h)
 | .tup xs,h=>Zhr xs (Ku h)
 | .scr _,h=>af h (by decide:¬100<=20)
 | .rng _ _,h=>af h (by decide:¬100<=20)
 | .exc _ _,h=>af h (by decide:¬100<=20)
 | .obj _ _ _,h=>af h (by decide:¬100<=20)
 | .dct _ _,h=>af h (by decide:¬100<=20)
 | .dtt _ _,h=>af h (by decide:¬100<=20)
 | .flst _,h=>af h (by decide:¬100<=20)
 | .fdt _ _,h=>af h (by decide:¬100<=20)
theorem Zhr:∀xs:List D,Zgy xs<=20->Xph xs xs=aq
 |[],_=>rfl
 |x::xs,h=>by have a:dep x<=20/\Zgy xs<=20:=Nat.max_le.mp h;show(eqv x x&&Xph xs xs)=aq;rw[Zsa x a.1,Zhr xs a.2];rfl
end
theorem Zsc(h:dep d<=20):gEq d d=ak (.bl aq):=by unfold gEq;rw[aa ⟨h,h⟩,Zsa d h]
theorem Zlg{α:Type}{f:α->D}{n:Nat}(h:∀a,dep (f a)<=n):∀xs:List α,Zgy (xs.map f)<=n
 |[]=>Dp _
 |x::xs=>by rw[AZ,Zgy];have:=h x;have:=Zlg h xs;omega
theorem Xjt(ns:List Int):dep (iD ns)<=1:=by rw[iD,dep];have:=Zlg (f:=D.int) (n:=0) (fun _=>by simp[dep]) ns;omega
def hStep(ns:List Int)(ks:List Kd)(ts:List Int):Int:=maxL (ts.getD (ts.length-1) 0::(ks.filter fun k=>good ns k ((ts.length:Int)-k.w)).map fun k=>ts.getD ((ts.length:Int)-k.w).toNat 0+k.wo)
def hts(ns:List Int)(ks:List Kd):Nat->List Int
 |0=>[0]
 |j+1=>hts ns ks j++[hStep ns ks (hts ns ks j)]
def ht(ns:List Int)(ks:List Kd)(j:Nat):Int:=(hts ns ks j).getD j 0
theorem eq_str(a b:Str):gEq (.str a) (.str b)=ak (.bl (a==b)):=rfl
theorem eq_int(a b:Int):gEq (.int a) (.int b)=ak (.bl (a==b)):=rfl
theorem ne_int(a b:Int):gNe (.int a) (.int b)=ak (.bl (!(a==b))):=rfl
variable{w:Int}
inductive Way(ns:List Int)(ks:List Kd):Nat->Nat->Int->Prop where
 |nil (a:Nat):Way ns ks a a 0
 |skip {a b:Nat} {w:Int}:Way ns ks a b w->b+1<=ns.length->Way ns ks a (b+1) w
 |piece {a b:Nat} {w:Int} {k:Kd}:Way ns ks a b w->k∈ks->good ns k (b:Int)=aq->Way ns ks a (b+k.w.toNat) (w+k.wo)
def V{α:Type}:R α->(α->Prop)->Prop
 | .ok a,Q=>Q a
 | .err _ _,_=>False
 | .bad,_=>False
variable{α:Type}
@[simp] theorem V_ok(a:α)(Q:α->Prop):V (.ok a) Q=Q a:=(rfl)
def turn(b:FB)(s:FS)(x:D)(ρ:Env):R Fl:=(b x ρ).calm.bind s
variable{ρ:Env}
def Tn(P:Env->Prop)(Q:Fl->Prop):Fl->Prop
 | .nx ρ=>P ρ
 | .cnt ρ=>P ρ
 | .brk ρ=>Q (.nx ρ)
 | .ret d=>Q (.ret d)
@[simp] theorem Tn_nx(P:Env->Prop)(Q:Fl->Prop)(ρ:Env):Tn P Q (.nx ρ)=P ρ:=(rfl)
@[simp] theorem Tn_cnt(P:Env->Prop)(Q:Fl->Prop)(ρ:Env):Tn P Q (.cnt ρ)=P ρ:=(rfl)
@[simp] theorem Tn_brk(P:Env->Prop)(Q:Fl->Prop)(ρ:Env):Tn P Q (.brk ρ)=Q (.nx ρ):=(rfl)
@[simp] theorem Tn_ret(P:Env->Prop)(Q:Fl->Prop)(d:D):Tn P Q (.ret d)=Q (.ret d):=(rfl)
@[simp] theorem Xta(i:Nat)(s:FS)(x:D)(ρ:Env):turn (Zv i) s x ρ=s (ρ.set i (ak x)):=(rfl)
variable{s:FS}
@[simp] theorem ev_fJoin(a b:FE)(ρ:Env):fJoin a b ρ=(a ρ).bind fun x=>match x with| .str s=>(b ρ).bind fun y=>oR (Xtk (.str s) y)|_=>.bad:=(rfl)
variable{N:Nat}{cs:List String}
theorem Xlt{b:FS}{fl:Fl}(e:b ρ=.ok fl):Zkv cs N b h ρ=.ok fl:=by unfold Zkv;rw[e]
theorem Xhu{b:FS}{c:String}(e:b ρ=.err c ao)(hc:cs.contains c=aq):Zkv cs N b h ρ=(h (Ab N ao)).calm:=by unfold Zkv;rw[e];simp only[];rw[aa hc]
@[simp] theorem calm_bad :(R.bad:R α).calm=.bad:=(rfl)
@[simp] theorem gLst_7(a0 a1 a2 a3 a4 a5 a6:D):Jp [a0,a1,a2,a3,a4,a5,a6]=ak (.lst [a0,a1,a2,a3,a4,a5,a6]):=rfl
@[simp] theorem gLst_8(a0 a1 a2 a3 a4 a5 a6 a7:D):Jp [a0,a1,a2,a3,a4,a5,a6,a7]=ak (.lst [a0,a1,a2,a3,a4,a5,a6,a7]):=rfl
@[simp] theorem gLst_9(a0 a1 a2 a3 a4 a5 a6 a7 a8:D):Jp [a0,a1,a2,a3,a4,a5,a6,a7,a8]=ak (.lst [a0,a1,a2,a3,a4,a5,a6,a7,a8]):=rfl
variable{m n:Nat}
theorem add_str{x y:Str}(h:plain n x=aq)(g:plain m y=aq)(e:n+m<=1000):Jn (.str x) (.str y)=ak (.str (x++y)):=by unfold Jn;simp only[];unfold plain at h g;rw[AC]at h g;have:=of_decide_eq_true h.1;have:=of_decide_eq_true g.1;rw[aa (by show _<=1000000;omega)]
@[simp] theorem Xtc(i j:Nat)(g:D->D->Option D)(a:FE)(ρ:Env):Xvc i j g a ρ=(a ρ).bind fun x=>Xxg i j g x ρ:=(rfl)
@[simp] theorem ev_sDrop(e:FE)(ρ:Env):Zvj e ρ=(e ρ).bind fun _=>.ok (.nx ρ):=(rfl)
variable{ds:List D}
@[simp] theorem Xvo(a b:FE)(ρ:Env):Xso a b ρ=(a ρ).bind fun x=>match x with| .lst ds=>(b ρ).bind fun y=>oR (Xkc (.lst ds) y)|_=>.bad:=(rfl)
theorem Zyy(f:α->D)(xs:List α):Zln (xs.map f)=xs.zipIdx.map fun x=>.tup [.int (x.2:Int),f x.1]:=by unfold Zln;rw[List.mapIdx_eq_zipIdx_map,List.zipIdx_map,AV];rfl
def rsD(rs:List (List Int)):D:=.lst (rs.map iD)
theorem Xax(rs:List (List Int)):dep (rsD rs)<=2:=by rw[rsD,dep];have:=Zlg (f:=iD) Xjt rs;omega
theorem Zhq(ws:List Int):Yw [iD ws]=ak (iD ws):=by simp[Yw,iD]
theorem Zqf(ks:List Kd):Yw [tD ks]=ak (tD ks):=by simp[Yw,tD]
theorem Xsc(ks:List Kd):Zbp [tD ks]=ak (.int ks.length):=by simp[tD]
theorem Zhy(rs:List (List Int)):Zbp [rsD rs]=ak (.int rs.length):=by simp[rsD]
variable{ws:List Int}
theorem Xdv{k:Nat}(h:k<ws.length):gIx (iD ws) (.int (k:Int))=ak (.int (ws.getD k 0)):=Zff rfl h
def dot(os ps:List Int):Int:=((os.zip ps).map fun x=>x.1*x.2).sum
def few(need:Int):List Int->Int->Int->Int
 |[],n,t=>if need<=t then n else n+1
 |x::r,n,t=>if need<=t then n else few need r (n+1) (t+x)
def eL:Nat->List Int->List D
 |_,[]=>[]
 |k,w::r=>.tup [.int (k:Int),.int w]::eL (k+1) r
theorem neX(h:dep d<=20):gNe d d=ak (.bl ar):=by
 have hs:=Zsc h;simp only[gEq]at hs;rw[aa ⟨h,h⟩]at hs;have:eqv d d=true:=by simpa using hs
 simp only[gNe];rw[aa ⟨h,h⟩,this];rfl
def rg(k n:Nat):List D:=(List.range' k n).map fun(j:Nat)=>D.int (0+(j:Int))
theorem Zsg{e:FE}(h:e ρ=.ok (iD ws)):fA Zbp (Zc e Zt) ρ=.ok (.int ws.length):=Jj (Zd h rfl) (by simp[iD,Zbp])
def Zqd(acc h:Nat):Nat:=((((acc+h*14029467366897019727)%18446744073709551616*2147483648)%18446744073709551616+(acc+h*14029467366897019727)%18446744073709551616/8589934592)*11400714785074694791)%18446744073709551616
inductive Tr where
 |no:Tr
 |one:Nat->Tr
 |two:Tr->Tr->Tr
def Zue:Nat->Nat->Nat->Nat->Option Tr
 |0,_,_,_=>ao
 |f+1,d,a,b=>match Do a d,Do b d with
  |true,ar=>ak (.two (.one b) (.one a))
  |false,aq=>ak (.two (.one a) (.one b))
  |true,aq=>(Zue f (d+1) a b).map fun t=>.two .no t
  |false,ar=>(Zue f (d+1) a b).map fun t=>.two t .no
def Zuk(k:Nat):Nat->Tr->Option Tr
 |_,.no=>ak (.one k)
 |d,.one a=>Zue 64 d a k
 |d,.two l r=>match Do k d with
  |true=>(Zuk k (d+1) r).map fun t=>.two l t
  |false=>(Zuk k (d+1) l).map fun t=>.two t r
def Zcu(k:Nat):Nat->Tr->Bool
 |_,.no=>ar
 |_,.one a=>a==k
 |d,.two l r=>match Do k d with
  |true=>Zcu k (d+1) r
  |false=>Zcu k (d+1) l
theorem Zjw:∀{f d a b:Nat} {t:Tr},Zue f d a b=ak t->a≠b/\Zcu a d t=aq/\Zcu b d t=aq
 |0,_,_,_,_,h=>by cases h
 |f+1,d,a,b,t,h=>by unfold Zue at h;cases ea:Do a d<;>cases eb:Do b d<;>rw[ea,eb]at h<;>simp only at h;obtain⟨t',h1,rfl⟩:=AH.mp h;obtain⟨q1,q2,q3⟩:=Zjw h1;exact⟨q1,by unfold Zcu;rw[ea];exact q2,by unfold Zcu;rw[eb];exact q3⟩;cases h;exact⟨(fun z=>by rw[z,eb]at ea;cases ea),by unfold Zcu;rw[ea];simp[Zcu],by unfold Zcu;rw[eb];simp[Zcu]⟩;cases h;exact⟨(fun z=>by rw[z,eb]at ea;cases ea),by unfold Zcu;rw[ea];simp[Zcu],by unfold Zcu;rw[eb];simp[Zcu]⟩;obtain⟨t',h1,rfl⟩:=AH.mp h;obtain⟨q1,q2,q3⟩:=Zjw h1;exact⟨q1,by unfold Zcu;rw[ea];exact q2,by unfold Zcu;rw[eb];exact q3⟩
theorem Zos{k:Nat}:∀{t t':Tr} {d:Nat},Zuk k d t=ak t'->Zcu k d t=ar/\Zcu k d t'=aq/\∀x,Zcu x d t=aq->Zcu x d t'=aq
  | .no,t',d,h=>by cases h;exact⟨rfl,by simp[Zcu],fun x z=>by cases z⟩
  | .one a,t',d,h=>by
    obtain ⟨q1,q2,q3⟩:=Zjw (show Zue 64 d a k=ak t' from h);exact ⟨by simpa [Zcu] using q1,q3,fun x z=>by
      have:a=x:=by simpa[Zcu] using z
      rw [<- this];exact q2⟩
  | .two l r,t',d,h=>by unfold Zuk at h;cases e:Do k d<;>rw[e]at h<;>simp only at h;obtain⟨t1,h1,rfl⟩:=AH.mp h;obtain⟨q1,q2,q3⟩:=Zos h1;refine⟨by unfold Zcu;rw[e];exact q1,by unfold Zcu;rw[e];exact q2,fun x z=>?_⟩;unfold Zcu at z ⊢;cases ex:Do x d<;>rw[ex]at z<;>simp only at z ⊢;exact q3 x z;exact z;obtain⟨t1,h1,rfl⟩:=AH.mp h;obtain⟨q1,q2,q3⟩:=Zos h1;refine⟨by unfold Zcu;rw[e];exact q1,by unfold Zcu;rw[e];exact q2,fun x z=>?_⟩;unfold Zcu at z ⊢;cases ex:Do x d<;>rw[ex]at z<;>simp only at z ⊢;exact z;exact q3 x z
def Zav:List Nat->Tr->Option Tr
 |[],t=>ak t
 |k::r,t=>(Zuk k 0 t).bind (Zav r)
theorem Zcy:∀(a b:List Nat) (t:Tr),Zav (a++b) t=(Zav a t).bind (Zav b)
 |[],b,t=>rfl
 |k::r,b,t=>by
  show(Zuk k 0 t).bind (Zav (r++b))=((Zuk k 0 t).bind (Zav r)).bind (Zav b);cases Zuk k 0 t with
  |none=>rfl
  |some t'=>exact Zcy r b t'
theorem Znt:∀{a:List Nat} {t t':Tr},Zav a t=ak t'->a.Nodup/\(∀x∈a,Zcu x 0 t=ar)/\(∀x,Zcu x 0 t=aq->Zcu x 0 t'=aq)
 |[],t,t',h=>by cases h;exact⟨Bb,(fun _ z=>nomatch z),fun _ z=>z⟩
 |k::r,t,t',h=>by
  obtain⟨t1,h1,h2⟩:=A7.mp (show(Zuk k 0 t).bind (Zav r)=ak t' from h);obtain⟨q1,q2,q3⟩:=Zos h1;obtain⟨p1,p2,p3⟩:=Znt h2;refine⟨AB.mpr ⟨(fun z=>by rw[p2 k z]at q2;cases q2),p1⟩,fun x hx=>?_,fun x z=>p3 x (q3 x z)⟩;rcases Aj.mp hx with rfl|z;exact q1;cases e:Zcu x 0 t with
  |false=>rfl
  |true=>rw[<- p2 x z,q3 x e]
def Zev:Nat->Nat->List (List Nat)
 |0,_=>[[]]
 |n+1,p=>(Zev n p).map (0::·)++((if Fe (p*2) 120 then (Zev n (p*2)).map (1::·) else [])++((if Fe (p*3) 120 then (Zev n (p*3)).map (2::·) else [])++(if Fe (p*4) 120 then (Zev n (p*4)).map (3::·) else [])))
def goT:Nat->Nat->Nat->Tr->Option Tr
 |0,_,acc,t=>Zuk acc 0 t
 |n+1,p,acc,t =>
  (goT n p (Zqd acc 0) t).bind fun t =>
  (if Fe (p*2) 120 then goT n (p*2) (Zqd acc 1) t else ak t).bind fun t =>
  (if Fe (p*3) 120 then goT n (p*3) (Zqd acc 2) t else ak t).bind fun t =>
  (if Fe (p*4) 120 then goT n (p*4) (Zqd acc 3) t else ak t)
variable{q:List (Int ⊕ Str)}
theorem Zzq:∀(n p acc:Nat) (t:Tr),goT n p acc t=Zav ((Zev n p).map fun c=>c.foldl Zqd acc) t
 |0,p,acc,t=>by show Zuk acc 0 t=(Zuk acc 0 t).bind (Zav []);cases Zuk acc 0 t<;>rfl
 |n+1,p,acc,t=>by
  have one:∀(q h:Nat) (t:Tr),(if Fe q 120 then goT n q (Zqd acc h) t else ak t)=Zav ((if Fe q 120 then (Zev n q).map (h::·) else []).map fun c=>c.foldl Zqd acc) t:=fun q h t=>by split;rw[Zzq,AV];rfl;rfl
  have z:goT n p (Zqd acc 0) t=Zav (((Zev n p).map (0::·)).map fun c=>c.foldl Zqd acc) t:=by rw[Zzq,AV];rfl
  unfold goT Zev;rw[A5,Zcy,A5,A5,z];congr 1;funext t1;rw[Zcy,one];congr 1;funext t2;rw[Zcy,one];congr 1;funext t3;exact one _ _ _
theorem Zhl:∀{n p:Nat} {c:List Nat},c.length=n->(∀x∈c,x<=3)->(c.map (·+1)).foldl (·*·) p<=120->1<=p->c∈Zev n p
 |0,p,c,hl,_,_,_=>by rw[EZ.mp hl];exact .head _
 |n+1,p,[],hl,_,_,_=>by cases hl
 |n+1,p,x::c,hl,hx,hp,h1=>by
  have up:∀(l:List Nat) (q:Nat),(∀y∈l,1<=y)->q<=l.foldl (·*·) q:=fun l=>by
   induction l with
   |nil=>exact fun q _=>As q
   |cons y l ih=>exact fun q hy=>AD (DJ q (hy y (.head _))) (ih (q*y) fun z hz=>hy z (.tail _ hz))
  have hp':(c.map (·+1)).foldl (·*·) (p*(x+1))<=120:=hp;have hq:p*(x+1)<=120:=AD (up _ _ fun y hy=>by obtain⟨z,_,rfl⟩:=Az.mp hy;exact EO z) hp';have ih:=Zhl (n:=n) (p:=p*(x+1)) (c:=c) (by simpa using hl) (fun y hy=>hx y (.tail _ hy)) hp' (L0 h1 (EO x));have hb:Fe (p*(x+1)) 120=true:=Nat.ble_eq.mpr hq;have h3:=hx x (.head _);unfold Zev
  match x,h3 with
  |0,_=>exact Aq _ (Az.mpr ⟨c,by simpa using ih,rfl⟩)
  |1,_=>exact Ah _ (Aq _ (by rw[aa hb];exact Az.mpr ⟨c,ih,rfl⟩))
  |2,_=>exact Ah _ (Ah _ (Aq _ (by rw[aa hb];exact Az.mpr ⟨c,ih,rfl⟩)))
  |3,_=>exact Ah _ (Ah _ (Ah _ (by rw[aa hb];exact Az.mpr ⟨c,ih,rfl⟩)))
variable{e:Nat}
theorem Xjs{α β:Type}{f:α->β}:∀{l:List α},(l.map f).Nodup->∀a∈l,∀b∈l,f a=f b->a=b
 |[],_,_,ha,_,_,_=>nomatch ha
 |x::l,h,a,ha,b,hb,e=>by obtain⟨h1,h2⟩:=AB.mp (show(f x::l.map f).Nodup from h);rcases Aj.mp ha with ea|ha'<;>rcases Aj.mp hb with eb|hb';rw[ea,eb];rw[ea]at e;exact af (Az.mpr ⟨b,hb',e.symm⟩) h1;rw[eb]at e;exact af (Az.mpr ⟨a,ha',e⟩) h1;exact Xjs h2 a ha' b hb' e
def accT(c:List Nat):Nat:=c.foldl Zqd 2870177450012600261
def Xus(n acc:Nat):Int:=
 let a:=(acc+(n ^^^ (2870177450012600261 ^^^ 3527539)))%18446744073709551616
 if a==18446744073709551615 then 1546275796 else if a<9223372036854775808 then a else (a:Int)-18446744073709551616
theorem Xoc(a x:Nat):Zqd a x<18446744073709551616:=mod_lt _ (by decide)
theorem Zkp:∀(c:List Nat) (a:Nat),a<18446744073709551616->c.foldl Zqd a<18446744073709551616
 |[],_,h=>h
 |x::c,a,_=>Zkp c (Zqd a x) (Xoc a x)
theorem Zta:∀(c:List Nat) (a:Nat),(∀x∈c,x<1000)->(c.map fun x:Nat=>(x:Int)).foldl (fun acc h =>
    let acc:=(acc+(h%((2^64:Nat):Int)).toNat*14029467366897019727)%(2^64)
    let acc:=(acc*2^31)%(2^64)+acc/2^33
    (acc*11400714785074694791)%(2^64)) a=c.foldl Zqd a
  |[],_,_=>rfl
  |x::c,a,h=>by
    have hx:((x:Int)%((2^64:Nat):Int)).toNat=x:=by have:=h x (.head _);rw[KA (Kk x) (by norm_cast;omega)];rfl
    rw[AZ,Ec,Ec,<- Zta c (Zqd a x) fun y hy=>h y (.tail _ hy)];simp only[hx];rfl
theorem Xbq(c:List Nat)(h:∀x∈c,x<1000):thK (c.map fun x:Nat=>(.inl (x:Int):Int ⊕ Str))=Dw (Xus c.length (accT c)):=by
 have e:(c.map fun x:Nat=>(FH (x:Int):Int ⊕ Str)).map vlK=c.map fun x:Nat=>(x:Int):=by rw[AV];rfl
 unfold thK;rw[e];unfold CW;have f:=Zta c 2870177450012600261 h;simp only[Ai]at f ⊢;rw[f];rfl
theorem Xmd{a b:Nat}(ha:a<18446744073709551616)(hb:b<18446744073709551616)(na:(a+(n ^^^ (2870177450012600261 ^^^ 3527539)))%18446744073709551616≠18446744073709551615)(nb:(b+(n ^^^ (2870177450012600261 ^^^ 3527539)))%18446744073709551616≠18446744073709551615)(h:Dw (Xus n a)=Dw (Xus n b)):a=b:=by
 have red:∀{x:Nat},x<18446744073709551616->x≠18446744073709551615->Dw (if x==18446744073709551615 then 1546275796 else if x<9223372036854775808 then (x:Int) else (x:Int)-18446744073709551616)=if x<9223372036854775808 then (x:Int) else (x:Int)-18446744073709551616:=fun {x} h1 h2=>by rw[ae (by simpa using h2)];unfold Dw;split;rename_i hx;rw[aa (by simp<;>omega),ae (by simp<;>omega)];rename_i hx;rw[aa (by simp<;>omega),ae (by simp<;>omega)]
 have e1:Dw (Xus n a)=_:=red (mod_lt _ (by decide)) na;have e2:Dw (Xus n b)=_:=red (mod_lt _ (by decide)) nb;rw[e1,e2]at h;generalize (n ^^^ (2870177450012600261 ^^^ 3527539))=k at na nb h;have h':(a+k)%18446744073709551616=(b+k)%18446744073709551616:=by split at h<;>split at h<;>omega
 omega
def Xum(n:Nat):Nat:=(18446744073709551615+18446744073709551616-(n ^^^ (2870177450012600261 ^^^ 3527539)))%18446744073709551616
def Xeb(n:Nat):Bool:=(goT n 1 2870177450012600261 (.one (Xum n))).isSome
theorem Xxq(hn:n<=8){a:Nat}(h:(a+(n ^^^ (2870177450012600261 ^^^ 3527539)))%18446744073709551616=18446744073709551615)(ha:a<18446744073709551616):a=Xum n:=by have hk:n ^^^ (2870177450012600261 ^^^ 3527539)<18446744073709551616:=Nat.xor_lt_two_pow (n:=64) (by omega) (by decide);unfold Xum;generalize (n ^^^ (2870177450012600261 ^^^ 3527539))=k at h hk;omega
theorem Xpe{l:List (List Nat)}{t:Tr}(hn:n<=8)(h:Zav (l.map accT) (.one (Xum n))=ak t)(hl:∀c∈l,c.length=n/\∀x∈c,x<1000):∀a∈l,∀b∈l,thK (a.map fun x:Nat=>(.inl (x:Int):Int ⊕ Str))=thK (b.map fun x:Nat=>(.inl (x:Int):Int ⊕ Str))->a=b:=fun a ha b hb e=>by
 obtain⟨q1,q2,_⟩:=Znt h;have nb:∀c∈l,(accT c+(n ^^^ (2870177450012600261 ^^^ 3527539)))%18446744073709551616≠18446744073709551615:=fun c hc z=>by have:=q2 (accT c) (Az.mpr ⟨c,hc,rfl⟩);rw[Xxq hn z (Zkp c _ (by decide))]at this;simp[Zcu]at this
 rw[Xbq a (hl a ha).2,Xbq b (hl b hb).2,(hl a ha).1,(hl b hb).1]at e;exact Xjs q1 a ha b hb (Xmd (Zkp a _ (by decide)) (Zkp b _ (by decide)) (nb a ha) (nb b hb) e)
set_option maxRecDepth 1000000 in
theorem Xuz:∀n,n<=7->Xeb n=true:=fun n hn=>by
 have:(AX 8).all Xeb=true:=by decide+kernel
 exact BG.mp this n (Bi.mpr (by omega))
set_option maxRecDepth 1000000 in
set_option maxRecDepth 1000000 in
theorem un_8:Xeb 8=true:=by decide+kernel
theorem Zng:∀{n p:Nat} {c:List Nat},c∈Zev n p->c.length=n/\∀x∈c,x<1000
 |0,p,c,h=>by rw[Ap.mp h];exact⟨rfl,fun _ z=>nomatch z⟩
 |n+1,p,c,h=>by
  have one:∀{q k:Nat},k<1000->c∈(Zev n q).map (k::·)->c.length=n+1/\∀x∈c,x<1000:=fun {q k} hk hc=>by obtain⟨d,hd,rfl⟩:=Az.mp hc;obtain⟨q1,q2⟩:=Zng hd;exact⟨by rw[BK,q1],fun x hx=>(Aj.mp hx).elim (fun z=>by rw[z];exact hk) (q2 x)⟩
  unfold Zev at h;rcases Al.mp h with h|h;exact one (by decide) h;rcases Al.mp h with h|h;split at h;exact one (by decide) h;cases h;rcases Al.mp h with h|h;split at h;exact one (by decide) h;cases h;split at h;exact one (by decide) h;cases h
theorem Xhh(hn:n<=8){a:List Nat}(la:a.length=n)(lb:b.length=n)(sa:∀x∈a,x<=3)(sb:∀x∈b,x<=3)(pa:(a.map (·+1)).foldl (·*·) 1<=120)(pb:(b.map (·+1)).foldl (·*·) 1<=120)(e:thK (a.map fun x:Nat=>(.inl (x:Int):Int ⊕ Str))=thK (b.map fun x:Nat=>(.inl (x:Int):Int ⊕ Str))):a=b:=by
 have h:Xeb n=true:=by by_cases z:n<=7;exact Xuz n z;rw[show n=8 by omega];exact un_8
 obtain⟨t,ht⟩:=Hh.mp (show(goT n 1 2870177450012600261 (.one (Xum n))).isSome=aq from h);rw[Zzq]at ht;exact Xpe (l:=Zev n 1) hn ht (fun c hc=>Zng hc) a (Zhl la sa pa (As 1)) b (Zhl lb sb pb (As 1)) e
theorem Zhi:∀c:List Int,intsOf (c.map D.int)=ak c
 |[]=>rfl
 |i::c=>by show(intsOf (c.map D.int)).map (i::·)=_;rw[Zhi c];rfl
variable{cs:List (List Nat)}
theorem Zjd:∀cs:List (List Int),Zfy (cs.map ilD)=ak cs
 |[]=>rfl
 |c::cs=>by show(Xbr (ilD c)).bind (fun a=>(Zfy (cs.map ilD)).bind fun l=>ak (a::l))=_;rw[show Xbr (ilD c)=ak c from Zhi c,Zjd cs];rfl
def kyN(c:List Nat):List (Int ⊕ Str):=c.map fun x:Nat=>(.inl (x:Int):Int ⊕ Str)
theorem Zou{a:List Nat}(h:kyN a=kyN b):a=b:=by refine(F0 (f:=fun x:Nat=>(.inl (x:Int):Int ⊕ Str)) (fun x y e=>?_)).mp h;exact HG.mp (K2 e)
theorem Xut(h:∀x∈c,x<1000):(kyN c).all smK=true:=by refine BG.mpr fun k hk=>?_;obtain⟨x,hx,rfl⟩:=Az.mp hk;have:=h x hx;show(decide (0<=(x:Int))&&decide ((x:Int)<1000))=aq;rw[aj (Kk x),aj (by omega)];rfl
theorem Zuq(hn:n<=8)(nd:cs.Nodup)(h:∀c∈cs,c.length=n/\(∀x∈c,x<=3)/\(c.map (·+1)).foldl (·*·) 1<=120):((cs.map kyN).map thK).Nodup:=by rw[AV];refine EF.mpr (D9 (fun {a b} ha hb hab e=>hab ?_) nd);obtain⟨a1,a2,a3⟩:=h a ha;obtain⟨b1,b2,b3⟩:=h b hb;exact Xhh hn a1 b1 a2 b2 a3 b3 e
def tyN(c:List Nat):D:=.tup (c.map fun x:Nat=>.int (x:Int))
theorem Zld(c:List Nat):Zdu (kyN c)=tyN c:=by unfold Zdu kyN tyN;rw[AV];rfl
theorem Zsj:∀c:List Nat,Zuf (c.map fun x:Nat=>.int (x:Int))=ak (kyN c)
 |[]=>rfl
 |x::c=>by have:=Zsj c;simp only[AZ,Zuf,keyD,this,kyN];rfl
theorem Zds(c:List Nat):Ztc (tyN c)=ak (kyN c):=Zsj c
theorem Xbp :Xgd (cs.map kyN) (kyN c)=decide (c∈cs):=by rw[DF,decide_eq_true_iff];unfold Xgd;rw[DZ];constructor;rintro⟨k,hk,e⟩;obtain⟨d,hd,rfl⟩:=Az.mp hk;rw[<- Zou (of_decide_eq_true e)];exact hd;exact fun h=>⟨kyN c,Az.mpr ⟨c,h,rfl⟩,aj rfl⟩
def LeC(c o:List Nat):Prop:=c.length=o.length/\∀i,c.getD i 0<=o.getD i 0
def Zea(c:List Nat)(i:Nat):List Nat:=c.set i (c.getD i 0+1)
def sbC(l c:List Nat):List Nat:=A8 (fun a b=>a-b) l c
def adC(l c:List Nat):List Nat:=A8 (fun a b=>a+b) l c
def Yk:List Nat->Nat
 |[]=>1
 |x::r=>(x+1)*Yk r
theorem LeC.refl(c:List Nat):LeC c c:=⟨rfl,fun _=>As _⟩
theorem LeC.trans{a b c:List Nat}(h:LeC a b)(g:LeC b c):LeC a c:=⟨h.1.trans g.1,fun i=>AD (h.2 i) (g.2 i)⟩
theorem LeC.cons{x y:Nat}{a:List Nat}:LeC (x::a) (y::b)↔x<=y/\LeC a b:=by
 constructor;intro h;exact⟨h.2 0,BX h.1,fun i=>h.2 (i+1)⟩;intro h;refine⟨ah MD h.2.1,fun i=>?_⟩;cases i with
 |zero=>exact h.1
 |succ i=>exact h.2.2 i
theorem Xbh{l:List Nat}(h:l.length<=i):l.getD i 0=0:=by rw[AA,DX h];rfl
theorem Zcx{a:List Nat}(hl:a.length=b.length)(h:∀i,a.getD i 0=b.getD i 0):a=b:=by refine List.ext_getElem hl fun i h1 h2=>?_;have:=h i;rw[AA,AA,Ag h1,Ag h2]at this;exact this
theorem Zdj(c:List Nat)(i:Nat):(Zea c i).length=c.length:=Dx
theorem Zfi(hi:i<c.length)(j:Nat):(Zea c i).getD j 0=c.getD j 0+if j=i then 1 else 0:=by unfold Zea;rw[AA,List.getElem?_set];by_cases e:j=i;subst e;rw[aa rfl,aa hi,aa rfl];rfl;rw[ae (fun z=>e z.symm),ae e,<- AA];rfl
theorem Zqu{l:List Nat}(h:c.length=l.length):(sbC l c).length=l.length:=by unfold sbC;rw[Cy];omega
theorem Zcn{l:List Nat}(h:c.length=l.length):(adC l c).length=l.length:=by unfold adC;rw[Cy];omega
theorem Zht:∀{l c:List Nat},c.length=l.length->∀i,(sbC l c).getD i 0=l.getD i 0-c.getD i 0
 |[],[],_,i=>rfl
 |x::l,y::c,h,0=>rfl
 |x::l,y::c,h,i+1=>Zht (l:=l) (c:=c) (BX h) i
 |[],_::_,h,_=>nomatch h
 |_::_,[],h,_=>nomatch h
theorem Zbl:∀{l c:List Nat},c.length=l.length->∀i,(adC l c).getD i 0=l.getD i 0+c.getD i 0
 |[],[],_,i=>rfl
 |x::l,y::c,h,0=>rfl
 |x::l,y::c,h,i+1=>Zbl (l:=l) (c:=c) (BX h) i
 |[],_::_,h,_=>nomatch h
 |_::_,[],h,_=>nomatch h
def boxC:List Nat->List (List Nat)
 |[]=>[[]]
 |x::r=>(AX (x+1)).flatMap fun y=>(boxC r).map (y::·)
variable{o:List Nat}
theorem Zqz:∀{o c:List Nat},LeC c o->c∈boxC o
 |[],[],_=>.head _
 |x::o,y::c,h=>by obtain⟨h1,h2⟩:=LeC.cons.mp h;exact DY.mpr ⟨y,Bi.mpr (by omega),Az.mpr ⟨c,Zqz h2,rfl⟩⟩
 |[],_::_,h=>nomatch h.1
 |_::_,[],h=>nomatch h.1
theorem Zmg{α β:Type}{f:α->List β}{n:Nat}:∀(l:List α),(∀x∈l,(f x).length=n)->(l.flatMap f).length=l.length*n
 |[],_=>(Nat.zero_mul n).symm
 |x::l,h=>by rw[List.flatMap_cons,Av,h x (.head _),Zmg l fun y hy=>h y (.tail _ hy),BK,Ik,Ip]
theorem Zrk:∀o:List Nat,(boxC o).length=Yk o
 |[]=>rfl
 |x::o=>by show((AX (x+1)).flatMap _).length=(x+1)*Yk o;rw[Zmg (n:=Yk o) _ fun y _=>by rw[Ai,Zrk o],EE]
theorem Xjo{α:Type}[DecidableEq α]:∀{a b:List α},a.Nodup->(∀x∈a,x∈b)->a.length<=b.length
 |[],_,_,_=>Dp _
 |x::a,b,nd,h=>by have hx:=h x (.head _);have hn:=AB.mp nd;have ih:=Xjo (a:=a) (b:=b.erase x) hn.2 fun y hy=>(List.mem_erase_of_ne (a:=y) (b:=x) fun z=>hn.1 (by rw[<- z];exact hy)).mpr (h y (.tail _ hy));have p:0<b.length:=HM hx;rw[List.length_erase_of_mem hx]at ih;rw[BK];omega
theorem Xio(nd:cs.Nodup)(h:∀c∈cs,LeC c o):cs.length<=Yk o:=by rw[<- Zrk];exact Xjo nd fun c hc=>Zqz (h c hc)
theorem Zen:∀o:List Nat,1<=Yk o
 |[]=>As _
 |x::o=>by show 1<=(x+1)*Yk o;exact L0 (EO x) (Zen o)
theorem Zss:∀{o:List Nat} {x:Nat},x∈o->x+1<=Yk o
 |y::o,x,h=>by show x+1<=(y+1)*Yk o;rcases Aj.mp h with e|e;rw[e];exact DJ _ (Zen o);exact AD (Zss e) (Io _ (EO y))
variable{ps:List (Int×Str)}
inductive Ct(ns:List Int)(ks:List Kd):Nat->List Nat->List (Int×Str)->Prop
 |zero:Ct ns ks 0 (Ab ks.length 0) []
 |skip {e:Nat} {c:List Nat} {ps:List (Int×Str)}:Ct ns ks e c ps->Ct ns ks (e+1) c ps
 |cut {b i:Nat} {c:List Nat} {ps:List (Int×Str)} {k:Kd}:Ct ns ks b c ps->ks[i]?=ak k->good ns k (b:Int)=aq->Ct ns ks (b+k.w.toNat) (Zea c i) (ps++[((b:Int),k.name)])
variable{ks:List Kd}
theorem Ct.len(h:Ct ns ks e c ps):c.length=ks.length:=by
 induction h with
 |zero=>exact BN
 |skip _ ih=>exact ih
 |cut _ _ _ ih=>rw[Zdj,ih]
theorem Ct.few(h:Ct ns ks e c ps)(hw:∀k∈ks,1<=k.w):ps.length<=e:=by
 induction h with
 |zero=>exact As _
 |skip _ ih=>omega
 |cut _ hk _ ih =>have:=hw _ (AO hk);rw[Av];show _+1<=_;omega
theorem Jg:∀n:Nat,(Ab n 0).sum=0
 |0=>rfl
 |n+1=>by rw[Bn,D1,Jg n]
theorem Xip:∀{c:List Nat} {i:Nat},i<c.length->(Zea c i).sum=c.sum+1
 |x::c,0,_=>by show((x+1)::c).sum=_;rw[D1,D1];omega
 |x::c,i+1,h=>by show(x::Zea c i).sum=_;rw[D1,D1,Xip (Nat.lt_of_succ_lt_succ h)];omega
theorem Ct.sum{ns:List Int}{ks:List Kd}{e:Nat}{c:List Nat}{ps:List (Int×Str)}(h:Ct ns ks e c ps):c.sum=ps.length:=by
 induction h with
 |zero=>exact Jg _
 |skip _ ih=>exact ih
 |cut h hk _ ih =>have:=(Am.mp hk).1;rw[Xip (by rw[h.len];exact this),ih,Av];rfl
theorem Ct.none(ns:List Int)(ks:List Kd):∀e:Nat,Ct ns ks e (Ab ks.length 0) []
 |0=>.zero
 |e+1=>.skip (Ct.none ns ks e)
variable{ps':List (Int×Str)}
theorem Ct.inv(h:Ct ns ks (e+1) c ps)(hw:∀k∈ks,1<=k.w):Ct ns ks e c ps\/∃(i:Nat) (k:Kd) (b:Nat) (c':List Nat) (ps':List (Int×Str)),ks[i]?=ak k/\(b:Int)=(e:Int)+1-k.w/\good ns k (b:Int)=aq/\Ct ns ks b c' ps'/\c=Zea c' i:=by
 generalize hE:e+1=E at h;cases h with
 |zero=>cases hE
 |skip h =>cases BX hE;exact .inl h
 |cut h hk hg =>have:=hw _ (AO hk);exact .inr ⟨_,_,_,_,_,hk,by omega,hg,h,rfl⟩
def KS(ns:List Int)(ks:List Kd)(os:List Nat)(e:Nat)(c:List Nat):Prop:=LeC c os/\∃ps,Ct ns ks e c ps
def StS(ns:List Int)(ks:List Kd)(os:List Nat)(e i:Nat)(c:List Nat):Prop:=KS ns ks os e c\/∃(i':Nat) (k:Kd) (b:Nat) (c':List Nat),i'<i/\ks[i']?=ak k/\(b:Int)=(e:Int)+1-k.w/\good ns k (b:Int)=aq/\KS ns ks os b c'/\c'.getD i' 0<os.getD i' 0/\c=Zea c' i'
variable{os:List Nat}
theorem LeC.up(h:LeC c os)(hi:c.getD i 0<os.getD i 0):LeC (Zea c i) os:=by
 have hl:i<c.length:=Nat.lt_of_not_le fun z=>by rw[Xbh (l:=os) (by rw[<- h.1];exact z)]at hi;exact Fh _ hi
 refine⟨by rw[Zdj];exact h.1,fun j=>?_⟩;rw[Zfi hl];split;rename_i e;rw[e];exact hi;exact h.2 j
theorem LeC.un(h:LeC (Zea c i) os)(hi:i<c.length):LeC c os/\c.getD i 0<os.getD i 0:=by
 have g:∀j,c.getD j 0+(if j=i then 1 else 0)<=os.getD j 0:=fun j=>by rw[<- Zfi hi];exact h.2 j
 refine⟨⟨by rw[<- Zdj c i];exact h.1,fun j=>AD (DC _ _) (g j)⟩,?_⟩;have:=g i;rw[aa rfl]at this;exact this
theorem StS.all(hw:∀k∈ks,1<=k.w):StS ns ks os e ks.length c↔KS ns ks os (e+1) c:=by
 constructor;rintro(⟨h,ps,g⟩|⟨i',k,b,c',h1,h2,h3,h4,⟨h5,ps,h6⟩,h7,rfl⟩);exact⟨h,ps,.skip g⟩;refine⟨h5.up h7,ps++[((b:Int),k.name)],?_⟩;have:=Ct.cut h6 h2 h4;have w:=hw _ (AO h2);have e:b+k.w.toNat=e+1:=by omega
 rw[e]at this;exact this;rintro⟨h,ps,g⟩;rcases g.inv hw with g|⟨i,k,b,c',ps',h2,h3,h4,h5,rfl⟩;exact .inl ⟨h,ps,g⟩;have hi:=(Am.mp h2).1;obtain⟨u1,u2⟩:=h.un (by rw[h5.len];exact hi);exact .inr ⟨i,k,b,c',hi,h2,h3,h4,⟨u1,ps',h5⟩,u2,rfl⟩
variable{pl:List (List (Int×Str))}{rs:List (List Int)}{u:Nat}
inductive Pln(ks:List Kd)(os:List Nat):List (List Int)->List Nat->Nat->List (List (Int×Str))->Prop
 |nil:Pln ks os [] os 0 []
 |snoc {rs:List (List Int)} {l:List Nat} {u:Nat} {pl:List (List (Int×Str))} {r:List Int} {c:List Nat} {ps:List (Int×Str)}:Pln ks os rs l u pl->Ct r ks r.length c ps->LeC c l->Pln ks os (rs++[r]) (sbC l c) (u+if ps=[] then 0 else 1) (pl++[ps])
theorem Xww{l:List Nat}(h:c.length=l.length):LeC (sbC l c) l:=⟨Zqu h,fun i=>by rw[Zht h];omega⟩
theorem Pln.le{l:List Nat}(h:Pln ks os rs l u pl):LeC l os:=by
 induction h with
 |nil=>exact LeC.refl _
 |snoc _ _ hl ih=>exact(Xww hl.1).trans ih
theorem Pln.plen{l:List Nat}(h:Pln ks os rs l u pl):pl.length=rs.length:=by
 induction h with
 |nil=>rfl
 |snoc _ _ _ ih=>rw[Av,Av,ih];rfl
variable{pl':List (List (Int×Str))}
theorem Pln.inv{r:List Int}{l:List Nat}(h:Pln ks os (rs++[r]) l u pl):∃l' u' pl' c ps,Pln ks os rs l' u' pl'/\Ct r ks r.length c ps/\LeC c l'/\l=sbC l' c/\u=u'+if ps=[] then 0 else 1:=by
 generalize hE:rs++[r]=E at h;cases h with
 |nil=>exact af (ah D8 hE) (by rw[Av];exact KM _)
 |snoc h1 h2 h3 =>obtain⟨e1,e2⟩:=List.append_inj' hE rfl;obtain⟨e2,-⟩:=JQ e2;subst e1 e2;exact⟨_,_,_,_,_,h1,h2,h3,rfl,rfl⟩
def Xol(ks:List Kd)(rs:List (List Int))(xs:List (List Int×List Nat)):Prop:=xs.map (·.1)=rs/\∀p∈xs,∃ps,Ct p.1 ks p.1.length p.2 ps
def Zqq(os:List Nat)(xs:List (List Int×List Nat))(l:List Nat):Prop:=l.length=os.length/\∀i,l.getD i 0+(xs.map fun p=>p.2.getD i 0).sum=os.getD i 0
def Zay(xs:List (List Int×List Nat)):Nat:=(xs.map fun p=>if p.2.sum=0 then 0 else 1).sum
theorem Pln.cuts{l:List Nat}(h:Pln ks os rs l u pl):∃xs,Xol ks rs xs/\Zqq os xs l/\u=Zay xs:=by
 induction h with
 |nil=>exact⟨[],⟨rfl,fun _ z=>nomatch z⟩,⟨rfl,fun _=>rfl⟩,rfl⟩
 |@snoc rs l u pl r c ps h1 h2 h3 ih =>obtain⟨xs,⟨e1,e2⟩,⟨e3,e4⟩,e5⟩:=ih;refine⟨xs++[(r,c)],⟨by rw[A5,e1];rfl,fun p hp=>?_⟩,⟨by rw[Zqu h3.1,e3],fun i=>?_⟩,?_⟩;rcases Al.mp hp with q|q;exact e2 p q;rw[Ap.mp q];exact⟨ps,h2⟩;have:=e4 i;have g:=h3.2 i;rw[Zht h3.1,A5,Dv];show _+(_+(c.getD i 0+0))=_;omega;unfold Zay at e5 ⊢;rw[e5,A5,Dv];show _=_+((if c.sum=0 then 0 else 1)+0);rw[h2.sum];cases ps<;>rfl
theorem Pln.ofCuts{ks:List Kd}{os:List Nat}(ho:os.length=ks.length):∀{n:Nat} {xs:List (List Int×List Nat)} {rs:List (List Int)} {l:List Nat},xs.length=n->Xol ks rs xs->Zqq os xs l->∃pl,Pln ks os rs l (Zay xs) pl
  |0,xs,rs,l,hn,⟨e1,e2⟩,⟨e3,e4⟩=>by
    cases xs with
    |nil =>subst e1;have:l=os:=Zcx e3 fun i=>e4 i;subst this;exact⟨[],.nil⟩
    |cons _ _=>cases hn
  |n+1,xs,rs,l,hn,⟨e1,e2⟩,⟨e3,e4⟩=>by
    have hne:xs≠[]:=fun z=>by rw[z]at hn;cases hn
    obtain⟨ys,p,rfl⟩:∃ys p,xs=ys++[p]:=⟨xs.dropLast,xs.getLast hne,(GV hne).symm⟩;rw[A5]at e1;subst e1;obtain⟨ps,hp⟩:=e2 p (Ah _ (.head _));have hl:p.2.length=l.length:=by rw[hp.len,e3,ho]
    have lf:Zqq os ys (adC l p.2):=⟨by rw [Zcn hl,e3],fun i=>by
      have:=e4 i;rw [A5,Dv] at this;rw [Zbl hl];have q:_+(_+(p.2.getD i 0+0))=_:=this;omega⟩
    obtain⟨pl,hpl⟩:=Pln.ofCuts ho (n:=n) (xs:=ys) (rs:=ys.map (·.1)) (l:=adC l p.2) (by rw[Av]at hn;exact BX hn) ⟨rfl,fun q hq=>e2 q (Aq _ hq)⟩ lf;have le:LeC p.2 (adC l p.2):=⟨by rw[Zcn hl,hl],fun i=>by rw[Zbl hl];omega⟩;have h:=hpl.snoc hp le;have e:sbC (adC l p.2) p.2=l:=by refine Zcx (by rw[Zqu le.1,Zcn hl]) fun i=>?_;rw[Zht le.1,Zbl hl];omega
    have eu:Zay (ys++[p])=Zay ys+if ps=[] then 0 else 1:=by unfold Zay;rw[A5,Dv];show _+((if p.2.sum=0 then 0 else 1)+0)=_;rw[hp.sum];cases ps<;>rfl
    rw[e,<- eu]at h;exact⟨_,h⟩
theorem Zpd{α:Type}(f:α->Nat):∀xs:List α,(xs.reverse.map f).sum=(xs.map f).sum
 |[]=>rfl
 |x::xs=>by rw[DB,A5,Dv,Zpd f xs,AZ (a:=x) (l:=xs),D1];show _+(f x+0)=_;omega
structure Dkt(S:List Nat->Prop)(W:List Nat->D->Prop)(cs:List (List Nat))(xs:List D):Prop where
 nd:cs.Nodup
 ln:xs.length=cs.length
 fl:Zr xs=aq
 ky:∀c,c∈cs↔S c
 vl:∀p∈cs.zip xs,W p.1 p.2
variable{S':List Nat->Prop}{W':List Nat->D->Prop}
theorem Dkt.imp{S:List Nat->Prop}{W:List Nat->D->Prop}(h:Dkt S W cs xs)(hS:∀c,S c↔S' c)(hW:∀c x,S c->W c x->W' c x):Dkt S' W' cs xs:=⟨h.nd,h.ln,h.fl,fun c=>(h.ky c).trans (hS c),fun p hp=>hW _ _ ((h.ky _).mp (C2 hp).1) (h.vl p hp)⟩
theorem Dkt.one{S:List Nat->Prop}{W:List Nat->D->Prop}{x:D}(hS:∀c',S c'↔c'=c)(hf:flat x=aq)(hW:W c x):Dkt S W [c] [x]:=
  ⟨AB.mpr ⟨(fun z=>nomatch z),Bb⟩,rfl,by simp [Zr,hf],fun c'=>by rw [Ap];exact (hS c').symm,fun p hp=>by
    rw [Ap.mp hp];exact hW⟩
theorem Dkt.nil{S:List Nat->Prop}{W:List Nat->D->Prop}(hS:∀c,¬S c):Dkt S W [] []:=⟨Bb,rfl,rfl,fun c=>⟨(fun z=>nomatch z),fun z=>af z (hS c)⟩,fun _ z=>nomatch z⟩
theorem Zkd{d:D}(hd:flat d=aq):∀(xs:List D),Zr xs=aq->Zr (xs++[d])=aq
 |[],_=>by simp[Zr,hd]
 |x::xs,h=>by simp only[Zr,AC,List.cons_append]at h ⊢;exact⟨h.1,Zkd hd xs h.2⟩
theorem Zzk{k:List (Int ⊕ Str)}{d:D}(hd:flat d=aq):∀(ks:List (List (Int ⊕ Str))) (xs:List D),Zr xs=aq->Zr (A8 (fun j x=>if j=k then d else x) ks xs)=aq
 |[],_,_=>rfl
 |_::_,[],_=>rfl
 |j::ks,x::xs,h=>by simp only[Zr,AC]at h;rw[DP];simp only[Zr,AC];refine⟨?_,Zzk hd ks xs h.2⟩;split;exact hd;exact h.1
theorem Ziu{k:List Nat}{v:D}{p:List Nat×D}:∀(cs:List (List Nat)) (xs:List D),p∈cs.zip (A8 (fun j x=>if j=kyN k then v else x) (cs.map kyN) xs)->(p.1=k/\p.2=v)\/(p.1≠k/\p∈cs.zip xs)
 |[],_,h=>nomatch h
 |_::_,[],h=>nomatch h
 |c::cs,x::xs,h=>by rw[AZ,DP,Cp]at h;rcases Aj.mp h with e|e;by_cases q:c=k;subst q;rw[aa rfl]at e;rw[e];exact .inl ⟨rfl,rfl⟩;rw[ae fun z=>q (Zou z)]at e;rw[e];exact .inr ⟨q,.head _⟩;rcases Ziu cs xs e with h|⟨h1,h2⟩;exact .inl h;exact .inr ⟨h1,.tail _ h2⟩
variable{cs':List (List Nat)}{v:D}
theorem Dkt.put{S:List Nat->Prop}{W:List Nat->D->Prop}{k:List Nat}(h:Dkt S W cs xs)(hv:flat v=aq)(hS:∀c,S' c↔S c\/c=k)(hW:∀c x,S c->c≠k->W c x->W' c x)(hk:W' k v):∃cs' xs',Xrp (cs.map kyN) xs (kyN k) v=.dtt (cs'.map kyN) xs'/\Dkt S' W' cs' xs':=by unfold Xrp;rw[Xbp];by_cases q:k∈cs;rw[aa (aj q)];refine⟨cs,_,rfl,h.nd,by rw[Cy,Ai,h.ln,HW],Zzk hv _ _ h.fl,fun c=>?_,fun p hp=>?_⟩;rw[h.ky c,hS c];exact⟨.inl,fun z=>z.elim id fun e=>e▸(h.ky k).mp q⟩;rcases Ziu _ _ hp with⟨e1,e2⟩|⟨e1,e2⟩;rw[e1,e2];exact hk;exact hW _ _ ((h.ky _).mp (C2 e2).1) e1 (h.vl p e2);rw[ae fun z=>q (of_decide_eq_true z)];refine⟨cs++[k],xs++[v],by rw[A5];rfl,?_,by rw[Av,Av,h.ln];rfl,Zkd hv _ h.fl,fun c=>?_,fun p hp=>?_⟩;refine DR.mpr ⟨h.nd,AB.mpr ⟨(fun z=>nomatch z),Bb⟩,fun a ha b hb e=>?_⟩;rw[Ap.mp hb]at e;exact q (e▸ha);rw[Al,Ap,h.ky c,hS c];rw[GR h.ln.symm]at hp;rcases Al.mp hp with e|e;have m:=(C2 e).1;exact hW _ _ ((h.ky _).mp m) (fun z=>q (z▸m)) (h.vl p e);rw[Ap.mp e];exact hk
theorem Zqm{k:List Nat}:∀(cs:List (List Nat)) (xs:List D),xs.length=cs.length->k∈cs->∃x,tAt (cs.map kyN) xs (kyN k)=ak x/\(k,x)∈cs.zip xs
 |[],_,_,h=>nomatch h
 |c::cs,x::xs,hl,h=>by by_cases e:c=k;subst e;exact⟨x,aa rfl,.head _⟩;obtain⟨y,h1,h2⟩:=Zqm cs xs (BX hl) ((Aj.mp h).resolve_left fun z=>e z.symm);exact⟨y,(ae fun z=>e (Zou z)).trans h1,.tail _ h2⟩
 |_::_,[],hl,_=>nomatch hl
theorem Dkt.at{S:List Nat->Prop}{W:List Nat->D->Prop}{k:List Nat}(h:Dkt S W cs xs)(hk:S k):∃x,tAt (cs.map kyN) xs (kyN k)=ak x/\W k x:=by obtain⟨x,h1,h2⟩:=Zqm cs xs h.ln ((h.ky k).mpr hk);exact⟨x,h1,h.vl _ h2⟩
structure Zbj(os:List Nat):Prop where
 pr:Yk os<=120
 ha:∀cs:List (List Nat),cs.Nodup->(∀c∈cs,LeC c os)->((cs.map kyN).map thK).Nodup
theorem mem_getD{x:Nat}(h:x∈c):∃i,i<c.length/\x=c.getD i 0:=by obtain⟨i,hi,e⟩:=D7.mp h;exact⟨i,hi,by rw[AA,Ag hi,<- e];rfl⟩
theorem Zbj.small(h:Zbj os)(hc:LeC c os):∀x∈c,x<120:=fun x hx=>by
 obtain⟨i,hi,rfl⟩:=mem_getD hx;have:=hc.2 i;have hi':i<os.length:=by rw[<- hc.1];exact hi
 have m:os.getD i 0∈os:=by rw[AA,Ag hi'];exact Ca hi'
 have:=Zss m;have:=h.pr;omega
theorem Dkt.few{S:List Nat->Prop}{W:List Nat->D->Prop}(h:Dkt S W cs xs)(ho:Zbj os)(hS:∀c,S c->LeC c os):cs.length<=120:=AD (Xio h.nd fun c hc=>hS c ((h.ky c).mp hc)) ho.pr
theorem Xwt :(kyN c).all kOk=true:=by refine BG.mpr fun k hk=>?_;obtain⟨x,-,rfl⟩:=Az.mp hk;rfl
theorem Zpp :((cs.map kyN).all fun k=>k.all kOk)=true:=by refine BG.mpr fun k hk=>?_;obtain⟨c,-,rfl⟩:=Az.mp hk;exact Xwt
theorem Zvy:∀(cs:List (List Nat)) (xs:List D),A8 (fun k x=>D.tup [Zdu k,x]) (cs.map kyN) xs=(cs.zip xs).map fun p=>.tup [tyN p.1,p.2]
 |[],_=>rfl
 |_::_,[]=>rfl
 |c::cs,x::xs=>by rw[AZ,DP,Cp,AZ,Zvy cs xs,Zld]
theorem Zox(h:a ρ=.ok (.fdt (cs.map kyN) xs))(hl:cs.length<=120):Zih a ρ=.ok ((cs.zip xs).map fun p=>.tup [tyN p.1,p.2]):=by unfold Zih;rw[h];show(if (cs.map kyN).length<=lim/\_ then _ else _)=_;rw[aa ⟨by rw[Ai];exact AD hl (by decide),Zpp⟩];exact ah R.ok (Zvy cs xs)
theorem Xmh(h:a ρ=.ok (.fdt (cs.map kyN) xs))(hl:cs.length<=120):Zjf a ρ=.ok (cs.map tyN):=by unfold Zjf;rw[h];show(if (cs.map kyN).length<=lim/\_ then _ else _)=_;rw[aa ⟨by rw[Ai];exact AD hl (by decide),Zpp⟩,AV];refine ah R.ok (BS fun c _=>Zld c)
theorem Dkt.dict{S:List Nat->Prop}{W:List Nat->D->Prop}(h:Dkt S W cs xs)(ho:Zbj os)(hS:∀c,S c->LeC c os)(hc:S c):Zzo [.fdt (cs.map kyN) xs]=ak (.dtt (cs.map kyN) xs):=by have le:∀c∈cs,LeC c os:=fun c hc=>hS c ((h.ky c).mp hc);refine aa ⟨fun z=>?_,BG.mpr fun k hk=>?_,ho.ha cs h.nd le,h.fl⟩;rw[IP.mp z]at h;exact nomatch (h.ky c).mpr hc;obtain⟨c,hc,rfl⟩:=Az.mp hk;exact Xut fun x hx=>Im (ho.small (le c hc) x hx) (by decide)
variable{ρ':Env}
theorem Xwd{α:Type}{enc:α->D}{b:FB}{s:FS}{P:List α->Env->Prop}{xs:List α}(step:∀l x r ρ,xs=l++x::r->P l ρ->∃ρ',(turn b s (enc x) ρ=.ok (.nx ρ')\/turn b s (enc x) ρ=.ok (.cnt ρ'))/\P (l++[x]) ρ'):∀{r l:List α} {ρ:Env},xs=l++r->P l ρ->∃ρ',P xs ρ'/\Zkb b s (r.map enc) ρ=.ok (.nx ρ')
 |[],l,ρ,e,h=>⟨ρ,by rw[e,Dy];exact h,rfl⟩
 |x::r,l,ρ,e,h=>by
  obtain⟨ρ1,t,h1⟩:=step l x r ρ e h;obtain⟨ρ2,h2,t2⟩:=Xwd step (r:=r) (l:=l++[x]) (ρ:=ρ1) (by rw[e,DE];rfl) h1;refine⟨ρ2,h2,?_⟩;rw[AZ,Znn];unfold turn at t;cases hb:(b (enc x) ρ).calm with
  |ok ρ' =>rw[hb,Ys]at t;rw[Ys];rcases t with t|t;rw[t];exact t2;rw[t];exact t2
  |err _ _=>rw[hb]at t;rcases t with t|t<;>cases t
  |bad=>rw[hb]at t;rcases t with t|t<;>cases t
theorem Zfx{enc:α->D}{b:FB}{P:List α->Env->Prop}{xs:List α}(h0:P [] ρ)(step:∀l x r ρ,xs=l++x::r->P l ρ->∃ρ',(turn b s (enc x) ρ=.ok (.nx ρ')\/turn b s (enc x) ρ=.ok (.cnt ρ'))/\P (l++[x]) ρ'):∃ρ',P xs ρ'/\Zkb b s (xs.map enc) ρ=.ok (.nx ρ'):=Xwd step (l:=[]) rfl h0
theorem Xfz(h:i<c.length):gIx (tyN c) (.int (i:Int))=ak (.int ((c.getD i 0:Nat):Int)):=Xye (k:=i) rfl (by rw[AS,AA,Ag h];rfl)
theorem Ym:∀c:List Nat,Zr (c.map fun x:Nat=>D.int (x:Int))=aq
 |[]=>rfl
 |_::c=>by rw[AZ];show(aq&&Zr _)=aq;rw[Ym c];rfl
theorem Xvb(h:i<c.length):Xdi (tyN c) ao (ak (i:Int))=ak (tyN (c.take i))/\Xdi (tyN c) (ak ((i:Int)+1)) ao=ak (tyN (c.drop (i+1))):=by
 have hl:(c.map fun x:Nat=>D.int (x:Int)).length=c.length:=Ai ..;constructor;have hc:¬(Zpj (c.map fun x:Nat=>D.int (x:Int)).length 0 ao=0/\Zpj (c.map fun x:Nat=>D.int (x:Int)).length (c.map fun x:Nat=>D.int (x:Int)).length (ak (i:Int))=(c.map fun x:Nat=>D.int (x:Int)).length):=fun z=>by have:=z.2;unfold Zpj at this;simp only[]at this;rw[ae (by omega),hl]at this;omega
 refine(aa ⟨Ym c,hc⟩).trans ?_;rw[Zqy (by omega),<- Fo];rfl;have hc:¬(Zpj (c.map fun x:Nat=>D.int (x:Int)).length 0 (ak ((i:Int)+1))=0/\Zpj (c.map fun x:Nat=>D.int (x:Int)).length (c.map fun x:Nat=>D.int (x:Int)).length ao=(c.map fun x:Nat=>D.int (x:Int)).length):=fun z=>by have:=z.1;unfold Zpj at this;simp only[]at this;rw[ae (by omega),hl]at this;omega
 refine(aa ⟨Ym c,hc⟩).trans ?_;rw[Zsk (by omega),<- G2];rfl
theorem Xwb(h:i<c.length)(hl:c.length<=1000):Zqa (tyN (c.take i)) (.tup [.int ((c.getD i 0:Nat)+1)])=ak (tyN (c.take i++[c.getD i 0+1]))/\Zqa (tyN (c.take i++[c.getD i 0+1])) (tyN (c.drop (i+1)))=ak (tyN (Zea c i)):=by
 have e:Zea c i=c.take i++[c.getD i 0+1]++c.drop (i+1):=by unfold Zea;rw[List.set_eq_take_append_cons_drop,aa h,DE];rfl
 constructor;have h1:((c.take i).map fun x:Nat=>D.int (x:Int)).length+1<=1000000:=by rw[Ai,BY];omega
 refine(aa ⟨h1,Ym _,rfl⟩).trans ?_;unfold tyN;rw[A5];rfl;have h1:((c.take i++[c.getD i 0+1]).map fun x:Nat=>D.int (x:Int)).length+((c.drop (i+1)).map fun x:Nat=>D.int (x:Int)).length<=lim:=by rw[Ai,Ai,<- Av,<- e,Zdj];exact AD hl (by decide)
 refine(aa ⟨h1,Ym _,Ym _⟩).trans ?_;rw[<- A5,<- e];rfl
theorem r_up{e i:FE}(he:e ρ=.ok (tyN c))(hi:i ρ=.ok (.int (j:Int)))(h:j<c.length)(hl:c.length<=1000):f2 Zqa (f2 Zqa (fSl Xdi e Zdd (Zbu i)) (fA Zfg (Zc (f2 Jn (f2 gIx e i) (fC (.int 1))) Zt))) (fSl Xdi e (Zbu (f2 Jn i (fC (.int 1)))) Zdd) ρ=.ok (tyN (Zea c j)):=Zn (Zn (Xtf he rfl (Zhp hi) (Xvb h).1) (Jj (Zd (Zn (Zn he hi (Xfz h)) rfl rfl) rfl) rfl) (Xwb h hl).1) (Xtf he (Zhp (Zn hi rfl rfl)) rfl (Xvb h).2) (Xwb h hl).2
inductive Cw(ns:List Int)(ks:List Kd):Nat->Nat->List Nat->Prop where
 |nil (a:Nat):Cw ns ks a a (Ab ks.length 0)
 |skip {a b:Nat} {c:List Nat}:Cw ns ks a b c->b+1<=ns.length->Cw ns ks a (b+1) c
 |piece {a b i:Nat} {c:List Nat} {k:Kd}:Cw ns ks a b c->ks[i]?=ak k->good ns k (b:Int)=aq->Cw ns ks a (b+k.w.toNat) (Zea c i)
theorem Cw.lenW{a b:Nat}(h:Cw ns ks a b c):c.length=ks.length:=by
 induction h with
 |nil=>exact BN
 |skip _ _ ih=>exact ih
 |piece _ _ _ ih=>rw[Zdj,ih]
theorem Zct(n i:Nat):(Ab n 0).getD i 0=0:=by rw[AA,DH];split<;>rfl
theorem Zpv(h:c.length=n):adC (Ab n 0) c=c/\adC c (Ab n 0)=c:=by have l:(Ab n 0).length=n:=BN;refine⟨Zcx (by rw[Zcn (by rw[h,l]),l,h]) fun i=>?_,Zcx (by rw[Zcn (by rw[h,l])]) fun i=>?_⟩;rw[Zbl (by rw[h,l]),Zct,HP];rw[Zbl (by rw[h,l]),Zct,Nat.add_zero]
variable{d:List Nat}
theorem ad_up(h:d.length=c.length)(hi:i<c.length):adC c (Zea d i)=Zea (adC c d) i:=by
 have e1:(Zea d i).length=c.length:=by rw[Zdj,h]
 have e2:i<(adC c d).length:=by rw[Zcn h];exact hi
 refine Zcx (by rw[Zcn e1,Zdj,Zcn h]) fun j=>?_;rw[Zbl e1,Zfi (by rw[h];exact hi),Zfi e2,Zbl h,Nat.add_assoc]
theorem up_ad(h:d.length=c.length)(hi:i<c.length):adC (Zea c i) d=Zea (adC c d) i:=by
 have e1:d.length=(Zea c i).length:=by rw[Zdj,h]
 have e2:i<(adC c d).length:=by rw[Zcn h];exact hi
 refine Zcx (by rw[Zcn e1,Zdj,Zdj,Zcn h]) fun j=>?_;rw[Zbl e1,Zfi hi,Zfi e2,Zbl h];omega
theorem Cw.transW{a b:Nat}(h:Cw ns ks a b c)(g:Cw ns ks b e d):Cw ns ks a e (adC c d):=by
 have hc:=h.lenW
 induction g with
 |nil=>rw[(Zpv hc).2];exact h
 |skip _ hb ih=>exact ih.skip hb
 |piece g hk hg ih =>have:=(Am.mp hk).1;rw[ad_up (by rw[g.lenW,hc]) (by rw[hc];exact this)];exact ih.piece hk hg
theorem Cw.revW(hw:∀k∈ks,1<=k.w){a b:Nat}(h:Cw ns ks a b c):a<=ns.length->Cw ns.reverse ks (ns.length-b) (ns.length-a) c:=by
 induction h with
 |nil=>exact fun _=>.nil _
 |@skip b c h hb ih =>
  intro ha;have i:=ih ha;have o:=(Cw.nil (ns:=ns.reverse) (ks:=ks) (ns.length-(b+1))).skip (by rw[CT];omega);rw[show ns.length-(b+1)+1=ns.length-b by omega]at o;have:=o.transW i
  rwa [(Zpv h.lenW).1]at this
 |@piece b i c k h hk hg ih =>
  intro ha;have q:=ih ha;have bd:=Xni hg;have h1:=hw k (AO hk);have hi:=(Am.mp hk).1;have hg':good ns.reverse k ((ns.length-(b+k.w.toNat):Nat):Int)=true:=by rw[Xer h1,show(ns.length:Int)-((ns.length-(b+k.w.toNat):Nat):Int)-k.w=(b:Int) by omega];exact hg
  have o:=(Cw.nil (ns:=ns.reverse) (ks:=ks) (ns.length-(b+k.w.toNat))).piece hk hg';rw[show ns.length-(b+k.w.toNat)+k.w.toNat=ns.length-b by omega]at o;have:=o.transW q
  rwa [up_ad (by rw[h.lenW,BN]) (by rw[BN];exact hi),(Zpv h.lenW).1]at this
theorem Ct.toW(hw:∀k∈ks,1<=k.w)(h:Ct ns ks e c ps):e<=ns.length->Cw ns ks 0 e c:=by
 induction h with
 |zero=>exact fun _=>.nil 0
 |skip _ ih=>exact fun he=>(ih (by omega)).skip he
 |cut _ hk hg ih =>intro he;exact(ih (by have:=hw _ (AO hk);omega)).piece hk hg
theorem Cw.toC(h:Cw ns ks 0 e c):∃ps,Ct ns ks e c ps:=by
 generalize ha:0=a at h
 induction h with
 |nil=>subst ha;exact⟨[],.zero⟩
 |skip _ _ ih=>exact ih.imp fun _ q=>.skip q
 |piece _ hk hg ih=>obtain⟨ps,q⟩:=ih;exact⟨_,.cut q hk hg⟩
theorem Ct.turn(hw:∀k∈ks,1<=k.w)(h:Ct ns ks ns.length c ps):∃ps',Ct ns.reverse ks ns.reverse.length c ps':=by have:=(h.toW hw (As _)).revW hw (Dp _);rw[Fn,Il]at this;rw[CT];exact this.toC
theorem Ct.empty(hw:∀k∈ks,1<=k.w)(h:Ct [] ks 0 c ps):c=Ab ks.length 0:=by
 generalize hE:0=E at h;cases h with
 |zero=>rfl
 |skip _=>cases hE
 |cut h hk hg =>have:=hw _ (AO hk);omega
def Lf(ks:List Kd)(os:List Nat)(rs:List (List Int))(l:List Nat)(u:Nat):Prop:=∃xs,Xol ks rs xs/\Zqq os xs l/\u=Zay xs
theorem Zyo(ho:os.length=ks.length){l:List Nat}:(∃pl,Pln ks os rs l u pl)↔Lf ks os rs l u:=by constructor;rintro⟨pl,h⟩;exact h.cuts;rintro⟨xs,h1,h2,rfl⟩;exact Pln.ofCuts ho rfl h1 h2
theorem Lf.turned(hw:∀k∈ks,1<=k.w){l:List Nat}(h:Lf ks os rs l u):Lf ks os (rs.map E7) l u:=by obtain⟨xs,⟨e1,e2⟩,⟨e3,e4⟩,rfl⟩:=h;refine⟨xs.map fun p=>(p.1.reverse,p.2),⟨?_,fun p hp=>?_⟩,⟨e3,fun i=>?_⟩,?_⟩;rw[<- e1,AV,AV];rfl;obtain⟨q,hq,rfl⟩:=Az.mp hp;obtain⟨ps,h⟩:=e2 q hq;exact h.turn hw;rw[AV];exact e4 i;unfold Zay;rw[AV];rfl
variable{ys:List (List Int×List Nat)}
theorem Lf.mid{xs:List (List Int×List Nat)}(f:List Int×List Nat->Nat)(p:List Int×List Nat):((xs++p::ys).map f).sum=((xs++ys).map f).sum+f p:=by rw[A5,A5,AZ,Dv,Dv,D1];omega
variable{ss:List (List Int)}
theorem Lf.more(ho:os.length=ks.length){r:List Int}{l:List Nat}(h:Lf ks os (rs++ss) l u):Lf ks os (rs++r::ss) l u:=by obtain⟨xs,⟨e1,e2⟩,⟨e3,e4⟩,rfl⟩:=h;obtain⟨ys,zs,rfl,e5,e6⟩:=HL.mp e1;refine⟨ys++(r,Ab ks.length 0)::zs,⟨by rw[A5,AZ,e5,e6],fun p hp=>?_⟩,⟨e3,fun i=>?_⟩,?_⟩;rcases Al.mp hp with q|q;exact e2 p (Aq _ q);rcases Aj.mp q with q|q;rw[q];exact⟨[],Ct.none r ks r.length⟩;exact e2 p (Ah _ q);rw[Lf.mid];have:=e4 i;show _+(_+(Ab ks.length 0).getD i 0)=_;rw[Zct];omega;unfold Zay;rw[Lf.mid];show _=_+(if (Ab ks.length 0).sum=0 then 0 else 1);rw[Jg,aa rfl];rfl
theorem Lf.less(hw:∀k∈ks,1<=k.w){l:List Nat}(h:Lf ks os (rs++[]::ss) l u):Lf ks os (rs++ss) l u:=by obtain⟨xs,⟨e1,e2⟩,⟨e3,e4⟩,rfl⟩:=h;obtain⟨ys,zs',rfl,e5,e6⟩:=HL.mp e1;obtain⟨p,zs,rfl,e7,e8⟩:=List.map_eq_cons_iff.mp e6;obtain⟨ps,hp⟩:=e2 p (Ah _ (.head _));rw[e7]at hp;have hz:=Ct.empty hw hp;refine⟨ys++zs,⟨by rw[A5,e5,e8],fun q hq=>e2 q ?_⟩,⟨e3,fun i=>?_⟩,?_⟩;rcases Al.mp hq with q|q;exact Aq _ q;exact Ah _ (.tail _ q);have:=e4 i;rw[Lf.mid,hz,Zct]at this;omega;unfold Zay;rw[Lf.mid,hz,Jg,aa rfl];rfl
theorem Lf.rev{l:List Nat}(h:Lf ks os rs l u):Lf ks os rs.reverse l u:=by obtain⟨xs,⟨e1,e2⟩,⟨e3,e4⟩,rfl⟩:=h;refine⟨xs.reverse,⟨by rw[Kz,e1],fun p hp=>e2 p (Ky.mp hp)⟩,⟨e3,fun i=>by rw[Zpd];exact e4 i⟩,?_⟩;unfold Zay;rw[Zpd]
theorem Zwj:∀xs:List (List Int×List Nat),Zay xs<=xs.length
 |[]=>As _
 |p::xs=>by have:=Zwj xs;unfold Zay at this ⊢;rw[AZ,D1,BK];split<;>omega
theorem Lf.used{l:List Nat}(h:Lf ks os rs l u):u<=rs.length:=by obtain⟨xs,⟨e1,e2⟩,⟨e3,e4⟩,rfl⟩:=h;rw[<- e1,Ai];exact Zwj xs
theorem Lf.rest{l:List Nat}(h:Lf ks os rs l u)(ho:os.length=ks.length):Lf ks (sbC os l) rs (Ab ks.length 0) u:=by obtain⟨xs,⟨e1,e2⟩,⟨e3,e4⟩,rfl⟩:=h;refine⟨xs,⟨e1,e2⟩,⟨by rw[BN,Zqu e3,ho],fun i=>?_⟩,rfl⟩;have:=e4 i;rw[Zct,Zht e3];omega
theorem Zsl(f:Int->Int)(ks:List Int):∀n,1<=n->n<=ks.length->∃i,i<n/\(∀j,j<n->f (ks.getD i 0)<=f (ks.getD j 0))/\∀j,j<i->f (ks.getD i 0)<f (ks.getD j 0)
  |0,h,_=>by omega
  | 1,_,_=>⟨0,by decide,fun j hj=>by
    have:j=0:=by omega
    subst this;exact EL _,fun j hj=>by omega⟩
  |n+2,_,h=>by obtain⟨i,h1,h2,h3⟩:=Zsl f ks (n+1) (by omega) (by omega);by_cases q:f (ks.getD (n+1) 0)<f (ks.getD i 0);refine⟨n+1,by omega,fun j hj=>?_,fun j hj=>?_⟩;by_cases e:j=n+1;subst e;exact EL _;have:=h2 j (by omega);omega;have:=h2 j hj;omega;refine⟨i,by omega,fun j hj=>?_,h3⟩;by_cases e:j=n+1;subst e;omega;exact h2 j (by omega)
variable{d:D}
theorem Xke{lt:Int->Int->Bool}(f:Int->Int)(hlt:∀a b,lt a b=decide (f a<f b)){ks:List Int}(hl:ds.length=ks.length)(h0:ks≠[]):∃i d,i<ks.length/\ds[i]?=ak d/\Zpk lt ds ks=.ok d/\∀j,j<ks.length->f (ks.getD i 0)<=f (ks.getD j 0):=by
 have hp:1<=ks.length:=by
  cases ks with
  |nil=>exact af rfl h0
  |cons _ _=>simp
 obtain⟨i0,a1,a2,a3⟩:=Zsl f ks ks.length hp (As _);have hf0:Zgu lt ks i0=true:=by unfold Zgu;rw[AC,BG,BG];refine⟨fun j hj=>?_,fun j hj=>?_⟩;rw[hlt,ai (Int.not_lt.mpr (a2 j (Bi.mp hj)))];rfl;rw[hlt];exact aj (a3 j (Bi.mp hj))
 cases hfd:(AX ks.length).find? (Zgu lt ks) with
 |none=>exact af hf0 (by rw[Ga.mp hfd i0 (Bi.mpr a1) |> Kq.mpr];exact Ao)
 |some i =>have h1:=GU hfd;have h2:=Bi.mp (EB hfd);have hd:ds[i]?=ak ds[i]:=Ag (by omega);refine⟨i,ds[i],h2,hd,?_,fun j hj=>?_⟩;unfold Zpk;rw[hfd];show oR ds[i]?=_;rw[hd];rfl;unfold Zgu at h1;rw[AC,BG]at h1;have:=h1.1 j (Bi.mpr hj);rw[hlt]at this;simpa using this
theorem Zrb{α:Type}{enc:α->D}{fb:FE}{fr:Env}{v:α->Int}:∀(xs:List α),(∀x∈xs,fb (ak (enc x)::fr)=.ok (.int (v x)))->Zde fb fr (xs.map enc)=.ok (xs.map v)
 |[],_=>rfl
 |x::xs,h=>by rw[AZ,Zde,h x (.head _),Xaw,Ys];simp only[];rw[Zrb xs fun y hy=>h y (.tail _ hy),Ys];rfl
variable{js:List Nat}
theorem Xny{enc:α->D}{lt:Int->Int->Bool}(f:Int->Int)(hlt:∀a b,lt a b=decide (f a<f b)){fe fb:FE}{xs:List α}{fs:List D}{v:α->Int}(he:fe ρ=.ok (.lst (xs.map enc)))(h0:xs≠[])(hj:Zgc js ρ=.ok fs)(hb:∀x∈xs,fb (ak (enc x)::fs.map ak)=.ok (.int (v x))):∃x∈xs,Ziy lt fe js fb ρ=.ok (enc x)/\∀y∈xs,f (v x)<=f (v y):=by
 obtain⟨i,d,h1,h2,h3,h4⟩:=Xke f hlt (ds:=xs.map enc) (ks:=xs.map v) (by rw[Ai,Ai]) (fun z=>h0 (IP.mp z));rw[Ai]at h1 h4;have hg:∀j,(hj:j<xs.length)->(xs.map v).getD j 0=v xs[j]:=fun j hj=>by rw[AA,AS,Ag hj];rfl
 have hd:d=enc xs[i]:=by rw[AS,Ag h1]at h2;exact(AE h2).symm
 refine⟨xs[i],Ca h1,?_,fun y hy=>?_⟩;unfold Ziy;rw[he,Ys];simp only[];have hne:(xs.map enc).isEmpty=false:=by
  cases xs with
  |nil=>exact af rfl h0
  |cons _ _=>rfl
 rw[hne];simp only[AT,if_false];rw[hj,Xaw,Ys,Zrb xs hb,Ys,h3,hd];obtain⟨j,hj,rfl⟩:=List.getElem_of_mem hy;have:=h4 j hj;rw[hg i h1,hg j hj]at this;exact this
def Zle:FS:=
 (Zcb (fA Xir (Zc (Jm 2 2 (Zxn (fV 0) (fV 1)) (Zfc (Xx (Zv 2) (Xx (Zv 3) Zef))) Zcr (f2 Zag (fV 2) (fV 3))) Zt)))
def Yh(ds:List D):R D:=(run 2 Zle ds).calm
def Zkh:FS:=
 (Zcb (fA Xir (Zc (Jm 2 2 (Zhb (fV 0) (fV 1)) (Zfc (Xx (Zv 2) (Xx (Zv 3) Zef))) Zcr (f2 Zag (fV 2) (fV 3))) Zt)))
def Yy(ds:List D):R D:=(run 2 Zkh ds).calm
def Zac:FS:=
 (sIf (cE (f2 gLt (f2 gIx (fV 5) (fV 2)) (fV 3))) (Xu (Yq 7 (f2 Zqa (f2 Zqa (fSl Xdi (fV 5) Zdd (Zbu (fV 2))) (fA Zfg (Zc (f2 Jn (f2 gIx (fV 5) (fV 2)) (fC (.int 1))) Zt))) (fSl Xdi (fV 5) (Zbu (f2 Jn (fV 2) (fC (.int 1)))) Zdd))) (sIf (cE (f2 Zfk (fV 7) (fV 0))) (Zme 0 (fV 7) (f1 Xjz (f2 Zuw (fV 6) (fA Jp (Zc (fV 4) Zt))))) sNx)) sNx)
def Zeh:FM:=
 (Xlc (Zkz (Zih (fV 1)) (Zfc (Xx (Zv 5) (Xx (Zv 6) Zef))) (Zpe Zac)))
def Ye(ds:List D):R (D×D):=(Xrx 8 Zeh ds).calm
def Zaf:FS:=
  (Xu (Yq 7 (fA Zif (Zc (Jm 9 2 (Zth (fV 3) (fV 5)) (Zfc (Xx (Zv 9) (Xx (Zv 10) Zef))) Zcr (f2 Zia (fV 9) (fV 10))) Zt)))
    (Xu (sIf (cE (f2 gLt (Zqb (fV 7) (fC (.int 0))) (fC (.int 0)))) sCnt sNx)
    (Xu (Yq 8 (fIf (Zvi (fV 6)) (f2 Jn (f2 gIx (fV 4) (fC (.int 0))) (fC (.int 1))) (f1 Jd (f2 gIx (fV 4) (fC (.int 0))))))
    (sIf (cOr (cE (f2 Zfk (fV 7) (fV 2))) (cE (f2 gLt (fV 8) (f2 gIx (f2 Xri (fV 2) (fV 7)) (fC (.int 0)))))) (Zme 2 (fV 7) (fA Zfg (Zc (fV 8) (Zc (f1 Xjz (f2 Zuw (f2 gIx (fV 4) (fC (.int 1))) (fA Jp (Zc (fV 6) Zt)))) Zt)))) sNx))))
def Zed:FS:=
 (Zkz (Zih (fV 1)) (Zfc (Xx (Zv 5) (Xx (Zv 6) Zef))) Zaf)
def Zoo:FS:=
  (Xu (Yq 2 (fC (.dtt [] [])))
    (Xu (Zkz (Zih (fV 0)) (Zfc (Xx (Zv 3) (Xx (Zv 4) Zef))) Zed)
    (Zja 2)))
def Zaj(ds:List D):R D:=(run 9 Zoo ds).calm
def Zik:FS:=
  (Xu (Yq 8 (f2 Zia (fV 4) (f2 gIx (fV 7) (fC (.int 1)))))
    (sIf (cE (Ya Znp (Zc (fV 0) (Zc (fV 7) (Zc (fV 8) Zt))))) (Znf (Ziv 5 Ye (Zc (f2 gIx (fV 3) (fV 8)) (Zc (fV 6) (Zc (f2 gIx (fV 2) (fV 6)) (Zc (fA Zfg (Zc (fV 8) (Zc (f2 gIx (fV 7) (fC (.int 0))) Zt))) Zt)))))) sNx))
def Zdm:FS:=
  (Xu (Yq 5 (fA Zzo (Zc (f2 gIx (fV 3) (f1 Xru (fC (.int 1)))) Zt)))
    (Xu (Zkz (Xpv (fV 1)) (Zfc (Xx (Zv 6) (Xx (Zv 7) Zef))) Zik)
    (Zji 3 5)))
def Zym:FS:=
  (Xu (Yq 3 (fA Jp (Zc (f1 Xva (Zix (fA Zif (Zc (f2 Zag (fA Jp (Zc (fC (.int 0)) Zt)) (fA Zbp (Zc (fV 2) Zt))) Zt)) (f1 Xjz (fA Jp Zt)))) Zt)))
    (Xu (Zkz (Zyk (Zc (fC (.int 1)) (Zc (f2 Jn (fA Zbp (Zc (fV 0) Zt)) (fC (.int 1))) Zt))) (Zv 4) Zdm)
    (Zcb (f1 Jd (f2 gIx (fV 3) (f1 Xru (fC (.int 1))))))))
def Zci(ds:List D):R D:=(run 9 Zym ds).calm
def Zbo:FS:=
 (Yq 3 (Ya Zaj (Zc (fV 3) (Zc (Ya Zci (Zc (fV 4) (Zc (fV 1) (Zc (fV 2) Zt)))) Zt))))
def Zhz:FS:=
  (Xu (Zvj (Ya Jz (Zc (fV 0) (Zc (fV 2) Zt))))
    (Xu (Yq 3 (f1 Xva (Zix (fA Zif (Zc (fV 2) Zt)) (fA Zfg (Zc (fC (.int 0)) (Zc (f1 Xjz (fA Jp Zt)) Zt))))))
    (Xu (Zkz (Zai (fV 0)) (Zv 4) Zbo)
    (Zcb (fV 3)))))
def Xh(ds:List D):R D:=(run 5 Zhz ds).calm
def Zmx:FS:=
  (Xu (Yq 5 (Ya Zal (Zc (fV 0) (Zc (fV 1) (Zc (fV 4) Zt)))))
    (Xu (Yq 6 (Ya Jy (Zc (fV 0) (Zc (fV 1) (Zc (fV 4) Zt)))))
    (Xu (Yq 7 (f1 Jd (f2 gIx (Ya Xt (Zc (fV 0) (Zc (f2 Jn (fV 1) (fC (.int 1))) (Zc (fA Jp (Zc (f2 Jn (fV 2) (fC (.int 1))) Zt)) Zt)))) (fC (.int 0)))))
    (Xu (Yq 8 (Jm 9 1 (Zmq (Zc (fV 7) Zt)) (Zv 9) Zcr (Ya Jr (Zc (fV 0) (Zc (f2 Jn (f2 Jn (fV 1) (fC (.int 2))) (fV 9)) (Zc (fV 3) (Zc (fV 5) Zt)))))))
    (Zcb (fA Zfg (Zc (fV 8) (Zc (fV 6) Zt))))))))
def Zaa(ds:List D):R D:=(run 9 Zmx ds).calm
def Zur:FS:=
 (Zcb (fA Zib (Zc (Jm 3 1 (Zjf (Ya Xh (Zc (fV 0) (Zc (fV 1) (Zc (fV 2) Zt))))) (Zv 3) Zcr (fA Yw (Zc (fV 3) Zt))) Zt)))
def Ju(ds:List D):R D:=(run 3 Zur ds).calm
def Zmm:FS:=
  (Xu (Yq 3 (Ya Xh (Zc (fV 0) (Zc (fV 1) (Zc (fV 2) Zt)))))
    (Xu (Yq 4 (fA Zif (Zc (f2 Zag (fA Jp (Zc (fC (.int 0)) Zt)) (fA Zbp (Zc (fV 2) Zt))) Zt)))
    (Xu (sIf (cE (f2 Znb (fV 4) (fV 3))) (Zrw "Short" (Zc (fC (.str ("no plan fills the order":Str))) Zt)) sNx)
    (Zcb (f2 Zzg (fV 3) (fV 4))))))
def Zir(ds:List D):R D:=run 5 Zmm ds
def Zjs:FS:=
 (Zkv ["Short"] 3 (Zcb (f1 Jd (f2 gIx (Ya Zir (Zc (Jm 3 1 (Zai (fV 0)) (Zv 3) Zcr (fA Yw (Zc (fV 3) Zt))) (Zc (fA Yw (Zc (fV 1) Zt)) (Zc (fA Yw (Zc (fV 2) Zt)) Zt)))) (fC (.int 0))))) (Zcb (fC (.int 99))))
def Jk(ds:List D):R D:=(run 3 Zjs ds).calm
def Zzs:FS:=
  (Xu (Yq 3 (Ya Xh (Zc (fV 0) (Zc (fV 1) (Zc (fV 2) Zt)))))
    (Xu (Yq 4 (Jm 6 1 (Zai (fV 1)) (Zv 6) Zcr (f1 Jd (f2 gIx (fV 6) (fC (.int 2))))))
    (Xu (Yq 5 (f1 Jd (Ziy (fun m n=>decide (m<n)) (fA Zqr (Zc (fV 3) Zt)) [4] (Ya Yh (Zc (fV 0) (Zc (fV 1) Zt))))))
    (Zcb (fA Zfg (Zc (f2 Zia (Ya Yy (Zc (fV 2) (Zc (fV 4) Zt))) (Ya Yh (Zc (fV 5) (Zc (fV 4) Zt)))) (Zc (f1 Jd (f2 gIx (f2 Zzg (fV 3) (fV 5)) (fC (.int 1)))) Zt)))))))
def Zcq(ds:List D):R D:=(run 6 Zzs ds).calm
def Zid:FS:=
  (Xu (Yq 3 (Ya Ju (Zc (Jm 5 1 (Zai (fV 0)) (Zv 5) Zcr (fA Yw (Zc (fV 5) Zt))) (Zc (fA Yw (Zc (fV 1) Zt)) (Zc (fA Yw (Zc (fV 2) Zt)) Zt)))))
    (Xu (Yq 4 (f1 Jd (f2 gIx (Ya Zcq (Zc (Jm 5 1 (Zai (fV 0)) (Zv 5) Zcr (fA Yw (Zc (fV 5) Zt))) (Zc (fA Yw (Zc (fV 1) Zt)) (Zc (fA Yw (Zc (fV 2) Zt)) Zt)))) (fC (.int 0)))))
    (Zcb (fA Jp (Zc (fV 3) (Zc (fV 4) (Zc (Ya Jk (Zc (fV 0) (Zc (fV 1) (Zc (fV 2) Zt)))) Zt)))))))
def Xa(ds:List D):R D:=(run 5 Zid ds).calm
def Zgp:FS:=
 (sIf (cE (f2 Zqt (fV 9) (f2 gIx (fV 8) (fC (.int 0))))) (Zcb (fC (.bl ar))) sNx)
def q_law:FS:=
  (Xu (Xrf (Ya Zaa (Zc (fV 0) (Zc (fC (.int 0)) (Zc (fC (.int 4)) (Zc (fC (.int 16)) (Zc (fC (.int 4)) Zt)))))) (Zfc (Xx (Zv 1) (Xx (Zv 2) Zef))))
    (Xu (Yq 3 (Ya Xt (Zc (fV 0) (Zc (fC (.int 10)) (Zc (f2 Jn (f2 Zag (fA Jp (Zc (fC (.int 3)) Zt)) (fC (.int 8))) (fA Jp (Zc (fC (.int 4)) (Zc (fC (.int 81)) (Zc (fC (.int 4)) Zt))))) Zt)))))
    (Xu (Yq 4 (fSl gSl (fV 3) Zdd (Zbu (fA Zbp (Zc (fV 2) Zt)))))
    (Xu (sIf (cE (f2 gGt (fA Zbp (Zc (fV 4) Zt)) (fC (.int 3)))) (Xro 4 (fC (.int 3)) (fA Xfe (Zc (f2 gIx (fV 4) (fC (.int 3))) (Zc (fC (.int 1)) Zt)))) sNx)
    (Xu (Yq 5 (Ya Ju (Zc (Jm 10 1 (Zai (fV 1)) (Zv 10) Zcr (fA Yw (Zc (fV 10) Zt))) (Zc (fA Yw (Zc (fV 2) Zt)) (Zc (fA Yw (Zc (fV 4) Zt)) Zt)))))
    (Xu (sIf (cE (f2 gGt (f2 gIx (fV 3) (fC (.int 8))) (fC (.int 0)))) (Yq 4 (Jm 10 2 (Zhb (fV 4) (f2 gIx (fV 5) (f2 Zfb (f2 gIx (fV 3) (fC (.int 9))) (fA Zbp (Zc (fV 5) Zt))))) (Zfc (Xx (Zv 10) (Xx (Zv 11) Zef))) Zcr (f2 Zia (fV 10) (fV 11)))) sNx)
    (Xu (Yq 6 (Ya Xa (Zc (fV 1) (Zc (fV 2) (Zc (fV 4) Zt)))))
    (Xu (sIf (Xpn (cE (f2 gGt (f2 gIx (fV 3) (fC (.int 8))) (fC (.int 0)))) (cE (f2 gGt (f2 gIx (fV 6) (fC (.int 2))) (fA Zbp (Zc (fV 1) Zt))))) (Zcb (fC (.bl ar))) sNx)
    (Xu (sIf (cE (f2 gNe (Ya Xa (Zc (Jm 10 1 (Zai (fV 1)) (Zv 10) Zcr (Ya Zcs (Zc (fA Yw (Zc (fV 10) Zt)) Zt))) (Zc (fV 2) (Zc (fV 4) Zt)))) (fV 6))) (Zcb (fC (.bl ar))) sNx)
    (Xu (sIf (cE (f2 gNe (Ya Xa (Zc (f2 Xan (fV 1) (f1 Xru (fC (.int 1)))) (Zc (fV 2) (Zc (fV 4) Zt)))) (fV 6))) (Zcb (fC (.bl ar))) sNx)
    (Xu (sIf (cE (f2 gNe (Ya Xa (Zc (f2 Zgd (f2 Zgd (fSl Xdm (fV 1) Zdd (Zbu (fC (.int 2)))) (fA Jp (Zc (fA Jp Zt) Zt))) (fSl Xdm (fV 1) (Zbu (fC (.int 2))) Zdd)) (Zc (fV 2) (Zc (fV 4) Zt)))) (fV 6))) (Zcb (fC (.bl ar))) sNx)
    (Xu (sIf (cE (f2 gGt (fA Zbp (Zc (fV 1) Zt)) (fC (.int 0)))) (Xu (Yq 7 (f2 Zgd (fV 1) (fA Jp (Zc (f2 gIx (fV 1) (f2 Zfb (f2 gIx (fV 3) (fC (.int 10))) (fA Zbp (Zc (fV 1) Zt)))) Zt))))
    (Xu (Yq 8 (Ya Xa (Zc (fV 7) (Zc (fV 2) (Zc (fV 4) Zt)))))
    (Xu (sIf (cOr (cE (f2 gGt (f2 gIx (fV 8) (fC (.int 2))) (f2 gIx (fV 6) (fC (.int 2))))) (cE (f2 gLt (f2 gIx (fV 8) (fC (.int 1))) (f2 gIx (fV 6) (fC (.int 1)))))) (Zcb (fC (.bl ar))) sNx)
    (Zkz (Zai (f2 gIx (fV 6) (fC (.int 0)))) (Zv 9) Zgp)))) sNx)
    (Zcb (fC (.bl aq)))))))))))))))
def Xqa(ds:List D):R D:=(run 10 q_law ds).calm
def oD(os:List Nat):D:=iD (os.map fun x:Nat=>(x:Int))
def fps(ps:List (Int×Str)):D:=.flst (ps.map pD)
def WC(ns:List Int)(ks:List Kd)(e:Nat)(c:List Nat)(x:D):Prop:=∃ps,x=fps ps/\Ct ns ks e c ps
theorem Zhj{α:Type}{f:α->D}(h:∀x,flat (f x)=aq):∀l:List α,Zr (l.map f)=aq
 |[]=>rfl
 |x::l=>by rw[AZ];show(flat (f x)&&Zr _)=aq;rw[h x,Zhj h l];rfl
theorem Xsj(ps:List (Int×Str)):Zr (ps.map pD)=true:=Zhj (fun _=>rfl) ps
theorem Xcf{f:FS}(h:f ρ=.ok (.nx ρ')):Zpe f ρ=.ok (.nx ρ'):=by unfold Zpe;rw[h];rfl
variable{d':D}{ks:List (List (Int ⊕ Str))}
theorem Xiq{k e:FE}{z:D}(he:e ρ=.ok d)(hi:ρ[i]?=ak (ak (.dtt ks xs)))(hk:k ρ=.ok z)(hz:Ztc z=ak q)(hd:flat d=aq)(hx:Zr xs=aq)(hl:ks.length<lim)(hp:Xrp ks xs q d=d'):Zme i k e ρ=.ok (.nx (ρ.set i (ak d'))):=by unfold Zme;rw[he,Ys,hi];show(k ρ).bind _=_;rw[hk,Ys,hz,<- hp];exact aa ⟨hd,hx,hl⟩
variable{G:List D->R (D×D)}
theorem Xkq{args:FA}{d0:D}{ys:List D}(hi:ρ[i]?=ak (ak d0))(ha:args ρ=.ok ys)(h:G (d0::ys)=.ok (d,d')):Znf (Ziv i G args) ρ=.ok (.nx (ρ.set i (ak d'))):=by unfold Znf Ziv;rw[hi];show((args ρ).bind _).bind _=_;rw[ha];show((G (d0::ys)).bind _).bind _=_;rw[h];rfl
theorem Xqr(hi:ρ[i]?=ak (ak (.lst xs)))(hj:ρ[j]?=ak (ak (.dtt ks ds)))(h1:Zr ds=aq)(h2:Zr xs=aq)(hn:i≠j)(hl:xs.length<lim):Zji i j ρ=.ok (.nx ((ρ.set j ao).set i (ak (.lst (xs++[.fdt ks ds]))))):=by unfold Zji;rw[hi,hj];exact aa ⟨h1,h2,hn,hl⟩
theorem Zxh :Zfk (tyN c) (.dtt (cs.map kyN) xs)=ak (.bl (!decide (c∈cs))):=by show(Ztc (tyN c)).map _=_;rw[Zds];show ak (D.bl (!Xgd (cs.map kyN) (kyN c)))=_;rw[Xbp]
theorem Zet(hl:xs.length=cs.length)(h:c∈cs):∃x,(c,x)∈cs.zip xs:=by obtain⟨x,-,h⟩:=Zqm cs xs hl h;exact⟨x,h⟩
theorem Zxj{ks:List α}{l r:List (α×Nat)}{x:α×Nat}(e:ks.zipIdx=l++x::r):x.2=l.length/\ks[l.length]?=ak x.1:=by
 have h:(ks.zipIdx)[l.length]?=ak x:=by rw[e];simp
 rw[List.getElem?_zipIdx]at h;cases q:ks[l.length]? with
 |none=>rw[q]at h;cases h
 |some k =>rw[q]at h;cases h;exact⟨HP _,rfl⟩
theorem Xet{l r:List Nat}{x:Nat}(e:AX n=l++x::r):x=l.length/\l.length<n:=by
 have h:(AX n)[l.length]?=ak x:=by rw[e];simp
 obtain⟨h1,h2⟩:=Am.mp h;rw[JH]at h2;rw[EE]at h1;exact⟨h2.symm,h1⟩
theorem Xgm{x:D}(hl:xs.length=e+1)(h:xs[e]?=ak x):gIx (.lst xs) (.int (-1))=ak x:=by
 have hne:xs≠[]:=fun z=>by rw[z]at hl;cases hl
 have q:=GV hne;have g:xs.getLast hne=x:=by rw[List.getLast_eq_getElem];have:=(Am.mp h).2;rw[<- this];congr 1;omega
 rw[<- q,g];exact Xlz _ _
theorem r_mbZ{r:FM}{p:R (D×Env)}(h:s ρ=.ok (.nx ρ'))(h2:r ρ'=p):Zxr s r ρ=p:=by unfold Zxr;rw[h];exact h2
theorem Xyd{G:FM}{o:D}(h:G (ds.map ak++Ab (N-ds.length) ao)=.ok (d,ρ))(h0:ρ[0]?=ak (ak o)):(Xrx N G ds).calm=.ok (d,o):=by unfold Xrx;rw[h];show(match ρ[0]? with|some (ak d')=>R.ok (d,d')|_=>.bad).calm=_;rw[h0];rfl
variable{ks:List Kd}
theorem StS.le(h:StS ns ks os e i c):LeC c os:=by rcases h with h|⟨i',k,b,c',h1,h2,h3,h4,h5,h6,rfl⟩;exact h.1;exact h5.1.up h6
theorem StS.zero :StS ns ks os e 0 c↔KS ns ks os e c:=by constructor;rintro(h|⟨i',_,_,_,h,_⟩);exact h;exact af h (Fh _);exact .inl
theorem StS.same{k:Kd}(hk:ks[i]?=ak k)(h:good ns k ((e:Int)+1-k.w)=ar):StS ns ks os e i c↔StS ns ks os e (i+1) c:=by constructor;rintro(h|⟨i',k,b,c',h1,h2⟩);exact .inl h;exact .inr ⟨i',k,b,c',De h1,h2⟩;rintro(h|⟨i',k',b,c',h1,h2,h3,h4,h5⟩);exact .inl h;rcases HE.mp h1 with q|q;exact .inr ⟨i',k',b,c',q,h2,h3,h4,h5⟩;subst q;rw[hk]at h2;cases h2;rw[h3,h]at h4;cases h4
variable{b:Nat}
theorem StS.more{k:Kd}(hk:ks[i]?=ak k)(hb:(b:Int)=(e:Int)+1-k.w)(h:good ns k (b:Int)=aq):StS ns ks os e (i+1) c↔StS ns ks os e i c\/∃c',KS ns ks os b c'/\c'.getD i 0<os.getD i 0/\c=Zea c' i:=by
 constructor;rintro(h|⟨i',k',b',c',h1,h2,h3,h4,h5⟩);exact .inl (.inl h);rcases HE.mp h1 with q|q;exact .inl (.inr ⟨i',k',b',c',q,h2,h3,h4,h5⟩);subst q;rw[hk]at h2;cases h2;have:b'=b:=by omega
 subst this;exact .inr ⟨c',h5⟩;rintro((h|⟨i',k,b,c',h1,h2⟩)|⟨c',h1⟩);exact .inl h;exact .inr ⟨i',k,b,c',De h1,h2⟩;exact .inr ⟨i,k,b,c',E1 _,hk,hb,h,h1⟩
theorem Xin(h:KS ns ks os e c):c.length=ks.length:=h.2.elim fun _ g=>g.len
abbrev Xsa(cs:List (List Nat))(xs:List D)(ca:List (List Nat))(xa:List D)(i:Nat)(os:List Nat)(b:Nat)(k:Kd)(o5 o6 o7:Option D):Env:=[ak (.dtt (cs.map kyN) xs),ak (.fdt (ca.map kyN) xa),ak (.int (i:Int)),ak (.int (os.getD i 0:Nat)),ak (pD ((b:Int),k.name)),o5,o6,o7]
variable{ca cr:List (List Nat)}
theorem Zud(ho:Zbj os)(hlk:ks.length<=8)(hw:∀k∈ks,1<=k.w)(hn:ns.length<=1000){k:Kd}(he:e<=1000)(hk:ks[i]?=ak k)(hb:(b:Int)=(e:Int)+1-k.w)(hg:good ns k (b:Int)=aq){xa xr:List D}(ha:Dkt (KS ns ks os b) (WC ns ks b) ca xa)(hr:Dkt (StS ns ks os e i) (WC ns ks (e+1)) cr xr):∃cr' xr',Ye [.dtt (cr.map kyN) xr,.fdt (ca.map kyN) xa,.int (i:Int),.int (os.getD i 0:Nat),pD ((b:Int),k.name)]=.ok (.non,.dtt (cr'.map kyN) xr')/\Dkt (StS ns ks os e (i+1)) (WC ns ks (e+1)) cr' xr':=by
 have hi:=(Am.mp hk).1;have wk:=hw k (AO hk)
 let S':List (List Nat×D)->List Nat->Prop:=fun l c=>StS ns ks os e i c\/∃p∈l,p.1.getD i 0<os.getD i 0/\c=Zea p.1 i
 have sub:∀p∈ca.zip xa,KS ns ks os b p.1:=fun p hp=>(ha.ky _).mp (C2 hp).1;have sle:∀l,(∀p∈l,p∈ca.zip xa)->∀c,S' l c->LeC c os:=by rintro l hl c (h|⟨p,hp,h,rfl⟩);exact h.le;exact(sub p (hl p hp)).1.up h
 have loop:=Zfx (enc:=fun p:List Nat×D=>D.tup [tyN p.1,p.2]) (b:=Zfc (Xx (Zv 5) (Xx (Zv 6) Zef))) (s:=Zpe Zac) (xs:=ca.zip xa) (ρ:=(Xsa cr xr ca xa i os b k ao ao ao))
  (P:=fun l ρ=>∃(cs:List (List Nat)) (xs:List D) (o5 o6 o7:Option D),ρ=(Xsa cs xs ca xa i os b k o5 o6 o7)/\Dkt (S' l) (WC ns ks (e+1)) cs xs)
  ⟨cr,xr,ao,ao,ao,rfl,hr.imp (fun c=>⟨.inl,fun h=>h.elim id fun⟨_,z,_⟩=>nomatch z⟩) fun _ _ _ h=>h⟩ ?_
 obtain⟨ρ',⟨cs,xs,o5,o6,o7,rfl,hd⟩,t⟩:=loop;refine⟨cs,xs,Xyd (r_mbZ (Zgh (Zox rfl (ha.few ho fun c h=>h.1)) t) rfl) rfl,hd.imp (fun c=>?_) fun _ _ _ h=>h⟩;rw[StS.more hk hb hg];constructor;rintro(h|⟨p,hp,h⟩);exact .inl h;exact .inr ⟨p.1,sub p hp,h⟩;rintro(h|⟨c',h1,h⟩);exact .inl h;obtain⟨x,hx⟩:=Zet ha.ln ((ha.ky c').mpr h1);exact .inr ⟨(c',x),hx,h⟩;rintro l ⟨c,x⟩ r ρ e1 ⟨cs,xs,o5,o6,o7,rfl,hd⟩;have hx:(c,x)∈ca.zip xa:=by rw[e1];simp
 have hl:∀p∈l,p∈ca.zip xa:=fun p hp=>by rw[e1];exact Aq _ hp
 have kc:KS ns ks os b c:=sub _ hx;have hil:i<c.length:=by rw[Xin kc];exact hi
 obtain⟨ps,rfl,hct⟩:WC ns ks b c x:=ha.vl _ hx;have up1:=r_up (e:=fV 5) (i:=fV 2) (ρ:=(Xsa cs xs ca xa i os b k (ak (tyN c)) (ak (fps ps)) o7)) (c:=c) (j:=i) rfl rfl hil (by rw[Xin kc];omega);have snoc:∀c',S' (l++[(c,fps ps)]) c'↔S' l c'\/(c.getD i 0<os.getD i 0/\c'=Zea c i):=fun c'=>by constructor;rintro(h|⟨p,hp,h⟩);exact .inl (.inl h);rcases Al.mp hp with q|q;exact .inl (.inr ⟨p,q,h⟩);rw[Ap.mp q]at h;exact .inr h;rintro((h|⟨p,hp,h⟩)|h);exact .inl h;exact .inr ⟨p,Aq _ hp,h⟩;exact .inr ⟨_,Ah _ (.head _),h⟩
 by_cases q:c.getD i 0<os.getD i 0;by_cases m:Zea c i∈cs;refine⟨(Xsa cs xs ca xa i os b k (ak (tyN c)) (ak (fps ps)) (ak (tyN (Zea c i)))),.inl ?_,⟨cs,xs,_,_,_,rfl,hd.imp (fun c'=>?_) fun _ _ _ h=>h⟩⟩;exact Xcf (Zbz (Jq (Zn (Zn rfl rfl (Xfz hil)) rfl (Xiu (Dt.mpr q)))) (Zq (Xi up1) (Jc (Jq (Zn rfl rfl (Zxh.trans (by rw[aj m];rfl)))) rfl)));rw[snoc c'];refine⟨.inl,fun h=>h.elim id fun h=>?_⟩;rw[h.2];exact(hd.ky _).mp m;have fl:flat (fps (ps++[((b:Int),k.name)]))=true:=rfl;have wv:WC ns ks (e+1) (Zea c i) (fps (ps++[((b:Int),k.name)])):=by have:=Ct.cut hct hk hg;rw[show b+k.w.toNat=e+1 by omega]at this;exact⟨_,rfl,this⟩
 obtain⟨cs',xs',e2,hd'⟩:=hd.put (S':=S' (l++[(c,fps ps)])) (W':=WC ns ks (e+1)) (k:=Zea c i) fl (fun c'=>by rw[snoc c'];exact⟨fun h=>h.imp id fun h=>h.2,fun h=>h.imp id fun h=>⟨q,h⟩⟩) (fun _ _ _ _ h=>h) wv;refine⟨[ak (.dtt (cs'.map kyN) xs'),ak (.fdt (ca.map kyN) xa),ak (.int (i:Int)),ak (.int (os.getD i 0:Nat)),ak (pD ((b:Int),k.name)),ak (tyN c),ak (fps ps),ak (tyN (Zea c i))],.inl ?_,⟨cs',xs',_,_,_,rfl,hd'⟩⟩;have lp:ps.length<=b:=hct.few hw;have ad:Zuw (fps ps) (.lst [pD ((b:Int),k.name)])=ak (.lst ((ps++[((b:Int),k.name)]).map pD)):=by refine(aa ⟨?_,rfl⟩).trans (by rw[A5];rfl);rw[Ai];show _+1<=1000000;omega
 have fz:Xjz (.lst ((ps++[((b:Int),k.name)]).map pD))=ak (fps (ps++[((b:Int),k.name)])):=aa (Xsj _);have nl:=hd.few ho (sle l hl);exact Xcf (Zbz (Jq (Zn (Zn rfl rfl (Xfz hil)) rfl (Xiu (Dt.mpr q)))) (Zq (Xi up1) (Zbz (Jq (Zn rfl rfl (Zxh.trans (by rw[ai m];rfl)))) (Xiq (Zej (Zn rfl (Jj (Zd rfl rfl) rfl) ad) fz) rfl rfl (Zds _) fl hd.fl (by rw[Ai];exact Ew nl (by decide)) e2))));refine⟨(Xsa cs xs ca xa i os b k (ak (tyN c)) (ak (fps ps)) o7),.inl ?_,⟨cs,xs,_,_,_,rfl,hd.imp (fun c'=>?_) fun _ _ _ h=>h⟩⟩;exact Xcf (Jc (Jq (Zn (Zn rfl rfl (Xfz hil)) rfl (Ztg fun z=>q (Dt.mp z)))) rfl);rw[snoc c'];exact⟨.inl,fun h=>h.elim id fun h=>af h.1 q⟩
structure Rws(ns:List Int)(ks:List Kd)(os:List Nat)(W:Nat->List Nat->D->Prop)(e:Nat)(Rs:List D):Prop where
 ln:Rs.length=e+1
 fl:Zr Rs=aq
 rw_:∀j,j<=e->∃cs xs,Rs[j]?=ak (.fdt (cs.map kyN) xs)/\Dkt (KS ns ks os j) (W j) cs xs
variable{Rs:List D}
theorem Rws.snoc{W:Nat->List Nat->D->Prop}(h:Rws ns ks os W e Rs)(hd:Dkt (KS ns ks os (e+1)) (W (e+1)) cs xs):Rws ns ks os W (e+1) (Rs++[.fdt (cs.map kyN) xs]):=by
 refine⟨by rw[Av,h.ln];rfl,Zkd rfl _ h.fl,fun j hj=>?_⟩;rcases Nat.lt_or_ge e j with q|q;have:j=e+1:=by omega
 subst this;exact⟨cs,xs,by rw[<- h.ln,List.getElem?_concat_length],hd⟩;obtain⟨cs',xs',h1,h2⟩:=h.rw_ j q;exact⟨cs',xs',by rw[AM (by rw[h.ln];omega)];exact h1,h2⟩
theorem le_zero(ho:os.length=ks.length):LeC (Ab ks.length 0) os:=⟨by rw[BN,ho],fun i=>by rw[AA,DH];split<;>exact Dp _⟩
theorem KS.nothing(ho:os.length=ks.length)(e:Nat):KS ns ks os e (Ab ks.length 0):=⟨le_zero ho,[],Ct.none ns ks e⟩
theorem KS.zero(ho:os.length=ks.length)(hw:∀k∈ks,1<=k.w)(c:List Nat):KS ns ks os 0 c↔c=Ab ks.length 0:=by
 constructor;rintro⟨-,ps,h⟩;generalize hE:0=E at h;cases h with
 |zero=>rfl
 |skip _=>cases hE
 |cut h hk hg =>have:=hw _ (AO hk);omega
 rintro rfl;exact KS.nothing ho 0
theorem Zls:∀n:Nat,(Ab n [(0:Int)]).flatten=(Ab n 0).map fun x:Nat=>(x:Int)
 |0=>rfl
 |n+1=>by rw[Bn,B7,Zls n,Bn];rfl
theorem Zxp{e:FE}(h:e ρ=.ok (.int (n:Int)))(hn:n<=200):fA Zif (Zc (f2 Zag (fA Jp (Zc (fC (.int 0)) Zt)) e) Zt) ρ=.ok (tyN (Ab n 0)):=by
 have m:Zag (.lst ([0].map D.int)) (.int (n:Int))=ak (iD ((Ab n 0).map fun x:Nat=>(x:Int))):=by rw[Zki (by omega) (by omega) (by decide),CJ,Zls]
 refine Jj (Zd (Zn (Jj (Zd rfl rfl) rfl) h m) rfl) ?_;unfold iD;rw[AV];exact aa (Ym (Ab n 0))
variable{b:FE}
theorem Xja(ha:a ρ=.ok (tyN c))(hb:b ρ=.ok v)(hv:flat v=aq):f1 Xva (Zix a b) ρ=.ok (.fdt ([c].map kyN) [v]):=by refine Zej (x:=.dtt [kyN c] [v]) ?_ (aa (by simp[Zr,hv]));unfold Zix;rw[ha,Ys,hb,Ys,Zds];exact aa hv
theorem Xko(os:List Nat):Zbp [oD os]=ak (.int (os.length:Int)):=by show ak (D.int (((os.map fun x:Nat=>(x:Int)).map D.int).length:Nat))=_;rw[Ai,Ai]
theorem o_ix(h:i<os.length):gIx (oD os) (.int (i:Int))=ak (.int ((os.getD i 0:Nat):Int)):=Xrs (k:=i) rfl (by rw[AS,AS,AA,Ag h];rfl)
theorem Xjr{W:Nat->List Nat->D->Prop}(h:Rws ns ks os W e Rs):∃cs xs,gIx (.lst Rs) (.int (-1))=ak (.fdt (cs.map kyN) xs)/\Dkt (KS ns ks os e) (W e) cs xs:=by obtain⟨cs,xs,h1,h2⟩:=h.rw_ e (As _);exact⟨cs,xs,Xgm h.ln h1,h2⟩
theorem WC.skip{e:Nat}{c:List Nat}{x:D}(h:WC ns ks e c x):WC ns ks (e+1) c x:=h.imp fun _ h=>⟨h.1,.skip h.2⟩
abbrev Xrm(ns:List Int)(ks:List Kd)(os:List Nat)(Rs:List D)(e:Nat)(o5 o6 o7 o8:Option D):Env:=[ak (iD ns),ak (tD ks),ak (oD os),ak (.lst Rs),ak (.int (1+(e:Int))),o5,o6,o7,o8]
theorem Zzv(ho:Zbj os)(hol:os.length=ks.length)(hlk:ks.length<=8)(hw:∀k∈ks,1<=k.w)(hn:ns.length<=1000)(he:e<ns.length)(hR:Rws ns ks os (WC ns ks) e Rs)(o5 o6 o7 o8:Option D):∃cs xs p6 p7 p8,Zdm (Xrm ns ks os Rs e o5 o6 o7 o8)=.ok (.nx (Xrm ns ks os ((Rs++[.fdt (cs.map kyN) xs])) e ao p6 p7 p8))/\Dkt (KS ns ks os (e+1)) (WC ns ks (e+1)) cs xs:=by
 obtain⟨c0,x0,hl0,hd0⟩:=Xjr hR;have loop:=Zfx (enc:=fun x:Kd×Nat=>D.tup [.int (x.2:Int),kD x.1]) (b:=Zfc (Xx (Zv 6) (Xx (Zv 7) Zef))) (s:=Zik) (xs:=ks.zipIdx) (ρ:=(Xrm ns ks os Rs e (ak (.dtt (c0.map kyN) x0)) o6 o7 o8))
  (P:=fun l ρ=>∃(cs:List (List Nat)) (xs:List D) (o6 o7 o8:Option D),ρ=(Xrm ns ks os Rs e (ak (.dtt (cs.map kyN) xs)) o6 o7 o8)/\Dkt (StS ns ks os e l.length) (WC ns ks (e+1)) cs xs)
  ⟨c0,x0,o6,o7,o8,rfl,hd0.imp (fun c=>StS.zero.symm) fun _ _ _ h=>h.skip⟩ ?_
 obtain⟨ρ',⟨cs,xs,p6,p7,p8,rfl,hd⟩,t⟩:=loop;have hd:Dkt (KS ns ks os (e+1)) (WC ns ks (e+1)) cs xs:=hd.imp (fun c=>by rw[List.length_zipIdx];exact StS.all hw) fun _ _ _ h=>h;refine⟨cs,xs,p6,p7,p8,Zq (Xi (Jj (Zd (Zn rfl rfl hl0) rfl) (hd0.dict ho (fun c h=>h.1) (KS.nothing hol e)))) (Zq (Zgh (xs:=ks.zipIdx.map fun x:Kd×Nat=>D.tup [.int (x.2:Int),kD x.1]) ?_ t) ?_),hd⟩;show(if (ks.map kD).length<=lim then R.ok (Zln (ks.map kD)) else .bad)=_;rw[aa (by rw[Ai];exact AD hlk (by decide)),Zyy];exact Xqr rfl rfl hd.fl hR.fl (by decide) (by rw[hR.ln];show _<1000000;omega);rintro l ⟨k,i⟩ r ρ e1 ⟨cs,xs,p6,p7,p8,rfl,hd⟩;obtain⟨rfl,hk⟩:=Zxj e1;have hi:=(Am.mp hk).1;have wk:=hw k (AO hk);have set8:∀z:Int,z=1+(e:Int)-k.w->Yq 8 (f2 Zia (fV 4) (f2 gIx (fV 7) (fC (.int 1)))) (Xrm ns ks os Rs e (ak (.dtt (cs.map kyN) xs)) (ak (.int (l.length:Int))) (ak (kD k)) p8)=.ok (.nx (Xrm ns ks os Rs e (ak (.dtt (cs.map kyN) xs)) (ak (.int (l.length:Int))) (ak (kD k)) (ak (.int z)))):=fun z hz=>by rw[hz];exact Xi (Zn rfl (Zn rfl rfl (kD_1 k)) rfl)
 cases g:good ns k (1+(e:Int)-k.w) with
 |false =>refine⟨_,.inl (Zq (set8 _ rfl) (Jc (Jq (Xm (Zd rfl (Zd rfl (Zd rfl rfl))) ((Zwg ns k _ wk).trans (by rw[g])))) rfl)),⟨cs,xs,_,_,_,rfl,hd.imp (fun c=>?_) fun _ _ _ h=>h⟩⟩;rw[Av];exact StS.same hk (by rw[show(e:Int)+1-k.w=1+(e:Int)-k.w by omega];exact g)
 |true =>obtain⟨b,hb⟩:∃b:Nat,1+(e:Int)-k.w=(b:Int):=⟨(1+(e:Int)-k.w).toNat,(Cj (of_decide_eq_true g).1).symm⟩;rw[hb]at g;obtain⟨ca,xa,hra,hda⟩:=hR.rw_ b (by omega);obtain⟨cr,xr,hF,hd'⟩:=Zud ho hlk hw hn (e:=e) (i:=l.length) (b:=b) (k:=k) (by omega) hk (by omega) g hda hd;refine⟨_,.inl (Zq (set8 _ hb.symm) (Zbz (Jq (Xm (Zd rfl (Zd rfl (Zd rfl rfl))) ((Zwg ns k _ wk).trans (by rw[g])))) (Xkq rfl (Zd (Zn rfl rfl (Xrs (k:=b) rfl hra)) (Zd rfl (Zd (Zn rfl rfl (o_ix (by rw[hol];exact hi))) (Zd (Jj (Zd rfl (Zd (Zn rfl rfl (kD_0 k)) rfl)) rfl) rfl)))) hF))),⟨cr,xr,_,_,_,rfl,?_⟩⟩;rw[Av];exact hd'
theorem Xoi(ho:Zbj os)(hol:os.length=ks.length)(hlk:ks.length<=8)(hw:∀k∈ks,1<=k.w)(hn:ns.length<=1000):∃cs xs,Zci [iD ns,tD ks,oD os]=.ok (.fdt (cs.map kyN) xs)/\Dkt (KS ns ks os ns.length) (WC ns ks ns.length) cs xs:=by
  have loop:=Zfx (enc:=fun k:Nat=>D.int (1+(k:Int))) (b:=Zv 4) (s:=Zdm) (xs:=AX ns.length) (ρ:=[ak (iD ns),ak (tD ks),ak (oD os),ak (.lst [.fdt ([Ab ks.length 0].map kyN) [fps []]]),ao,ao,ao,ao,ao])
    (P:=fun l ρ=>∃(Rs:List D) (o4 o5 o6 o7 o8:Option D),ρ=[ak (iD ns),ak (tD ks),ak (oD os),ak (.lst Rs),o4,o5,o6,o7,o8]/\Rws ns ks os (WC ns ks) l.length Rs)
    ⟨_,_,_,_,_,_,rfl,rfl,rfl,fun j hj=>⟨[Ab ks.length 0],[fps []],by
      cases L3.mp hj;rfl,by
      cases L3.mp hj;exact Dkt.one (KS.zero hol hw) rfl ⟨[],rfl,.zero⟩⟩⟩ ?_
  obtain⟨ρ',⟨Rs,o4,o5,o6,o7,o8,rfl,hR⟩,t⟩:=loop;rw[EE]at hR;obtain⟨cs,xs,hl,hd⟩:=Xjr hR;have z0:fA Zif (Zc (f2 Zag (fA Jp (Zc (fC (.int 0)) Zt)) (fA Zbp (Zc (fV 2) Zt))) Zt) [ak (iD ns),ak (tD ks),ak (oD os),ao,ao,ao,ao,ao,ao]=.ok (tyN (Ab ks.length 0)):=Zxp (Jj (Zd rfl rfl) (by rw[<- hol];exact Xko os)) (by omega);have rg:Zmc [.int 1,.int ((ns.length:Int)+1)]=.ok (Zgt 1 ns.length):=Zzn (by omega) (by omega) (by omega) (by omega) (by omega) (by omega);refine⟨cs,xs,Zaq (Zq (Xi (Jj (Zd (Xja z0 (Zej rfl rfl) rfl) rfl) rfl)) (Zq (Zgh (Xug (Zd rfl (Zd (Zn (Zsg rfl) rfl rfl) rfl)) rg) t) (Zat (Zej (Zn rfl rfl hl) rfl)))),hd⟩;rintro l x r ρ e1 ⟨Rs,o4,o5,o6,o7,o8,rfl,hR⟩;obtain⟨rfl,hlt⟩:=Xet e1;obtain⟨cs,xs,p6,p7,p8,t,hd⟩:=Zzv ho hol hlk hw hn hlt hR o5 o6 o7 o8;refine⟨_,.inl t,⟨_,_,_,_,_,_,rfl,?_⟩⟩;rw[Av];exact hR.snoc hd
def vP(u:Nat)(pl:List (List (Int×Str))):D:=.tup [.int (u:Int),.flst (pl.map fps)]
def RS(ks:List Kd)(os:List Nat)(rs:List (List Int))(l:List Nat):Prop:=∃u pl,Pln ks os rs l u pl
def WP(ks:List Kd)(os:List Nat)(rs:List (List Int))(l:List Nat)(x:D):Prop:=∃u pl,x=vP u pl/\Pln ks os rs l u pl/\∀u' pl',Pln ks os rs l u' pl'->u<=u'
def nzP(ps:List (Int×Str)):Nat:=if ps=[] then 0 else 1
theorem Zsx{u':Nat}(h:vP u pl=vP u' pl'):u=u':=by exact HG.mp (D.int.inj (JQ (D.tup.inj h)).1)
theorem Zwa(h:fps ps=fps ps'):nzP ps=nzP ps':=by have:=ah D8 (D.flst.inj h);rw[Ai,Ai]at this;unfold nzP;cases ps<;>cases ps'<;>first|rfl|cases this
def rIv(l c:List Nat):List Int:=(l.zip c).map fun p=>(p.1:Int)-(p.2:Int)
theorem Zwu:∀{l c:List Nat},LeC c l->(rIv l c).map D.int=(sbC l c).map fun x:Nat=>D.int (x:Int)
 |[],[],_=>rfl
 |x::l,y::c,h=>by obtain⟨h1,h2⟩:=LeC.cons.mp h;show D.int ((x:Int)-(y:Int))::(rIv l c).map D.int=D.int ((x-y:Nat):Int)::(sbC l c).map _;rw[Zwu h2,Int.ofNat_sub h1]
 |[],_::_,h=>nomatch h.1
 |_::_,[],h=>nomatch h.1
theorem Xcb:∀{l c:List Nat},c.length=l.length->(LeC c l↔∀x∈rIv l c,0<=x)
 |[],[],_=>⟨fun _ _ z=>(nomatch z),fun _=>LeC.refl _⟩
 |x::l,y::c,h=>by rw[LeC.cons,Xcb (l:=l) (c:=c) (BX h)];show _↔∀z∈((x:Int)-(y:Int))::rIv l c,0<=z;rw[AK];exact and_congr_left fun _=>by omega
 |[],_::_,h=>nomatch h
 |_::_,[],h=>nomatch h
theorem Zyg(l:List Int):∀a:Int,0<=l.foldl min a↔0<=a/\∀x∈l,0<=x:=by
 induction l with
 |nil=>exact fun a=>⟨fun h=>⟨h,fun _ z=>nomatch z⟩,fun h=>h.1⟩
 |cons x l ih =>intro a;rw[Ec,ih,AK,Kn];exact and_assoc
theorem Xdk{l:List Int}(h:l≠[]):0<=Xkd l↔∀x∈l,0<=x:=by
 cases l with
 |nil=>exact af rfl h
 |cons x l=>rw[AK];exact Zyg l x
theorem Xhn(l:List Int):0<=(if l=[] then 0 else Xkd l)↔∀x∈l,0<=x:=by split;rename_i h;rw[h];exact⟨fun _ _ z=>(nomatch z),fun _=>EL _⟩;rename_i h;exact Xdk h
theorem Zlc:∀c:List Int,intsOf (c.map D.int)=ak c
 |[]=>rfl
 |i::c=>by show(intsOf (c.map D.int)).map (i::·)=_;rw[Zlc c];rfl
theorem Xmn:∀c:List Int,Zr (c.map D.int)=true:=Zhj fun _=>rfl
theorem Xxb{l:List Nat}(ha:a ρ=.ok (tyN l))(hb:b ρ=.ok (tyN c))(hl:l.length<=1000):Zth a b ρ=.ok ((l.zip c).map fun p=>.tup [.int (p.1:Int),.int (p.2:Int)]):=by unfold Zth;rw[ha,Ys,hb,Ys];refine(aa ⟨by rw[Ai];exact AD hl (by decide),Ym l,Ym c⟩).trans (ah R.ok ?_);rw[Gb,IA,Gh]
theorem Xts{l:List Nat}(hn:ρ.length=n)(ha:a ρ=.ok (tyN l))(hb:b ρ=.ok (tyN c))(hl:l.length<=1000):fA Zif (Zc (Jm n 2 (Zth a b) (Zfc (Xx (Zv n) (Xx (Zv (n+1)) Zef))) Zcr (f2 Zia (fV n) (fV (n+1)))) Zt) ρ=.ok (.tup ((rIv l c).map D.int)):=by refine Jj (Zd (Zei hn (Xxb ha hb hl) (Zyj (f:=fun p:Nat×Nat=>D.int (p.1:Int)) (g:=fun p:Nat×Nat=>D.int (p.2:Int)) (v:=fun p=>D.int ((p.1:Int)-(p.2:Int))) hn fun p _=>?_)) rfl) ?_;refine Zn (x:=.int (p.1:Int)) (y:=.int (p.2:Int)) ?_ ?_ rfl;subst hn;unfold fV;rw[Bs (As _),Fn];rfl;subst hn;unfold fV;rw[Bs (G3 _),show ρ.length+1-ρ.length=1 by omega];rfl;unfold rIv;rw[AV];exact aa (Zhj (fun _=>rfl) _)
theorem Xvg{l:List Int}{i:Int}(ha:a ρ=.ok (.tup (l.map D.int)))(hb:b ρ=.ok (.int i)):Zqb a b ρ=.ok (.int (if l=[] then i else Xkd l)):=by unfold Zqb;rw[ha];simp only[Ys];rw[Zlc];simp only[];rw[hb];rfl
theorem Xtu{c:FT}{t:Bool}{x y:D}(hc:c ρ=.ok t)(ha:t=aq->a ρ=.ok x)(hb:t=ar->b ρ=.ok y):fIf c a b ρ=.ok (if t=aq then x else y):=by rw[Xtl,hc,Ys];cases t;exact hb rfl;exact ha rfl
theorem Xvm(ha:a ρ=.ok (.flst xs)):Zvi a ρ=.ok (!xs.isEmpty):=by unfold Zvi;rw[ha];rfl
theorem Xky{ks:List (List (Int ⊕ Str))}(h:ρ[i]?=ak (ak (.dtt ks ds)))(hf:Zr ds=aq):Zja i ρ=.ok (.ret (.fdt ks ds)):=by unfold Zja;rw[h];exact aa hf
theorem Xuv{a b:FS}(h:a ρ=.ok (.cnt ρ')):Xu a b ρ=.ok (.cnt ρ'):=by rw[Zlj,h];rfl
theorem Xjl{p q:List Nat×D}:∀{cs:List (List Nat)} {xs:List D},cs.Nodup->p∈cs.zip xs->q∈cs.zip xs->p.1=q.1->p.2=q.2
 |[],_,_,h,_,_=>nomatch h
 |_::_,[],_,h,_,_=>nomatch h
 |c::cs,x::xs,nd,h1,h2,e=>by have hn:=AB.mp nd;rw[Cp]at h1 h2;rcases Aj.mp h1 with q1|q1;rcases Aj.mp h2 with q2|q2;rw[q1,q2];exact af (C2 q2).1 (by rw[<- e,q1];exact hn.1);rcases Aj.mp h2 with q2|q2;exact af (C2 q1).1 (by rw[e,q2];exact hn.1);exact Xjl hn.2 q1 q2 e
abbrev Kv:=List Nat×D
def PrX(Pr:Kv->Kv->Prop)(p0 q0 p q:Kv):Prop:=Pr p q\/(p=p0/\q=q0)
def SM(Pr:Kv->Kv->Prop)(c:List Nat):Prop:=∃p q,Pr p q/\LeC q.1 p.1/\c=sbC p.1 q.1
def WM(ks:List Kd)(os:List Nat)(rs:List (List Int))(Pr:Kv->Kv->Prop)(c:List Nat)(x:D):Prop:=∃u pl,x=vP u pl/\Pln ks os rs c u pl/\∀p q,Pr p q->LeC q.1 p.1->c=sbC p.1 q.1->∀u0 pl0 ps0,p.2=vP u0 pl0->q.2=fps ps0->u<=u0+nzP ps0
abbrev Ztv(d0 d1:Option D)(cs:List (List Nat))(xs:List D)(l:List Nat)(u:Nat)(pl:List (List (Int×Str)))(c:List Nat)(ps:List (Int×Str))(o7 o8:Option D):Env:=[d0,d1,ak (.dtt (cs.map kyN) xs),ak (tyN l),ak (vP u pl),ak (tyN c),ak (fps ps),o7,o8]
def WrT(ks:List Kd)(os:List Nat)(rs:List (List Int))(r:List Int)(Pr:Kv->Kv->Prop)(d0 d1:Option D)(cs:List (List Nat))(xs:List D)(l:List Nat)(u:Nat)(pl:List (List (Int×Str)))(c:List Nat)(ps:List (Int×Str))(o7 o8:Option D):Prop:=∃cs' xs' p7 p8,(Zaf (Ztv d0 d1 cs xs l u pl c ps o7 o8)=.ok (.nx (Ztv d0 d1 cs' xs' l u pl c ps p7 p8))\/Zaf (Ztv d0 d1 cs xs l u pl c ps o7 o8)=.ok (.cnt (Ztv d0 d1 cs' xs' l u pl c ps p7 p8)))/\Dkt (SM (PrX Pr (l,vP u pl) (c,fps ps))) (WM ks os (rs++[r]) (PrX Pr (l,vP u pl) (c,fps ps))) cs' xs'
variable{r:List Int}
theorem Xqj(ho:Zbj os)(hol:os.length=ks.length)(hlk:ks.length<=8)(hr:rs.length<=1000){Pr:Kv->Kv->Prop}{l:List Nat}(hp:Pln ks os rs l u pl)(hc:Ct r ks r.length c ps)(hd:Dkt (SM Pr) (WM ks os (rs++[r]) Pr) cs xs)(d0 d1 o7 o8:Option D):WrT ks os rs r Pr d0 d1 cs xs l u pl c ps o7 o8:=by
  have ll:l.length=ks.length:=hp.le.1.trans hol;have lc:c.length=l.length:=hc.len.trans ll.symm;have s7:Yq 7 (fA Zif (Zc (Jm 9 2 (Zth (fV 3) (fV 5)) (Zfc (Xx (Zv 9) (Xx (Zv 10) Zef))) Zcr (f2 Zia (fV 9) (fV 10))) Zt)) (Ztv d0 d1 cs xs l u pl c ps o7 o8)=.ok (.nx (Ztv d0 d1 cs xs l u pl c ps (ak (.tup ((rIv l c).map D.int))) o8)):=Xi (Xts (n:=9) rfl rfl rfl (by omega));have mn:∀z:Option D,f2 gLt (Zqb (fV 7) (fC (.int 0))) (fC (.int 0)) (Ztv d0 d1 cs xs l u pl c ps (ak (.tup ((rIv l c).map D.int))) z)=.ok (.bl (decide ((if rIv l c=[] then 0 else Xkd (rIv l c))<0))):=fun z=>Zn (Xvg rfl rfl) rfl rfl;have le_iff:=(Xcb lc).trans (Xhn (rIv l c)).symm;by_cases le:LeC c l
  · have ge:=le_iff.mp le;have t1:sIf (cE (f2 gLt (Zqb (fV 7) (fC (.int 0))) (fC (.int 0)))) sCnt sNx (Ztv d0 d1 cs xs l u pl c ps (ak (.tup ((rIv l c).map D.int))) o8)=.ok (.nx (Ztv d0 d1 cs xs l u pl c ps (ak (.tup ((rIv l c).map D.int))) o8)):=Jc (Jq ((mn o8).trans (by rw[ai (by omega)]))) rfl;have er:D.tup ((rIv l c).map D.int)=tyN (sbC l c):=ah D.tup (Zwu le);rw[er]at s7 t1;have tr:(!(ps.map pD).isEmpty)=!ps.isEmpty:=by cases ps<;>rfl
    have us:∀z:Option D,fIf (Zvi (fV 6)) (f2 Jn (f2 gIx (fV 4) (fC (.int 0))) (fC (.int 1))) (f1 Jd (f2 gIx (fV 4) (fC (.int 0)))) (Ztv d0 d1 cs xs l u pl c ps (ak (tyN (sbC l c))) z)=.ok (.int ((u+nzP ps:Nat):Int)):=fun z=>by
      have e0:D.int ((u+nzP ps:Nat):Int)=if (!ps.isEmpty)=aq then .int ((u:Int)+1) else .int (u:Int):=by cases ps<;>rfl
      rw[e0];exact Xtu ((Xvm rfl).trans (by rw[tr])) (fun _=>Zn (Zn rfl rfl rfl) rfl rfl) (fun _=>Zej (Zn rfl rfl rfl) rfl)
    have s8:=Xi (i:=8) (us o8);have pn:Pln ks os (rs++[r]) (sbC l c) (u+nzP ps) (pl++[ps]):=hp.snoc hc le;have fv:flat (vP (u+nzP ps) (pl++[ps]))=true:=rfl;have nl:=hd.few ho (fun c' ⟨p,q,h1,h2,h3⟩=>by
      obtain ⟨x,-,u',pl',-,h,-⟩:=hd.at ⟨p,q,h1,h2,h3⟩;exact h.le)
    have tv:fA Zfg (Zc (fV 8) (Zc (f1 Xjz (f2 Zuw (f2 gIx (fV 4) (fC (.int 1))) (fA Jp (Zc (fV 6) Zt)))) Zt)) (Ztv d0 d1 cs xs l u pl c ps (ak (tyN (sbC l c))) (ak (.int ((u+nzP ps:Nat):Int))))=.ok (vP (u+nzP ps) (pl++[ps])):=by
      have ad:Zuw (.flst (pl.map fps)) (.lst [fps ps])=ak (.lst ((pl++[ps]).map fps)):=by refine(aa ⟨?_,rfl⟩).trans (by rw[A5];rfl);rw[Ai,hp.plen];show _+1<=1000000;omega
      exact Jj (Zd rfl (Zd (Zej (Zn (Zn rfl rfl rfl) (Jj (Zd rfl rfl) rfl) ad) (aa (Zhj (fun _=>rfl) _))) rfl)) rfl
    have putting:cOr (cE (f2 Zfk (fV 7) (fV 2))) (cE (f2 gLt (fV 8) (f2 gIx (f2 Xri (fV 2) (fV 7)) (fC (.int 0))))) (Ztv d0 d1 cs xs l u pl c ps (ak (tyN (sbC l c))) (ak (.int ((u+nzP ps:Nat):Int))))=.ok aq->(∀u1 pl1,sbC l c∈cs->tAt (cs.map kyN) xs (kyN (sbC l c))=ak (vP u1 pl1)->u+nzP ps<=u1)->WrT ks os rs r Pr d0 d1 cs xs l u pl c ps o7 o8:=fun tc low=>by
      obtain ⟨cs',xs',e2,hd'⟩:=hd.put (S':=SM (PrX Pr (l,vP u pl) (c,fps ps))) (W':=WM ks os (rs++[r]) (PrX Pr (l,vP u pl) (c,fps ps))) (k:=sbC l c) fv (fun c'=>by
          constructor;rintro⟨p,q,h1|⟨rfl,rfl⟩,h2,h3⟩;exact .inl ⟨p,q,h1,h2,h3⟩;exact .inr h3
          · rintro(⟨p,q,h1,h2,h3⟩|h);exact⟨p,q,.inl h1,h2,h3⟩
            · exact ⟨_,_,.inr ⟨rfl,rfl⟩,le,h⟩) (fun c' x _ hne ⟨u1,pl1,h1,h2,h3⟩=>⟨u1,pl1,h1,h2,fun p q hpq h4 h5=>by
          rcases hpq with h|⟨rfl,rfl⟩;exact h3 p q h h4 h5
          · exact af h5 hne⟩) ⟨_,_,rfl,pn,fun p q hpq h4 h5 u0 pl0 ps0 e3 e4=>by
          rcases hpq with h|⟨rfl,rfl⟩;obtain⟨x,hx,u1,pl1,rfl,h1,h2⟩:=hd.at (k:=sbC l c) ⟨p,q,h,h4,h5⟩;exact AD (low u1 pl1 ((hd.ky _).mpr ⟨p,q,h,h4,h5⟩) hx) (h2 p q h h4 h5 u0 pl0 ps0 e3 e4)
          · rw [Zsx e3,Zwa e4];exact As _⟩
      exact⟨cs',xs',_,_,.inl (Zq s7 (Zq t1 (Zq s8 (Zbz tc (Xiq tv rfl rfl (Zds _) fv hd.fl (by rw[Ai];exact Ew nl (by decide)) e2))))),hd'⟩
    by_cases m:sbC l c∈cs;obtain⟨x,hx,u1,pl1,rfl,h1,h2⟩:=hd.at ((hd.ky _).mp m);have ta:Xri (.dtt (cs.map kyN) xs) (tyN (sbC l c))=ak (vP u1 pl1):=by refine(aa hd.fl).trans ?_;rw[Zds];exact hx
    have tl:f2 gLt (fV 8) (f2 gIx (f2 Xri (fV 2) (fV 7)) (fC (.int 0))) (Ztv d0 d1 cs xs l u pl c ps (ak (tyN (sbC l c))) (ak (.int ((u+nzP ps:Nat):Int))))=.ok (.bl (decide (((u+nzP ps:Nat):Int)<(u1:Int)))):=Zn rfl (Zn (Zn rfl rfl ta) rfl rfl) rfl;by_cases lt:u+nzP ps<u1;refine putting (Zmt (Jq (Zn rfl rfl (Zxh.trans (by rw[aj m];rfl)))) (Jq (tl.trans (by rw[aj (Dt.mpr lt)])))) fun u2 pl2 _ h=>?_;rw[hx]at h;rw[<- Zsx (AE h)];omega;refine⟨cs,xs,_,_,.inl (Zq s7 (Zq t1 (Zq s8 (Jc (Zmt (Jq (Zn rfl rfl (Zxh.trans (by rw[aj m];rfl)))) (Jq (tl.trans (by rw[ai fun z=>lt (Dt.mp z)])))) rfl)))),⟨hd.nd,hd.ln,hd.fl,fun c'=>?_,fun p hp=>?_⟩⟩;rw[hd.ky c'];constructor;rintro⟨p,q,h1,h2,h3⟩;exact⟨p,q,.inl h1,h2,h3⟩;rintro⟨p,q,h1|⟨rfl,rfl⟩,h2,h3⟩;exact⟨p,q,h1,h2,h3⟩;rw[h3];exact(hd.ky _).mp m;obtain⟨u3,pl3,e3,h3,h4⟩:=hd.vl p hp;refine⟨u3,pl3,e3,h3,fun p' q hpq h5 h6 u0 pl0 ps0 e5 e6=>?_⟩;rcases hpq with h|⟨rfl,rfl⟩;exact h4 p' q h h5 h6 u0 pl0 ps0 e5 e6;have mz:(sbC l c,vP u1 pl1)∈cs.zip xs:=by obtain⟨y,hy,hm⟩:=Zqm cs xs hd.ln m;rw[hx]at hy;rw[AE hy];exact hm
    have:p.2=vP u1 pl1:=Xjl hd.nd hp mz h6;rw[this]at e3;rw[<- Zsx e3,<- Zsx e5,<- Zwa e6];exact KQ lt;exact putting (Xjc (Jq (Zn rfl rfl (Zxh.trans (by rw[ai m];rfl))))) fun _ _ h=>af h m
  refine⟨cs,xs,_,_,.inr (Zq s7 (Xuv (Zbz (Jq ((mn o8).trans (by rw[aj (Int.lt_of_not_ge fun z=>le (le_iff.mpr z))]))) rfl))),hd.imp (fun c'=>?_) fun c' x _ ⟨u1,pl1,h1,h2,h3⟩=>⟨u1,pl1,h1,h2,fun p q hpq h4 h5=>?_⟩⟩;constructor;rintro⟨p,q,h1,h2,h3⟩;exact⟨p,q,.inl h1,h2,h3⟩;rintro⟨p,q,h1|⟨rfl,rfl⟩,h2,h3⟩;exact⟨p,q,h1,h2,h3⟩;exact af h2 le;rcases hpq with h|⟨rfl,rfl⟩;exact h3 p q h h4 h5;exact af h4 le
theorem Xmm(h:Ct r ks r.length c ps)(h':Ct r ks r.length c ps'):nzP ps=nzP ps':=by have:=h.sum.symm.trans h'.sum;unfold nzP;cases ps<;>cases ps'<;>first|rfl|cases this
variable{Pr':Kv->Kv->Prop}
theorem Zlh{Pr:Kv->Kv->Prop}(e:∀p q,Pr p q↔Pr' p q)(h:Dkt (SM Pr) (WM ks os rs Pr) cs xs):Dkt (SM Pr') (WM ks os rs Pr') cs xs:=by have:Pr=Pr':=funext fun p=>funext fun q=>propext (e p q);rw[<- this];exact h
variable{cc cl:List (List Nat)}
theorem Xrc(ho:Zbj os)(hol:os.length=ks.length)(hlk:ks.length<=8)(hr:rs.length<=1000){xl xc:List D}(hl:Dkt (RS ks os rs) (WP ks os rs) cl xl)(hc:Dkt (KS r ks os r.length) (WC r ks r.length) cc xc):∃cs xs,Zaj [.fdt (cl.map kyN) xl,.fdt (cc.map kyN) xc]=.ok (.fdt (cs.map kyN) xs)/\Dkt (RS ks os (rs++[r])) (WP ks os (rs++[r])) cs xs:=by
 have loop:=Zfx (enc:=fun p:Kv=>D.tup [tyN p.1,p.2]) (b:=Zfc (Xx (Zv 3) (Xx (Zv 4) Zef))) (s:=Zed) (xs:=cl.zip xl) (ρ:=[ak (.fdt (cl.map kyN) xl),ak (.fdt (cc.map kyN) xc),ak (.dtt [] []),ao,ao,ao,ao,ao,ao])
  (P:=fun l ρ=>∃(cs:List (List Nat)) (xs:List D) (o3 o4 o5 o6 o7 o8:Option D),ρ=[ak (.fdt (cl.map kyN) xl),ak (.fdt (cc.map kyN) xc),ak (.dtt (cs.map kyN) xs),o3,o4,o5,o6,o7,o8]/\Dkt (SM fun p q=>p∈l/\q∈cc.zip xc) (WM ks os (rs++[r]) fun p q=>p∈l/\q∈cc.zip xc) cs xs)
  ⟨[],[],ao,ao,ao,ao,ao,ao,rfl,Dkt.nil fun c ⟨p,q,h,_⟩=>nomatch h.1⟩ ?_
 obtain⟨ρ',⟨cs,xs,o3,o4,o5,o6,o7,o8,rfl,hd⟩,t⟩:=loop;refine⟨cs,xs,Zaq (Zq (Xi rfl) (Zq (Zgh (Zox rfl (hl.few ho fun c ⟨_,_,h⟩=>h.le)) t) (Xky rfl hd.fl))),hd.imp (fun c=>?_) fun c x _ ⟨u,pl,h1,h2,h3⟩=>⟨u,pl,h1,h2,fun u' pl' h=>?_⟩⟩;constructor;rintro⟨p,q,⟨h1,h2⟩,h3,rfl⟩;obtain⟨u,pl,-,hp,-⟩:=hl.vl p h1;obtain⟨ps,-,hq⟩:=hc.vl q h2;exact⟨_,_,hp.snoc hq h3⟩;rintro⟨u,pl,h⟩;obtain⟨l',u',pl',c',ps,h1,h2,h3,rfl,-⟩:=h.inv;obtain⟨x,hx⟩:=Zet hl.ln ((hl.ky l').mpr ⟨_,_,h1⟩);obtain⟨y,hy⟩:=Zet hc.ln ((hc.ky c').mpr ⟨h3.trans h1.le,_,h2⟩);exact⟨(l',x),(c',y),⟨hx,hy⟩,h3,rfl⟩;obtain⟨l',u0,pl0,c',ps,h4,h5,h6,rfl,rfl⟩:=h.inv;obtain⟨x',hx⟩:=Zet hl.ln ((hl.ky l').mpr ⟨_,_,h4⟩);obtain⟨y,hy⟩:=Zet hc.ln ((hc.ky c').mpr ⟨h6.trans h4.le,_,h5⟩);obtain⟨u1,pl1,e1,h7,h8⟩:=hl.vl _ hx;obtain⟨ps1,e2,h9⟩:=hc.vl _ hy;have:=h3 (l',x') (c',y) ⟨hx,hy⟩ h6 rfl u1 pl1 ps1 e1 e2;have e3:=Xmm h9 h5;have:=h8 u0 pl0 h4;show u<=u0+nzP ps;omega;rintro l ⟨ll,x⟩ rr ρ e1 ⟨cs,xs,o3,o4,o5,o6,o7,o8,rfl,hd⟩;have hx:(ll,x)∈cl.zip xl:=by rw[e1];simp
 obtain⟨u,pl,rfl,hp,-⟩:=hl.vl _ hx;have inner:=Zfx (enc:=fun p:Kv=>D.tup [tyN p.1,p.2]) (b:=Zfc (Xx (Zv 5) (Xx (Zv 6) Zef))) (s:=Zaf) (xs:=cc.zip xc) (ρ:=[ak (.fdt (cl.map kyN) xl),ak (.fdt (cc.map kyN) xc),ak (.dtt (cs.map kyN) xs),ak (tyN ll),ak (vP u pl),o5,o6,o7,o8])
  (P:=fun m ρ=>∃(cs:List (List Nat)) (xs:List D) (o5 o6 o7 o8:Option D),ρ=[ak (.fdt (cl.map kyN) xl),ak (.fdt (cc.map kyN) xc),ak (.dtt (cs.map kyN) xs),ak (tyN ll),ak (vP u pl),o5,o6,o7,o8]/\Dkt (SM fun p q=>(p∈l/\q∈cc.zip xc)\/(p=(ll,vP u pl)/\q∈m)) (WM ks os (rs++[r]) fun p q=>(p∈l/\q∈cc.zip xc)\/(p=(ll,vP u pl)/\q∈m)) cs xs)
  ⟨cs,xs,o5,o6,o7,o8,rfl,Zlh (fun p q=>⟨.inl,fun h=>h.elim id fun h=>nomatch h.2⟩) hd⟩ ?_
 obtain⟨ρ',⟨cs,xs,p5,p6,p7,p8,rfl,hd⟩,t⟩:=inner;refine⟨_,.inl (Zgh (Zox rfl (hc.few ho fun c h=>h.1)) t),⟨cs,xs,_,_,_,_,_,_,rfl,Zlh (fun p q=>?_) hd⟩⟩;rw[Al,Ap];exact⟨fun h=>h.elim (fun h=>⟨.inl h.1,h.2⟩) fun h=>⟨.inr h.1,h.2⟩,fun⟨h1,h2⟩=>h1.elim (fun h=>.inl ⟨h,h2⟩) fun h=>.inr ⟨h,h2⟩⟩;rintro m ⟨c,y⟩ rr' ρ e2 ⟨cs,xs,p5,p6,p7,p8,rfl,hd⟩;have hy:(c,y)∈cc.zip xc:=by rw[e2];simp
 obtain⟨ps,rfl,hq⟩:=hc.vl _ hy;obtain⟨cs',xs',q7,q8,t,hd'⟩:=Xqj ho hol hlk hr hp hq hd (ak (.fdt (cl.map kyN) xl)) (ak (.fdt (cc.map kyN) xc)) p7 p8;refine⟨_,t,⟨cs',xs',_,_,_,_,rfl,Zlh (fun p q=>?_) hd'⟩⟩;rw[Al,Ap];exact⟨fun h=>h.elim (fun h=>h.imp id fun h=>⟨h.1,.inl h.2⟩) fun h=>.inr ⟨h.1,.inr h.2⟩,fun h=>h.elim (fun h=>.inl (.inl h)) fun⟨h1,h2⟩=>h2.elim (fun h=>.inl (.inr ⟨h1,h⟩)) fun h=>.inr ⟨h1,h⟩⟩
variable{b:List Nat}
theorem Zig:∀a b:List Nat,Yk (a++b)=Yk a*Yk b
 |[],b=>(LZ _).symm
 |x::a,b=>by show(x+1)*Yk (a++b)=(x+1)*Yk a*Yk b;rw[Zig a b,HD]
theorem Zzw(h:m<=120):m<2^4000:=AG (show m<2^7 by omega) (IN (by omega) (by omega))
theorem Xhm(h:Yk os<=120)(hl:os.length<=1000):Zfa [oD os]=.ok (.int (Yk os:Nat)):=by
 have loop:=Zfx (enc:=fun x:Nat=>D.int (x:Int)) (b:=Zv 2) (s:=Zfe) (xs:=os) (ρ:=[ak (oD os),ak (.int 1),ao])
  (P:=fun l ρ=>∃o:Option D,ρ=[ak (oD os),ak (.int (Yk l:Nat)),o]) ⟨ao,rfl⟩ ?_
 obtain⟨ρ',⟨o,rfl⟩,t⟩:=loop;refine Zaq (Zq (Xi rfl) (Zq (Zgh (Zdp rfl ?_) (by rw[AV];exact t)) (Zat rfl)));rw[Ai,Ai];exact AD hl (by decide);rintro l x r ρ e ⟨o,rfl⟩;have h1:Yk l*(x+1)<=120:=by have p:=Zen r;rw[e,Zig]at h;have h:Yk l*((x+1)*Yk r)<=120:=h;rw[<- HD]at h;exact AD (DJ _ p) h
 have h2:Yk l<=120:=AD (DJ _ (EO x)) h1;have h3:x+1<=120:=AD (Io _ (Zen l)) h1;have e3:Yk (l++[x])=Yk l*(x+1):=by rw[Zig];show Yk l*((x+1)*1)=_;rw[L1]
 have m:Ztm (.int (Yk l:Nat)) (.int ((x:Int)+1))=ak (.int ((Yk l:Nat)*((x:Int)+1))):=aa ⟨by rw[Kl];exact Zzw h2,by rw[show((x:Int)+1).natAbs=x+1 by omega];exact Zzw h3⟩;have t:Zfe [ak (oD os),ak (.int (Yk l:Nat)),ak (.int (x:Int))]=.ok (.nx [ak (oD os),ak (.int ((Yk l:Nat)*((x:Int)+1))),ak (.int (x:Int))]):=r_aug rfl (Zn rfl rfl rfl) m;refine⟨_,.inl t,⟨ak (.int (x:Int)),?_⟩⟩;rw[e3,Int.natCast_mul];rfl
theorem Xtz(h:Yk os<=120)(hol:os.length<=1000)(hr:rs.length<=1000)(h40:∀r∈rs,r.length<=40):Jz [rsD rs,oD os]=.ok .non:=by
 have cp:Zbd 1 (Zv 2) Zcr (f2 gGt (fA Zbp (Zc (fV 2) Zt)) (fC (.int 40))) [ak (rsD rs),ak (oD os)] (rs.map iD)=.ok (rs.map fun _=>D.bl ar):=Zlv rfl fun r hr=>Zn (Zsg rfl) rfl (Ztg (by have:=h40 r hr;omega));have an:gAny [.lst (rs.map fun _=>D.bl ar)]=ak (.bl ar):=by
  have:∀l:List (List Int),bools (l.map fun _=>D.bl ar)=ak (l.map fun _=>ar):=fun l=>by
   induction l with
   |nil=>rfl
   |cons x l ih=>show(bools (l.map fun _=>D.bl ar)).map (ar::·)=_;rw[ih];rfl
  show(bools (rs.map fun _=>D.bl ar)).bind _=_;rw[this];show ak (D.bl ((rs.map fun _=>ar).any id))=_;rw[List.any_map];simp
 have q:Zcf [ak (rsD rs),ak (oD os)]=.ok (.nx [ak (rsD rs),ak (oD os)]):=Zq (Jc (Jq (Jj (Zd (Zei rfl (Zdp rfl (by rw[Ai];exact AD hr (by decide))) cp) rfl) an)) rfl) (Jc (Jq (Zn (Xm (Zd rfl rfl) (Xhm h hol)) rfl (Ztg (by omega)))) rfl);show(run 2 Zcf [rsD rs,oD os]).calm=_;unfold run;rw[show([rsD rs,oD os]:List D).map ak++Ab (2 - [rsD rs,oD os].length) ao=[ak (rsD rs),ak (oD os)] from rfl,q];rfl
variable{e:FE}
theorem Xog(h:e ρ=.ok d):Zvj e ρ=.ok (.nx ρ):=by unfold Zvj;rw[h];rfl
theorem tup_o(os:List Nat):Zif [oD os]=ak (tyN os):=by unfold oD iD;rw[AV];exact aa (Ym os)
theorem Pln.nil_iff{l:List Nat}:RS ks os [] l↔l=os:=by
 constructor;rintro⟨u,pl,h⟩;generalize hE:([]:List (List Int))=E at h;cases h with
 |nil=>rfl
 |snoc _ _ _=>exact af (ah D8 hE) (by rw[Av];exact(KM _).symm)
 rintro rfl;exact⟨0,[],.nil⟩
theorem Zkc(ho:Zbj os)(hol:os.length=ks.length)(hlk:ks.length<=8)(hw:∀k∈ks,1<=k.w)(hr:rs.length<=900)(h40:∀r∈rs,r.length<=40):∃cs xs,Xh [rsD rs,tD ks,oD os]=.ok (.fdt (cs.map kyN) xs)/\Dkt (RS ks os rs) (WP ks os rs) cs xs:=by
 have loop:=Zfx (enc:=iD) (b:=Zv 4) (s:=Zbo) (xs:=rs) (ρ:=[ak (rsD rs),ak (tD ks),ak (oD os),ak (.fdt ([os].map kyN) [vP 0 []]),ao])
  (P:=fun l ρ=>∃(cs:List (List Nat)) (xs:List D) (o:Option D),ρ=[ak (rsD rs),ak (tD ks),ak (oD os),ak (.fdt (cs.map kyN) xs),o]/\Dkt (RS ks os l) (WP ks os l) cs xs) ⟨[os],[vP 0 []],ao,rfl,Dkt.one (fun c=>Pln.nil_iff) rfl ⟨0,[],rfl,.nil,fun _ _ _=>Dp _⟩⟩ ?_
 obtain⟨ρ',⟨cs,xs,o,rfl,hd⟩,t⟩:=loop;exact⟨cs,xs,Zaq (Zq (Xog (Xm (Zd rfl (Zd rfl rfl)) (Xtz ho.pr (by omega) (by omega) h40))) (Zq (Xi (Xja (Jj (Zd rfl rfl) (tup_o os)) (Jj (Zd rfl (Zd (Zej rfl rfl) rfl)) rfl) rfl)) (Zq (Zgh (Zdp rfl (by rw[Ai];exact AD hr (by decide))) t) (Zat rfl)))),hd⟩;rintro l r rr ρ e ⟨cs,xs,o,rfl,hd⟩;have hm:r∈rs:=by rw[e];simp
 have hll:l.length<=900:=by have:=ah D8 e;rw[Av]at this;omega
 obtain⟨cc,xc,h1,h2⟩:=Xoi (ns:=r) ho hol hlk hw (by have:=h40 r hm;omega);obtain⟨cs',xs',h3,h4⟩:=Xrc ho hol hlk (by omega) hd h2;exact⟨_,.inl (Xi (Xm (Zd rfl (Zd (Xm (Zd rfl (Zd rfl (Zd rfl rfl))) h1) rfl)) h3)),⟨cs',xs',_,rfl,h4⟩⟩
theorem Zpn{a b:List (List Int)}(ha:a.Nodup)(hb:b.Nodup)(h:∀x,x∈a↔x∈b):Xn a=Xn b:=L2.Zlq (((L2.Js b).trans ((List.perm_ext_iff_of_nodup hb ha).mpr fun x=>(h x).symm))) (L2.Zhe b)
theorem Zfp{a:List (List Int)}:x∈Xn a↔x∈a:=(L2.Js a).mem_iff
def toI(c:List Nat):List Int:=c.map fun x:Nat=>(x:Int)
theorem Xkw{a:List Nat}(h:toI a=toI b):a=b:=(F0 (f:=fun x:Nat=>(x:Int)) fun _ _ e=>HG.mp e).mp h
theorem Xiv(h:cs.Nodup):(cs.map toI).Nodup:=EF.mpr (h.imp fun h e=>h (Xkw e))
theorem Xpp(c:List Nat):Yw [tyN c]=ak (ilD (toI c)):=by refine(aa (Ym c)).trans ?_;unfold ilD toI;rw[AV];rfl
theorem Xiy(hn:ρ.length=n):fV n (ρ++[ak d])=.ok d:=by subst hn;unfold fV;rw[Bs (As _),Fn];rfl
theorem Xfq(hn:ρ.length=n)(he:e ρ=.ok (.fdt (cs.map kyN) xs))(hl:cs.length<=63):fA Zib (Zc (Jm n 1 (Zjf e) (Zv n) Zcr (fA Yw (Zc (fV n) Zt))) Zt) ρ=.ok (rsD (Xn (cs.map toI))):=by
 refine Jj (Zd (Zei hn (Xmh he (by omega)) (Zlv (v:=fun c=>ilD (toI c)) hn fun c _=>Jj (Zd (Xiy hn) rfl) (Xpp c))) rfl) ?_;have e:cs.map (fun c=>ilD (toI c))=(cs.map toI).map ilD:=by rw[AV];rfl
 rw[e];show(Zfy ((cs.map toI).map ilD)).bind _=_;rw[Zjd];exact aa (by rw[Ai];exact hl)
theorem Zwh{S:List Nat->Prop}(h1:cs.Nodup)(h2:cs'.Nodup)(h3:∀c,c∈cs↔S c)(h4:∀c,c∈cs'↔S c):Xn (cs.map toI)=Xn (cs'.map toI):=by refine Zpn (Xiv h1) (Xiv h2) fun x=>?_;rw[Az,Az];exact exists_congr fun c=>and_congr_left fun _=>(h3 c).trans (h4 c).symm
theorem Zcz:∀{c o:List Nat},LeC c o->Yk c<=Yk o
 |[],[],_=>As _
 |x::c,y::o,h=>by obtain⟨h1,h2⟩:=LeC.cons.mp h;exact ET (KN h1) (Zcz h2)
 |[],_::_,h=>nomatch h.1
 |_::_,[],h=>nomatch h.1
theorem Zhf:∀(c:List Nat) (a:Nat),(c.map (·+1)).foldl (·*·) a=a*Yk c
 |[],a=>(L1 a).symm
 |x::c,a=>by rw[AZ,Ec,Zhf c];show a*(x+1)*Yk c=a*((x+1)*Yk c);rw[HD]
theorem Xau(hl:os.length<=8)(h3:∀x∈os,x<=3)(hp:Yk os<=120):Zbj os:=by
 refine⟨hp,fun cs nd hc=>Zuq hl nd fun c hcm=>⟨(hc c hcm).1,fun x hx=>?_,?_⟩⟩;obtain⟨i,hi,rfl⟩:=mem_getD hx;have hi':i<os.length:=by rw[<- (hc c hcm).1];exact hi
 have m:os.getD i 0∈os:=by rw[AA,Ag hi'];exact Ca hi'
 exact AD ((hc c hcm).2 i) (h3 _ m);rw[Zhf,LZ];exact AD (Zcz (hc c hcm)) hp
theorem Zbj.mono(h:Zbj os)(hl:LeC o os):Zbj o:=⟨AD (Zcz hl) h.pr,fun cs nd hc=>h.ha cs nd fun c hcm=>(hc c hcm).trans hl⟩
def wt(ws:List Int)(c:List Nat):Int:=dot (toI c) ws
theorem Xjy{j:FI}(hs:∀x∈c,x<120)(z:j [ak d,ak (iD ws)]=.ok ((c.zip ws).map fun p=>.tup [.int (p.1:Int),.int p.2])):(run 2 (Zcb (fA Xir (Zc (Jm 2 2 j (Zfc (Xx (Zv 2) (Xx (Zv 3) Zef))) Zcr (f2 Zag (fV 2) (fV 3))) Zt))) [d,iD ws]).calm=.ok (.int (wt ws c)):=by
 have cp:=Zyj (n:=2) (ρ:=[ak d,ak (iD ws)]) (e:=f2 Zag (fV 2) (fV 3)) (f:=fun p:Nat×Int=>D.int (p.1:Int)) (g:=fun p:Nat×Int=>D.int p.2) (v:=fun p=>D.int ((p.1:Int)*p.2)) (xs:=c.zip ws) rfl fun p hp=>Zn rfl rfl (Zog (by omega) (by have:=hs _ (C2 hp).1;omega));refine Zaq (Zat (Jj (Zd (Zei rfl z cp) rfl) ?_));show(intsOf ((c.zip ws).map fun p=>D.int ((p.1:Int)*p.2))).bind _=_;have e:(c.zip ws).map (fun p=>D.int ((p.1:Int)*p.2))=((c.zip ws).map fun p=>(p.1:Int)*p.2).map D.int:=by rw[AV];rfl
 rw[e,Zlc];unfold wt dot toI;rw[List.zip_map_left,AV];rfl
theorem Xmg(hc:c.length<=1000)(hs:∀x∈c,x<120):Yh [tyN c,iD ws]=.ok (.int (wt ws c)):=Xjy hs (by
    unfold Zxn;show (if (c.map fun x:Nat=>D.int (x:Int)).length<=lim/\Zr (c.map fun x:Nat=>D.int (x:Int))=aq/\Zr (ws.map D.int)=aq then R.ok _ else _)=_;rw [aa ⟨by rw [Ai];exact AD hc (by decide),Ym c,Xmn ws⟩,Gb,IA,Gh])
theorem Xpy(hc:c.length<=1000)(hs:∀x∈c,x<120):Yy [oD c,iD ws]=.ok (.int (wt ws c)):=Xjy hs (by
    unfold Zhb;have e1:oD c=.lst (c.map fun x:Nat=>D.int (x:Int)):=by unfold oD iD;rw[AV];rfl
    rw [e1];show (if (c.map fun x:Nat=>D.int (x:Int)).length<=lim/\Zr (c.map fun x:Nat=>D.int (x:Int))=aq/\Zr (ws.map D.int)=aq then R.ok _ else _)=_;rw [aa ⟨by rw [Ai];exact AD hc (by decide),Ym c,Xmn ws⟩,Gb,IA,Gh])
def wsK(ks:List Kd):List Int:=ks.map (·.wo)
def Wor(ks:List Kd)(os:List Nat)(rs:List (List Int))(w:Int):Prop:=∃l,RS ks os rs l/\w=wt (wsK ks) os-wt (wsK ks) l/\∀l',RS ks os rs l'->wt (wsK ks) l<=wt (wsK ks) l'
def Num(ks:List Kd)(os:List Nat)(rs:List (List Int))(n:Nat):Prop:=(n=99/\∀u,¬Lf ks os rs (Ab ks.length 0) u)\/(Lf ks os rs (Ab ks.length 0) n/\∀u,Lf ks os rs (Ab ks.length 0) u->n<=u)
theorem Zgb(hol:os.length=ks.length){l:List Nat}:RS ks os rs l↔∃u,Lf ks os rs l u:=exists_congr fun _=>Zyo hol
theorem Zsi(ho:Zbj os)(hol:os.length=ks.length)(h63:Yk os<=63)(hlk:ks.length<=8)(hw:∀k∈ks,1<=k.w)(hr:rs.length<=900)(h40:∀r∈rs,r.length<=40):∃cs:List (List Nat),Ju [rsD rs,tD ks,oD os]=.ok (rsD (Xn (cs.map toI)))/\cs.Nodup/\(∀c,c∈cs↔RS ks os rs c)/\cs.length<=63:=by obtain⟨cs,xs,h,hd⟩:=Zkc ho hol hlk hw hr h40;have l63:cs.length<=63:=AD (Xio hd.nd fun c hc=>((hd.ky c).mp hc).elim fun _ ⟨_,h⟩=>h.le) h63;exact⟨cs,Zaq (Zat (Xfq rfl (Xm (Zd rfl (Zd rfl (Zd rfl rfl))) h) l63)),hd.nd,hd.ky,l63⟩
theorem Zvp :Znb (tyN c) (.fdt (cs.map kyN) xs)=ak (.bl (!decide (c∈cs))):=by show(Ztc (tyN c)).map _=_;rw[Zds];show ak (D.bl (!Xgd (cs.map kyN) (kyN c)))=_;rw[Xbp]
theorem Xiz{x:D}(h:tAt (cs.map kyN) xs (kyN c)=ak x):Zzg (.fdt (cs.map kyN) xs) (tyN c)=ak x:=by show(Ztc (tyN c)).bind _=_;rw[Zds];exact h
theorem Xld(ho:Zbj os)(hol:os.length=ks.length)(hlk:ks.length<=8)(hw:∀k∈ks,1<=k.w)(hr:rs.length<=900)(h40:∀r∈rs,r.length<=40):(Zir [rsD rs,tD ks,oD os]=.err "Short" ao/\∀u,¬Lf ks os rs (Ab ks.length 0) u)\/∃u pl,Zir [rsD rs,tD ks,oD os]=.ok (vP u pl)/\Lf ks os rs (Ab ks.length 0) u/\∀u',Lf ks os rs (Ab ks.length 0) u'->u<=u':=by
 obtain⟨cs,xs,h,hd⟩:=Zkc ho hol hlk hw hr h40;have s3:∀o4:Option D,Yq 3 (Ya Xh (Zc (fV 0) (Zc (fV 1) (Zc (fV 2) Zt)))) [ak (rsD rs),ak (tD ks),ak (oD os),ao,o4]=.ok (.nx [ak (rsD rs),ak (tD ks),ak (oD os),ak (.fdt (cs.map kyN) xs),o4]):=fun o4=>Xi (Xm (Zd rfl (Zd rfl (Zd rfl rfl))) h);have s4:Yq 4 (fA Zif (Zc (f2 Zag (fA Jp (Zc (fC (.int 0)) Zt)) (fA Zbp (Zc (fV 2) Zt))) Zt)) [ak (rsD rs),ak (tD ks),ak (oD os),ak (.fdt (cs.map kyN) xs),ao]=.ok (.nx [ak (rsD rs),ak (tD ks),ak (oD os),ak (.fdt (cs.map kyN) xs),ak (tyN (Ab ks.length 0))]):=Xi (Zxp (Jj (Zd rfl rfl) (by rw[<- hol];exact Xko os)) (by omega));by_cases m:Ab ks.length 0∈cs;obtain⟨x,hx,u,pl,rfl,hp,hmin⟩:=hd.at ((hd.ky _).mp m);refine .inr ⟨u,pl,?_,(Zyo hol).mp ⟨pl,hp⟩,fun u' hu=>?_⟩;have q:Zmm [ak (rsD rs),ak (tD ks),ak (oD os),ao,ao]=.ok (.ret (vP u pl)):=Zq (s3 ao) (Zq s4 (Zq (Jc (Jq (Zn rfl rfl (Zvp.trans (by rw[aj m];rfl)))) rfl) (Zat (Zn rfl rfl (Xiz hx)))));show run 5 Zmm [rsD rs,tD ks,oD os]=_;unfold run;rw[show([rsD rs,tD ks,oD os]:List D).map ak++Ab (5 - [rsD rs,tD ks,oD os].length) ao=[ak (rsD rs),ak (tD ks),ak (oD os),ao,ao] from rfl,q];rfl;obtain⟨pl',hp'⟩:=(Zyo hol).mpr hu;exact hmin u' pl' hp';refine .inl ⟨?_,fun u hu=>m ((hd.ky _).mpr ((Zgb hol).mpr ⟨u,hu⟩))⟩;have q:Zmm [ak (rsD rs),ak (tD ks),ak (oD os),ao,ao]=.err "Short" none:=by refine Zq (s3 ao) (Zq s4 ?_);have t:Znb (tyN (Ab ks.length 0)) (.fdt (cs.map kyN) xs)=ak (.bl aq):=Zvp.trans (by rw[ai m];rfl);rw[Zlj,Zvr,Jq (b:=aq) (Zn rfl rfl t)];rfl
 show run 5 Zmm [rsD rs,tD ks,oD os]=_;unfold run;rw[show([rsD rs,tD ks,oD os]:List D).map ak++Ab (5 - [rsD rs,tD ks,oD os].length) ao=[ak (rsD rs),ak (tD ks),ak (oD os),ao,ao] from rfl,q];rfl
theorem Xtj(hn:ρ.length=n)(rs:List (List Int)):Zbd 1 (Zv n) Zcr (fA Yw (Zc (fV n) Zt)) ρ (rs.map iD)=.ok (rs.map iD):=Zlv hn fun r _=>Jj (Zd (Xiy hn) rfl) (Zhq r)
theorem Xar(hn:ρ.length=n)(he:e ρ=.ok (rsD rs))(hr:rs.length<=1000):Jm n 1 (Zai e) (Zv n) Zcr (fA Yw (Zc (fV n) Zt)) ρ=.ok (rsD rs):=Zei hn (Zdp he (by rw[Ai];exact AD hr (by decide))) (Xtj hn rs)
theorem Lf.nothing(ho:os.length=ks.length)(rs:List (List Int)):Lf ks os rs os 0:=by
 refine⟨rs.map fun r=>(r,Ab ks.length 0),⟨by rw[AV];exact Fy _,fun p hp=>?_⟩,⟨rfl,fun i=>?_⟩,?_⟩;obtain⟨r,_,rfl⟩:=Az.mp hp;exact⟨[],Ct.none r ks r.length⟩;rw[AV];have:∀l:List (List Int),(l.map ((fun p:List Int×List Nat=>p.2.getD i 0)∘fun r=>(r,Ab ks.length 0))).sum=0:=fun l=>by
  induction l with
  |nil=>rfl
  |cons r l ih =>rw[AZ,D1,ih];show(Ab ks.length 0).getD i 0+0=0;rw[Zct]
 rw[this];rfl;unfold Zay;rw[AV];have:∀l:List (List Int),0=(l.map ((fun p:List Int×List Nat=>if p.2.sum=0 then 0 else 1)∘fun r=>(r,Ab ks.length 0))).sum:=fun l=>by
  induction l with
  |nil=>rfl
  |cons r l ih =>rw[AZ,D1,<- ih];show 0=(if (Ab ks.length 0).sum=0 then 0 else 1)+0;rw[Jg,aa rfl]
 exact this rs
theorem Xou(ho:Zbj os)(hol:os.length=ks.length)(hlk:ks.length<=8)(hw:∀k∈ks,1<=k.w)(hr:rs.length<=900)(h40:∀r∈rs,r.length<=40):∃w d,Zcq [rsD rs,tD ks,oD os]=.ok (.tup [.int w,d])/\Wor ks os rs w:=by
  obtain⟨cs,xs,h,hd⟩:=Zkc ho hol hlk hw hr h40;have few:=hd.few ho fun c ⟨_,_,h⟩=>h.le;have le:∀c∈cs,LeC c os:=fun c hc=>((hd.ky c).mp hc).elim fun _ ⟨_,h⟩=>h.le;have lst:Zqr [.fdt (cs.map kyN) xs]=ak (.lst (cs.map tyN)):=by refine(aa ⟨by rw[Ai];exact AD few (by decide),Zpp⟩).trans ?_;rw[AV];exact ah (fun l=>ak (D.lst l)) (BS fun c _=>Zld c)
  have wsc:Zbd 1 (Zv 6) Zcr (f1 Jd (f2 gIx (fV 6) (fC (.int 2)))) [ak (rsD rs),ak (tD ks),ak (oD os),ak (.fdt (cs.map kyN) xs),ao,ao] (ks.map kD)=.ok (ks.map fun k=>D.int k.wo):=Zlv rfl fun k _=>Zej (Zn rfl rfl (kD_2 k)) rfl;have ews:D.lst (ks.map fun k=>D.int k.wo)=iD (wsK ks):=by unfold iD wsK;rw[AV];rfl
  have tog:∀c,LeC c os->Yh [tyN c,iD (wsK ks)]=.ok (.int (wt (wsK ks) c)):=fun c hc=>Xmg (by rw [hc.1];omega) (ho.small hc);obtain ⟨l,hl,hb,hmin⟩:=Xny (enc:=tyN) (lt:=fun m n=>decide (m<n)) id (fun _ _=>rfl) (fe:=fA Zqr (Zc (fV 3) Zt)) (fb:=Ya Yh (Zc (fV 0) (Zc (fV 1) Zt))) (js:=[4]) (ρ:=[ak (rsD rs),ak (tD ks),ak (oD os),ak (.fdt (cs.map kyN) xs),ak (iD (wsK ks)),ao]) (xs:=cs) (fs:=[iD (wsK ks)]) (v:=wt (wsK ks)) (Jj (Zd rfl rfl) lst) (fun z=>by
    have:=(hd.ky os).mpr ((Zgb hol).mpr ⟨0,Lf.nothing hol rs⟩);rw [z] at this;exact nomatch this) rfl (fun c hc=>Xm (Zd rfl (Zd rfl rfl)) (tog c (le c hc)))
  obtain⟨x,hx,u,pl,rfl,hp,-⟩:=hd.at ((hd.ky l).mp hl);have t1:Yy [oD os,iD (wsK ks)]=.ok (.int (wt (wsK ks) os)):=Xpy (by omega) (ho.small (LeC.refl os));refine⟨_,_,Zaq (Zq (Xi (Xm (Zd rfl (Zd rfl (Zd rfl rfl))) h)) (Zq (Xi ((Zei rfl (Zdp rfl (by rw[Ai];exact AD hlk (by decide))) wsc).trans (ah R.ok ews))) (Zq (Xi (Zej hb (aa (Ym l)))) (Zat (Jj (Zd (Zn (Xm (Zd rfl (Zd rfl rfl)) t1) (Xm (Zd rfl (Zd rfl rfl)) (tog l (le l hl))) rfl) (Zd (Zej (Zn (Zn rfl rfl (Xiz hx)) rfl rfl) rfl) rfl)) rfl))))),l,⟨u,pl,hp⟩,rfl,fun l' hl'=>hmin l' ((hd.ky l').mpr hl')⟩
theorem Xse(ho:Zbj os)(hol:os.length=ks.length)(hlk:ks.length<=8)(hw:∀k∈ks,1<=k.w)(hr:rs.length<=900)(h40:∀r∈rs,r.length<=40):∃n:Nat,Jk [rsD rs,tD ks,oD os]=.ok (.int (n:Int))/\Num ks os rs n:=by have args:Zc (Jm 3 1 (Zai (fV 0)) (Zv 3) Zcr (fA Yw (Zc (fV 3) Zt))) (Zc (fA Yw (Zc (fV 1) Zt)) (Zc (fA Yw (Zc (fV 2) Zt)) Zt)) [ak (rsD rs),ak (tD ks),ak (oD os)]=.ok [rsD rs,tD ks,oD os]:=Zd (Xar rfl rfl (by omega)) (Zd (Jj (Zd rfl rfl) (Zqf ks)) (Zd (Jj (Zd rfl rfl) (Zhq _)) rfl));rcases Xld ho hol hlk hw hr h40 with⟨h1,h2⟩|⟨u,pl,h1,h2,h3⟩;refine⟨99,?_,.inl ⟨rfl,h2⟩⟩;refine Zaq ((Xhu (c:="Short") ?_ rfl).trans rfl);show Zcb _ [ak (rsD rs),ak (tD ks),ak (oD os)]=_;rw[Zyu,Xuh,Xxf,Zsn,args,Ys,h1];rfl;refine⟨u,Zaq (Xlt (Zat (Zej (Zn (Xm args h1) rfl rfl) rfl))),.inr ⟨h2,h3⟩⟩
def Told(ks:List Kd)(os:List Nat)(rs:List (List Int))(L:List (List Int))(w:Int)(n:Nat):Prop:=(∃cs:List (List Nat),L=Xn (cs.map toI)/\cs.Nodup/\(∀c,c∈cs↔RS ks os rs c)/\cs.length<=63)/\Wor ks os rs w/\Num ks os rs n
def Zas(L:List (List Int))(w:Int)(n:Nat):D:=.lst [rsD L,.int w,.int (n:Int)]
variable{L:List (List Int)}
theorem Xft(ho:Zbj os)(hol:os.length=ks.length)(h63:Yk os<=63)(hlk:ks.length<=8)(hw:∀k∈ks,1<=k.w)(hr:rs.length<=900)(h40:∀r∈rs,r.length<=40):∃L w n,Xa [rsD rs,tD ks,oD os]=.ok (Zas L w n)/\Told ks os rs L w n:=by obtain⟨cs,h1,h2,h3,h4⟩:=Zsi ho hol h63 hlk hw hr h40;obtain⟨w,d,h5,h6⟩:=Xou ho hol hlk hw hr h40;obtain⟨n,h7,h8⟩:=Xse ho hol hlk hw hr h40;have args:∀o3 o4:Option D,Zc (Jm 5 1 (Zai (fV 0)) (Zv 5) Zcr (fA Yw (Zc (fV 5) Zt))) (Zc (fA Yw (Zc (fV 1) Zt)) (Zc (fA Yw (Zc (fV 2) Zt)) Zt)) [ak (rsD rs),ak (tD ks),ak (oD os),o3,o4]=.ok [rsD rs,tD ks,oD os]:=fun o3 o4=>Zd (Xar rfl rfl (by omega)) (Zd (Jj (Zd rfl rfl) (Zqf ks)) (Zd (Jj (Zd rfl rfl) (Zhq _)) rfl));exact⟨_,w,n,Zaq (Zq (Xi (Xm (args ao ao) h1)) (Zq (Xi (Zej (Zn (Xm (args _ ao) h5) rfl rfl) rfl)) (Zat (Jj (Zd rfl (Zd rfl (Zd (Xm (Zd rfl (Zd rfl (Zd rfl rfl))) h7) rfl))) rfl)))),⟨cs,rfl,h2,h3,h4⟩,h6,h8⟩
variable{L':List (List Int)}{n':Nat}{w':Int}
theorem Told.same(hol:os.length=ks.length)(e:∀l u,Lf ks os rs l u↔Lf ks os ss l u)(h:Told ks os rs L w n)(h':Told ks os ss L' w' n'):Zas L' w' n'=Zas L w n:=by
 obtain⟨⟨cs,rfl,a2,a3,a4⟩,⟨l,b1,rfl,b3⟩,c⟩:=h;obtain⟨⟨cs',rfl,a2',a3',a4'⟩,⟨l',b1',rfl,b3'⟩,c'⟩:=h';have er:∀l,RS ks os rs l↔RS ks os ss l:=fun l=>(Zgb hol).trans ((exists_congr fun u=>e l u).trans (Zgb hol).symm);have e1:Xn (cs'.map toI)=Xn (cs.map toI):=Zwh a2' a2 a3' fun c=>(a3 c).trans (er c);have e2:wt (wsK ks) l'=wt (wsK ks) l:=K3 (b3' l ((er l).mp b1)) (b3 l' ((er l').mpr b1'));have e3:n'=n:=by rcases c with⟨rfl,c2⟩|⟨c1,c2⟩;rcases c' with⟨rfl,_⟩|⟨c1',_⟩;rfl;exact af ((e _ _).mpr c1') (c2 _);rcases c' with⟨rfl,c2'⟩|⟨c1',c2'⟩;exact af ((e _ _).mp c1) (c2' _);exact Nat.le_antisymm (c2' _ ((e _ _).mp c1)) (c2 _ ((e _ _).mpr c1'))
 rw[e1,e2,e3]
theorem Told.more(hol:os.length=ks.length)(hs:ss.length<=99)(e:∀l u,Lf ks os rs l u->Lf ks os ss l u)(h:Told ks os rs L w n)(h':Told ks os ss L' w' n'):n'<=n/\w<=w'/\∀x∈L,x∈L':=by obtain⟨⟨cs,rfl,a2,a3,a4⟩,⟨l,b1,rfl,b3⟩,c⟩:=h;obtain⟨⟨cs',rfl,a2',a3',a4'⟩,⟨l',b1',rfl,b3'⟩,c'⟩:=h';have er:∀l,RS ks os rs l->RS ks os ss l:=fun l h=>(Zgb hol).mpr (((Zgb hol).mp h).imp fun u=>e l u);refine⟨?_,Int.sub_le_sub_left (b3' l (er l b1)) _,fun x hx=>?_⟩;rcases c' with⟨rfl,c2'⟩|⟨c1',c2'⟩;rcases c with⟨rfl,_⟩|⟨c1,_⟩;exact As _;exact af (e _ _ c1) (c2' _);rcases c with⟨rfl,_⟩|⟨c1,_⟩;exact AD c1'.used hs;exact c2' _ (e _ _ c1);obtain⟨c,hc,rfl⟩:=Az.mp (Zfp.mp hx);exact Zfp.mpr (Az.mpr ⟨c,(a3' c).mpr (er c ((a3 c).mp hc)),rfl⟩)
theorem rngL0(n:Nat):Zgt 0 n=(AX n).map fun k:Nat=>D.int (k:Int):=BS fun k _=>by rw[GA]
theorem Zwl{n:Nat}{e:FE}{ρ:Env}{α β:Type}{enc:α->D}{f:β->D}{Q:β->Prop}(hn:ρ.length=n):∀{xs:List α},(∀x∈xs,∃v,e (ρ++[ak (enc x)])=.ok (f v)/\Q v)->∃vs:List β,Zbd 1 (Zv n) Zcr e ρ (xs.map enc)=.ok (vs.map f)/\vs.length=xs.length/\∀v∈vs,Q v
 |[],_=>⟨[],rfl,rfl,fun _ z=>nomatch z⟩
 |x::xs,h=>by
  obtain⟨v,h1,h2⟩:=h x (.head _);obtain⟨vs,g1,g2,g3⟩:=Zwl hn (xs:=xs) (f:=f) (Q:=Q) fun y hy=>h y (.tail _ hy);refine⟨v::vs,?_,ah MD g2,AK.mpr ⟨h2,g3⟩⟩;rw[AZ];unfold Zbd;have hb:Zv n (enc x) (ρ++Ab 1 ao)=.ok (ρ++[ak (enc x)]):=by show R.ok ((ρ++[ao]).set n (ak (enc x)))=_;rw[<- hn,DA _ _ (As _),Fn];rfl
  rw[hb,Zcj];show(e (ρ++[ak (enc x)])).bind _=_;rw[h1,Ys,g1];rfl
theorem Xmb(ns:List Int)(hn:ns.length<=63):∃rs ks,Zaa [.scr ns,.int 0,.int 4,.int 16,.int 4]=.ok (.tup [rsD rs,tD ks])/\rs.length<=4/\(∀r∈rs,r.length<=40)/\ks.length<=4/\Xxh ks:=by
 obtain⟨fl,hf,ff0,ff1⟩:=Xmi ns hn (i:=0) (m:=4) (by decide) (by decide) (by decide) (by decide);obtain⟨ks,ht,hk,tk⟩:=Xgl ns hn (i:=0) (m:=4) (by decide) (by decide) (by decide) (by decide);obtain⟨os,hr,ro⟩:=Zmi ns hn (i:=1) (by decide) (by decide) [5] (by decide) (by decide);have b:=ro.at_ 0 (by decide);have i0:gIx (iD os) (.int 0)=ak (.int (os.getD 0 0)):=Xdv (k:=0) (by rw[ro.len];decide);generalize os.getD 0 0=n at b i0;have b:0<=n/\n<5:=b;obtain⟨rs,h1,h2,h3⟩:=Zwl (n:=9) (e:=Ya Jr (Zc (fV 0) (Zc (f2 Jn (f2 Jn (fV 1) (fC (.int 2))) (fV 9)) (Zc (fV 3) (Zc (fV 5) Zt))))) (ρ:=[ak (.scr ns),ak (.int 0),ak (.int 4),ak (.int 16),ak (.int 4),ak (.int fl),ak (tD ks),ak (.int n),ao]) (enc:=fun k:Nat=>D.int (k:Int)) (f:=iD) (Q:=fun r:List Int=>r.length<=40) rfl (xs:=AX n.toNat) fun k hk=>by have hk:=Bi.mp hk;obtain⟨ws,w1,w2,-⟩:=Xkj ns hn (i:=0+2+(k:Int)) (m:=16) (fl:=fl) (by omega) (by omega) (by decide) (by decide) ff0 ff1;exact⟨ws,Xm (Zd rfl (Zd (Zn (Zn rfl rfl rfl) rfl rfl) (Zd rfl (Zd rfl rfl)))) w1,by omega⟩
 refine⟨rs,ks,Zaq (Zq (Xi (Xm (Zd rfl (Zd rfl (Zd rfl rfl))) hf)) (Zq (Xi (Xm (Zd rfl (Zd rfl (Zd rfl rfl))) ht)) (Zq (Xi (Zej (Zn (Xm (Zd rfl (Zd (Zn rfl rfl rfl) (Zd (Jj (Zd (Zn rfl rfl rfl) rfl) rfl) rfl))) hr) rfl i0) rfl)) (Zq (Xi (Zei rfl ((Xfw (Zd rfl rfl) (by omega)).trans (ah R.ok (rngL0 _))) h1)) (Zat (Jj (Zd rfl (Zd rfl rfl)) rfl)))))),by rw[h2,EE];omega,h3,by omega,tk⟩
theorem Zrg:∀{l:List Nat},(∀x∈l,x<=2)->Yk l<=3^l.length
 |[],_=>As _
 |x::l,h=>by have:=Zrg fun y hy=>h y (.tail _ hy);rw[BK,Nat.pow_succ,LI];exact ET (KN (h x (.head _))) this
theorem Xry{l:List Int}(h:∀x∈l,0<=x):toI (l.map FK)=l:=by
 unfold toI;rw[AV]
 conv=>rhs;rw[<- Fy l]
 exact BS fun x hx=>Cj (h x hx)
theorem oD_eq(os:List Nat):oD os=iD (toI os):=rfl
variable{qs:List Int}
theorem Xlo(hk:ks.length<=4)(hl:qs.length=11)(hq:∀i,i<8->0<=qs.getD i 0/\qs.getD i 0<3){d0 d1 o5 o6 o7 o8 o9:Option D}:∃os:List Nat,os.length=ks.length/\(∀x∈os,x<=3)/\Yk os<=63/\ ∀(s:FS) (r:R Fl),s [d0,d1,ak (tD ks),ak (iD qs),ak (oD os),o5,o6,o7,o8,o9]=r->(Xu (Yq 4 (fSl gSl (fV 3) Zdd (Zbu (fA Zbp (Zc (fV 2) Zt))))) (Xu (sIf (cE (f2 gGt (fA Zbp (Zc (fV 4) Zt)) (fC (.int 3)))) (Xro 4 (fC (.int 3)) (fA Xfe (Zc (f2 gIx (fV 4) (fC (.int 3))) (Zc (fC (.int 1)) Zt)))) sNx) s)) [d0,d1,ak (tD ks),ak (iD qs),ao,o5,o6,o7,o8,o9]=r:=by
 have hb:∀x∈qs.take ks.length,0<=x/\x<3:=fun x hx=>by obtain⟨i,hi,e⟩:=D7.mp hx;rw[BY]at hi;have:=hq i (by omega);rw[List.getElem_take]at e;rw[AA,Ag (by omega)]at this;rw[<- e];exact this
 have et:toI ((qs.take ks.length).map FK)=qs.take ks.length:=Xry fun x hx=>(hb x hx).1;have bd:∀x∈(qs.take ks.length).map FK,x<=2:=fun x hx=>by obtain⟨y,hy,rfl⟩:=Az.mp hx;have:=hb y hy;omega
 have ll:((qs.take ks.length).map FK).length=ks.length:=by rw[Ai,BY];omega
 have sl:gSl (iD qs) ao (ak (ks.length:Int))=ak (iD (qs.take ks.length)):=by refine(aa (Xmn qs)).trans ?_;rw[Zqy (by omega),CJ,<- Fo];rfl
 have s4:Yq 4 (fSl gSl (fV 3) Zdd (Zbu (fA Zbp (Zc (fV 2) Zt)))) [d0,d1,ak (tD ks),ak (iD qs),ao,o5,o6,o7,o8,o9]=.ok (.nx [d0,d1,ak (tD ks),ak (iD qs),ak (oD ((qs.take ks.length).map FK)),o5,o6,o7,o8,o9]):=by rw[oD_eq,et];exact Xi (Xtf rfl rfl (Zhp (Jj (Zd rfl rfl) (Xsc ks))) sl)
 generalize (qs.take ks.length).map FK=l at *;have ln:∀o:Option D,fA Zbp (Zc (fV 4) Zt) [d0,d1,ak (tD ks),ak (iD qs),ak (oD l),o5,o6,o7,o8,o9]=.ok (.int (l.length:Int)):=fun _=>Jj (Zd rfl rfl) (Xko l);by_cases g:3<l.length;have h4:l.length=4:=by omega
 obtain⟨a,b,c,d,rfl⟩:∃a b c d,l=[a,b,c,d]:=by
  match l,h4 with
  |[a,b,c,d],_=>exact⟨a,b,c,d,rfl⟩
 have ba:=bd a (.head _);have bb:=bd b (.tail _ (.head _));have bc:=bd c (.tail _ (.tail _ (.head _)));have bdd:=bd d (.tail _ (.tail _ (.tail _ (.head _))));obtain⟨e,he,he1⟩:∃e:Nat,(if (1:Int)<(d:Int) then (1:Int) else (d:Int))=(e:Int)/\e<=1:=by by_cases z:(1:Int)<(d:Int);exact⟨1,aa z,As _⟩;exact⟨d,ae z,by omega⟩
 refine⟨[a,b,c,e],ll,fun x hx=>?_,?_,fun s r h=>Zq s4 (Zq (Zbz (Jq (Zn (ln ao) rfl (Xiu (by omega)))) ?_) h)⟩;simp only[Aj,BO,or_false]at hx;omega;show(a+1)*((b+1)*((c+1)*((e+1)*1)))<=63;have h1:(c+1)*((e+1)*1)<=3*2:=ET (by omega) (by omega);have h2:(b+1)*((c+1)*((e+1)*1))<=3*(3*2):=ET (by omega) h1;exact AD (ET (show a+1<=3 by omega) h2) (by decide);have mn:fA Xfe (Zc (f2 gIx (fV 4) (fC (.int 3))) (Zc (fC (.int 1)) Zt)) [d0,d1,ak (tD ks),ak (iD qs),ak (oD [a,b,c,d]),o5,o6,o7,o8,o9]=.ok (.int (e:Int)):=by rw[<- he];exact Jj (Zd (Zn rfl rfl rfl) (Zd rfl rfl)) rfl
 rw[Xpo,mn];rfl;refine⟨l,ll,fun x hx=>AD (bd x hx) (by decide),?_,fun s r h=>Zq s4 (Zq (Jc (Jq (Zn (ln ao) rfl (Ztg (by omega)))) rfl) h)⟩;exact AD (Zrg bd) (AD (IN (by decide) (show l.length<=3 by omega)) (by decide))
theorem Xab(h:dep d<=20):eqv d d=true:=by have:=Zsc h;unfold gEq at this;rw[aa ⟨h,h⟩]at this;exact D.bl.inj (AE this)
theorem Xxy(h:x∈L):Zqt (iD x) (rsD L)=ak (.bl ar):=by
 have h3:dep (iD x)<=20:=AD (Xjt _) (by decide);have h4:dep (rsD L)<=2:=Xax L;have h5:Zgy (L.map iD)<=20:=by unfold rsD at h4;simp only[dep]at h4;omega
 refine(aa ⟨h3,h5⟩).trans ?_;have:((L.map iD).any fun y=>eqv y (iD x))=true:=DZ.mpr ⟨iD x,Az.mpr ⟨x,h,rfl⟩,Xab h3⟩;rw[this];rfl
theorem Xsd(L:List (List Int))(w:Int)(n:Nat):gNe (Zas L w n) (Zas L w n)=ak (.bl ar):=neX (by
  have:=Xax L;unfold Zas;simp only [dep,Zgy];omega)
theorem Ztl(ns:List Int)(hn:ns.length<=63):Xqa [.scr ns]=.ok (.bl aq):=by
  obtain⟨rs,ks,hrolls,hr,h40,hk,tk⟩:=Xmb ns hn;obtain⟨qs,hrow,hqs⟩:=Zmi ns hn (i:=10) (by decide) (by decide) ((Ab 8 [(3:Int)]).flatten++[4,81,4]) (by decide) (by decide);have hql:qs.length=11:=hqs.len;have bq:∀i,i<8->0<=qs.getD i 0/\qs.getD i 0<3:=fun i hi=>by
    have:=hqs.at_ i (by show i<11;omega);have e:∀k:Nat,k<8->((Ab 8 [(3:Int)]).flatten++[4,81,4]).getD k 0=3:=by decide
    rw[e i hi]at this;exact this
  have b9:=(hqs.at_ 9 (by decide)).1;have b10:=(hqs.at_ 10 (by decide)).1;have i8:gIx (iD qs) (.int 8)=ak (.int (qs.getD 8 0)):=Xdv (k:=8) (by omega);have i9:gIx (iD qs) (.int 9)=ak (.int (qs.getD 9 0)):=Xdv (k:=9) (by omega);have i10:gIx (iD qs) (.int 10)=ak (.int (qs.getD 10 0)):=Xdv (k:=10) (by omega);have hw:∀k∈ks,1<=k.w:=fun k hk=>(tk.ok k hk).w1;obtain⟨o0,hol0,h3,h63,hord⟩:=Xlo (ks:=ks) hk hql bq (d0:=ak (.scr ns)) (d1:=ak (rsD rs)) (o5:=ao) (o6:=ao) (o7:=ao) (o8:=ao) (o9:=ao);have ho0:Zbj o0:=Xau (by omega) h3 (by omega);obtain⟨c0,hl0,n0,m0,s0⟩:=Zsi ho0 hol0 h63 (by omega) hw (by omega) h40;have hL0:(Xn (c0.map toI)).length=c0.length:=by rw[(L2.Js _).length_eq,Ai]
  have hne:0<c0.length:=HM ((m0 o0).mpr ((Zgb hol0).mpr ⟨0,Lf.nothing hol0 rs⟩));have args:∀(o5:Option D),Zc (Jm 10 1 (Zai (fV 1)) (Zv 10) Zcr (fA Yw (Zc (fV 10) Zt))) (Zc (fA Yw (Zc (fV 2) Zt)) (Zc (fA Yw (Zc (fV 4) Zt)) Zt)) [ak (.scr ns),ak (rsD rs),ak (tD ks),ak (iD qs),ak (oD o0),o5,ao,ao,ao,ao]=.ok [rsD rs,tD ks,oD o0]:=fun o5=>Zd (Xar rfl rfl (by omega)) (Zd (Jj (Zd rfl rfl) (Zqf ks)) (Zd (Jj (Zd rfl rfl) (Zhq _)) rfl));obtain⟨os,hol,ho,h63',hz,hset⟩:∃os:List Nat,os.length=ks.length/\Zbj os/\Yk os<=63/\(0<qs.getD 8 0->∃u,Lf ks os rs (Ab ks.length 0) u)/\sIf (cE (f2 gGt (f2 gIx (fV 3) (fC (.int 8))) (fC (.int 0)))) (Yq 4 (Jm 10 2 (Zhb (fV 4) (f2 gIx (fV 5) (f2 Zfb (f2 gIx (fV 3) (fC (.int 9))) (fA Zbp (Zc (fV 5) Zt))))) (Zfc (Xx (Zv 10) (Xx (Zv 11) Zef))) Zcr (f2 Zia (fV 10) (fV 11)))) sNx [ak (.scr ns),ak (rsD rs),ak (tD ks),ak (iD qs),ak (oD o0),ak (rsD (Xn (c0.map toI))),ao,ao,ao,ao]=.ok (.nx [ak (.scr ns),ak (rsD rs),ak (tD ks),ak (iD qs),ak (oD os),ak (rsD (Xn (c0.map toI))),ao,ao,ao,ao]):=by
    by_cases q8:0<qs.getD 8 0;have hi:=Zjc (x:=qs.getD 9 0) (m:=(c0.length:Int)) (by omega);obtain⟨j,hj⟩:∃j:Nat,qs.getD 9 0%(c0.length:Int)=(j:Int):=⟨_,(Cj hi.1).symm⟩;have hjl:j<(Xn (c0.map toI)).length:=by rw[hL0];omega
    obtain⟨l,hlc,hll⟩:=Az.mp (Zfp.mp (Ca hjl));obtain⟨u,hu⟩:=(Zgb hol0).mp ((m0 l).mp hlc);have le:LeC l o0:=((m0 l).mp hlc).elim fun _ ⟨_,h⟩=>h.le;have sle:=Xww le.1;refine⟨sbC o0 l,by rw[sle.1,hol0],ho0.mono sle,AD (Zcz sle) h63,fun _=>⟨u,hu.rest hol0⟩,Zbz (Jq (Zn (Zn rfl rfl i8) rfl (Xiu q8))) (Xi ?_)⟩;have ix:gIx (rsD (Xn (c0.map toI))) (.int (qs.getD 9 0%(c0.length:Int)))=ak (iD (toI l)):=Xrs (k:=j) hj (by rw[AS,Ag hjl,<- hll];rfl);have md:Zfb (.int (qs.getD 9 0)) (.int (c0.length:Int))=ak (.int (qs.getD 9 0%(c0.length:Int))):=Zax (by omega);have ln:Zbp [rsD (Xn (c0.map toI))]=ak (.int (c0.length:Int)):=by rw[Zhy,hL0]
    have it:Zhb (fV 4) (f2 gIx (fV 5) (f2 Zfb (f2 gIx (fV 3) (fC (.int 9))) (fA Zbp (Zc (fV 5) Zt)))) [ak (.scr ns),ak (rsD rs),ak (tD ks),ak (iD qs),ak (oD o0),ak (rsD (Xn (c0.map toI))),ao,ao,ao,ao]=.ok ((o0.zip l).map fun p=>.tup [.int (p.1:Int),.int (p.2:Int)]):=by
      unfold Zhb;rw[show fV 4 [ak (D.scr ns),ak (rsD rs),ak (tD ks),ak (iD qs),ak (oD o0),ak (rsD (Xn (c0.map toI))),ao,ao,ao,ao]=.ok (oD o0) from rfl,Ys,Zn (x:=rsD (Xn (c0.map toI))) rfl (Zn (Zn rfl rfl i9) (Jj (Zd rfl rfl) ln) md) ix,Ys];have e1:oD o0=.lst (o0.map fun x:Nat=>D.int (x:Int)):=by unfold oD iD;rw[AV];rfl
      have e2:iD (toI l)=.lst (l.map fun x:Nat=>D.int (x:Int)):=by unfold toI iD;rw[AV];rfl
      rw[e1,e2];refine(aa ⟨by rw[Ai,hol0];show _<=1000000;omega,Ym o0,Ym l⟩).trans (ah R.ok ?_);rw[Gb,IA,Gh]
    have cp:=Zyj (n:=10) (ρ:=[ak (.scr ns),ak (rsD rs),ak (tD ks),ak (iD qs),ak (oD o0),ak (rsD (Xn (c0.map toI))),ao,ao,ao,ao]) (e:=f2 Zia (fV 10) (fV 11)) (f:=fun p:Nat×Nat=>D.int (p.1:Int)) (g:=fun p:Nat×Nat=>D.int (p.2:Int)) (v:=fun p=>D.int ((p.1:Int)-(p.2:Int))) (xs:=o0.zip l) rfl fun p _=>Zn rfl rfl rfl;refine(Zei rfl it cp).trans (ah R.ok ?_);unfold oD iD;rw[AV];refine ah D.lst (Eq.trans ?_ (Zwu le));unfold rIv;rw[AV];rfl;exact⟨o0,hol0,ho0,h63,fun z=>af z q8,Jc (Jq (Zn (Zn rfl rfl i8) rfl (Ztg q8))) rfl⟩
  have tell:∀ss:List (List Int),ss.length<=900->(∀r∈ss,r.length<=40)->∃L w n,Xa [rsD ss,tD ks,oD os]=.ok (Zas L w n)/\Told ks os ss L w n:=fun ss h1 h2=>Xft ho hol h63' (by omega) hw h1 h2;obtain⟨L,w,n,ht,tt⟩:=tell rs (by omega) h40;have same:∀ss:List (List Int),ss.length<=900->(∀r∈ss,r.length<=40)->(∀l u,Lf ks os rs l u↔Lf ks os ss l u)->Xa [rsD ss,tD ks,oD os]=.ok (Zas L w n):=fun ss h1 h2 e=>by obtain⟨L',w',n',ht',tt'⟩:=tell ss h1 h2;rw[ht',tt.same hol e tt']
  have t1:=same (rs.map E7) (by rw [Ai];omega) (fun r hr=>by
    obtain ⟨q,hq,rfl⟩:=Az.mp hr;rw [CT];exact h40 q hq) (fun l u=>⟨Lf.turned hw,fun h=>by
      have:=h.turned hw;rw [AV,show (E7∘E7:List Int->List Int)=id from funext IB,Fy] at this;exact this⟩)
  have t2:=same rs.reverse (by rw [CT];omega) (fun r hr=>h40 r (Ky.mp hr)) (fun l u=>⟨Lf.rev,fun h=>by
    have:=h.rev;rw [IB] at this;exact this⟩)
  have t3:=same (rs.take 2++[]::rs.drop 2) (by rw [Av,BK,BY,E6];omega) (fun r hr=>by
    rcases Al.mp hr with q|q;exact h40 r (List.mem_of_mem_take q)
    · rcases Aj.mp q with q|q;rw[q];decide
      · exact h40 r (List.mem_of_mem_drop q)) (fun l u=>⟨fun h=>Lf.more hol (by rw [Fk];exact h),fun h=>by
    have:=h.less hw;rw [Fk] at this;exact this⟩)
  have tru:Jm 10 1 (Zai (fV 1)) (Zv 10) Zcr (Ya Zcs (Zc (fA Yw (Zc (fV 10) Zt)) Zt)) [ak (.scr ns),ak (rsD rs),ak (tD ks),ak (iD qs),ak (oD os),ak (rsD (Xn (c0.map toI))),ak (Zas L w n),ao,ao,ao]=.ok (rsD (rs.map E7)):=by have cp:=Zlv (n:=10) (ρ:=[ak (.scr ns),ak (rsD rs),ak (tD ks),ak (iD qs),ak (oD os),ak (rsD (Xn (c0.map toI))),ak (Zas L w n),ao,ao,ao]) (e:=Ya Zcs (Zc (fA Yw (Zc (fV 10) Zt)) Zt)) (enc:=iD) (v:=fun r=>iD r.reverse) (xs:=rs) rfl fun r _=>Xm (Zd (Jj (Zd rfl rfl) (Zhq r)) rfl) (Zaq (Zat (Zej rfl (by simp[Zzf,iD]))));refine(Zei rfl (Zdp rfl (by rw[Ai];show _<=1000000;omega)) cp).trans (ah R.ok ?_);unfold rsD;rw[AV];rfl
  have rvl:Xan (rsD rs) (.int (-1))=ak (rsD rs.reverse):=by show ak (D.lst (rs.map iD).reverse)=_;rw[<- Kz];rfl
  have ins:f2 Zgd (f2 Zgd (fSl Xdm (fV 1) Zdd (Zbu (fC (.int 2)))) (fA Jp (Zc (fA Jp Zt) Zt))) (fSl Xdm (fV 1) (Zbu (fC (.int 2))) Zdd) [ak (.scr ns),ak (rsD rs),ak (tD ks),ak (iD qs),ak (oD os),ak (rsD (Xn (c0.map toI))),ak (Zas L w n),ao,ao,ao]=.ok (rsD (rs.take 2++[]::rs.drop 2)):=by
    have a1:Xdm (rsD rs) ao (ak 2)=ak (.lst ((rs.take 2).map iD)):=by show ak (D.lst (cut (rs.map iD) ao (ak 2)))=_;rw[Zqy (by decide),Fo];rfl
    have a2:Xdm (rsD rs) (ak 2) ao=ak (.lst ((rs.drop 2).map iD)):=by show ak (D.lst (cut (rs.map iD) (ak 2) ao))=_;rw[Zsk (by decide),G2];rfl
    have a3:Zgd (.lst ((rs.take 2).map iD)) (.lst [.lst []])=ak (.lst ((rs.take 2).map iD++[.lst []])):=aa (by rw[Ai,BY];show _+1<=1000000;omega);have a4:Zgd (.lst ((rs.take 2).map iD++[.lst []])) (.lst ((rs.drop 2).map iD))=ak (rsD (rs.take 2++[]::rs.drop 2)):=by refine(aa (by rw[Av,Ai,Ai,BY,E6];show _+1+_<=1000000;omega)).trans ?_;unfold rsD;rw[A5,DE];rfl
    exact Zn (Zn (Xtf rfl rfl (Zhp rfl) a1) (Jj (Zd (Jj rfl rfl) rfl) rfl) a3) (Xtf rfl (Zhp rfl) rfl a2) a4
  have ne:=Xsd L w n;obtain⟨o7,o8,o9,tail⟩:∃o7 o8 o9:Option D,sIf (cE (f2 gGt (fA Zbp (Zc (fV 1) Zt)) (fC (.int 0)))) (Xu (Yq 7 (f2 Zgd (fV 1) (fA Jp (Zc (f2 gIx (fV 1) (f2 Zfb (f2 gIx (fV 3) (fC (.int 10))) (fA Zbp (Zc (fV 1) Zt)))) Zt)))) (Xu (Yq 8 (Ya Xa (Zc (fV 7) (Zc (fV 2) (Zc (fV 4) Zt))))) (Xu (sIf (cOr (cE (f2 gGt (f2 gIx (fV 8) (fC (.int 2))) (f2 gIx (fV 6) (fC (.int 2))))) (cE (f2 gLt (f2 gIx (fV 8) (fC (.int 1))) (f2 gIx (fV 6) (fC (.int 1)))))) (Zcb (fC (.bl ar))) sNx) (Zkz (Zai (f2 gIx (fV 6) (fC (.int 0)))) (Zv 9) Zgp)))) sNx [ak (.scr ns),ak (rsD rs),ak (tD ks),ak (iD qs),ak (oD os),ak (rsD (Xn (c0.map toI))),ak (Zas L w n),ao,ao,ao]=.ok (.nx [ak (.scr ns),ak (rsD rs),ak (tD ks),ak (iD qs),ak (oD os),ak (rsD (Xn (c0.map toI))),ak (Zas L w n),o7,o8,o9]):=by
    by_cases g:0<rs.length
    · have hi:=Zjc (x:=qs.getD 10 0) (m:=(rs.length:Int)) (by omega);obtain⟨j,hj⟩:∃j:Nat,qs.getD 10 0%(rs.length:Int)=(j:Int):=⟨_,(Cj hi.1).symm⟩;have hjl:j<rs.length:=by omega
      have ix:gIx (rsD rs) (.int (qs.getD 10 0%(rs.length:Int)))=ak (iD rs[j]):=Xrs (k:=j) hj (by rw[AS,Ag hjl];rfl);have md:Zfb (.int (qs.getD 10 0)) (.int (rs.length:Int))=ak (.int (qs.getD 10 0%(rs.length:Int))):=Zax (by omega);have av:Zgd (rsD rs) (.lst [iD rs[j]])=ak (rsD (rs++[rs[j]])):=by refine(aa (by rw[Ai];show _+1<=1000000;omega)).trans ?_;unfold rsD;rw[A5];rfl
      obtain ⟨L',w',n',ht',tt'⟩:=tell (rs++[rs[j]]) (by rw [Av];show _+1<=900;omega) (fun r hr=>by
        rcases Al.mp hr with q|q;exact h40 r q
        · rw [Ap.mp q];exact h40 _ (Ca hjl))
      obtain ⟨q1,q2,q3⟩:=tt.more hol (by rw [Av];show _+1<=99;omega) (fun l u h=>Lf.more (ss:=[]) hol (by rw [Dy];exact h)) tt';obtain ⟨ρ',⟨o9,rfl⟩,t⟩:=Zfx (enc:=iD) (b:=Zv 9) (s:=Zgp) (xs:=L) (ρ:=[ak (.scr ns),ak (rsD rs),ak (tD ks),ak (iD qs),ak (oD os),ak (rsD (Xn (c0.map toI))),ak (Zas L w n),ak (rsD (rs++[rs[j]])),ak (Zas L' w' n'),ao]) (P:=fun _ ρ=>∃o9:Option D,ρ=[ak (.scr ns),ak (rsD rs),ak (tD ks),ak (iD qs),ak (oD os),ak (rsD (Xn (c0.map toI))),ak (Zas L w n),ak (rsD (rs++[rs[j]])),ak (Zas L' w' n'),o9]) ⟨ao,rfl⟩ (by
        rintro l x r ρ e ⟨o9,rfl⟩;have hx:x∈L:=by rw[e];simp
        have t:Zgp [ak (.scr ns),ak (rsD rs),ak (tD ks),ak (iD qs),ak (oD os),ak (rsD (Xn (c0.map toI))),ak (Zas L w n),ak (rsD (rs++[rs[j]])),ak (Zas L' w' n'),ak (iD x)]=.ok (.nx [ak (.scr ns),ak (rsD rs),ak (tD ks),ak (iD qs),ak (oD os),ak (rsD (Xn (c0.map toI))),ak (Zas L w n),ak (rsD (rs++[rs[j]])),ak (Zas L' w' n'),ak (iD x)]):=Jc (Jq (Zn rfl (Zn rfl rfl rfl) (Xxy (q3 x hx)))) rfl;exact ⟨_,.inl t,_,rfl⟩)
      have hLl:L.length<=63:=by obtain⟨⟨cs,rfl,a2,a3,a4⟩,_⟩:=tt;rw[(L2.Js _).length_eq,Ai];exact a4
      exact⟨_,_,_,Zbz (Jq (Zn (Jj (Zd rfl rfl) (Zhy rs)) rfl (Xiu (by omega)))) (Zq (Xi (Zn rfl (Jj (Zd (Zn rfl (Zn (Zn rfl rfl i10) (Jj (Zd rfl rfl) (Zhy rs)) md) ix) rfl) rfl) av)) (Zq (Xi (Xm (Zd rfl (Zd rfl (Zd rfl rfl))) ht')) (Zq (Jc (Zmt (Jq (Zn (Zn rfl rfl rfl) (Zn rfl rfl rfl) (Ztg (by omega)))) (Jq (Zn (Zn rfl rfl rfl) (Zn rfl rfl rfl) (Ztg (by omega))))) rfl) (Zgh (Zdp (Zn rfl rfl rfl) (by rw[Ai];exact AD hLl (by decide))) t))))⟩
    exact⟨ao,ao,ao,Jc (Jq (Zn (Jj (Zd rfl rfl) (Zhy rs)) rfl (Ztg (by omega)))) rfl⟩
  have chk:Xpn (cE (f2 gGt (f2 gIx (fV 3) (fC (.int 8))) (fC (.int 0)))) (cE (f2 gGt (f2 gIx (fV 6) (fC (.int 2))) (fA Zbp (Zc (fV 1) Zt)))) [ak (.scr ns),ak (rsD rs),ak (tD ks),ak (iD qs),ak (oD os),ak (rsD (Xn (c0.map toI))),ak (Zas L w n),ao,ao,ao]=.ok false:=by
    by_cases q8:0<qs.getD 8 0;obtain⟨u,hu⟩:=hz q8;have:n<=rs.length:=by rcases tt.2.2 with⟨_,z⟩|⟨z,_⟩;exact af hu (z u);exact z.used
    exact Xpf (Jq (Zn (Zn rfl rfl i8) rfl (Xiu q8))) (Jq (Zn (Zn rfl rfl rfl) (Jj (Zd rfl rfl) (Zhy rs)) (Ztg (by omega))));exact Xkt (Jq (Zn (Zn rfl rfl i8) rfl (Ztg q8)))
  have m8:Zag (.lst ([3].map D.int)) (.int 8)=ak (iD (Ab 8 [(3:Int)]).flatten):=Zki (ws:=[3]) (m:=8) (by decide) (by decide) (by decide);have a8:Jn (iD (Ab 8 [(3:Int)]).flatten) (iD [4,81,4])=ak (iD ((Ab 8 [(3:Int)]).flatten++[4,81,4])):=Zkf (by decide);exact Zaq (Zq (r_asg (Xm (Zd rfl (Zd rfl (Zd rfl (Zd rfl (Zd rfl rfl))))) hrolls) rfl)
    (Zq (Xi (Xm (Zd rfl (Zd rfl (Zd (Zn (Zn (Jj (Zd rfl rfl) rfl) rfl m8) (Jj (Zd rfl (Zd rfl (Zd rfl rfl))) rfl) a8) rfl))) hrow))
    (hord _ _ (Zq (Xi (Xm (args ao) hl0)) (Zq hset
    (Zq (Xi (Xm (Zd rfl (Zd rfl (Zd rfl rfl))) ht))
    (Zq (Jc chk rfl)
    (Zq (Jc (Jq (Zn (Xm (Zd tru (Zd rfl (Zd rfl rfl))) t1) rfl ne)) rfl)
    (Zq (Jc (Jq (Zn (Xm (Zd (Zn rfl (Zej rfl rfl) rvl) (Zd rfl (Zd rfl rfl))) t2) rfl ne)) rfl)
    (Zq (Jc (Jq (Zn (Xm (Zd ins (Zd rfl (Zd rfl rfl))) t3) rfl ne)) rfl)
    (Zq tail (Zat rfl))))))))))))
end Dl
set_option maxHeartbeats 4000000
namespace K68
open PySem PySem.Spec PyProof.Rows L2
open Dl (D R FE FT FA FO FS FI FB Fl)
def top(i:Nat):Stmt:=PySem.Challenge.pw_selvage_k68_whole_turned_and_otherwise.main.body.getD i (.Pass ⟨0,0,0,0⟩)
abbrev Zpq:Stmt:=top 6
abbrev Zpz:Stmt:=top 7
abbrev Xkl:Stmt:=top 9
abbrev Zop:Stmt:=top 11
abbrev Znm:Stmt:=top 12
abbrev Zbr:Stmt:=top 16
abbrev Zdg:Stmt:=top 17
abbrev Zjo:Stmt:=top 18
abbrev Zdb:Stmt:=top 19
abbrev Zbf:Stmt:=top 20
abbrev Zex:Stmt:=top 21
abbrev Xon:Stmt:=top 22
abbrev Zgq:Stmt:=top 23
abbrev Zfq:Stmt:=top 25
abbrev Zgz:Stmt:=top 26
abbrev Zhd:Stmt:=top 27
abbrev Zdn:Stmt:=top 28
abbrev Zfj:Stmt:=top 29
abbrev Zfo:Stmt:=top 30
abbrev Zbx:Stmt:=top 31
abbrev Zaw:Stmt:=top 32
abbrev Jf:Stmt:=top 33
abbrev Xgt:Stmt:=top 34
abbrev Jv:Stmt:=top 17
abbrev Zau:Stmt:=top 12
abbrev Zaz:Stmt:=top 12
theorem Zsh:Xc ["roll","begin","end"] ["roll","begin","end"] (Zh Zpq):=by constructor<;>first|rfl|decide+kernel
theorem Zrz:Xc ["roll"] ["roll"] (Zh Zpz):=by constructor<;>first|rfl|decide+kernel
theorem Xka:Xc ["roll","kind","place","end"] ["roll","kind","place"] (Zh Xkl):=by constructor<;>first|rfl|decide+kernel
theorem Zrh:Xc ["order","product","number"] ["order"] (Zh Zop):=by constructor<;>first|rfl|decide+kernel
theorem Xrd:Xc ["order","some"] ["order","some"] (Zh Znm):=by constructor<;>first|rfl|decide+kernel
theorem Zfs:Xc ["rolls","order"] ["rolls","order"] (Zh Zbr):=by constructor<;>first|rfl|decide+kernel
theorem Xba:Xc ["row","ahead","place","wanted","piece","cut","cutting","more"] ["row","ahead","place","wanted","piece"] (Zh Zdg):=by constructor<;>first|rfl|decide+kernel
theorem Zmb:Xc ["roll","table","order","rows","end","row","place","kind","begin"] ["roll","table","order"] (Zh Zjo):=by constructor<;>first|rfl|decide+kernel
theorem Zhn:Xc ["plans","cuts","more","left","ahead","cut","cutting","rest","used"] ["plans","cuts"] (Zh Zdb):=by constructor<;>first|rfl|decide+kernel
theorem Zcl:Xc ["rolls","table","order","plans","roll"] ["rolls","table","order"] (Zh Zbf):=by constructor<;>first|rfl|decide+kernel
theorem Zje:Xc ["rolls","table","order"] ["rolls","table","order"] (Zh Zex):=by constructor<;>first|rfl|decide+kernel
theorem Xix:Xc ["rolls","table","order","plans","nothing"] ["rolls","table","order"] (Zh Xon):=by constructor<;>first|rfl|decide+kernel
theorem Zlx:Xc ["rolls","table","order","plans","worths","left"] ["rolls","table","order"] (Zh Zgq):=by constructor<;>first|rfl|decide+kernel
theorem Zhw:Xc ["_law_script","_law_place","_law_seed","_law_cell_here"] ["_law_script","_law_place"] (Zh Zfq):=by constructor<;>first|rfl|decide+kernel
theorem Zjg:Xc ["_law_cell_here","_law_k","_law_one","_law_two"] ["_law_cell_here","_law_k"] (Zh Zgz):=by constructor<;>first|rfl|decide+kernel
theorem Zjb:Xc ["_law_script","_law_place","_law_sizes","_law_cell_here","_law_left","_law_some","_law_k","_law_other"] ["_law_script","_law_place","_law_sizes"] (Zh Zhd):=by constructor<;>first|rfl|decide+kernel
theorem Zga:Xc ["_law_script","_law_place","_law_most","_law_pool","_law_some","_law_flaw_here","_law_gain","_law_table_here","_law_k","_law_at","_law_width","_law_worth","_law_allowed","_law_name"] ["_law_script","_law_place","_law_most"] (Zh Zdn):=by constructor<;>first|rfl|decide+kernel
theorem Zhu:Xc ["_law_script","_law_place","_law_most"] ["_law_script","_law_place","_law_most"] (Zh Zfj):=by constructor<;>first|rfl|decide+kernel
theorem Zhs:Xc ["_law_script","_law_place","_law_most","_law_flaw_here","_law_some","_law_great","_law_roll_here","_law_k","_law_at","_law_weight"] ["_law_script","_law_place","_law_most","_law_flaw_here"] (Zh Zfo):=by constructor<;>first|rfl|decide+kernel
theorem Zfw:Xc ["_law_script","_law_place","_law_most","_law_cells","_law_kinds","_law_flaw_here","_law_table_here","_law_count","_law_rolls_here"] ["_law_script","_law_place","_law_most","_law_cells","_law_kinds"] (Zh Zbx):=by constructor<;>first|rfl|decide+kernel
theorem Zel:Xc ["_law_rolls_here","_law_table_here","_law_order"] ["_law_rolls_here","_law_table_here","_law_order"] (Zh Zaw):=by constructor<;>first|rfl|decide+kernel
theorem Zco:Xc ["_law_rolls_here","_law_table_here","_law_order","_law_left","_law_worth"] ["_law_rolls_here","_law_table_here","_law_order"] (Zh Jf):=by constructor<;>first|rfl|decide+kernel
theorem Xvu:Xc ["_law_script","_law_rolls_here","_law_table_here","_law_some","_law_order","_law_left","_law_due","_law_more","_law_other","_law_one"] ["_law_script"] (Zh Xgt):=by constructor<;>first|rfl|decide+kernel
theorem Zbc:Xc ["row","ahead","place","wanted","piece","cut","cutting","more"] ["row","ahead","place","wanted","piece"] (Zh Jv):=by constructor<;>first|rfl|decide+kernel
theorem Zeg:Xc ["order","some"] ["order","some"] (Zh Zau):=by constructor<;>first|rfl|decide+kernel
theorem Zec:Xc ["order","some"] ["order","some"] (Zh Zaz):=by constructor<;>first|rfl|decide+kernel
structure Txt(mg:Str->Option Value)(K:AN)(C:String->Addr):Prop where
 sum:mg "sum"=ao
 len:mg "len"=ao
 list:mg "list"=ao
 reversed:mg "reversed"=ao
 zip:mg "zip"=ao
 any:mg "any"=ao
 range:mg "range"=ao
 dict:mg "dict"=ao
 enumerate:mg "enumerate"=ao
 tuple:mg "tuple"=ao
 min:mg "min"=ao
 sorted:mg "sorted"=ao
 LONGEST_ROLL:∃t,mg "LONGEST_ROLL"=Lh (.int 40 t)
 MOST_STATES:∃t,mg "MOST_STATES"=Lh (.int 120 t)
 mNoPlace:mg "NoPlace"=ak (.ref (C "NoPlace"))
 eNoPlace:Zph K (C "NoPlace")
 mTooBig:mg "TooBig"=ak (.ref (C "TooBig"))
 eTooBig:Zph K (C "TooBig")
 mShort:mg "Short"=ak (.ref (C "Short"))
 eShort:Zph K (C "Short")
 sShort_NoPlace:Dq K (.ref (C "Short")) (.ref (C "NoPlace"))=ak ar
 sShort_TooBig:Dq K (.ref (C "Short")) (.ref (C "TooBig"))=ak ar
abbrev tsL(P1:Addr):List (Addr×Pos×Str):=[(P1,⟨83,32,83,67⟩,"richest.<locals>.<lambda>")]
variable{C:String->Addr}{K:AN}{P:AR}{base:Bg}{f:Addr}{fd:CH}{mg:Str->Option Value}{w:Bk}
theorem Xda(F:Fun K "spoilt" "spoilt" Zpq f fd)(T:Txt mg K C):Zap P w K mg base CX0 7 f fd ["roll","begin","end"] (spD K C 3 2 Dl.Zcw):=by
  refine F.okC Zsh (Γ':=[]) (Δ':=[]) rfl fun cdv A outer s H E hr=>?_;have sc:=Zsh;have hu:_+64<BE:=hr.units;exact ⟨_,(Zg [] [] (Zab (Xvz (Zwt (Xy Zjm Zeo (Zl 1) Ze (Yg _)) (Zwt (Xy Zge Zca (Zl 2) (Xo (r:=Zbq K) Yd Jl rfl T.len PySem.boot_len (Zb (Zl 0) Zj Za) (he:=Za)) (Yg _)) (Zrc (Xy Zge Zca (Zl 1) (Zl 2) (Yg _)))))) (Zm Zlb) Xz)
      (Zm (Yc (Xo (r:=Xrq K) (Zkn rfl) Zpm rfl T.sum Ez (Zb (Xpu K (Zl 0) (Zck (Zl 1)) (Zck (Zl 2))) Zj Yf) (he:=Yf)))))⟩
theorem Xcy(F:Fun K "turned" "turned" Zpz f fd)(T:Txt mg K C):Zap P w K mg base CX0 7 f fd ["roll"] (spD K C 1 2 Dl.Zcs):=by refine F.okC Zrz (Γ':=[]) (Δ':=[]) rfl fun cdv A outer s H E hr=>?_;have sc:=Zrz;have hu:_+64<BE:=hr.units;exact⟨_,(Zm (Yc (Xls K rfl T.list rfl T.reversed (Zl 0) Za)))⟩
theorem Xdf(F:Fun K "states" "states" Zop f fd)(T:Txt mg K C):Zap P w K mg base CX0 7 f fd ["order"] (spD K C 1 2 Dl.Zfa):=by
  refine F.okC Zrh (Γ':=[]) (Δ':=[]) rfl fun cdv A outer s H E hr=>?_;have sc:=Zrh;have hu:_+64<BE:=hr.units;exact ⟨_,(Zg [1] [1] (Zx (i:=1) sc.nd rfl (Ax rfl) Ze)
      (Zg [1] [1] (Zch [1] [1] BH rfl (Zar (Zl 0)) (Jo (i:=2) (hN:=sc.nd) (hi:=rfl) (hx:=Ax rfl)) (Zm (Xmv (i:=1) sc.nd rfl (Ax rfl) (Zs Zz Xb (Zl 2) Ze))))
      (Zm (Yc (Zkg 1)))))⟩
theorem Zku(F:Fun K "together" "together" Zau f fd)(T:Txt mg K C):Zap P w K mg base CX0 7 f fd ["order","some"] (spD K C 2 2 Dl.Yh):=by
 refine F.okC Zeg (Γ':=[]) (Δ':=[]) rfl fun cdv A outer s H E hr=>?_;have sc:=Zeg;have hu:_+64<BE:=hr.units;have nd0:CO (["order","some","number","one"]:List Str):=by decide+kernel
 exact⟨_,(Zm (Yc (Xo (r:=Xrq K) (Zkn rfl) Zpm rfl T.sum Ez (Zb (Zao (n:=2) (Zh Zau) ["order","some"] ["order","some"] ["number","one"] (by constructor<;>first|rfl|decide+kernel) (Xnd rfl T.zip (Zl 0) (Zl 1) Za Za) (fun _ _ _ _ _=>(Zqk K (Zbb (Yv 2 (hN:=nd0)) (Zbb (Yv 3 (hN:=nd0)) Zjn)))) (fun _ _ _ _ _=>Jw) (fun _ _ _ _ _=>(Zs Xv Xw (Zl 2 (hv:=Ax rfl)) (Zl 3 (hv:=Ax rfl))))) Zj Xl) (he:=Xl))))⟩
theorem Zjy(F:Fun K "together" "together" Zaz f fd)(T:Txt mg K C):Zap P w K mg base CX0 7 f fd ["order","some"] (spD K C 2 2 Dl.Yy):=by
 refine F.okC Zec (Γ':=[]) (Δ':=[]) rfl fun cdv A outer s H E hr=>?_;have sc:=Zec;have hu:_+64<BE:=hr.units;have nd0:CO (["order","some","number","one"]:List Str):=by decide+kernel
 exact⟨_,(Zm (Yc (Xo (r:=Xrq K) (Zkn rfl) Zpm rfl T.sum Ez (Zb (Zao (n:=2) (Zh Zaz) ["order","some"] ["order","some"] ["number","one"] (by constructor<;>first|rfl|decide+kernel) (Zxu rfl T.zip (Zl 0) (Zl 1) Za Za) (fun _ _ _ _ _=>(Zqk K (Zbb (Yv 2 (hN:=nd0)) (Zbb (Yv 3 (hN:=nd0)) Zjn)))) (fun _ _ _ _ _=>Jw) (fun _ _ _ _ _=>(Zs Xv Xw (Zl 2 (hv:=Ax rfl)) (Zl 3 (hv:=Ax rfl))))) Zj Xl) (he:=Xl))))⟩
theorem Zek(F:Fun K "add_with_last" "add_with_last" Jv f fd)(T:Txt mg K C):Zap P w K mg base CX0 7 f fd ["row","ahead","place","wanted","piece"] (spM K C 4 Dl.Ye):=by refine F.okM Zbc rfl fun cdv A outer s H E hr=>?_;have sc:=Zbc;have hu:_+64<BE:=hr.units;exact⟨_,(Xuc (Xsp [0] [0] BH rfl (Zlm (Zl 1)) (Xps rfl (Znj (Zqx (i:=5) (hN:=sc.nd) (hi:=rfl) (hx:=Ax rfl)) (Znj (Zqx (i:=6) (hN:=sc.nd) (hi:=rfl) (hx:=Ax rfl)) Xef))) (Zpc (Xvl (Xy Zjm Zeo (Xg K (Zl 5) (Zl 2) Yn) (Zl 3) (Yg _)) (Xdx [0,7] [0,7] (Xho [0,7] [0,7] (Xxi (i:=7) sc.nd rfl (Ax rfl) (Zs Zxk Zqi (Zs Zxk Zqi (Xjk K (Zl 5) Zfd (Zck (Zl 2))) (Zma (Zi (Zs Zz Xb (Xg K (Zl 5) (Zl 2) Yn) Ze) Zj Zu))) (Xjk K (Zl 5) (Zck (Zs Zz Xb (Zl 2) Ze)) Zfd))) (Zpc (Xvl (Xy (Zpf hu) Zrq (Zl 7) (Zl 0) rfl) (Zpc (Xkn (i:=0) (he:=(Zsu (Zs Zwq Zrj (Zl 6) (Zie (Zb (Zl 4) Zj Za))))) (hk:=(Zl 7)) (hu:=hu))) Zvq)))) Zvq))))⟩
theorem Zpw(F:Fun K "with_roll" "with_roll" Zdb f fd)(T:Txt mg K C):Zap P w K mg base CX0 7 f fd ["plans","cuts"] (spD K C 2 2 Dl.Zaj):=by
  refine F.okC Zhn (Γ':=[]) (Δ':=[]) rfl fun cdv A outer s H E hr=>?_;have sc:=Zhn;have hu:_+64<BE:=hr.units;have nd0:CO (["plans","cuts","more","left","ahead","cut","cutting","rest","used","number","gone"]:List Str):=by decide+kernel
  exact ⟨_,(Zg [2] [2] (Zx (i:=2) sc.nd rfl (Ax rfl) Xoy)
      (Zg [2] [2] (Zch [2] [2] BH rfl (Zlm (Zl 0)) (Xbv rfl (Zdc (Jo (i:=3) (hN:=sc.nd) (hi:=rfl) (hx:=Ax rfl)) (Zdc (Jo (i:=4) (hN:=sc.nd) (hi:=rfl) (hx:=Ax rfl)) Zob))) (Zm (Zch [2] [2] BH rfl (Zlm (Zl 1)) (Xbv rfl (Zdc (Jo (i:=5) (hN:=sc.nd) (hi:=rfl) (hx:=Ax rfl)) (Zdc (Jo (i:=6) (hN:=sc.nd) (hi:=rfl) (hx:=Ax rfl)) Zob))) (Zbw [2,7,8] [2,7,8] (Zg [2,7] [2,7] (Zx (i:=7) sc.nd rfl (Ax rfl) (Xj (r:=Zut K) Zer Zgm rfl T.tuple Dm (Zb (Zao (n:=9) (Zh Zdb) ["plans","cuts","more","left","ahead","cut","cutting","rest","used"] ["plans","cuts","more","left","ahead","cut","cutting","rest","used"] ["number","gone"] ⟨rfl,by decide +kernel,by decide +kernel,by decide +kernel,by decide +kernel,by decide +kernel,rfl,by decide +kernel⟩ (Xpk rfl T.zip (Zl 3) (Zl 5) Za Za) (fun _ _ _ _ _=>(Zqk K (Zbb (Yv 9 (hN:=nd0)) (Zbb (Yv 10 (hN:=nd0)) Zjn)))) (fun _ _ _ _ _=>Jw) (fun _ _ _ _ _=>(Zs Znd Zhv (Zl 9 (hv:=Ax rfl)) (Zl 10 (hv:=Ax rfl))))) Zj Xl) (he:=Xl)))
      (Zg [2,7] [2,7] (Zab (Xy Zjm Zeo (Xfv K rfl T.min (Zl 7) Ze Za) Ze (Yg _)) (Zm Xss) Xz)
      (Zg [2,7,8] [2,7,8] (Zx (i:=8) sc.nd rfl (Ax rfl) (ce_if (Xnx (Zl 6)) (Zs Zz Xb (Xg K (Zl 4) Ze Zk) Ze) (Yj (Xg K (Zl 4) Ze Zk))))
      (Zm (Zab (Xvz (Zwt (Xy (Zpf hu) Zrq (Zl 7) (Zl 2) rfl) (Zrc (Xy Zjm Zeo (Zl 8) (Xg K (Xvy (Zl 2) (Zl 7) hu) Ze Zk) (Yg _))))) (Zm (Xqd (i:=2) (he:=(Zyw (Zb (Zl 8) (Zb (Zsu (Zs Zwq Zrj (Xg K (Zl 4) Ze Zk) (Zie (Zb (Zl 6) Zj Za)))) Zj Zu) Za))) (hk:=(Zl 7)) (hu:=hu))) Xz)))))))))
      (Zm (Xhe (i:=2)))))⟩
theorem Zot(F:Fun K "_law_cell" "_law_cell" Zfq f fd)(T:Txt mg K C):Zap P w K mg base CX0 7 f fd ["_law_script","_law_place"] (spD K C 2 2 Dl.Jt):=by
  refine F.okC Zhw (Γ':=[]) (Δ':=[]) rfl fun cdv A outer s H E hr=>?_;have sc:=Zhw;have hu:_+64<BE:=hr.units;exact ⟨_,(Zg [] [] (Zab (Xy Zjm Zeo (Zl 1) (Xo (r:=Zbq K) Yd Jl rfl T.len PySem.boot_len (Zb (Zl 0) Zj Za) (he:=Za)) (Yg _)) (Zm (Yc (Yj (Xg K (Zl 0) (Zl 1) Yn)))) Xz)
      (Zg [2] [2] (Zx (i:=2) sc.nd rfl (Ax rfl) Ze)
      (Zg [2] [2] (Zch [2] [2] BH rfl (Zar (Xpu K (Zl 0) Zfd (Zck Ze))) (Jo (i:=3) (hN:=sc.nd) (hi:=rfl) (hx:=Ax rfl)) (Zm (Zx (i:=2) sc.nd rfl (Ax rfl) (Zs Zad Jb (Zs Zz Xb (Zs Zz Xb (Zs Xv Xw (Zl 2) Ze) (Zs Zad Jb (Zl 3) Ze)) Ze) Ze))))
      (Zm (Yc (Zs Zad Jb (Zs Zz Xb (Zl 2) (Zs Xv Xw Ze (Zl 1))) Ze))))))⟩
theorem Zte(F:Fun K "_law_mix" "_law_mix" Zgz f fd)(T:Txt mg K C):Zap P w K mg base CX0 7 f fd ["_law_cell_here","_law_k"] (spD K C 2 2 Dl.Zah):=by
  refine F.okC Zjg (Γ':=[]) (Δ':=[]) rfl fun cdv A outer s H E hr=>?_;have sc:=Zjg;have hu:_+64<BE:=hr.units;exact ⟨_,(Zg [2] [2] (Zx (i:=2) sc.nd rfl (Ax rfl) (Zs Zad Jb (Zs Zdz Zbt (Zs Zz Xb (Zs Zz Xb (Zs Zad Jb (Zl 0) Ze) (Zs Xv Xw Ze (Zl 1))) Ze) Ze) Ze))
      (Zg [2,3] [2,3] (Zx (i:=3) sc.nd rfl (Ax rfl) (Zs Zad Jb (Zs Zz Xb (Zs Zz Xb (Zs Xv Xw (Zl 2) Ze) (Zs Xv Xw (Zs Xv Xw Ze (Zl 1)) (Zl 1))) Ze) Ze))
      (Zm (Yc (Zs Zqv Xac (Zl 3) Ze)))))⟩
theorem Xua(F:Fun K "fits" "fits" Xkl f fd)(T:Txt mg K C)(Dspoilt:Def P w K mg base CX0 7 "spoilt" ["roll","begin","end"] (spD K C 3 2 Dl.Zcw)):Zap P w K mg base CX0 8 f fd ["roll","kind","place"] (spD K C 3 2 Dl.Znp):=by
  refine F.okC Xka (Γ':=[]) (Δ':=[]) rfl fun cdv A outer s H E hr=>?_;have sc:=Xka;have hu:_+64<BE:=hr.units;exact ⟨_,(Zg [3] [3] (Zx (i:=3) sc.nd rfl (Ax rfl) (Zs Zz Xb (Zl 2) (Xg K (Zl 1) Ze Zk)))
      (Zg [3] [3] (Zab (Xvz (Zwt (Xy Zjm Zeo (Zl 2) Ze (Yg _)) (Zrc (Xy Zge Zca (Zl 3) (Xo (r:=Zbq K) Yd Jl rfl T.len PySem.boot_len (Zb (Zl 0) Zj Za) (he:=Za)) (Yg _))))) (Zm (Yc Zmk)) Xz)
      (Zm (Yc (Xkb op_le Xvh (Xk Dspoilt (hr.mono (by decide)) rfl Yu (Zb (Zl 0) (Zb (Zl 2) (Zb (Zl 3) Zj Za) Za) Za) (he:=Za)) (Xg K (Zl 1) Ze Zk) (Yg _))))))⟩
theorem Zlr(F:Fun K "refuse_big" "refuse_big" Zbr f fd)(T:Txt mg K C)(Dstates:Def P w K mg base CX0 7 "states" ["order"] (spD K C 1 2 Dl.Zfa)):Zap P w K mg base CX0 8 f fd ["rolls","order"] (spD K C 2 2 Dl.Jz):=by
  refine F.okC Zfs (Γ':=[]) (Δ':=[]) rfl fun cdv A outer s H E hr=>?_;have sc:=Zfs;have hu:_+64<BE:=hr.units;have nd0:CO (["rolls","order","roll"]:List Str):=by decide+kernel
  exact ⟨_,(Zg [] [] (Zab (Xje (Xo (r:=Xdh K) (Zzt rfl) Xng rfl T.any LY (Zb (Zao (n:=2) (Zh Zbr) ["rolls","order"] ["rolls","order"] ["roll"] ⟨rfl,by decide +kernel,by decide +kernel,by decide +kernel,by decide +kernel,by decide +kernel,rfl,by decide +kernel⟩ (Zar (Zl 0)) (fun _ _ _ _ _=>(Yv 2 (hN:=nd0))) (fun _ _ _ _ _=>Jw) (fun _ _ _ _ _=>(Xkb Zge Zca (Xo (r:=Zbq K) Yd Jl rfl T.len PySem.boot_len (Zb (Zl 2 (hv:=Ax rfl)) Zj Za) (he:=Za)) (Zyn rfl T.LONGEST_ROLL.choose_spec ⟨_,rfl⟩) (Yg _)))) Zj Xl) (he:=Xl))) (Zm Zlb) Xz)
      (Zm (Zab (Xy Zge Zca (Xk Dstates (hr.mono (by decide)) rfl Yu (Zb (Zl 1) Zj Za) (he:=Za)) (Zyn rfl T.MOST_STATES.choose_spec ⟨_,rfl⟩) (Yg _)) (Zm Zlb) Xz)))⟩
theorem Zvl(F:Fun K "_law_row" "_law_row" Zhd f fd)(T:Txt mg K C)(D_law_cell:Def P w K mg base CX0 7 "_law_cell" ["_law_script","_law_place"] (spD K C 2 2 Dl.Jt))(D_law_mix:Def P w K mg base CX0 7 "_law_mix" ["_law_cell_here","_law_k"] (spD K C 2 2 Dl.Zah)):Zap P w K mg base CX0 8 f fd ["_law_script","_law_place","_law_sizes"] (spD K C 3 2 Dl.Xt):=by
  refine F.okC Zjb (Γ':=[]) (Δ':=[]) rfl fun cdv A outer s H E hr=>?_;have sc:=Zjb;have hu:_+64<BE:=hr.units;exact ⟨_,(Zg [3] [3] (Zx (i:=3) sc.nd rfl (Ax rfl) (Xk D_law_cell (hr.mono (by decide)) rfl Yu (Zb (Zl 0) (Zb (Zl 1) Zj Za) Za) (he:=Za)))
      (Zg [3,4] [3,4] (Zx (i:=4) sc.nd rfl (Ax rfl) (Yj (Zl 3)))
      (Zg [3,4,5] [3,4,5] (Zx (i:=5) sc.nd rfl (Ax rfl) (Yp Zj))
      (Zg [3,4,5] [3,4,5] (Zch [3,4,5] [3,4,5] BH rfl (Zks rfl T.range (Zb (Xo (r:=Zbq K) Yd Jl rfl T.len PySem.boot_len (Zb (Zl 2) Zj Za) (he:=Za)) Zj Xp)) (Jo (i:=6) (hN:=sc.nd) (hi:=rfl) (hx:=Ax rfl)) (Zm (Zab (Xy Zjm Zeo (Zl 3) (Zs Zdz Zbt Ze Ze) (Yg _)) (Zm (Zni (i:=5) (he:=(Zs Zad Jb (Xk D_law_mix (hr.mono (by decide)) rfl Yu (Zb (Zl 3) (Zb (Zl 6) Zj Za) Za) (he:=Za)) (Xg K (Zl 2) (Zl 6) Yn))) (hse:=Zu))) (Zm (Zab (Xy Zge Zca (Zl 4) Ze (Yg _)) (Zg [3,4,5] [3,4,5] (Zni (i:=5) (he:=(Zs Zad Jb (Zl 4) (Xg K (Zl 2) (Zl 6) Yn))) (hse:=Zu))
      (Zm (Zx (i:=4) sc.nd rfl (Ax rfl) (Zs Zqv Xac (Zl 4) (Xg K (Zl 2) (Zl 6) Yn))))) (Zbw [3,4,5,7] [3,4,5,7] (Zg [3,4,5,7] [3,4,5,7] (Zx (i:=7) sc.nd rfl (Ax rfl) (Xk D_law_cell (hr.mono (by decide)) rfl Yu (Zb (Zl 0) (Zb (Zs Zad Jb (Zs Zz Xb (Zs Zz Xb (Zl 1) Ze) (Zl 6)) Ze) Zj Zu) Za) (he:=Za)))
      (Zm (Zni (i:=5) (he:=(Zs Zad Jb (Xk D_law_mix (hr.mono (by decide)) rfl Yu (Zb (Zl 7) (Zb (Zl 6) Zj Za) Za) (he:=Za)) (Xg K (Zl 2) (Zl 6) Yn))) (hse:=Zu))))))))))
      (Zm (Yc (Zkg 5)))))))⟩
theorem Zyf(F:Fun K "cuts_of" "cuts_of" Zjo f fd)(T:Txt mg K C)(Dfits:Def P w K mg base CX0 8 "fits" ["roll","kind","place"] (spD K C 3 2 Dl.Znp))(Dadd_with_last__W:Def P w K mg base CX0 7 "add_with_last" ["row","ahead","place","wanted","piece"] (spM K C 4 Dl.Ye)):Zap P w K mg base CX0 9 f fd ["roll","table","order"] (spD K C 3 2 Dl.Zci):=by
  refine F.okC Zmb (Γ':=[]) (Δ':=[]) rfl fun cdv A outer s H E hr=>?_;have sc:=Zmb;have hu:_+64<BE:=hr.units;exact ⟨_,(Zg [3] [3] (Zx (i:=3) sc.nd rfl (Ax rfl) (Yp (Zi (Xjq (Ztd (Xj (r:=Zut K) Zer Zgm rfl T.tuple Dm (Zb (Zs Xv Xw (Yp (Zi Ze Zj Zf)) (Xo (r:=Zbq K) Yd Jl rfl T.len PySem.boot_len (Zb (Zl 2) Zj Za) (he:=Za))) Zj Zu) (he:=Zu)) (Zsu (Yp Zj)) hu)) Zj Xbn)))
      (Zg [3] [3] (Zch [3] [3] BH rfl (Xqv rfl T.range (Zb Ze (Zb (Zs Zz Xb (Xo (r:=Zbq K) Yd Jl rfl T.len PySem.boot_len (Zb (Zl 0) Zj Za) (he:=Za)) Ze) Zj Zu) Zf)) (Jo (i:=4) (hN:=sc.nd) (hi:=rfl) (hx:=Ax rfl)) (Zg [3,5] [3,5] (Zx (i:=5) sc.nd rfl (Ax rfl) (Xj (r:=Xbk) Ztw Xah rfl T.dict LX (Zb (Xg K (Zl 3) (Zxd Ze) Zrd) Zj Yf) (he:=Yf)))
      (Zg [3,5] [3,5] (Zch [3,5] [3,5] BH rfl (Xnl rfl T.enumerate (Zl 1) Za) (Xbv rfl (Zdc (Jo (i:=6) (hN:=sc.nd) (hi:=rfl) (hx:=Ax rfl)) (Zdc (Jo (i:=7) (hN:=sc.nd) (hi:=rfl) (hx:=Ax rfl)) Zob))) (Zbw [3,5,8] [3,5,8] (Zg [3,5,8] [3,5,8] (Zx (i:=8) sc.nd rfl (Ax rfl) (Zs Znd Zhv (Zl 4) (Xg K (Zl 7) Ze Zk)))
      (Zm (Zab (Xje (Xk Dfits (hr.mono (by decide)) rfl Yu (Zb (Zl 0) (Zb (Zl 7) (Zb (Zl 8) Zj Za) Za) Za) (he:=Za))) (Zm (Xgq (Xfh 5 Dadd_with_last__W (hr.mono (by decide)) rfl Yu (Zb (Xg K (Zl 3) (Zl 8) Yn) (Zb (Zl 6) (Zb (Xg K (Zl 2) (Zl 6) Yn) (Zb (Zyw (Zb (Zl 8) (Zb (Xg K (Zl 7) Ze Zk) Zj Yf) Za)) Zj Zrf) Yf) Za) Yf) (he:=Za)))) Xz)))))
      (Zm (Xhl (i:=3) (j:=5))))))
      (Zm (Yc (Yj (Xg K (Zl 3) (Zxd Ze) Zrd))))))⟩
theorem Zlp(F:Fun K "_law_table" "_law_table" Zdn f fd)(T:Txt mg K C)(D_law_row:Def P w K mg base CX0 8 "_law_row" ["_law_script","_law_place","_law_sizes"] (spD K C 3 2 Dl.Xt)):Zap P w K mg base CX0 9 f fd ["_law_script","_law_place","_law_most"] (spD K C 3 2 Dl.Jy):=by
  refine F.okC Zga (Γ':=[]) (Δ':=[]) rfl fun cdv A outer s H E hr=>?_;have sc:=Zga;have hu:_+64<BE:=hr.units;exact ⟨_,(Zg [3] [3] (Zx (i:=3) sc.nd rfl (Ax rfl) (Yp (Zi Jx (Zi Jx (Zi Jx (Zi Jx (Zi Jx (Zi Jx (Zi Jx (Zi Jx (Zi Jx (Zi Jx Zj Zf) Zf) Zf) Zf) Zf) Zf) Zf) Zf) Zf) Zf)))
      (Zg [3] [3] (Zx (i:=3) sc.nd rfl (Ax rfl) (Zs Zz Xb (Zl 3) (Yp (Zi Jx (Zi Jx (Zi Jx (Zi Jx (Zi Jx (Zi Jx Zj Zf) Zf) Zf) Zf) Zf) Zf))))
      (Zg [3,4] [3,4] (Zx (i:=4) sc.nd rfl (Ax rfl) (Xk D_law_row (hr.mono (by decide)) rfl Yu (Zb (Zl 0) (Zb (Zl 1) (Zb (Zs Zz Xb (Yp (Zi (Zs Zz Xb (Zl 2) Ze) (Zi Ze (Zi Ze (Zi Ze (Zi Ze (Zi Ze Zj Zf) Zf) Zf) Zf) Zf) Zu)) (Zs Xv Xw (Yp (Zi Ze (Zi Ze (Zi Ze Zj Zf) Zf) Zf)) (Zl 2))) Zj Zu) Za) Za) (he:=Za)))
      (Zg [3,4,5] [3,4,5] (Zx (i:=5) sc.nd rfl (Ax rfl) (Yj (Xg K (Yp (Zi Ze (Zi Ze (Zi Ze (Zi (Zs Zdz Zbt Ze Ze) Zj Zu) Zf) Zf) Zf)) (Xg K (Zl 4) Ze Zk) Zan)))
      (Zg [3,4,5,6] [3,4,5,6] (Zx (i:=6) sc.nd rfl (Ax rfl) (Yj (Xg K (Yp (Zi Ze (Zi Ze (Zi (Zs Zdz Zbt Ze Ze) (Zi (Zs Xv Xw Ze (Zs Zdz Zbt Ze Ze)) Zj Zu) Zu) Zf) Zf)) (Xg K (Zl 4) Ze Zk) Zan)))
      (Zg [3,4,5,6,7] [3,4,5,6,7] (Zx (i:=7) sc.nd rfl (Ax rfl) (Yp Zj))
      (Zg [3,4,5,6,7] [3,4,5,6,7] (Zch [3,4,5,6,7] [3,4,5,6,7] BH rfl (Zks rfl T.range (Zb (Xg K (Zl 4) Ze Zk) Zj Yf)) (Jo (i:=8) (hN:=sc.nd) (hi:=rfl) (hx:=Ax rfl)) (Zbw [3,4,5,6,7,9,10,11,12,13] [3,4,5,6,7,9,10,11,12,13] (Zg [3,4,5,6,7,9] [3,4,5,6,7,9] (Zx (i:=9) sc.nd rfl (Ax rfl) (Zs Zz Xb (Zs Xv Xw Ze (Zl 8)) Ze))
      (Zg [3,4,5,6,7,9,10] [3,4,5,6,7,9,10] (Zx (i:=10) sc.nd rfl (Ax rfl) (Yj (Xg K (Zie (Zb Ze (Zb Ze (Zb Ze (Zb Ze (Zb Ze (Zb Ze (Zb Ze (Zb Ze (Zb Ze (Zb Ze (Zb (Xg K (Yp (Zi Ze (Zi Ze Zj Zf) Zf)) (Zs Zad Jb (Zl 8) Ze) plain_bin) Zj Yf) Zf) Zf) Zf) Zf) Zf) Zf) Zf) Zf) Zf) Zf)) (Xg K (Zl 4) (Zl 9) Yn) Zan)))
      (Zg [3,4,5,6,7,9,10,11] [3,4,5,6,7,9,10,11] (Zx (i:=11) sc.nd rfl (Ax rfl) (Zs Zz Xb Ze (Xg K (Zl 4) (Zs Zz Xb (Zl 9) Ze) plain_bin)))
      (Zg [3,4,5,6,7,9,10,11] [3,4,5,6,7,9,10,11] (Zab (Xy (r:=Xrt K) (Zql hu) Zrr (Xg K (Zl 4) Ze Zk) Ze (Yg _)) (Zm (Zx (i:=11) sc.nd rfl (Ax rfl) (Zs Zz Xb (Zs Xv Xw Ze (Zl 10)) (Zs Zad Jb (Xg K (Zl 4) (Zs Zz Xb (Zl 9) Ze) plain_bin) Ze)))) Xz)
      (Zg [3,4,5,6,7,9,10,11] [3,4,5,6,7,9,10,11] (Zab (Xy (r:=Xrt K) (Zql hu) Zrr (Xg K (Zl 4) Ze Zk) Ze (Yg _)) (Zm (Zx (i:=11) sc.nd rfl (Ax rfl) (Zs Zz Xb Ze (Zs Zad Jb (Xg K (Zl 4) (Zs Zz Xb (Zl 9) Ze) plain_bin) Ze)))) Xz)
      (Zg [3,4,5,6,7,9,10,11] [3,4,5,6,7,9,10,11] (Zab (Xy (r:=Xrt K) (Zql hu) Zrr (Xg K (Zl 4) Ze Zk) Ze (Yg _)) (Zm (Zx (i:=11) sc.nd rfl (Ax rfl) (Yj (Zl 10)))) Xz)
      (Zg [3,4,5,6,7,9,10,11,12] [3,4,5,6,7,9,10,11,12] (Zx (i:=12) sc.nd rfl (Ax rfl) (Xo (r:=Zye) (Zhx rfl) Zoc rfl T.min EA (Zb (Zs Xv Xw (Xg K (Yp (Zi Ze (Zi Ze (Zi Ze (Zi Ze (Zi Ze (Zi Ze Zj Zf) Zf) Zf) Zf) Zf) Zf)) (Xg K (Zl 4) (Zs Zz Xb (Zl 9) Ze) plain_bin) Zan) (Zl 5)) (Zb (Zs Znd Zhv (Zs Zdz Zbt Ze Ze) Ze) Zj Zu) Zu) (he:=Zu)))
      (Zg [3,4,5,6,7,9,10,11,12,13] [3,4,5,6,7,9,10,11,12,13] (Zx (i:=13) sc.nd rfl (Ax rfl) (Yj (Xg K (Zl 3) (Zs Zad Jb (Zs Zz Xb (Xg K (Zl 4) Ze Zk) (Zs Xv Xw (Zs Zz Xb (Zs Xv Xw Ze (Xg K (Zl 4) Ze Zk)) Ze) (Zl 8))) Ze) plain_bin)))
      (Zm (Zni (i:=7) (he:=(Zma (Zi (Yj (Zl 13)) (Zi (Yj (Zl 10)) (Zi (Xo (r:=Zye) (Zhx rfl) Zoc rfl T.min EA (Zb (Zs Xv Xw (Zl 11) (Zl 6)) (Zb (Zs Zdz Zbt Ze Ze) Zj Zu) Zu) (he:=Zu)) (Zi (Yj (Zl 12)) Zj Za) Xp) Za) Za))) (hse:=Zrf)))))))))))))
      (Zm (Yc (Zkg 7))))))))))⟩
theorem Zoe(F:Fun K "_law_flaw" "_law_flaw" Zfj f fd)(T:Txt mg K C)(D_law_row:Def P w K mg base CX0 8 "_law_row" ["_law_script","_law_place","_law_sizes"] (spD K C 3 2 Dl.Xt)):Zap P w K mg base CX0 9 f fd ["_law_script","_law_place","_law_most"] (spD K C 3 2 Dl.Zal):=by refine F.okC Zhu (Γ':=[]) (Δ':=[]) rfl fun cdv A outer s H E hr=>?_;have sc:=Zhu;have hu:_+64<BE:=hr.units;exact⟨_,(Zm (Yc (Yj (Xg K (Yp (Zi Ze (Zi Ze (Zi Ze (Zi (Zs Zdz Zbt Ze Ze) Zj Zu) Zf) Zf) Zf)) (Xg K (Xk D_law_row (hr.mono (by decide)) rfl Yu (Zb (Zl 0) (Zb (Zl 1) (Zb (Yp (Zi (Zs Zz Xb (Zl 2) Ze) (Zi Ze Zj Zf) Zu)) Zj Zdx) Za) Za) (he:=Za)) Ze Zk) Zan))))⟩
theorem Zpt(F:Fun K "_law_roll" "_law_roll" Zfo f fd)(T:Txt mg K C)(D_law_row:Def P w K mg base CX0 8 "_law_row" ["_law_script","_law_place","_law_sizes"] (spD K C 3 2 Dl.Xt)):Zap P w K mg base CX0 9 f fd ["_law_script","_law_place","_law_most","_law_flaw_here"] (spD K C 4 2 Dl.Jr):=by
  refine F.okC Zhs (Γ':=[]) (Δ':=[]) rfl fun cdv A outer s H E hr=>?_;have sc:=Zhs;have hu:_+64<BE:=hr.units;exact ⟨_,(Zg [4] [4] (Zx (i:=4) sc.nd rfl (Ax rfl) (Xk D_law_row (hr.mono (by decide)) rfl Yu (Zb (Zl 0) (Zb (Zl 1) (Zb (Zs Zz Xb (Yp (Zi (Zs Zz Xb (Zl 2) Ze) (Zi Ze (Zi Ze Zj Zf) Zf) Zu)) (Zs Xv Xw (Yp (Zi Ze (Zi Ze Zj Zf) Zf)) (Zl 2))) Zj Zu) Za) Za) (he:=Za)))
      (Zg [4,5] [4,5] (Zx (i:=5) sc.nd rfl (Ax rfl) (Zs Xv Xw Ze (Zl 3)))
      (Zg [4,5] [4,5] (Zab (Xy (r:=Xrt K) (Zql hu) Zrr (Xg K (Zl 4) Ze Zk) Ze (Yg _)) (Zm (Zx (i:=5) sc.nd rfl (Ax rfl) (Zs Zdz Zbt Ze Ze))) Xz)
      (Zg [4,5,6] [4,5,6] (Zx (i:=6) sc.nd rfl (Ax rfl) (Yp Zj))
      (Zg [4,5,6] [4,5,6] (Zch [4,5,6] [4,5,6] BH rfl (Zks rfl T.range (Zb (Xg K (Zl 4) Ze Zk) Zj Yf)) (Jo (i:=7) (hN:=sc.nd) (hi:=rfl) (hx:=Ax rfl)) (Zbw [4,5,6,8,9] [4,5,6,8,9] (Zg [4,5,6,8] [4,5,6,8] (Zx (i:=8) sc.nd rfl (Ax rfl) (Zs Zz Xb (Zs Xv Xw Ze (Zl 7)) Ze))
      (Zg [4,5,6,8,9] [4,5,6,8,9] (Zx (i:=9) sc.nd rfl (Ax rfl) Ze)
      (Zg [4,5,6,8,9] [4,5,6,8,9] (Zab (Xy Zjm Zeo (Xg K (Zl 4) (Zl 8) Yn) (Xg K (Yp (Zi Ze (Zi Ze (Zi Ze (Zi Ze Zj Zf) Zf) Zf) Zf)) (Xg K (Zl 4) Ze Zk) Zan) (Yg _)) (Zm (Zx (i:=9) sc.nd rfl (Ax rfl) (Yj (Xg K (Zie (Zb (Zl 3) (Zb (Zl 3) (Zb (Zs Xv Xw Ze (Zl 3)) (Zb (Zs Xv Xw Ze (Zl 3)) (Zb (Zl 5) Zj Za) Zu) Zu) Za) Za)) (Xg K (Zl 4) (Zs Zz Xb (Zl 8) Ze) plain_bin) Zan)))) Xz)
      (Zm (Zni (i:=6) (he:=(Yj (Zl 9))) (hse:=Za))))))))
      (Zm (Yc (Zkg 6))))))))⟩
theorem Zgv(F:Fun K "plans_by_left" "plans_by_left" Zbf f fd)(T:Txt mg K C)(Drefuse_big:Def P w K mg base CX0 8 "refuse_big" ["rolls","order"] (spD K C 2 2 Dl.Jz))(Dwith_roll:Def P w K mg base CX0 7 "with_roll" ["plans","cuts"] (spD K C 2 2 Dl.Zaj))(Dcuts_of:Def P w K mg base CX0 9 "cuts_of" ["roll","table","order"] (spD K C 3 2 Dl.Zci)):Zap P w K mg base CX0 10 f fd ["rolls","table","order"] (spD K C 3 2 Dl.Xh):=by
  refine F.okC Zcl (Γ':=[]) (Δ':=[]) rfl fun cdv A outer s H E hr=>?_;have sc:=Zcl;have hu:_+64<BE:=hr.units;exact ⟨_,(Zg [] [] (Xkf (Xk Drefuse_big (hr.mono (by decide)) rfl Yu (Zb (Zl 0) (Zb (Zl 2) Zj Za) Za) (he:=Za)))
      (Zg [3] [3] (Zx (i:=3) sc.nd rfl (Ax rfl) (Xjq (Ztd (Xj (r:=Zut K) Zer Zgm rfl T.tuple Dm (Zb (Zl 2) Zj Za) (he:=Za)) (Zma (Zi Ze (Zi (Zsu (Yp Zj)) Zj Zdx) Zf)) hu)))
      (Zg [3] [3] (Zch [3] [3] BH rfl (Zar (Zl 0)) (Jo (i:=4) (hN:=sc.nd) (hi:=rfl) (hx:=Ax rfl)) (Zm (Zx (i:=3) sc.nd rfl (Ax rfl) (Xk Dwith_roll (hr.mono (by decide)) rfl Yu (Zb (Zl 3) (Zb (Xk Dcuts_of (hr.mono (by decide)) rfl Yu (Zb (Zl 4) (Zb (Zl 1) (Zb (Zl 2) Zj Za) Za) Za) (he:=Za)) Zj Xp) Za) (he:=Za)))))
      (Zm (Yc (Zkg 3))))))⟩
theorem Zml(F:Fun K "_law_rolls" "_law_rolls" Zbx f fd)(T:Txt mg K C)(D_law_flaw:Def P w K mg base CX0 9 "_law_flaw" ["_law_script","_law_place","_law_most"] (spD K C 3 2 Dl.Zal))(D_law_table:Def P w K mg base CX0 9 "_law_table" ["_law_script","_law_place","_law_most"] (spD K C 3 2 Dl.Jy))(D_law_row:Def P w K mg base CX0 8 "_law_row" ["_law_script","_law_place","_law_sizes"] (spD K C 3 2 Dl.Xt))(D_law_roll:Def P w K mg base CX0 9 "_law_roll" ["_law_script","_law_place","_law_most","_law_flaw_here"] (spD K C 4 2 Dl.Jr)):Zap P w K mg base CX0 10 f fd ["_law_script","_law_place","_law_most","_law_cells","_law_kinds"] (spD K C 5 2 Dl.Zaa):=by
  refine F.okC Zfw (Γ':=[]) (Δ':=[]) rfl fun cdv A outer s H E hr=>?_;have sc:=Zfw;have hu:_+64<BE:=hr.units;have nd0:CO (["_law_script","_law_place","_law_most","_law_cells","_law_kinds","_law_flaw_here","_law_table_here","_law_count","_law_rolls_here","_law_k"]:List Str):=by decide+kernel
  exact ⟨_,(Zg [5] [5] (Zx (i:=5) sc.nd rfl (EX rfl) (Xk D_law_flaw (hr.mono (by decide)) rfl Yu (Zb (Zl 0) (Zb (Zl 1) (Zb (Zl 4) Zj Za) Za) Za) (he:=Za)))
      (Zg [5,6] [5,6] (Zx (i:=6) sc.nd rfl (Ax rfl) (Xk D_law_table (hr.mono (by decide)) rfl Yu (Zb (Zl 0) (Zb (Zl 1) (Zb (Zl 4) Zj Za) Za) Za) (he:=Za)))
      (Zg [5,6,7] [5,6,7] (Zx (i:=7) sc.nd rfl (Ax rfl) (Yj (Xg K (Xk D_law_row (hr.mono (by decide)) rfl Yu (Zb (Zl 0) (Zb (Zs Zz Xb (Zl 1) Ze) (Zb (Yp (Zi (Zs Zz Xb (Zl 2) Ze) Zj Zu)) Zj Zdx) Zu) Za) (he:=Za)) Ze Zk)))
      (Zg [5,6,7,8] [5,6,7,8] (Zyt (i:=8) (n:=9) (Zh Zbx) ["_law_script","_law_place","_law_most","_law_cells","_law_kinds","_law_flaw_here","_law_table_here","_law_count","_law_rolls_here"] ["_law_script","_law_place","_law_most","_law_cells","_law_kinds","_law_flaw_here","_law_table_here","_law_count","_law_rolls_here"] ["_law_k"] ⟨rfl,by decide +kernel,by decide +kernel,by decide +kernel,by decide +kernel,by decide +kernel,rfl,by decide +kernel⟩ rfl rfl (Zks rfl T.range (Zb (Zl 7) Zj Za)) (fun _ _ _ _ _=>(Yv 9 (hN:=nd0))) (fun _ _ _ _ _=>Jw) (fun _ _ _ _ _=>(Xk D_law_roll (hr.mono (by decide)) rfl Yu (Zb (Zl 0 (hv:=EX (Ax rfl))) (Zb (Zs Zz Xb (Zs Zz Xb (Zl 1 (hv:=EX (Ax rfl))) Ze) (Zl 9 (hv:=Ax rfl))) (Zb (Zl 3 (hv:=EX (Ax rfl))) (Zb (Zl 5 (hv:=EX (Ax rfl))) Zj Za) Za) Zu) Za) (he:=Za))))
      (Zm (Yc (Zma (Zgl [(8,ar),(6,ar)] (Zkg 8) (Zgl [(6,ar)] (Zkg 6) Zj Za) Za))))))))⟩
theorem Zuc(F:Fun K "leavings" "leavings" Zex f fd)(T:Txt mg K C)(Dplans_by_left:Def P w K mg base CX0 10 "plans_by_left" ["rolls","table","order"] (spD K C 3 2 Dl.Xh)):Zap P w K mg base CX0 11 f fd ["rolls","table","order"] (spD K C 3 2 Dl.Ju):=by
 refine F.okC Zje (Γ':=[]) (Δ':=[]) rfl fun cdv A outer s H E hr=>?_;have sc:=Zje;have hu:_+64<BE:=hr.units;have nd0:CO (["rolls","table","order","left"]:List Str):=by decide+kernel
 exact⟨_,(Zm (Yc (Xch K hu rfl T.sorted (Zao (n:=3) (Zh Zex) ["rolls","table","order"] ["rolls","table","order"] ["left"] (by constructor<;>first|rfl|decide+kernel) (Xhv (Xk Dplans_by_left (hr.mono (by decide)) rfl Yu (Zb (Zl 0) (Zb (Zl 1) (Zb (Zl 2) Zj Za) Za) Za) (he:=Za))) (fun _ _ _ _ _=>(Yv 3 (hN:=nd0))) (fun _ _ _ _ _=>Jw) (fun _ _ _ _ _=>(Xj (r:=Zcc K) (Xs rfl) Yt rfl T.list AJ (Zb (Zl 3 (hv:=Ax rfl)) Zj Za) (he:=Za)))) Xl)))⟩
theorem Xth(F:Fun K "fill" "fill" Xon f fd)(T:Txt mg K C)(Dplans_by_left:Def P w K mg base CX0 10 "plans_by_left" ["rolls","table","order"] (spD K C 3 2 Dl.Xh)):Zap P w K mg base (CXE P w) 11 f fd ["rolls","table","order"] (spD K C 3 2 Dl.Zir):=by
  refine F.okCE Xix (Γ':=[]) (Δ':=[]) rfl fun cdv A outer s H E hr=>?_;have sc:=Xix;have hu:_+64<BE:=hr.units;exact ⟨_,(Zg [3] [3] (Zx (i:=3) sc.nd rfl (Ax rfl) (Xk Dplans_by_left (hr.mono (by decide)) rfl Yu (Zb (Zl 0) (Zb (Zl 1) (Zb (Zl 2) Zj Za) Za) Za) (he:=Za)))
      (Zg [3,4] [3,4] (Zx (i:=4) sc.nd rfl (Ax rfl) (Xj (r:=Zut K) Zer Zgm rfl T.tuple Dm (Zb (Zs Xv Xw (Yp (Zi Ze Zj Zf)) (Xo (r:=Zbq K) Yd Jl rfl T.len PySem.boot_len (Zb (Zl 2) Zj Za) (he:=Za))) Zj Zu) (he:=Zu)))
      (Zg [3,4] [3,4] (Zab (Xy (Zpf hu) Zxa (Zl 4) (Zl 3) rfl) (Zm (Xig T.eShort.exc T.mShort (Zb Jx Zj Zf) (he:=Zf))) Xz)
      (Zm (Yc (Xcn (Zl 3) (Zl 4) hu))))))⟩
theorem Zkq(F:Fun K "_law_number" "_law_number" Zaw f fd)(T:Txt mg K C)(Dfill:Def P w K mg base (CXE P w) 11 "fill" ["rolls","table","order"] (spD K C 3 2 Dl.Zir)):Zap P w K mg base CX0 12 f fd ["_law_rolls_here","_law_table_here","_law_order"] (spD K C 3 2 Dl.Jk):=by
  refine F.okC Zel (Γ':=[]) (Δ':=[]) rfl fun cdv A outer s H E hr=>?_;have sc:=Zel;have hu:_+64<BE:=hr.units;have nd0:CO (["_law_rolls_here","_law_table_here","_law_order","_law_roll_here"]:List Str):=by decide+kernel
  exact ⟨_,(Zm (Xnf (E0:=E) (Γ1:=[]) (Δ1:=[]) ["Short"] T.mShort (fun E pn=>(Zm (Yc (Yj (Xg K (Xk Dfill (hr.mono (by decide)) rfl passE (Zb (by exact Zao (n:=3) (Zh Zaw) ["_law_rolls_here","_law_table_here","_law_order"] ["_law_rolls_here","_law_table_here","_law_order"] ["_law_roll_here"] ⟨rfl,by decide +kernel,by decide +kernel,by decide +kernel,by decide +kernel,by decide +kernel,rfl,by decide +kernel⟩ (Xik K (Zl 0)) (fun _ _ _ _ _=>(Yv 3 (hN:=nd0))) (fun _ _ _ _ _=>Jw) (fun _ _ _ _ _=>(Xj (r:=Zcc K) (Xs rfl) Yt rfl T.list AJ (Zb (Zl 3 (hv:=Ax rfl)) Zj Za) (he:=Za)))) (Zb (Xj (r:=Zcc K) (Xs rfl) Yt rfl T.list AJ (Zb (Zl 1) Zj Za) (he:=Za)) (Zb (Xj (r:=Zcc K) (Xs rfl) Yt rfl T.list AJ (Zb (Zl 2) Zj Za) (he:=Za)) Zj Xp) Xp) Xl) (he:=Xl)) Ze Zk)))))
      (fun ea=>(Zm (Yc Ze))) (all_cons (T.eShort.k.exm T.eShort.se) Xln)))⟩
variable{P1 c:Addr}
theorem Zvt(F:Xna K "richest" "richest" Zgq f fd c)(T:Txt mg K C)(B:BMod base mg)(hd:Iv base c P1)(Dplans_by_left:Def P w K mg base CX0 10 "plans_by_left" ["rolls","table","order"] (spD K C 3 2 Dl.Xh))(Dtogether__L:Def P w K mg base CX0 7 "together" ["order","some"] (spD K C 2 2 Dl.Yy))(Dtogether__T:Def P w K mg base CX0 7 "together" ["order","some"] (spD K C 2 2 Dl.Yh)):Zap P w K mg base CX0 13 f fd ["rolls","table","order"] (spL (tsL P1) (spD K C 3 2 Dl.Zcq)):=by
  refine F.okL Zlx (Γ':=[]) (Δ':=[]) rfl fun A outer s H E hr hL=>?_;have sc:=Zlx;have hu:_+64<BE:=hr.units;have nd0:CO (["rolls","table","order","plans","worths","left","kind"]:List Str):=by decide+kernel
  exact ⟨_,(Zg [3] [3] (Zx (i:=3) sc.nd rfl (Ax rfl) (Xk Dplans_by_left (hr.mono (by decide)) rfl Yu (Zb (Zl 0) (Zb (Zl 1) (Zb (Zl 2) Zj Za) Za) Za) (he:=Za)))
      (Zg [3,4] [3,4] (Zx (i:=4) sc.nd rfl (EX rfl) (Zao (n:=6) (Zh Zgq) ["rolls","table","order","plans","worths","left"] ["rolls","table","order","plans","worths","left"] ["kind"] ⟨rfl,by decide +kernel,by decide +kernel,by decide +kernel,by decide +kernel,by decide +kernel,rfl,by decide +kernel⟩ (Zar (Zl 1)) (fun _ _ _ _ _=>(Yv 6 (hN:=nd0))) (fun _ _ _ _ _=>Jw) (fun _ _ _ _ _=>(Yj (Xg K (Zl 6 (hv:=Ax rfl)) Ze Zk)))))
      (Zg [3,4,5] [3,4,5] (Zx (i:=5) sc.nd rfl (Ax rfl) (Yj (Xlb rfl T.min (Xj (r:=Zzj) (Zvd rfl) Zzx rfl T.list AJ (Zb (Zl 3) Zj Za) (he:=Za)) (Xxx (js:=[4]) (N:=["some","worths"]) (p:=("some":Str)) (P:=P1) (qual:=("richest.<locals>.<lambda>":Str)) B (hL (P1,⟨83,32,83,67⟩,("richest.<locals>.<lambda>":Str)) (.head _)) hd (hr.mono (by decide:1<=_)) rfl rfl (AK.mpr ⟨rfl,fun _ z=>nomatch z⟩) (AK.mpr ⟨⟨_,rfl⟩,fun _ z=>nomatch z⟩) rfl (AK.mpr ⟨⟨EX (Ax rfl),Xrb rfl⟩,fun _ z=>nomatch z⟩)) (fun _ _ _ _=>(Xk Dtogether__T ((Xdc hr _).mono (by decide)) rfl Yu (Zb (Zl 0 (hv:=Ax rfl)) (Zb (Zl 1 (hv:=EX (EX rfl))) Zj Za) Za) (he:=Za))) Xp)))
      (Zm (Yc (Zma (Zi (Zs Znd Zhv (Xk Dtogether__L (hr.mono (by decide)) rfl Yu (Zb (Zl 2) (Zb (Zl 4) Zj Za) Za) (he:=Za)) (Xk Dtogether__T (hr.mono (by decide)) rfl Yu (Zb (Zl 5) (Zb (Zl 4) Zj Za) Za) (he:=Za))) (Zi (Yj (Xg K (Xcn (Zl 3) (Zl 5) hu) Ze Zk)) Zj Yf) Zu)))))))⟩
theorem Zic(F:Fun K "_law_all_told" "_law_all_told" Jf f fd)(T:Txt mg K C)(Dleavings:Def P w K mg base CX0 11 "leavings" ["rolls","table","order"] (spD K C 3 2 Dl.Ju))(Drichest:Def P w K mg base CX0 13 "richest" ["rolls","table","order"] (spL (tsL P1) (spD K C 3 2 Dl.Zcq)))(D_law_number:Def P w K mg base CX0 12 "_law_number" ["_law_rolls_here","_law_table_here","_law_order"] (spD K C 3 2 Dl.Jk)):Zap P w K mg base CX0 14 f fd ["_law_rolls_here","_law_table_here","_law_order"] (spL (tsL P1) (spD K C 3 2 Dl.Xa)):=by
  refine F.okL Zco (Γ':=[]) (Δ':=[]) rfl fun cdv A outer s H E hr hL=>?_;have sc:=Zco;have hu:_+64<BE:=hr.units;have nd0:CO (["_law_rolls_here","_law_table_here","_law_order","_law_left","_law_worth","_law_roll_here"]:List Str):=by decide+kernel
  exact ⟨_,(Zg [3] [3] (Zx (i:=3) sc.nd rfl (Ax rfl) (Xk Dleavings (hr.mono (by decide)) rfl Yu (Zb (Zao (n:=5) (Zh Jf) ["_law_rolls_here","_law_table_here","_law_order","_law_left","_law_worth"] ["_law_rolls_here","_law_table_here","_law_order","_law_left","_law_worth"] ["_law_roll_here"] ⟨rfl,by decide +kernel,by decide +kernel,by decide +kernel,by decide +kernel,by decide +kernel,rfl,by decide +kernel⟩ (Zar (Zl 0)) (fun _ _ _ _ _=>(Yv 5 (hN:=nd0))) (fun _ _ _ _ _=>Jw) (fun _ _ _ _ _=>(Xj (r:=Zcc K) (Xs rfl) Yt rfl T.list AJ (Zb (Zl 5 (hv:=Ax rfl)) Zj Za) (he:=Za)))) (Zb (Xj (r:=Zcc K) (Xs rfl) Yt rfl T.list AJ (Zb (Zl 1) Zj Za) (he:=Za)) (Zb (Xj (r:=Zcc K) (Xs rfl) Yt rfl T.list AJ (Zb (Zl 2) Zj Za) (he:=Za)) Zj Xp) Xp) Xl) (he:=Xl)))
      (Zg [3,4] [3,4] (Zx (i:=4) sc.nd rfl (Ax rfl) (Yj (Xg K (Zda Drichest (hr.mono (by decide)) rfl Yu hL (Zb (Zao (n:=5) (Zh Jf) ["_law_rolls_here","_law_table_here","_law_order","_law_left","_law_worth"] ["_law_rolls_here","_law_table_here","_law_order","_law_left","_law_worth"] ["_law_roll_here"] ⟨rfl,by decide +kernel,by decide +kernel,by decide +kernel,by decide +kernel,by decide +kernel,rfl,by decide +kernel⟩ (Zar (Zl 0)) (fun _ _ _ _ _=>(Yv 5 (hN:=nd0))) (fun _ _ _ _ _=>Jw) (fun _ _ _ _ _=>(Xj (r:=Zcc K) (Xs rfl) Yt rfl T.list AJ (Zb (Zl 5 (hv:=Ax rfl)) Zj Za) (he:=Za)))) (Zb (Xj (r:=Zcc K) (Xs rfl) Yt rfl T.list AJ (Zb (Zl 1) Zj Za) (he:=Za)) (Zb (Xj (r:=Zcc K) (Xs rfl) Yt rfl T.list AJ (Zb (Zl 2) Zj Za) (he:=Za)) Zj Xp) Xp) Xl) (he:=Xl)) Ze Zk)))
      (Zm (Yc (Yp (Zgl [(3,ar),(4,ar)] (Zkg 3) (Zgl [(4,ar)] (Zkg 4) (Zi (Xk D_law_number (hr.mono (by decide)) rfl Yu (Zb (Zl 0) (Zb (Zl 1) (Zb (Zl 2) Zj Za) Za) Za) (he:=Za)) Zj Xp) Za) Za))))))⟩
theorem oklaw(F:Fun K "law" "law" Xgt f fd)(T:Txt mg K C)(D_law_rolls:Def P w K mg base CX0 10 "_law_rolls" ["_law_script","_law_place","_law_most","_law_cells","_law_kinds"] (spD K C 5 2 Dl.Zaa))(D_law_row:Def P w K mg base CX0 8 "_law_row" ["_law_script","_law_place","_law_sizes"] (spD K C 3 2 Dl.Xt))(Dleavings:Def P w K mg base CX0 11 "leavings" ["rolls","table","order"] (spD K C 3 2 Dl.Ju))(D_law_all_told:Def P w K mg base CX0 14 "_law_all_told" ["_law_rolls_here","_law_table_here","_law_order"] (spL (tsL P1) (spD K C 3 2 Dl.Xa)))(Dturned:Def P w K mg base CX0 7 "turned" ["roll"] (spD K C 1 2 Dl.Zcs)):Zap P w K mg base CX0 15 f fd ["_law_script"] (spL (tsL P1) (spD K C 1 2 Dl.Xqa)):=by
  refine F.okL Xvu (Γ':=[]) (Δ':=[]) rfl fun cdv A outer s H E hr hL=>?_;have sc:=Xvu;have hu:_+64<BE:=hr.units;have nd0:CO (["_law_script","_law_rolls_here","_law_table_here","_law_some","_law_order","_law_left","_law_due","_law_more","_law_other","_law_one","_law_roll_here"]:List Str):=by decide+kernel
  have nd1:CO (["_law_script","_law_rolls_here","_law_table_here","_law_some","_law_order","_law_left","_law_due","_law_more","","?","_law_one","_law_other"]:List Str):=by decide+kernel
  exact ⟨_,(Zg [1,2] [1,2] (Zxv rfl (Xk D_law_rolls (hr.mono (by decide)) rfl Yu (Zb (Zl 0) (Zb Ze (Zb Ze (Zb Ze (Zb Ze Zj Zf) Zf) Zf) Zf) Za) (he:=Za)) (Xbl (i:=1) sc.nd rfl (Ax rfl) (Xbl (i:=2) sc.nd rfl (Ax rfl) Xuo)))
      (Zg [1,2,3] [1,2,3] (Zx (i:=3) sc.nd rfl (Ax rfl) (Xk D_law_row (hr.mono (by decide)) rfl Yu (Zb (Zl 0) (Zb Ze (Zb (Zs Zz Xb (Zs Xv Xw (Yp (Zi Ze Zj Zf)) Ze) (Yp (Zi Ze (Zi Ze (Zi Ze Zj Zf) Zf) Zf))) Zj Zu) Zf) Za) (he:=Za)))
      (Zg [1,2,3,4] [1,2,3,4] (Zx (i:=4) sc.nd rfl (Ax rfl) (Xpu K (Zl 3) Zfd (Zck (Xo (r:=Zbq K) Yd Jl rfl T.len PySem.boot_len (Zb (Zl 2) Zj Za) (he:=Za)))))
      (Zg [1,2,3,4] [1,2,3,4] (Zab (Xy Zge Zca (Xo (r:=Zbq K) Yd Jl rfl T.len PySem.boot_len (Zb (Zl 4) Zj Za) (he:=Za)) Ze (Yg _)) (Zm (Xtp (i:=4) (he:=(Xo (r:=Zye) (Zhx rfl) Zoc rfl T.min EA (Zb (Xg K (Zl 4) Ze Zk) (Zb Ze Zj Zf) Yf) (he:=Yf))) (hk:=Ze))) Xz)
      (Zg [1,2,3,4,5] [1,2,3,4,5] (Zx (i:=5) sc.nd rfl (Ax rfl) (Xk Dleavings (hr.mono (by decide)) rfl Yu (Zb (Zao (n:=10) (Zh Xgt) ["_law_script","_law_rolls_here","_law_table_here","_law_some","_law_order","_law_left","_law_due","_law_more","_law_other","_law_one"] ["_law_script","_law_rolls_here","_law_table_here","_law_some","_law_order","_law_left","_law_due","_law_more","_law_other","_law_one"] ["_law_roll_here"] ⟨rfl,by decide +kernel,by decide +kernel,by decide +kernel,by decide +kernel,by decide +kernel,rfl,by decide +kernel⟩ (Zar (Zl 1)) (fun _ _ _ _ _=>(Yv 10 (hN:=nd0))) (fun _ _ _ _ _=>Jw) (fun _ _ _ _ _=>(Xj (r:=Zcc K) (Xs rfl) Yt rfl T.list AJ (Zb (Zl 10 (hv:=Ax rfl)) Zj Za) (he:=Za)))) (Zb (Xj (r:=Zcc K) (Xs rfl) Yt rfl T.list AJ (Zb (Zl 2) Zj Za) (he:=Za)) (Zb (Xj (r:=Zcc K) (Xs rfl) Yt rfl T.list AJ (Zb (Zl 4) Zj Za) (he:=Za)) Zj Xp) Xp) Xl) (he:=Xl)))
      (Zg [1,2,3,4,5] [1,2,3,4,5] (Zab (Xy Zge Zca (Xg K (Zl 3) Ze Zk) Ze (Yg _)) (Zm (Zyt (i:=4) (n:=10) (Zh Xgt) ["_law_script","_law_rolls_here","_law_table_here","_law_some","_law_order","_law_left","_law_due","_law_more","_law_other","_law_one"] ["_law_script","_law_rolls_here","_law_table_here","_law_some","_law_order","_law_left","_law_due","_law_more","","?"] ["_law_one","_law_other"] ⟨rfl,by decide +kernel,by decide +kernel,by decide +kernel,by decide +kernel,by decide +kernel,rfl,by decide +kernel⟩ rfl rfl (Zxu rfl T.zip (Zl 4) (Xg K (Zl 5) (Zs Zad Jb (Xg K (Zl 3) Ze Zk) (Xo (r:=Zbq K) Yd Jl rfl T.len PySem.boot_len (Zb (Zl 5) Zj Za) (he:=Za))) plain_bin) Za Yf) (fun _ _ _ _ _=>(Zqk K (Zbb (Yv 10 (hN:=nd1)) (Zbb (Yv 11 (hN:=nd1)) Zjn)))) (fun _ _ _ _ _=>Jw) (fun _ _ _ _ _=>(Zs Znd Zhv (Zl 10 (hv:=Ax rfl)) (Zl 11 (hv:=Ax rfl)))))) Xz)
      (Zg [1,2,3,4,5,6] [1,2,3,4,5,6] (Zx (i:=6) sc.nd rfl (Ax rfl) (Zda D_law_all_told (hr.mono (by decide)) rfl Yu hL (Zb (Zl 1) (Zb (Zl 2) (Zb (Zl 4) Zj Za) Za) Za) (he:=Za)))
      (Zg [1,2,3,4,5,6] [1,2,3,4,5,6] (Zab (Xvz (Xvk (Xy Zge Zca (Xg K (Zl 3) Ze Zk) Ze (Yg _)) (Xpt (Xy Zge Zca (Xg K (Zl 6) Ze Zk) (Xo (r:=Zbq K) Yd Jl rfl T.len PySem.boot_len (Zb (Zl 1) Zj Za) (he:=Za)) (Yg _))))) (Zm (Yc Zmk)) Xz)
      (Zg [1,2,3,4,5,6] [1,2,3,4,5,6] (Zab (Xy (r:=Xsx K) (Zxb hu) Xat (Zda D_law_all_told (hr.mono (by decide)) rfl Yu hL (Zb (Zao (n:=10) (Zh Xgt) ["_law_script","_law_rolls_here","_law_table_here","_law_some","_law_order","_law_left","_law_due","_law_more","_law_other","_law_one"] ["_law_script","_law_rolls_here","_law_table_here","_law_some","_law_order","_law_left","_law_due","_law_more","_law_other","_law_one"] ["_law_roll_here"] ⟨rfl,by decide +kernel,by decide +kernel,by decide +kernel,by decide +kernel,by decide +kernel,rfl,by decide +kernel⟩ (Zar (Zl 1)) (fun _ _ _ _ _=>(Yv 10 (hN:=nd0))) (fun _ _ _ _ _=>Jw) (fun _ _ _ _ _=>(Xk Dturned (hr.mono (by decide)) rfl Yu (Zb (Xj (r:=Zcc K) (Xs rfl) Yt rfl T.list AJ (Zb (Zl 10 (hv:=Ax rfl)) Zj Za) (he:=Za)) Zj Xp) (he:=Xp)))) (Zb (Zl 2) (Zb (Zl 4) Zj Za) Za) Xl) (he:=Xl)) (Zl 6) (Yg _)) (Zm (Yc Zmk)) Xz)
      (Zg [1,2,3,4,5,6] [1,2,3,4,5,6] (Zab (Xy (r:=Xsx K) (Zxb hu) Xat (Zda D_law_all_told (hr.mono (by decide)) rfl Yu hL (Zb (Xkh K (Zl 1) (Zxd Ze)) (Zb (Zl 2) (Zb (Zl 4) Zj Za) Za) Yf) (he:=Yf)) (Zl 6) (Yg _)) (Zm (Yc Zmk)) Xz)
      (Zg [1,2,3,4,5,6] [1,2,3,4,5,6] (Zab (Xy (r:=Xsx K) (Zxb hu) Xat (Zda D_law_all_told (hr.mono (by decide)) rfl Yu hL (Zb (Zpo (Zpo (Xjg K (Zl 1) Zfd (Zck Ze)) (Yp (Zi (Yp Zj) Zj Zdx))) (Xjg K (Zl 1) (Zck Ze) Zfd)) (Zb (Zl 2) (Zb (Zl 4) Zj Za) Za) Zu) (he:=Zu)) (Zl 6) (Yg _)) (Zm (Yc Zmk)) Xz)
      (Zg [2,3,4,5] [2,3,4,5] (Zab (Xy Zge Zca (Xo (r:=Zbq K) Yd Jl rfl T.len PySem.boot_len (Zb (Zl 1) Zj Za) (he:=Za)) Ze (Yg _)) (Zbw [2,3,4,5,7,8] [2,3,4,5,8] (Zg [2,3,4,5,6,7] [2,3,4,5,6] (Xpg (i:=7) sc.nd rfl (Ax rfl) (Zpo (Zl 1) (Zie (Zb (Xg K (Zl 1) (Zs Zad Jb (Xg K (Zl 3) Ze Zk) (Xo (r:=Zbq K) Yd Jl rfl T.len PySem.boot_len (Zb (Zl 1) Zj Za) (he:=Za))) plain_bin) Zj Yf))))
      (Zg [2,3,4,5,6,7,8] [2,3,4,5,6,8] (Zx (i:=8) sc.nd rfl (Ax rfl) (Zda D_law_all_told (hr.mono (by decide)) rfl Yu hL (Zb (Zl 7) (Zb (Zl 2) (Zb (Zl 4) Zj Za) Za) Za) (he:=Za)))
      (Zg [2,3,4,5,6,7,8] [2,3,4,5,6,8] (Zab (Xvz (Zwt (Xy Zge Zca (Xg K (Zl 8) Ze Zk) (Xg K (Zl 6) Ze Zk) (Yg _)) (Zrc (Xy Zjm Zeo (Xg K (Zl 8) Ze Zk) (Xg K (Zl 6) Ze Zk) (Yg _))))) (Zm (Yc Zmk)) Xz)
      (Zm (Zch [2,3,4,5,7,8] [2,3,4,5,8] BH rfl (Zar (Xg K (Zl 6) Ze Zk)) (Jo (i:=9) (hN:=sc.nd) (hi:=rfl) (hx:=Ax rfl)) (Zm (Zab (Xy (r:=rInD K aq) (Zyq hu) Zzp (Zl 9) (Xg K (Zl 8) Ze Zk) rfl) (Zm (Yc Zmk)) Xz)))))))) (Zbw [1,2,3,4,5,6] [1,2,3,4,5,6] Xz))
      (Zm (Yc Zmk))))))))))))))⟩
def Xnv(K:AN)(ts:List (Addr×Pos×Str)):Sp:=fun vs H Q _=>Zdf ts H/\∃(a:Addr) (ns:List Int),vs=[.ref a]/\FzL K H a (ns.map V.int)/\ns.length<=63/\∀H',Q (.bl aq) H'
theorem Xie(ns:List Int)(h:ns.length<=63):Dl.Xqa [.scr ns]=.ok (.bl aq):=Dl.Ztl ns h
variable{h:Bg}
theorem all_mk{l:PySem.W.OpenLaw}{fa f1 f2 f3 f4 f5 f6 f7 f8 f9 f10 f11 f12 f13 f14 f15 f16 f17 f18 f19 f20 f21 f22 f23 f24 f25 f26:Addr}{c1' bm:Addr}{ob:Obj}(X:K.In h)(G:h.Ns An mg)(hfa:mg "law"=ak (.ref fa)){fd1 fd2 fd3 fd4 fd5 fd6 fd7 fd8 fd9 fd10 fd11 fd12 fd13 fd14 fd15 fd16 fd17 fd18 fd19 fd20 fd21 fd22 fd23 fd24 fd25 fd26:CH}(a1:Cr K An "spoilt"=ak (ak (.ref f1)))(F1:Fun K "spoilt" "spoilt" Zpq f1 fd1)(a2:Cr K An "turned"=ak (ak (.ref f2)))(F2:Fun K "turned" "turned" Zpz f2 fd2)(a3:Cr K An "fits"=ak (ak (.ref f3)))(F3:Fun K "fits" "fits" Xkl f3 fd3)(a4:Cr K An "states"=ak (ak (.ref f4)))(F4:Fun K "states" "states" Zop f4 fd4)(a5:Cr K An "together"=ak (ak (.ref f5)))(F5:Fun K "together" "together" Znm f5 fd5)(a6:Cr K An "refuse_big"=ak (ak (.ref f6)))(F6:Fun K "refuse_big" "refuse_big" Zbr f6 fd6)(a7:Cr K An "add_with_last"=ak (ak (.ref f7)))(F7:Fun K "add_with_last" "add_with_last" Zdg f7 fd7)(a8:Cr K An "cuts_of"=ak (ak (.ref f8)))(F8:Fun K "cuts_of" "cuts_of" Zjo f8 fd8)(a9:Cr K An "with_roll"=ak (ak (.ref f9)))(F9:Fun K "with_roll" "with_roll" Zdb f9 fd9)(a10:Cr K An "plans_by_left"=ak (ak (.ref f10)))(F10:Fun K "plans_by_left" "plans_by_left" Zbf f10 fd10)(a11:Cr K An "leavings"=ak (ak (.ref f11)))(F11:Fun K "leavings" "leavings" Zex f11 fd11)(a12:Cr K An "fill"=ak (ak (.ref f12)))(F12:Fun K "fill" "fill" Xon f12 fd12)(a13:Cr K An "richest"=ak (ak (.ref f13)))(F13:Xna K "richest" "richest" Zgq f13 fd13 c1')(a14:Cr K An "_law_cell"=ak (ak (.ref f14)))(F14:Fun K "_law_cell" "_law_cell" Zfq f14 fd14)(a15:Cr K An "_law_mix"=ak (ak (.ref f15)))(F15:Fun K "_law_mix" "_law_mix" Zgz f15 fd15)(a16:Cr K An "_law_row"=ak (ak (.ref f16)))(F16:Fun K "_law_row" "_law_row" Zhd f16 fd16)(a17:Cr K An "_law_table"=ak (ak (.ref f17)))(F17:Fun K "_law_table" "_law_table" Zdn f17 fd17)(a18:Cr K An "_law_flaw"=ak (ak (.ref f18)))(F18:Fun K "_law_flaw" "_law_flaw" Zfj f18 fd18)(a19:Cr K An "_law_roll"=ak (ak (.ref f19)))(F19:Fun K "_law_roll" "_law_roll" Zfo f19 fd19)(a20:Cr K An "_law_rolls"=ak (ak (.ref f20)))(F20:Fun K "_law_rolls" "_law_rolls" Zbx f20 fd20)(a21:Cr K An "_law_number"=ak (ak (.ref f21)))(F21:Fun K "_law_number" "_law_number" Zaw f21 fd21)(a22:Cr K An "_law_all_told"=ak (ak (.ref f22)))(F22:Fun K "_law_all_told" "_law_all_told" Jf f22 fd22)(a23:Cr K An "law"=ak (ak (.ref f23)))(F23:Fun K "law" "law" Xgt f23 fd23)(a24:Cr K An "add_with_last"=ak (ak (.ref f24)))(F24:Fun K "add_with_last" "add_with_last" Jv f24 fd24)(a25:Cr K An "together"=ak (ak (.ref f25)))(F25:Fun K "together" "together" Zau f25 fd25)(a26:Cr K An "together"=ak (ak (.ref f26)))(F26:Fun K "together" "together" Zaz f26 fd26)(z1:Cr K An "sum"=ak ao)(z2:Cr K An "len"=ak ao)(z3:Cr K An "list"=ak ao)(z4:Cr K An "reversed"=ak ao)(z5:Cr K An "zip"=ak ao)(z6:Cr K An "any"=ak ao)(z7:Cr K An "range"=ak ao)(z8:Cr K An "dict"=ak ao)(z9:Cr K An "enumerate"=ak ao)(z10:Cr K An "tuple"=ak ao)(z11:Cr K An "min"=ak ao)(z12:Cr K An "sorted"=ak ao){tv1:Tok}(v1:Cr K An "LONGEST_ROLL"=ak (ak (.int 40 tv1))){tv2:Tok}(v2:Cr K An "MOST_STATES"=ak (ak (.int 120 tv2))){cNoPlace cTooBig cShort:Addr}{kNoPlace kTooBig kShort:_}(gNoPlace:Cr K An "NoPlace"=ak (ak (.ref cNoPlace)))(xNoPlace:G4 K cNoPlace bmV "ValueError.__new__"=aq)(tNoPlace:Fw K (.ref cNoPlace)=ak (.type "type"))(kNoPlace:Gk K cNoPlace=ak kNoPlace)(gaNoPlace:CK K (.ref cNoPlace) "__getattribute__"=ak (ak (.builtin "BaseException.__getattribute__")))(geNoPlace:CK K (.ref cNoPlace) "__getattr__"=ak ao)(lkNoPlace:CK K (.ref cNoPlace) "__class__"=ak (ak (.builtin "object.__class__")))(soNoPlace:Dq K (.ref cNoPlace) (.type "object")=ak aq)(sbNoPlace:Dq K (.ref cNoPlace) (.type "BaseException")=ak aq)(seNoPlace:Dq K (.ref cNoPlace) (.ref cNoPlace)=ak aq)(gTooBig:Cr K An "TooBig"=ak (ak (.ref cTooBig)))(xTooBig:G4 K cTooBig bmV "ValueError.__new__"=aq)(tTooBig:Fw K (.ref cTooBig)=ak (.type "type"))(kTooBig:Gk K cTooBig=ak kTooBig)(gaTooBig:CK K (.ref cTooBig) "__getattribute__"=ak (ak (.builtin "BaseException.__getattribute__")))(geTooBig:CK K (.ref cTooBig) "__getattr__"=ak ao)(lkTooBig:CK K (.ref cTooBig) "__class__"=ak (ak (.builtin "object.__class__")))(soTooBig:Dq K (.ref cTooBig) (.type "object")=ak aq)(sbTooBig:Dq K (.ref cTooBig) (.type "BaseException")=ak aq)(seTooBig:Dq K (.ref cTooBig) (.ref cTooBig)=ak aq)(gShort:Cr K An "Short"=ak (ak (.ref cShort)))(xShort:G4 K cShort bmV "ValueError.__new__"=aq)(tShort:Fw K (.ref cShort)=ak (.type "type"))(kShort:Gk K cShort=ak kShort)(gaShort:CK K (.ref cShort) "__getattribute__"=ak (ak (.builtin "BaseException.__getattribute__")))(geShort:CK K (.ref cShort) "__getattr__"=ak ao)(lkShort:CK K (.ref cShort) "__class__"=ak (ak (.builtin "object.__class__")))(soShort:Dq K (.ref cShort) (.type "object")=ak aq)(sbShort:Dq K (.ref cShort) (.type "BaseException")=ak aq)(seShort:Dq K (.ref cShort) (.ref cShort)=ak aq)(sShort_NoPlace:Dq K (.ref cShort) (.ref cNoPlace)=ak ar)(sShort_TooBig:Dq K (.ref cShort) (.ref cTooBig)=ak ar)(hT1:Gj K c1' P1=aq)(bm1:Cr K An "__builtins__"=ak (ak (.ref bm)))(bm2:K.lookup bm=ak ob)(bm3:bm≠DU/\ob.cls=.type "module"/\ob.dict=ak DU/\ob.data=.plain) : ∃fd:CH,(∀(s:Af) (v:Value),Gw s fd ⟨[v],[]⟩ [("_law_script",v)])/\∀base:Bg,K.In base->base.Ns An mg->Zap l.prog w K mg base CX0 15 fa fd ["_law_script"] (Xnv K (tsL P1)):=by
 have e:=hfa.symm.trans (CF X G a23);cases e;obtain⟨C,hNoPlace,hTooBig,hShort⟩:∃C:String->Addr,C "NoPlace"=cNoPlace/\C "TooBig"=cTooBig/\C "Short"=cShort:=⟨fun x=>if x="NoPlace" then cNoPlace else if x="TooBig" then cTooBig else if x="Short" then cShort else 0,by simp,by simp,by simp⟩;subst hNoPlace;subst hTooBig;subst hShort;have T:Txt mg K C:=⟨Cv X G z1,Cv X G z2,Cv X G z3,Cv X G z4,Cv X G z5,Cv X G z6,Cv X G z7,Cv X G z8,Cv X G z9,Cv X G z10,Cv X G z11,Cv X G z12,⟨tv1,CF X G v1⟩,⟨tv2,CF X G v2⟩,CF X G gNoPlace,⟨xNoPlace,tNoPlace,⟨_,kNoPlace⟩,gaNoPlace,geNoPlace,lkNoPlace,soNoPlace,sbNoPlace,seNoPlace⟩,CF X G gTooBig,⟨xTooBig,tTooBig,⟨_,kTooBig⟩,gaTooBig,geTooBig,lkTooBig,soTooBig,sbTooBig,seTooBig⟩,CF X G gShort,⟨xShort,tShort,⟨_,kShort⟩,gaShort,geShort,lkShort,soShort,sbShort,seShort⟩,sShort_NoPlace,sShort_TooBig⟩;obtain⟨oc,od,kV,doc,pm,an,cdv,ct,osl,rfl,lk,hcd⟩:=F23.ex;refine⟨fnOf "law" "law" (Zfr Xgt) (Jh Xgt) (Zh Xgt) .none kV doc pm an cdv ct,fun s v=>.of_eq rfl,fun base kb nb=>?_⟩;have B:BMod base mg:=Xlq kb nb bm1 bm2 bm3;have hd1:=PySem.W.codeHd_of_K kb hT1;have b1:=F1.binds (ps:=["roll","begin","end"]) fun _ _ _ _ _ _=>Zfh (fun _ _ _=>rfl);have Dspoilt:Def l.prog w K mg base CX0 7 "spoilt" ["roll","begin","end"] (spD K (C) 3 2 Dl.Zcw):=⟨f1,_,CF X G a1,F1.kp,b1,Xda F1 T⟩;have b2:=F2.binds (ps:=["roll"]) fun _ _ _ _ _ _=>Xqm (fun _=>rfl);have Dturned:Def l.prog w K mg base CX0 7 "turned" ["roll"] (spD K (C) 1 2 Dl.Zcs):=⟨f2,_,CF X G a2,F2.kp,b2,Xcy F2 T⟩;have b4:=F4.binds (ps:=["order"]) fun _ _ _ _ _ _=>Xqm (fun _=>rfl);have Dstates:Def l.prog w K mg base CX0 7 "states" ["order"] (spD K (C) 1 2 Dl.Zfa):=⟨f4,_,CF X G a4,F4.kp,b4,Xdf F4 T⟩;have b5:=F5.binds (ps:=["order","some"]) fun _ _ _ _ _ _=>Zlt (fun _ _=>rfl);have b7:=F7.binds (ps:=["row","ahead","place","wanted","piece"]) fun _ _ _ _ _ _=>Xqq (fun _ _ _ _ _=>rfl);have b9:=F9.binds (ps:=["plans","cuts"]) fun _ _ _ _ _ _=>Zlt (fun _ _=>rfl);have Dwith_roll:Def l.prog w K mg base CX0 7 "with_roll" ["plans","cuts"] (spD K (C) 2 2 Dl.Zaj):=⟨f9,_,CF X G a9,F9.kp,b9,Zpw F9 T⟩;have b14:=F14.binds (ps:=["_law_script","_law_place"]) fun _ _ _ _ _ _=>Zlt (fun _ _=>rfl);have D_law_cell:Def l.prog w K mg base CX0 7 "_law_cell" ["_law_script","_law_place"] (spD K (C) 2 2 Dl.Jt):=⟨f14,_,CF X G a14,F14.kp,b14,Zot F14 T⟩;have b15:=F15.binds (ps:=["_law_cell_here","_law_k"]) fun _ _ _ _ _ _=>Zlt (fun _ _=>rfl);have D_law_mix:Def l.prog w K mg base CX0 7 "_law_mix" ["_law_cell_here","_law_k"] (spD K (C) 2 2 Dl.Zah):=⟨f15,_,CF X G a15,F15.kp,b15,Zte F15 T⟩;have b24:=F24.binds (ps:=["row","ahead","place","wanted","piece"]) fun _ _ _ _ _ _=>Xqq (fun _ _ _ _ _=>rfl);have Dadd_with_last__W:Def l.prog w K mg base CX0 7 "add_with_last" ["row","ahead","place","wanted","piece"] (spM K (C) 4 Dl.Ye):=⟨f24,_,CF X G a24,F24.kp,b24,Zek F24 T⟩;have b25:=F25.binds (ps:=["order","some"]) fun _ _ _ _ _ _=>Zlt (fun _ _=>rfl);have Dtogether__T:Def l.prog w K mg base CX0 7 "together" ["order","some"] (spD K (C) 2 2 Dl.Yh):=⟨f25,_,CF X G a25,F25.kp,b25,Zku F25 T⟩;have b26:=F26.binds (ps:=["order","some"]) fun _ _ _ _ _ _=>Zlt (fun _ _=>rfl);have Dtogether__L:Def l.prog w K mg base CX0 7 "together" ["order","some"] (spD K (C) 2 2 Dl.Yy):=⟨f26,_,CF X G a26,F26.kp,b26,Zjy F26 T⟩;have b3:=F3.binds (ps:=["roll","kind","place"]) fun _ _ _ _ _ _=>Zfh (fun _ _ _=>rfl);have Dfits:Def l.prog w K mg base CX0 8 "fits" ["roll","kind","place"] (spD K (C) 3 2 Dl.Znp):=⟨f3,_,CF X G a3,F3.kp,b3,Xua F3 T Dspoilt⟩;have b6:=F6.binds (ps:=["rolls","order"]) fun _ _ _ _ _ _=>Zlt (fun _ _=>rfl);have Drefuse_big:Def l.prog w K mg base CX0 8 "refuse_big" ["rolls","order"] (spD K (C) 2 2 Dl.Jz):=⟨f6,_,CF X G a6,F6.kp,b6,Zlr F6 T Dstates⟩;have b16:=F16.binds (ps:=["_law_script","_law_place","_law_sizes"]) fun _ _ _ _ _ _=>Zfh (fun _ _ _=>rfl);have D_law_row:Def l.prog w K mg base CX0 8 "_law_row" ["_law_script","_law_place","_law_sizes"] (spD K (C) 3 2 Dl.Xt):=⟨f16,_,CF X G a16,F16.kp,b16,Zvl F16 T D_law_cell D_law_mix⟩;have b8:=F8.binds (ps:=["roll","table","order"]) fun _ _ _ _ _ _=>Zfh (fun _ _ _=>rfl);have Dcuts_of:Def l.prog w K mg base CX0 9 "cuts_of" ["roll","table","order"] (spD K (C) 3 2 Dl.Zci):=⟨f8,_,CF X G a8,F8.kp,b8,Zyf F8 T Dfits Dadd_with_last__W⟩;have b17:=F17.binds (ps:=["_law_script","_law_place","_law_most"]) fun _ _ _ _ _ _=>Zfh (fun _ _ _=>rfl);have D_law_table:Def l.prog w K mg base CX0 9 "_law_table" ["_law_script","_law_place","_law_most"] (spD K (C) 3 2 Dl.Jy):=⟨f17,_,CF X G a17,F17.kp,b17,Zlp F17 T D_law_row⟩;have b18:=F18.binds (ps:=["_law_script","_law_place","_law_most"]) fun _ _ _ _ _ _=>Zfh (fun _ _ _=>rfl);have D_law_flaw:Def l.prog w K mg base CX0 9 "_law_flaw" ["_law_script","_law_place","_law_most"] (spD K (C) 3 2 Dl.Zal):=⟨f18,_,CF X G a18,F18.kp,b18,Zoe F18 T D_law_row⟩;have b19:=F19.binds (ps:=["_law_script","_law_place","_law_most","_law_flaw_here"]) fun _ _ _ _ _ _=>Xsv (fun _ _ _ _=>rfl);have D_law_roll:Def l.prog w K mg base CX0 9 "_law_roll" ["_law_script","_law_place","_law_most","_law_flaw_here"] (spD K (C) 4 2 Dl.Jr):=⟨f19,_,CF X G a19,F19.kp,b19,Zpt F19 T D_law_row⟩;have b10:=F10.binds (ps:=["rolls","table","order"]) fun _ _ _ _ _ _=>Zfh (fun _ _ _=>rfl);have Dplans_by_left:Def l.prog w K mg base CX0 10 "plans_by_left" ["rolls","table","order"] (spD K (C) 3 2 Dl.Xh):=⟨f10,_,CF X G a10,F10.kp,b10,Zgv F10 T Drefuse_big Dwith_roll Dcuts_of⟩;have b20:=F20.binds (ps:=["_law_script","_law_place","_law_most","_law_cells","_law_kinds"]) fun _ _ _ _ _ _=>Xqq (fun _ _ _ _ _=>rfl);have D_law_rolls:Def l.prog w K mg base CX0 10 "_law_rolls" ["_law_script","_law_place","_law_most","_law_cells","_law_kinds"] (spD K (C) 5 2 Dl.Zaa):=⟨f20,_,CF X G a20,F20.kp,b20,Zml F20 T D_law_flaw D_law_table D_law_row D_law_roll⟩;have b11:=F11.binds (ps:=["rolls","table","order"]) fun _ _ _ _ _ _=>Zfh (fun _ _ _=>rfl);have Dleavings:Def l.prog w K mg base CX0 11 "leavings" ["rolls","table","order"] (spD K (C) 3 2 Dl.Ju):=⟨f11,_,CF X G a11,F11.kp,b11,Zuc F11 T Dplans_by_left⟩;have b12:=F12.binds (ps:=["rolls","table","order"]) fun _ _ _ _ _ _=>Zfh (fun _ _ _=>rfl);have Dfill:Def l.prog w K mg base (CXE l.prog w) 11 "fill" ["rolls","table","order"] (spD K (C) 3 2 Dl.Zir):=⟨f12,_,CF X G a12,F12.kp,b12,Xth F12 T Dplans_by_left⟩;have b21:=F21.binds (ps:=["_law_rolls_here","_law_table_here","_law_order"]) fun _ _ _ _ _ _=>Zfh (fun _ _ _=>rfl);have D_law_number:Def l.prog w K mg base CX0 12 "_law_number" ["_law_rolls_here","_law_table_here","_law_order"] (spD K (C) 3 2 Dl.Jk):=⟨f21,_,CF X G a21,F21.kp,b21,Zkq F21 T Dfill⟩;have b13:=F13.one.binds (ps:=["rolls","table","order"]) fun _ _ _ _ _ _=>Zfh (fun _ _ _=>rfl);have Drichest:Def l.prog w K mg base CX0 13 "richest" ["rolls","table","order"] (spL (tsL P1) (spD K (C) 3 2 Dl.Zcq)):=⟨f13,_,CF X G a13,F13.kp,b13,Zvt F13 T B hd1 Dplans_by_left Dtogether__L Dtogether__T⟩;have b22:=F22.binds (ps:=["_law_rolls_here","_law_table_here","_law_order"]) fun _ _ _ _ _ _=>Zfh (fun _ _ _=>rfl);have D_law_all_told:Def l.prog w K mg base CX0 14 "_law_all_told" ["_law_rolls_here","_law_table_here","_law_order"] (spL (tsL P1) (spD K (C) 3 2 Dl.Xa)):=⟨f22,_,CF X G a22,F22.kp,b22,Zic F22 T Dleavings Drichest D_law_number⟩;exact(oklaw (C:=C) F23 T D_law_rolls D_law_row Dleavings D_law_all_told Dturned).imp fun vs H Q E h=>by obtain⟨hL,a,ns,rfl,hz,hl,q⟩:=h;refine⟨hL,[.scr ns],[],rfl,⟨.ref a,[],[],[],rfl,⟨a,rfl,hz,rfl⟩,⟨rfl,rfl⟩,rfl⟩,?_⟩;rw[Xie ns hl];rintro v H' _ ⟨B,r,_⟩;obtain⟨rfl,_⟩:=r;exact q H'
variable{K:Params->AN}{XP:(Str->Option Value)->Bg->Prop}{YP:Bk->Bg->Prop}{d:DefRec}{loose:List Str}{q:AR}
theorem walk{l:PySem.W.OpenLaw}(hn:l.most=ak 63)(hdf:d.params.defaults=[])(hY:∀(w:Bk) (h:Bg),YP w h->(K w.params).In h)(hT:∀w:Bk,∀t∈tsL P1,(K w.params).lookup t.1=ak (HU #[])/\∃c,Gj (K w.params) c t.1=aq)(hnd:((tsL P1).map (·.1)).Nodup)(F:∀(w:Bk) (mg:Str->Option Value) (fa:Addr) (h:Bg),(K w.params).In h->h.Ns An mg->mg d.name=ak (.ref fa)->∃fd:CH,(∀(s:Af) (u:Value),Gw s fd ⟨[u],[]⟩ [("_law_script",u)])/\∀base:Bg,(Ji ((tsL P1).map (·.1)) (K w.params)).In base->base.Ns An mg->Zap l.prog w (Ji ((tsL P1).map (·.1)) (K w.params)) mg base CX0 15 fa fd ["_law_script"] (Xnv (Ji ((tsL P1).map (·.1)) (K w.params)) (tsL P1))):PySem.W.WalkO q loose XP YP l.row.toRowW d [] (fun f vs=>PySem.call f vs):=
  L2.Xim (ts:=tsL P1) (K:=K) (n:=63) (k:=15) (x:="_law_script") (CX:=fun _=>CX0) (sp:=fun w=>Xnv (Ji ((tsL P1).map (·.1)) (K w.params)) (tsL P1)) hn (by decide) hdf ⟨rfl,by decide,by decide,rfl⟩ hY hT hnd F (fun _ H a ns hl hL hO hS=>⟨hL,a,ns,rfl,Xvt hO hS,hl,fun _=>rfl⟩) fun _ _ _ _ _ z=>z
end K68
open PySem PySem.W PyProof.Rows
set_option maxRecDepth 100000 in
set_option maxHeartbeats 0 in
theorem PySem.Challenge.cw_selvage_k68_whole_turned_and_otherwise_holds : PySem.Challenge.rw_selvage_k68_whole_turned_and_otherwise.Holds := by
 w_on;o_law;z_head;(case hw=>w_witness2)
 k_fill
 refine L2.Xee (fun _=>by kernel_rfl) (K68.walk (P1:=141) (l:=PySem.Challenge.rw_selvage_k68_whole_turned_and_otherwise) rfl rfl (fun w h Y=>Y) (fun w=>?T) (by decide) ?F)
 case T=>exact AK.mpr ⟨⟨by kernel_rfl,143,by kernel_rfl⟩,fun _ z=>nomatch z⟩
 case F =>
  intro w mg fa h KX G hmg;refine' K68.all_mk (L2.Zqs (T:=[141]) KX) G hmg (L2.Zp ?a1 rfl) (L2.Xq ?l1 ?c1 ?u1 ?w1).one (L2.Zp ?a2 rfl) (L2.Xq ?l2 ?c2 ?u2 ?w2).one (L2.Zp ?a3 rfl) (L2.Xq ?l3 ?c3 ?u3 ?w3).one (L2.Zp ?a4 rfl) (L2.Xq ?l4 ?c4 ?u4 ?w4).one (L2.Zp ?a5 rfl) (L2.Xq ?l5 ?c5 ?u5 ?w5).one (L2.Zp ?a6 rfl) (L2.Xq ?l6 ?c6 ?u6 ?w6).one (L2.Zp ?a7 rfl) (L2.Xq ?l7 ?c7 ?u7 ?w7).one (L2.Zp ?a8 rfl) (L2.Xq ?l8 ?c8 ?u8 ?w8).one (L2.Zp ?a9 rfl) (L2.Xq ?l9 ?c9 ?u9 ?w9).one (L2.Zp ?a10 rfl) (L2.Xq ?l10 ?c10 ?u10 ?w10).one (L2.Zp ?a11 rfl) (L2.Xq ?l11 ?c11 ?u11 ?w11).one (L2.Zp ?a12 rfl) (L2.Xq ?l12 ?c12 ?u12 ?w12).one (L2.Zp ?a13 rfl) (L2.Xq ?l13 ?c13 ?u13 ?w13) (L2.Zp ?a14 rfl) (L2.Xq ?l14 ?c14 ?u14 ?w14).one (L2.Zp ?a15 rfl) (L2.Xq ?l15 ?c15 ?u15 ?w15).one (L2.Zp ?a16 rfl) (L2.Xq ?l16 ?c16 ?u16 ?w16).one (L2.Zp ?a17 rfl) (L2.Xq ?l17 ?c17 ?u17 ?w17).one (L2.Zp ?a18 rfl) (L2.Xq ?l18 ?c18 ?u18 ?w18).one (L2.Zp ?a19 rfl) (L2.Xq ?l19 ?c19 ?u19 ?w19).one (L2.Zp ?a20 rfl) (L2.Xq ?l20 ?c20 ?u20 ?w20).one (L2.Zp ?a21 rfl) (L2.Xq ?l21 ?c21 ?u21 ?w21).one (L2.Zp ?a22 rfl) (L2.Xq ?l22 ?c22 ?u22 ?w22).one (L2.Zp ?a23 rfl) (L2.Xq ?l23 ?c23 ?u23 ?w23).one (L2.Zp ?a24 rfl) (L2.Xq ?l24 ?c24 ?u24 ?w24).one (L2.Zp ?a25 rfl) (L2.Xq ?l25 ?c25 ?u25 ?w25).one (L2.Zp ?a26 rfl) (L2.Xq ?l26 ?c26 ?u26 ?w26).one (L2.Zp ?z1 rfl) (L2.Zp ?z2 rfl) (L2.Zp ?z3 rfl) (L2.Zp ?z4 rfl) (L2.Zp ?z5 rfl) (L2.Zp ?z6 rfl) (L2.Zp ?z7 rfl) (L2.Zp ?z8 rfl) (L2.Zp ?z9 rfl) (L2.Zp ?z10 rfl) (L2.Zp ?z11 rfl) (L2.Zp ?z12 rfl) (L2.Zp ?v1 rfl) (L2.Zp ?v2 rfl) (L2.Zp ?gNoPlace rfl) ?xNoPlace (L2.Zko ?tNoPlace ?ytNoPlace) (L2.Zeb ?kNoPlace ?ykNoPlace) ?gaNoPlace ?geNoPlace ?lkNoPlace (L2.Yx ?soNoPlace ?ysoNoPlace) (L2.Yx ?sbNoPlace ?ysbNoPlace) (L2.Yx ?seNoPlace ?yseNoPlace) (L2.Zp ?gTooBig rfl) ?xTooBig (L2.Zko ?tTooBig ?ytTooBig) (L2.Zeb ?kTooBig ?ykTooBig) ?gaTooBig ?geTooBig ?lkTooBig (L2.Yx ?soTooBig ?ysoTooBig) (L2.Yx ?sbTooBig ?ysbTooBig) (L2.Yx ?seTooBig ?yseTooBig) (L2.Zp ?gShort rfl) ?xShort (L2.Zko ?tShort ?ytShort) (L2.Zeb ?kShort ?ykShort) ?gaShort ?geShort ?lkShort (L2.Yx ?soShort ?ysoShort) (L2.Yx ?sbShort ?ysbShort) (L2.Yx ?seShort ?yseShort) (L2.Yx ?sShort_NoPlace ?ysShort_NoPlace) (L2.Yx ?sShort_TooBig ?ysShort_TooBig) (L2.Xic ?h1 ?g1) (L2.Zp ?bm1 rfl) (L2.Zva ?bm2 ?bm4) ?bm3
  (case a1|l1|c1|a2|l2|c2|a3|l3|c3|a4|l4|c4|a5|l5|c5|a6|l6|c6|a7|l7|c7|a8|l8|c8|a9|l9|c9|a10|l10|c10|a11|l11|c11|a12|l12|c12|a13|l13|c13|a14|l14|c14|a15|l15|c15|a16|l16|c16|a17|l17|c17|a18|l18|c18|a19|l19|c19|a20|l20|c20|a21|l21|c21|a22|l22|c22|a23|l23|c23|a24|l24|c24|a25|l25|c25|a26|l26|c26|z1|z2|z3|z4|z5|z6|z7|z8|z9|z10|z11|z12|v1|v2|gNoPlace=>k_is)
  (case xNoPlace=>kernel_rfl)
  (case tNoPlace|kNoPlace=>k_is)
  (case gaNoPlace|geNoPlace|lkNoPlace=>kernel_rfl)
  (case soNoPlace|sbNoPlace|seNoPlace|gTooBig=>k_is)
  (case xTooBig=>kernel_rfl)
  (case tTooBig|kTooBig=>k_is)
  (case gaTooBig|geTooBig|lkTooBig=>kernel_rfl)
  (case soTooBig|sbTooBig|seTooBig|gShort=>k_is)
  (case xShort=>kernel_rfl)
  (case tShort|kShort=>k_is)
  (case gaShort|geShort|lkShort=>kernel_rfl)
  (case soShort|sbShort|seShort|sShort_NoPlace|sShort_TooBig=>k_is)
  (case u1|w1|u2|w2|u3|w3|u4|w4|u5|w5|u6|w6|u7|w7|u8|w8|u9|w9|u10|w10|u11|w11|u12|w12|u13|w13|u14|w14|u15|w15|u16|w16|u17|w17|u18|w18|u19|w19|u20|w20|u21|w21|u22|w22|u23|w23|u24|w24|u25|w25|u26|w26|ytNoPlace|ytTooBig|ytShort|ykNoPlace|ykTooBig|ykShort|ysoNoPlace|ysbNoPlace|yseNoPlace|ysoTooBig|ysbTooBig|yseTooBig|ysoShort|ysbShort|yseShort|ysShort_NoPlace|ysShort_TooBig=>rfl)
  (case h1=>kernel_rfl)
  (case g1=>rfl)
  (case bm1|bm2=>k_is)
  (case bm4=>rfl)
  (case bm3=>exact⟨by decide,by kernel_rfl,by kernel_rfl,by kernel_rfl⟩)
