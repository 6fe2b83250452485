import PyProof.Rows.All
import Wide.All
import OpenK.AllK
import Wide.FinOn
import Lean
import PyProof.EqAt
import PyProof.EqKinds
import PyProof.TupleCall
import PySem.Challenge.RW_selvage_k63_all_leavings
set_option Elab.async false
set_option linter.all false
set_option maxRecDepth 100000
set_option genSizeOfSpec false
set_option genInjectivity false
open PySem renaming wpAny_bind→Aa,wpAny_pure→Ac,starEach→Af,Shared→Ah,mainGlobals→Ar,sizeLine→Aw,assignEach→AV,Program→AZ,wpAny_newObj_type→A5,wpAny_call_entry→Bg,wpAny_setField_rec→Bm,wpAny_loadPart'→Bp,wpAny_callSpecial?_slot→Bs,foldedSetIterable→Bt,wpAny_field→Bu,cLine→Bw,World→BC,Around→BE,backTo→BU,compareOp→BX,wpAny_holding→BZ,wpAny_seqItems→B3,wpAny_dictEntries→B4,bootBuiltins→Ck,wpAny_truthy_bool→Cr,swapsWith→Cs,wpAny_mono→Cw,binaryOp→CA,sysModules→CH,Keyword→CM,attributeBase→CW,IsPair→CY,holding→CZ,wpAny_typeNameOfWhole_itemiter→C0,wpAny_fieldsOf→C1,NameKind→C3,FuncData→C4,wpAny_typeNameOfWhole_keyiter→C7,assign→Dg,intItems→Dk,behindInMarks→Dq,argBest→Du,wpAny_rule→Dy,reduceHash→Dz,keywordEach→DD,tupleKind→DF,wpAny_typeNameOf_itemiter→DJ,wpAny_typeNameOf_keyiter→DO,wpAny_attempt→DP,wpAny_dictEpoch→DQ,wpAny_letGo→DU,DictEntry→DX,wpAny_isOneOf_itemiter→D0,rawInt→D1,firstArgMember→D2,Builtin→D4,IsItemIter→Ed,plainId_quiet→Ee,ExceptHandler→Ei,sliceBounds→El,wpAny_passesOwn→Ep,codeAny_builtin→Es,wpAny_tryCatch→EH,wpAny_Call_Name_kw→EI,backToKw→EL,IsZip→EV,swapsWithSole→EW,swappedStores→EX,PyData→E1,wpAny_isInstance→E6,numAt→Fa,standAt→Fi,wpAny_notOrdered_dict→Fx,wpAny_isOneOf_keyiter→Fy,wpAny_updateSeq_pair→FH,wpAny_setField→FJ,recursionLimit→FL,getItem→FV,BindsTo→FZ,Arguments→F0,wpAny_standAt→Ge,wpAny_onRaise→Gf,nums_intItems→Gh,Reads→Gi,wpAny_pyIter_tuple→Gu,tupleKind_room_in1→Gv,entryOfKey→Gy,builtinsNs→Gz,wpAny_pyIter_slot→GJ,valueAt→GK,slot_list_getitem→GM,callerA→GP,seqItems?→G1,noFill_tuple_add→G2,IsPart→G5,wpAny_of_eq→G9,subscripted→Hd,sizeLine_eq→He,wpAny_updateSeq→Hi,wpAny_specialOf→Hj,wpAny_execs_nil→Hk,setItem→Ht,wpAny_newTuple→Hw,isSubtype_stop→HB,compEnvC→HC,call_meets→HD,atKey→HE,ZipApart→HF,Operator→HI,GenState→HS,wpAny_handled→Ib,wpAny_getItem_list_slice→Ic,wpAny_comprehension_free→Ie,seq_tuple_add→Ig,evalPart_none→Ih,IsItemIterOut→Im,field→Iw,cellsFrom→Iy,bindL→Iz,bindC→IA,PassesOwn→IB,truthy→II,relabel→IL,pyIter→IM,newExc→IN,concat_meets→IR,codeAny_mono→IS,wpAny_throw→JV,wpAny_loadName_local→JY,setField→J0,intItems_at→J1,wpAny_loadName_cell→Kb,wpAny_Name→Kn,typeIs_int→Ko,closureFor→Kr,Result→Kt,wpAny_pyIter_list→KD,wpAny_pyIter_enum→KE,wpAny_assign_Name→KF,release→KG,again→KL,OsState→KQ,wpAny_pyIter_zip→K0,wpAny_execs_cons→K1,storeName→K2,seqIndex?→K3,pairTrees_length→K4,raiseNew→LB,newTuple→LC,bindArgs→LF,ReadsAll→LG,CmpOp→LI,wpAny_newList→LJ,rangeSize_one→LK,intBits_le_64→LM,evalPart_some→LN,call_list_seq→LO
open List renaming replicate→Ab,getElem?_eq_getElem→Ad,getElem?_eq_some_iff→Ag,length_append→Ai,mem_of_getElem?→Al,length_map→Am,mem_cons→An,mem_singleton→Ao,mem_append_right→As,mem_append→Au,nodup_cons→AA,append_assoc→AD,mem_map→AE,size_toArray→AG,getElem?_append_left→AH,getD_eq_getElem?_getD→AI,mem_append_left→AJ,range→AO,getElem?_append_right→AR,length_cons→AX,drop_eq_getElem_cons→AY,nodup_append→A3,pairwise_append→A7,forall_mem_cons→A8,flatten_cons→Ba,map_append→Bc,nodup_nil→Be,zipWith→Bf,replicate_succ→Bi,getElem?_map→Bk,map_cons→Bn,lookup_cons→Bo,mem_of_mem_take→Bq,length_eq_zero_iff→BF,map_map→BI,toArray→BJ,mem_of_mem_drop→BK,getElem?_set_ne→BL,take_append_drop→BM,mem_iff_getElem?→BN,mem_range→BO,drop_eq_nil_of_le→BP,all_eq_true→BV,take_of_length_le→B5,length_take→B9,length_replicate→Cg,getElem?_drop→Cj,not_mem_nil→Co,getElem?_set_self→Cu,mem_cons_of_mem→Cy,getD→Cz,getElem_mem→CD,set_append_right→CF,perm_append_comm→CG,map_congr_left→CI,length_zipWith→CJ,append_nil→CK,mem_filter→CL,zip_cons_cons→CU,length_range→Dc,getElem?_cons_succ→De,mem_cons_self→Do,extract_eq_take_drop→Dv,of_mem_zip→DA,length_set→DC,pairwise_cons→DK,Nodup→DL,pairwise_singleton→DM,zipWith_cons_cons→DR,pairwise_map→DS,foldl_cons→DT,length_drop→DV,mem_flatMap→DY,any_eq_true→DZ,take_append_of_le_length→D5,dropLast_concat_getLast→D7,sum_append→D9,reverse_append→Eb,flatten_append→Ec,getElem?_take→Eg,getElem?_zip_eq_some→Ez,reverse_cons→EA,length→EB,find?_cons→EK,getElem?_replicate→EM,cons_append→ER,length_take_of_le→ES,forall_mem_append→ET,drop_of_length_le→EU,mem_replicate→EY,take_zero→E7,drop_zero→Fc,reverse_reverse→Ff,mem_iff_getElem→Fg,length_reverse→Fu,filterMap_cons→Fv,map_inj_right→FF,sum_cons→FK,any_cons→FP,take_add_one→FX,zipIdx_cons→Gm,flatten_nil→Gn,filter_cons→Gp,drop_length→Gq,length_zip→Gw,forIn_cons→Gx,drop_append_of_le_length→GB,zip_append→GD,range_succ→GF,length_nil→GG,map_take→GO,nodup_iff_pairwise_ne→GX,forIn_nil→GY,drop_left→GZ,pairwise_iff_getElem→G4,set_eq_of_length_le→Hf,getElem?_cons_zero→Hn,append_eq_nil_iff→Hv,map_drop→Hy,length_singleton→HN,getElem?_zipWith→HP,getElem?_eq_none→HQ,mem_of_mem_tail→HX,map→HY,take_succ_cons→Ik,filter_eq_self→Il,mem_filterMap→ID,getElem_range→IE,foldl→IF,map_id→IP,take_sublist→IU,getElem_take→IV,take_length→JF,mem_reverse→JH,map_reverse→JK,zipIdx_nil→J8,nil_append→J9,drop_drop→Kg,map_nil→KH
open PySem.Heap renaming get?_push_of_some→Ae,get?_push_size→Az,lt_size→AW,SameBut→Cb,get?_update_other→CQ,get?_update_self→DG,size_push→E9,size_update→Gr,ExtBut→HZ,get?_update_ne→Ip,get?_push_ne→IZ,IsTuple→KY
open Bool renaming false_ne_true→Aj,and_eq_true→A9,false_eq_true→Bb,eq_iff_iff→DI,not_false→Kl,false_and→Km
open PyProof.Rows renaming wpS_bind→Ak,wpS_pure→Ap,arrOf→Aq,Keyed→Ay,pendingOf→A6,SortSt→BB,wpS_forRange→BG,boot_list→BR,wpS_mono→B0,kindOf→B6,boot_tuple→B7,callWith_type1→Ce,failedOf→CS,seqObj→CV,slot_tuple_getitem→DE,boot_min→DH,boot_int→Ex,wpS_get→EO,envOfC→EZ,IntsAre→Fo,AllBare→Fq,wpS_lift→FG,SortKind→FQ,subscriptTail→Gg,boot_dict→Gj,wpS_modify→Gs,mirror→G3,size_push'→Hx,Subscript_→HH,IsTup→IG,subscriptTail_builtinR→IJ,setArr→IK,getElem?_mirror_all→Kc,getElem?_bubble→Le,callWith_builtin1→Lf,boot_sum→Lg,boot_sorted→Lh,boot_isinstance→Li,boot_bool→Lj,boot_any→Lk,tail_any→Lz,slicePart_none→LA,mergeAt'→LD,listUpdate_at→LL
open Or renaming inl→Av,inr→Ft
open Nat renaming le_refl→Ax,le_trans→AC,lt_of_lt_of_le→AF,lt_irrefl→Bh,ne_of_lt→BD,le_add_right→CB,lt_succ_of_lt→Dp,testBit→Ds,zero_le→Dt,lt_of_le_of_lt→DB,le_mul_of_pos_right→DN,sub_self→Ek,lt_of_succ_lt→ED,zero_add→EG,ble→E2,min_le_left→E4,min_eq_left→E5,succ_pos→E8,le_of_eq→Fb,le_zero→Fn,ne_of_gt→FN,add_assoc→FW,lt_succ_self→GA,mul_one→GN,not_lt_zero→GQ,mul_assoc→Hl,lt_succ_iff_lt_or_eq→Hm,add_sub_cancel_left→Hu,lt_trans→Hz,le_of_lt→HA,succ_mul→HJ,min_self→HK,le_mul_of_pos_left→HL,add_comm→HM,le_succ→IQ,le_of_succ_le→JD,succ_ne_zero→J4,min_le_right→J5,min_eq_right→J6,le_of_not_lt→J7,mul_le_mul→Kx,sub_zero→K7,one_mul→Ll,mul_pos→Lm,max_lt→LH,succ→LS
open Option renaming map_eq_some_iff→AB,bind_eq_some_iff→AK,none→Ca,isSome_iff_exists→Ey,isSome_map→Ii,getD_none→IC,some→Kw,map→KR
open PySem.Value renaming ref→AL,none→BH,bool→Em,int→Fe,str→Ga,isStrOf→Ke,isInt→KM,float→KN,type→K5
open PySem.PassesOwn renaming never→AM
open Array renaming length_toList→AN,getElem?_eq_getElem→AQ,getElem?_toList→AT,toList_append→BS,toList_reverse→EJ,toList_push→EQ,toList_setIfInBounds→GV,getElem?_eq_some_iff→GW,getElem?_eq_none→Hs,mem_toList_iff→HU,getElem_toList→HV,toList_map→I0,toList→KC
open Int renaming le_trans→AS,ofNat_lt→Cc,mul_le_mul_of_nonneg_left→Ci,toNat_of_nonneg→CP,emod_lt_of_pos→C2,emod_nonneg→C9,toNat_natCast→Dm,toNat_lt→Ej,le_of_lt→En,eq_ofNat_of_zero_le→EN,mul_nonneg→Fj,le_refl→Fp,lt_of_le_of_lt→FR,lt_add_one_iff→FU,zero_add→Gc,le_add_of_nonneg_right→G6,add_nonneg→G7,ofNat_inj→Ho,add_assoc→Hq,lt_trans→HR,add_le_add_right→Io,add_le_add_left→IH,natCast_nonneg→IW,natAbs_natCast→IX,le_min→IY,emod_eq_of_lt→JL,min_le_right→Ka,natCast_mul→Kh,le_antisymm→Ki,mul_le_mul→Ky,add_le_add→Kz,ofNat_sub→KW,toNat_le→K8,ne_of_gt→K9
open Option.some renaming inj→AU,injEq→D6
open PySem.Builtin.SmallTypes renaming nextOf→Bl,ownedTupleIsFree→B8,ownedTupleHandOut→Eo
open LawfulBEq renaming eq_of_beq→BA
open PySem.Str renaming ofString→BQ
open Nat.succ renaming inj→BW
open PySem.Builtin.Dict_items renaming ownsTuple→BY,ownedTupleIsFree→Eu,ownedTupleFields→Ew,pairFromOwner→EF,newIterator→JQ,dictOf→JR
open PySem.W renaming mg_none_of→Cf,mg_of→C8,kia_one→Ef,findIn→Er,keepIn→Fk,subIn→Ir,specialIn→Iu,methodObj→Iv,codeHdIn→J2,typeIn→Kp,kitOne→Kq,instObj→KI,hideAll→KJ
open PySem.F renaming slot_dict_itemiterator_next→Cm,slot_dict_keyiterator_next→Cq,slot_tuple_iterator_next→Dx,slot_zip_next→Fh,args_dict_itemiterator_next_1→GI,entry_dict_itemiterator_next→GR,args_dict_keyiterator_next_1→GS,entry_dict_keyiterator_next→G0,args_tuple_iterator_next_1→G8,entry_tuple_iterator_next→Hh,slot_dict_items_iter→Iq,args_zip_next_1→Kj,slot_dict_iter→KA,entry_zip_next→KB,slot_int_rmul→KZ,slot_list_lt→La
open PySem.NameKind renaming free→Cp,cell→IT
open List.Perm renaming append_left→Cv,refl→CN,swap→LU,eq_of_pairwise→LV,cons→LW
open PySem.Obj renaming mapSeq→CC,data_mapFields→Et,isFreed_of_fields→HW,data_mapDictKeys→Ij,cls_mapFields→JC,mapFields→KU
open True renaming intro→CO
open PySem.Builtin.Dict renaming showsAll→CT,entriesForEmpty→Fw,updateFrom→Gd,selfAndRest→Lq,readDirectly→Lr,quietEq→Ls,noArgs→Lu,mergeDict→Lv,merge→Lw,dictSlotNone→Lx,addKeywords→Ly
open PySem.Builtin.Tuple renaming tupleHashOf→C5,tupleExact→Di,tupleItemsOf→Lb
open PySem.Builtin.Slice renaming slicePlaces→C6,sliceAdjust→D3,sliceApplied→Fz,slicePartIndex→Lc,sliceFields→Ld
open PySem.Heap.SameBut renaming update→Da
open List.Pairwise renaming imp_of_mem→Dh,nil→Dw
open PySem.Around renaming under_plainId→Dj
open PySem.PyData renaming strOk→Dr,eqv→DW,canLay0→E3,depth→FC,canLayAll0→FD,depthAll→Gk,eqvAll→J3,list→Ku
open PySem.Builtin.List renaming listTooLong→D8,listUpdate→Lp
open PySem.SeqAt renaming shaped→Ea
open ForInStep renaming yield→EE
open PySem.Builtin.Builtins renaming bindParams→Fd
open PySem.Shared renaming TypeIs→Fm,heap→Ks
open Sum renaming inl→Fs,inr→Gb
open PySem.Builtin.Range renaming rangeSize→FY
open List.cons renaming inj→GC
open PySem.Heap.IsSliceOf renaming new→GH
open ToString renaming toString→GL
open PySem.Calls renaming Name_function_global→GU,callWith_builtin→Hr
open PySem.Walks renaming tuple→HG
open MonadExcept renaming tryCatch→JZ
open Sum.inl renaming inj→Kf
open PySem.CmpOf renaming ints_lt→Kk
open PyProof.Rows.SortSt renaming mk'→KO
open PyProof.Rows.Reads renaming keeps→KP
open PySem.Obj.ExactDict renaming mapDictKeys→K6
open PyProof.Rows.IsTup renaming new→Ln
open PySem.Heap.IsTuple renaming push→Lo
open PySem.SeqAt.EqAt renaming str_int→LP,int_str→LQ
open Array.Perm renaming refl→LR
open PySem.DictEntry renaming refKey→LX
open PySem.AutoListH renaming list___mul___list_int_3→LY
open PySem.W (Frag clsIn codeIn exmOne fnOf isFn lookIn nsIn)

open Nat (lt_irrefl mod_lt mul_one)

open Array (length_toList)

def PySem.W.Fast.tw13994167016018678991:=0
def PySem.W.Fast.tw5603160434851118257:=0
def PySem.W.Fast.tw15002978168924201084:=0
def PySem.W.Fast.tw17877991054358005595:=0
def PySem.W.Fast.tw14510460219081310551:=0
def PySem.W.Fast.tw8938638081866509549:=0
def PySem.W.Fast.tw14178259544399058649:=0
def PySem.W.Fast.tw13184033067575334742:=0
def PySem.W.Fast.tw743636135828021364:=0
def PySem.W.Fast.tw8119567701505293880:=0
def PySem.W.Fast.tw17800381970484137974:=0
theorem aT0 (h:True:=by first | exact .inl rfl | exact .inr rfl | assumption):True:=CO
theorem aT3 (h:True:=by first | exact Av rfl | exact Ft (Av rfl) | exact Ft (Ft rfl)):True:=CO
namespace L2
open PySem PySem.Spec PyProof.Rows
variable {H H':Hp}{a b it C dx:Addr}{o ob:Obj}{u cd:Value}{P prog:AZ}{w:BC}{h h' base:Heap}{x name m qual:Str}{e c tg l iter:Expr}{X:Cx}{pins pins' pl:List (Addr×Obj)}{σ:St}{s s':Ah}{g':Array HS}{t' i j k n tk:Nat}{d':Drawn}{ch fp:List Addr}{N ps ks:List Str}{M:Model}{A:BE}{E Q:Value->Ah->Prop}{v:V}{α κ:Type}{pos pos' p apos:Pos}{ta tb te tc:TE}{xs vs dvs:List V}{K:Frag}{st:Stmt}{es:List Expr}{g:List Value->List Value->List Value}{op:LI}{ti:TIp}{body:List Stmt}{r:List V->Hp->VK->Prop}{f:Value->Value->Sem Value}{its us ds:List Value}{mA mg:Str->Option Value}{fs':List (Str×V)}{CX:CXT}{fd:C4}{sp:Sp}{kws:List CM}{nm:Option Str}{gV:List V->List V->List V}{scope:Scope}{outer:List Env}{params:F0}{an od:Option Addr}
abbrev Key:=Sum Int Str
def Zue:Key->Value->Bool
 | .inl k,v=>KM k v
 | .inr x,v=>Ke x v
def keyH (w:BC):Key->Int
 | .inl k=>hashInt k
 | .inr x=>hashStr w x
theorem Yk:∀{k:Key} {v:Value},Zue k v=true->(∃i t,k=Fs i/\v=Fe i t)\/(∃x t,k=Gb x/\v=Ga x t)
 | .inl i,v,h=>by obtain ⟨t,e⟩:=Value.isInt_shape (k:=i) (v:=v) h;exact .inl ⟨i,t,rfl,e⟩
 | .inr x,v,h=>by obtain ⟨t,e⟩:=Value.isStrOf_shape (x:=x) (v:=v) h;exact .inr ⟨x,t,rfl,e⟩
theorem Xac (i:Int)(t:Tok):Zue (.inl i) (.int i t)=true:=by simp [Zue,KM]
theorem Zym (x:Str)(t:Tok):Zue (.inr x) (.str x t)=true:=by simp [Zue,Ke]
theorem Xuk (a b:Int):decide ((Fs a:Key)=Fs b)=(a==b):=by by_cases e:a=b;subst e;simp;have h:¬(Fs a:Key)=Fs b:=fun q=>e (Kf q);rw [decide_eq_false h];exact (beq_eq_false_iff_ne.mpr e).symm
theorem Xqt (a b:Str):decide ((Gb a:Key)=Gb b)=decide (a=b):=by by_cases e:a=b;subst e;simp;have h:¬(Gb a:Key)=Gb b:=fun q=>e (Sum.inr.inj q);rw [decide_eq_false h,decide_eq_false e]
theorem Xvb (a:Int)(b:Str):decide ((Fs a:Key)=Gb b)=false:=decide_eq_false (fun q=>nomatch q)
theorem Xta (a:Str)(b:Int):decide ((Gb a:Key)=Fs b)=false:=decide_eq_false (fun q=>nomatch q)
def Yg (prog:AZ)(w:BC):PySem.KeyKind prog w Key where
 is:=Zue
 hash:=keyH w
 inj:=fun v a b ha hb=>by
  rcases Yk ha with ⟨i,t,rfl,rfl⟩ | ⟨x,t,rfl,rfl⟩
  ·rcases Yk hb with ⟨j,u,rfl,e⟩ | ⟨y,u,rfl,e⟩
   ·injection e with e1 _;rw [e1]
   ·exact nomatch e
  ·rcases Yk hb with ⟨j,u,rfl,e⟩ | ⟨y,u,rfl,e⟩
   ·exact nomatch e
   ·injection e with e1 _;rw [e1]
 byValue:=fun k v h=>by
  rcases Yk h with ⟨i,t,rfl,rfl⟩ | ⟨x,t,rfl,rfl⟩<;>rfl
 pyHash:=fun hv h=>by
  rcases Yk hv with ⟨i,t,rfl,rfl⟩ | ⟨x,t,rfl,rfl⟩
  ·exact wpAny_pyHash_int h
  ·exact wpAny_pyHash_str h
 eqBool:=fun hu hv h=>by
  rcases Yk hu with ⟨i,t,rfl,rfl⟩ | ⟨x,t,rfl,rfl⟩
  ·rcases Yk hv with ⟨j,u,rfl,rfl⟩ | ⟨y,u,rfl,rfl⟩
   ·rw [Xuk] at h;exact wpAny_eqBool_int h
   ·rw [Xvb] at h;exact LQ i t y u _ _ _ _ h
  ·rcases Yk hv with ⟨j,u,rfl,rfl⟩ | ⟨y,u,rfl,rfl⟩
   ·rw [Xta] at h;exact LP x t j u _ _ _ _ h
   ·rw [Xqt] at h;exact wpAny_eqBool_str h
 «strs»:=fun k x t v h=>by
  rcases Yk h with ⟨i,u,rfl,e⟩ | ⟨y,u,rfl,e⟩
  ·exact nomatch e
  ·injection e with e1 _
   subst e1
   cases v<;>rfl
theorem Zpm (prog:AZ)(w:BC)(i:Int)(t:Tok):(Yg prog w).is (.inl i) (.int i t)=true:=Xac i t
theorem Zqa (prog:AZ)(w:BC)(x:Str)(t:Tok):(Yg prog w).is (.inr x) (.str x t)=true:=Zym x t
set_option genInjectivity true in
inductive V where
 | non | bl (b:Bool) | int (i:Int) | str (x:Str) | byt (b:Array UInt8) | flt (b:UInt64) | ref (a:Addr) | ty (n:String)
 deriving DecidableEq
def RelV:V->Value->Prop
 | .non,u=>u=BH
 | .bl b,u=>u=Em b
 | .int i,u=>∃t,u=Fe i t
 | .str x,u=>∃t,u=Ga x t
 | .byt b,u=>∃t,u=Value.bytes b t
 | .flt b,u=>∃t,u=KN b t
 | .ref a,u=>u=AL a
 | .ty n,u=>u=K5 n
abbrev Yl:List V->List Value->Prop:=Paired RelV
theorem Yl.length {xs:List V}{us:List Value}(r:Yl xs us):xs.length=us.length:=Paired.length r
theorem Yl.get:∀{xs:List V} {us:List Value} {i:Nat} {x:V},Yl xs us->xs[i]?=some x->∃u,us[i]?=some u/\RelV x u
 | _,_,_,_,.nil,e=>by simp at e
 | _,_,0,_,.cons r _,e=>by simp at e;subst e;exact ⟨_,rfl,r⟩
 | _,_,i+1,x,.cons _ t,e=>by obtain ⟨u,h1,h2⟩:=Yl.get (i:=i) (x:=x) t (by simpa using e);exact ⟨u,by simpa using h1,h2⟩
theorem Yl.append:∀{xs ys:List V} {us ws:List Value},Yl xs us->Yl ys ws->Yl (xs++ys) (us++ws)
 | _,_,_,_,.nil,s=>s
 | _,_,_,_,.cons r t,s=>.cons r (Yl.append t s)
theorem Yl.take:∀{xs:List V} {us:List Value} (n:Nat),Yl xs us->Yl (xs.take n) (us.take n)
 | _,_,0,_=>.nil
 | _,_,_+1,.nil=>.nil
 | _,_,n+1,.cons r t=>.cons r (Yl.take n t)
theorem Yl.drop:∀{xs:List V} {us:List Value} (n:Nat),Yl xs us->Yl (xs.drop n) (us.drop n)
 | _,_,0,r=>r
 | _,_,_+1,.nil=>.nil
 | _,_,n+1,.cons _ t=>Yl.drop n t
def Xbr:Option V->Option Value->Prop
 | some v,some u=>RelV v u
 | none,none=>True
 | _,_=>False
def KV {κ:Type}:List (κ×V)->List (κ×Value)->Prop:=Paired fun (p:κ×V) (q:κ×Value)=>p.1=q.1/\RelV p.2 q.2
def kV:Key->V
 | .inl i=>.int i
 | .inr x=>.str x
inductive HO where
 | lst (xs:List V)
 | tup (xs:List V)
 | dK (kvs:List (Key×V)) | dT (kvs:List (List Key×V))
 | set (S:Int->Bool) (n:Nat)
 | ins (C dx:Addr) (fs:List (Str×V))
 | own (x:Addr)
 | xd (fs:List (Str×V))
 | met (f x:Addr)
 | rng (lo hi:Int)
 | frz (o:Obj) (u:HO)
 | tbl (pos:Pos) (qual:Str)
 | ext (φ:Heap->Prop)
abbrev Hp:=Addr->Option HO
def upd (H:Hp)(a:Addr)(o:HO):Hp:=fun b=>if b=a then some o else H b
theorem Xd {o:HO}:upd H a o a=some o:=by unfold upd;rw [if_pos rfl]
theorem Xa {o:HO}(h:b≠a):upd H a o b=H b:=by unfold upd;rw [if_neg h]
theorem Xrm {o u:HO}(h:H a=some o)(h':H b=some u)(d:o≠u):a≠b:=by intro e;subst e;rw [h] at h';exact d (AU h')
theorem Xl {o:HO}(h:H a=some o)(h':H b=none):a≠b:=by intro e;subst e;rw [h] at h';cases h'
section
variable (P:AZ)(w:BC)
def Yz (H:Hp)(h:Heap)(a:Addr):HO->Prop
 | .lst xs=>xs.length<=Aw/\∃(its:List Value) (n:Nat),Yl xs its/\h.get? a=some {cls:=.type "list",data:=.seq its.toArray n}
 | .tup xs=>xs.length<=Aw/\∃its:List Value,Yl xs its/\IG h a its.toArray
 | .dK kvs=>kvs.length<=Aw/\(a==CH)=false/\∃vs,KV kvs vs/\h.DictOf (Yg P w) a vs
 | .dT kvs=>kvs.length<=Aw/\(a==CH)=false/\∃xs:List (List Key×Addr×Value),
   Paired (fun (p:List Key×V) (q:List Key×Addr×Value)=>p.1=q.1/\H q.2.1=some (.tup (p.1.map kV))/\RelV p.2 q.2.2) kvs xs/\
   ∃o es ep,h.get? a=some o/\o.ExactDict/\o.data=.dict es ep/\es.toList=xs.map (Gy (DF (Yg P w)))/\(xs.map (·.1)).Nodup
 | .set S n=>h.SetOf (intKind P w) a S n
 | .ins C dx fs=>H dx=some (.own a)/\fs.length<=1000/\dx≠a/\h.get? a=some (KI C dx)/\
   ∃mA,h.Ns1 dx mA/\(∀f,Xbr (fs.lookup f) (mA f))/\PySem.Within mA (fs.map (·.1))
 | .own _=>∃o,h.get? a=some o
 | .xd fs=>∃mA,h.Ns1 a mA/\∀f,Xbr (fs.lookup f) (mA f)
 | .rng lo hi=>∃t u v,h.get? a=some {cls:=.type "range",data:=.fields #[.int lo t,.int hi u,.int 1 v]}
 | .frz o u=>h.get? a=some o/\Yz H h a u
 | .tbl pos qual=>∃ps,h.get? a=some {cls:=.none,data:=.fields ps}/\TriplesOk ps.toList/\∀v,codeAmong pos ps.toList=some v->∃c o vs t,v=.ref c/\H c=some (.frz o (.own 0))/\o.data=.fields vs/\vs[1]?=some (.str qual t)
 | .met f x=>h.get? a=some (Iv (.ref f) (.ref x))
 | .ext φ=>φ h/\(∃o,h.get? a=some o)/\∀h1 h2:Heap,φ h1->(∀o,h1.get? a=some o->h2.get? a=some o)->φ h2
def HOk (H:Hp)(h:Heap):Prop:=∀a o,H a=some o->Yz P w H h a o
end
section
variable {o:HO}
theorem Yz.lt (x:Yz P w H h a o):a<h.objs.size:=by
 cases o with
 | lst xs=>obtain ⟨_,_,_,_,e⟩:=x;exact AW e
 | tup xs=>obtain ⟨_,_,_,p⟩:=x;exact p.lt
 | dK kvs=>obtain ⟨_,_,_,_,o,_,_,e,_⟩:=x;exact AW e
 | dT kvs=>obtain ⟨_,_,_,_,o,_,_,e,_⟩:=x;exact AW e
 | set S n=>obtain ⟨o,_,_,_,e,_⟩:=x;exact AW e
 | ins C dx fs=>obtain ⟨_,_,_,e,_⟩:=x;exact AW e
 | own y=>obtain ⟨_,e⟩:=x;exact AW e
 | xd fs=>obtain ⟨_,⟨_,_,_,e,_⟩,_⟩:=x;exact AW e
 | rng lo hi=>obtain ⟨_,_,_,e⟩:=x;exact AW e
 | frz ob u=>obtain ⟨e,_⟩:=x;exact AW e
 | tbl pos qual=>obtain ⟨_,e,_⟩:=x;exact AW e
 | met f y=>exact AW (show h.get? a=some _ from x)
 | ext φ=>obtain ⟨_,⟨_,e⟩,_⟩:=x;exact AW e
theorem Paired.mapP {α β:Type}{F G:α->β->Prop}:∀{l₁:List α} {l₂:List β},Paired F l₁ l₂->(∀a b,F a b->G a b)->Paired G l₁ l₂
 | _,_,.nil,_=>.nil
 | _,_,.cons r t,f=>.cons (f _ _ r) (Paired.mapP t f)
theorem Yz.stay (x:Yz P w H h a o)(k:∀b u,(b=a\/H b=some (.own a))->h.get? b=some u->h'.get? b=some u)
  (ho:∀b,H b=some (.own a)->H' b=some (.own a)) (ht:∀b xs,H b=some (.tup xs)->H' b=some (.tup xs)) (hf:∀b o u,H b=some (.frz o u)->H' b=some (.frz o u)):Yz P w H' h' a o:=by
 induction o with
 | lst xs=>obtain ⟨z,its,n,r,e⟩:=x;exact ⟨z,its,n,r,k _ _ (.inl rfl) e⟩
 | tup xs=>obtain ⟨z,its,r,ob,e,c⟩:=x;exact ⟨z,its,r,ob,k _ _ (.inl rfl) e,c⟩
 | dK kvs=>obtain ⟨z,y,vs,r,ob,es,ep,e,c⟩:=x;exact ⟨z,y,vs,r,ob,es,ep,k _ _ (.inl rfl) e,c⟩
 | dT kvs =>obtain ⟨z,y,xs,r,ob,es,ep,e,c⟩:=x;exact ⟨z,y,xs,Paired.mapP r fun p q z=>⟨z.1,ht _ _ z.2.1,z.2.2⟩,ob,es,ep,k _ _ (.inl rfl) e,c⟩
 | set S n=>obtain ⟨ob,es,ep,t,e,c⟩:=x;exact ⟨ob,es,ep,t,k _ _ (.inl rfl) e,c⟩
 | ins C dx fs =>obtain ⟨d,z,ne,e,mA,⟨od,es,ep,e2,c⟩,r⟩:=x;exact ⟨ho _ d,z,ne,k _ _ (.inl rfl) e,mA,⟨od,es,ep,k _ _ (.inr d) e2,c⟩,r⟩
 | own y=>obtain ⟨ob,e⟩:=x;exact ⟨ob,k _ _ (.inl rfl) e⟩
 | xd fs=>obtain ⟨mA,⟨od,es,ep,e,c⟩,r⟩:=x;exact ⟨mA,⟨od,es,ep,k _ _ (.inl rfl) e,c⟩,r⟩
 | rng lo hi=>obtain ⟨t,u,v,e⟩:=x;exact ⟨t,u,v,k _ _ (.inl rfl) e⟩
 | frz ob u ih=>obtain ⟨e,q⟩:=x;exact ⟨k _ _ (.inl rfl) e,ih q⟩
 | tbl pos qual =>obtain ⟨ps,e,tr,hc⟩:=x;refine ⟨ps,k a _ (.inl rfl) e,tr,fun v hv=>?_⟩;obtain ⟨c,o,vs,t,e1,e2,e3⟩:=hc v hv;exact ⟨c,o,vs,t,e1,hf _ _ _ e2,e3⟩
 | met f y =>have e:h.get? a=some (Iv (.ref f) (.ref y)):=x;show h'.get? a=some (Iv (.ref f) (.ref y));exact k a _ (.inl rfl) e
 | ext φ=>obtain ⟨p,⟨o,e⟩,st⟩:=x;exact ⟨st _ _ p fun o q=>k _ _ (.inl rfl) q,⟨o,k _ _ (.inl rfl) e⟩,st⟩
theorem HOk.lt (x:HOk P w H h)(e:H a=some o):a<h.objs.size:=(x a o e).lt
theorem HOk.fresh (x:HOk P w H h)(e:h.objs.size<=a):H a=none:=by
 cases q:H a with
 | none=>rfl
 | some u=>exact absurd (AF (x.lt q) e) (Bh _)
theorem HOk.kept (x:HOk P w H h)(k:∀b u,h.get? b=some u->h'.get? b=some u):HOk P w H h':=fun a o e =>
 (x a o e).stay (fun b u _ q=>k b u q) (fun _ q=>q) (fun _ _ q=>q) fun _ _ _ q=>q
theorem HOk.laid (x:HOk P w H h)(k:∀b u,h.get? b=some u->h'.get? b=some u)(hp:h.objs.size<=a)(new:Yz P w (upd H a o) h' a o):HOk P w (upd H a o) h':=fun b u e=>by have hn:=x.fresh hp;by_cases hb:b=a;subst hb;rw [Xd] at e;cases e;exact new;rw [Xa hb] at e;exact (x b u e).stay (fun c v _ q=>k c v q) (fun c q=>by rw [Xa (Xl q hn)];exact q) (fun c xs q=>by rw [Xa (Xl q hn)];exact q) fun c ob u q=>by rw [Xa (Xl q hn)];exact q
end
def Rd (H:Hp)(a:Addr)(u:HO):Prop:=H a=some u\/∃o,H a=some (.frz o u)
theorem Rd.ok {u:HO}(r:Rd H a u)(x:HOk P w H h):Yz P w H h a u:=by rcases r with r | ⟨o,r⟩;exact x a u r;obtain ⟨_,q⟩:=x a _ r;exact q
def Mut:Option HO->Prop
 | some (.lst _)=>True
 | some (.dK _)=>True
 | some (.dT _)=>True
 | some (.set _ _)=>True
 | some (.ins _ _ _)=>True
 | some (.ext _)=>True
 | _=>False
section
variable {x e:Addr}{o':HO}
theorem HOk.write (ok:HOk P w H h)(mu:Mut (H x))(he:e=x\/H e=some (.own x))(k:∀b u,b≠e->h.get? b=some u->h'.get? b=some u)(heo:∃u,h'.get? e=some u)
  (new:Yz P w (upd H x o') h' x o'):HOk P w (upd H x o') h':=fun b u q=>by
 have nown:∀c y,H c=some (.own y)->c≠x:=fun c y r z=>by subst z;rw [r] at mu;exact mu
 have ntup:∀c xs,H c=some (.tup xs)->c≠x:=fun c xs r z=>by subst z;rw [r] at mu;exact mu
 have nfrz:∀c ob u,H c=some (.frz ob u)->c≠x:=fun c ob u r z=>by subst z;rw [r] at mu;exact mu
 by_cases hb:b=x;subst hb;rw [Xd] at q;cases q;exact new;rw [Xa hb] at q;by_cases hbe:b=e;have q':H b=some (.own x):=by rcases he with z | z;exact absurd (hbe.trans z) hb;rw [hbe];exact z
 rw [q] at q';cases q';obtain ⟨v,hv⟩:=heo;exact ⟨v,by rw [hbe];exact hv⟩;refine (ok b u q).stay (fun c v hc r=>k c v ?_ r) (fun c r=>by rw [Xa (nown c b r)];exact r) (fun c xs r=>by rw [Xa (ntup c xs r)];exact r) fun c ob u r=>by rw [Xa (nfrz c ob u r)];exact r
 rcases hc with rfl | hc;exact hbe;rintro rfl;rcases he with z | z;exact nown c b hc z;rw [hc] at z;cases z;exact hb rfl
end
structure Un (fs ex:List Addr)(H H':Hp)(h h':Heap):Prop where
 keep:∀b o,h.get? b=some o->H b=none->b∉fs->b∉ex->h'.get? b=some o
 slot:∀b o,h.get? b=some o->H b=none->b∈fs->b∉ex->∃sl,h'.get? b=some {o with slots:=sl}
 free:∀b o,h.get? b=some o->H b=none->b∉ex->H' b=none
 there:∀b o,h.get? b=some o->b∉ex->∃o',h'.get? b=some o'
 tups:∀b xs,H b=some (.tup xs)->H' b=some (.tup xs)
 frzs:∀b o u,H b=some (.frz o u)->H' b=some (.frz o u)
 tbls:∀b p q,H b=some (.tbl p q)->H' b=some (.tbl p q)
section
variable {fs fs' ex ex':List Addr}{H1 H2:Hp}{h1 h2:Heap}{x e:Addr}{o:HO}
theorem Un.any (u:Un fs ex H H1 h h1)(q:h.get? b=some ob)(n:H b=none)(hx:b∉ex):∃sl,h1.get? b=some {ob with slots:=sl}:=by by_cases hb:b∈fs;exact u.slot b ob q n hb hx;exact ⟨ob.slots,u.keep b ob q n hb hx⟩
theorem Un.kept (k:∀b u,h.get? b=some u->h'.get? b=some u):Un fs ex H H h h':=⟨fun b ob q _ _ _=>k b ob q,fun b ob q _ _ _=>⟨ob.slots,k b ob q⟩,fun _ _ _ n _=>n,fun b ob q _=>⟨ob,k b ob q⟩,fun _ _ q=>q,fun _ _ _ q=>q,fun _ _ _ q=>q⟩
theorem Un.refl:Un fs ex H H h h:=Un.kept fun _ _ q=>q
theorem Un.laid (k:∀b u,h.get? b=some u->h'.get? b=some u)(hp:h.objs.size<=a)(hn:H a=none):Un fs ex H (upd H a o) h h' where
 keep:=fun b u q _ _ _=>k b u q
 slot:=fun b u q _ _ _=>⟨u.slots,k b u q⟩
 free:=fun b u q n _=>by rw [Xa (BD (AF (AW q) hp))];exact n
 there:=fun b u q _=>⟨u,k b u q⟩
 tups:=fun b xs q=>by rw [Xa (Xl q hn)];exact q
 frzs:=fun b u xs q=>by rw [Xa (Xl q hn)];exact q
 tbls:=fun b p n q=>by rw [Xa (Xl q hn)];exact q
theorem Un.write (mu:Mut (H x))(he:e=x\/H e=some (.own x))(k:∀b u,b≠e->h.get? b=some u->h'.get? b=some u)(heo:∃u,h'.get? e=some u):Un fs ex H (upd H x o) h h':=by
  have hx:∀b,H b=none->b≠x:=fun b n z=>by subst z;rw [n] at mu;exact mu
  have hb:∀b,H b=none->b≠e:=fun b n z=>by subst z;rcases he with r | r;exact hx b n r;rw [n] at r;cases r
  have hm:∀b u,H b=some u->¬Mut (some u)->b≠x:=fun b u q nm z=>by subst z;rw [q] at mu;exact nm mu
  refine ⟨fun b u q n _ _=>k b u (hb b n) q,fun b u q n _ _=>⟨u.slots,k b u (hb b n) q⟩,fun b u q n _=>by rw [Xa (hx b n)];exact n,fun b u q _=>?_,
    fun b xs q=>by rw [Xa (hm b _ q fun z=>z)];exact q,fun b u xs q=>by rw [Xa (hm b _ q fun z=>z)];exact q,fun b p n q=>by rw [Xa (hm b _ q fun z=>z)];exact q⟩
  by_cases hbe:b=e;subst hbe;exact heo;exact ⟨u,k b u hbe q⟩
end
def trk (h:Heap)(H:Hp):List Addr:=(AO h.objs.size).filter fun a=>(H a).isSome
def Xhv (h:Heap)(H:Hp):Heap:=KJ h (trk h H)
theorem Zzk (h:Heap)(H:Hp):(Xhv h H).objs.size=h.objs.size:=PySem.W.hideAll_size _ _
theorem Xhk (e:h.get? b=some o)(n:H b=none):(Xhv h H).get? b=some o:=PySem.W.hideAll_get _ e fun hm=>by have q:(H b).isSome=true:=(CL.mp hm).2;rw [n] at q;simp at q
theorem Xlp (e:(Xhv h H).get? b=some o):h.get? b=some o/\H b=none:=by
 have e':h.get? b=some o:=PySem.W.of_hideAll (trk h H) e;refine ⟨e',?_⟩;cases q:H b with
 | none=>rfl
 | some x =>have hm:b∈trk h H:=CL.mpr ⟨BO.mpr (AW e'),by simp [q]⟩;have z:(Xhv h H).get? b=none:=PySem.W.hideAll_none (trk h H) hm;rw [z] at e;cases e
def Xpo (g h:Heap)(L:Addr):List (Addr×Obj):=(AO h.objs.size).filterMap fun a=>if a=L\/(g.get? a).isSome=true then none else (h.get? a).map fun o=>(a,o)
def rest (g h:Heap)(L d:Addr):List (Addr×Obj):=(Xpo g h L).filter fun p=>decide (p.1≠d)
structure Mod (K:Frag)(mg:Str->Option Value)(base:Heap):Prop where
 kin:K.In base
 glob:base.Ns Ar mg
 blt:∃mb,base.Ns Gz mb/\∀x:Str,x≠"__name__"->mb x=Ck x
 nolimit:base.NoLimit
structure Cx where
 prog:AZ
 w:BC
 K:Frag
 mg:Str->Option Value
 base:Heap
 A:BE
 N:List Str
 s₀:Ah
 H₀:Hp
 env:Env
 outer:List Env
 stack:List Env
 ex:List Addr
 fn:Str->Bool
 calm:Bool
 pn:List (Addr×Obj)
 xe:Value->Ah->Prop
def frs (l:List Env):List Addr:=l.filterMap (·.frame)
abbrev Cx.fs (X:Cx):List Addr:=frs X.outer
def Vis (sc:Scope)(x:Str):Prop:=sc.names.lookup x=some .local\/sc.names.lookup x=some .cell\/sc.names.lookup x=some .free
def Loc (sc:Scope)(x:Str):Prop:=sc.names.lookup x=some .local\/sc.names.lookup x=some .cell
def Look (env:Env)(h:Heap)(m:Str->Option Value)(x:Str)(u:Value):Prop:=
 (env.kindOf x=some .local/\m x=some u)\/((env.kindOf x=some .cell\/env.kindOf x=some .free)/\∃c,env.cells.lookup x=some c/\h.IsCell c (some u))
structure Cx.Ok (X:Cx):Prop where
 mod:Mod X.K X.mg X.base
 kind:X.env.scope.kind=.function
 glob:X.env.globals=Ar
 blt:X.env.builtins=Gz
 above:X.s₀.heap.objs.size<=X.env.locals
 inj:∀x y c,X.env.cells.lookup x=some c->X.env.cells.lookup y=some c->x=y
 has:∀x,(X.env.kindOf x=some .cell\/X.env.kindOf x=some .free)->∃c,X.env.cells.lookup x=some c
 cab:∀x c,X.fn x=true->X.env.cells.lookup x=some c->X.s₀.heap.objs.size<=c
 hd:X.calm=true->X.A.handled=none
 frames:X.A.frames=some X.stack
 stk:X.stack=X.outer\/(X.stack=X.env::X.outer/\X.env.frame=some X.env.locals)
 exf:∀b∈X.ex,b≠X.env.locals/\∀x c,X.env.cells.lookup x=some c->c≠b
 bs:∀b o,X.base.get? b=some o->X.s₀.heap.get? b=some o/\X.H₀ b=none
 bsz:X.base.objs.size<=X.s₀.heap.objs.size
 noex:∀b o,X.base.get? b=some o->b∉X.ex
 exfs:∀b∈X.ex,b∉X.fs
 funs:X.s₀.heap.FunFrames X.base X.outer
 frf:∀b∈X.fs,X.H₀ b=none
structure Inv (X:Cx)(pins:List (Addr×Obj))(σ:List (Option V))(H:Hp)(s:Ah):Prop where
 ok:X.Ok
 os:s.os=X.s₀.os
 bare:Fq s.gens
 base:Un X.fs X.ex X.H₀ H X.s₀.heap s.heap
 loc:∃m,s.heap.Ns X.env.locals m/\∀(i:Nat) (x:Str) (v:V),X.N[i]?=some x->σ[i]?=some (some v)->Vis X.env.scope x->∃u,RelV v u/\Look X.env s.heap m x u
 cell:∀x c,X.env.cells.lookup x=some c->∃v,s.heap.IsCell c v
 free:H X.env.locals=none
 freeC:∀x c,X.env.cells.lookup x=some c->H c=none
 pin:∀p∈X.pn++pins,s.heap.get? p.1=some p.2/\H p.1=none/\p.1≠X.env.locals/\p.1∉X.fs/\∀v,p.2.data≠.cell v
 hok:HOk X.prog X.w H s.heap
 len:σ.length=X.N.length
section
variable {σ:List (Option V)}
theorem Cx.Ok.nofr (ok:X.Ok)(e:X.base.get? b=some o):b∉X.fs:=fun hb=>by have:=(ok.funs.mem hb).1;rw [e] at this;cases this
theorem Inv.bs (I:Inv X pins σ H s):∀b o,X.base.get? b=some o->s.heap.get? b=some o/\H b=none:=fun b o e =>
 ⟨I.base.keep b o (I.ok.bs b o e).1 (I.ok.bs b o e).2 (I.ok.nofr e) (I.ok.noex b o e),I.base.free b o (I.ok.bs b o e).1 (I.ok.bs b o e).2 (I.ok.noex b o e)⟩
theorem Inv.bk (I:Inv X pins σ H s):∀b o,X.base.get? b=some o->s.heap.get? b=some o:=fun b o e=>(I.bs b o e).1
theorem Inv.mod (I:Inv X pins σ H s):Mod X.K X.mg X.base:=I.ok.mod
theorem Inv.kIn (I:Inv X pins σ H s):X.K.In s.heap:=I.ok.mod.kin.keeps I.bk
theorem Inv.lt (I:Inv X pins σ H s):X.env.locals<s.heap.objs.size:=let ⟨_,hn,_⟩:=I.loc;hn.lt
theorem Inv.sz (I:Inv X pins σ H s):X.s₀.heap.objs.size<=s.heap.objs.size:=AC I.ok.above (HA I.lt)
theorem Inv.nofs (I:Inv X pins σ H s)(h:s.heap.objs.size<=a):a∉X.fs:=fun hb=>by obtain ⟨_,o,ho,_⟩:=I.ok.funs.mem hb;exact absurd (AF (AW ho) (AC I.sz h)) (Bh _)
theorem Inv.cne (I:Inv X pins σ H s):∀x c,X.env.cells.lookup x=some c->c≠X.env.locals:=fun x c e z=>by obtain ⟨v,o,ho,hd⟩:=I.cell x c e;obtain ⟨m,⟨o',es,ep,ho',hd',_⟩,_⟩:=I.loc;rw [z,ho'] at ho;cases ho;rw [hd'] at hd;cases hd
theorem Inv.funs (I:Inv X pins σ H s):s.heap.FunFrames X.base X.outer:=by
 have all:∀(l:List Env),(∀b∈frs l,b∈X.fs)->X.s₀.heap.FunFrames X.base l->s.heap.FunFrames X.base l:=by
  intro l
  induction l with
  | nil=>intro _ _;trivial
  | cons env r ih =>intro hs hl;obtain ⟨hk,⟨L,o,hf,hn,ho,hd⟩,hr⟩:=hl;have hL:L∈X.fs:=hs L (by unfold frs;rw [Fv,hf];exact Do);obtain ⟨sl,e⟩:=I.base.slot L o ho (I.ok.frf L hL) hL fun z=>I.ok.exfs L z hL;exact ⟨hk,⟨L,_,hf,hn,e,hd⟩,ih (fun b hb=>hs b (by unfold frs;rw [Fv,hf];exact Cy _ hb)) hr⟩
 exact all X.outer (fun _ hb=>hb) I.ok.funs
theorem Inv.stack (I:Inv X pins σ H s):s.heap.FunFrames X.base X.stack:=by rcases I.ok.stk with e | ⟨e,hf⟩;rw [e];exact I.funs;rw [e];obtain ⟨m,hn,_⟩:=I.loc;refine .cons (by rw [I.ok.kind];decide) hf hn ?_ I.funs;exact Heap.get?_none_of_le (AC I.ok.bsz I.ok.above)
theorem Inv.stkSub (I:Inv X pins σ H s):∀b∈frs X.stack,b∈X.env.locals::X.fs:=fun b hb=>by rcases I.ok.stk with e | ⟨e,hf⟩;rw [e] at hb;exact Cy _ hb;rw [e] at hb;unfold frs at hb;rw [Fv,hf] at hb;exact hb
theorem Inv.stkFree (I:Inv X pins σ H s):∀b∈frs X.stack,H b=none:=fun b hb=>by rcases An.mp (I.stkSub b hb) with e | hb;rw [e];exact I.free;obtain ⟨_,o,ho,_⟩:=I.ok.funs.mem hb;exact I.base.free b o ho (I.ok.frf b hb) fun z=>I.ok.exfs b z hb
theorem Inv.step (I:Inv X pins σ H s)
  (hch:∀b∈ch,(b∈X.ex\/X.s₀.heap.objs.size<=b)/\b≠X.env.locals/\(∀x c,X.env.cells.lookup x=some c->c≠b)/\∀p∈X.pn++pins,p.1≠b)
  (keep:∀b o,b≠X.env.locals->b∉X.fs->b∉ch->s.heap.get? b=some o->H b=none->h'.get? b=some o)
  (slot:∀b o,b≠X.env.locals->b∈X.fs->b∉ch->s.heap.get? b=some o->H b=none->∃sl,h'.get? b=some {o with slots:=sl}) (free:∀b o,b∉ch->s.heap.get? b=some o->H b=none->H' b=none)
  (there:∀b o,b∉ch->s.heap.get? b=some o->∃o',h'.get? b=some o')
  (tups:∀b xs,H b=some (.tup xs)->H' b=some (.tup xs)) (frzs:∀b o u,H b=some (.frz o u)->H' b=some (.frz o u)) (tbls:∀b p n,H b=some (.tbl p n)->H' b=some (.tbl p n))
  (ns:∀m,s.heap.Ns X.env.locals m->h'.Ns X.env.locals m) (hok:HOk X.prog X.w H' h') (hg:Fq g') :
  Inv X pins σ H' {s with heap:=h',gens:=g',drawn:=d',toks:=t'}:=by
 have neL:∀b o,X.s₀.heap.get? b=some o->b≠X.env.locals:=fun b o e=>BD (AF (AW e) I.ok.above);have neC:∀b o,X.s₀.heap.get? b=some o->b∉X.ex->b∉ch:=fun b o e hx hb=>by rcases (hch b hb).1 with z | z;exact hx z;exact absurd (AF (AW e) z) (Bh _)
 have cellK:∀x c,X.env.cells.lookup x=some c->∀v,s.heap.IsCell c v->h'.IsCell c v:=fun x c e v ⟨o,ho,hd⟩=>by have nch:c∉ch:=fun z=>(hch c z).2.2.1 x c e rfl;by_cases hc:c∈X.fs;obtain ⟨sl,q⟩:=slot c o (I.cne x c e) hc nch ho (I.freeC x c e);exact ⟨_,q,hd⟩;exact ⟨o,keep c o (I.cne x c e) hc nch ho (I.freeC x c e),hd⟩
 refine ⟨I.ok,I.os,hg,⟨fun b o e n hb hx=>?_,fun b o e n hb hx=>?_,fun b o e n hx=>?_,fun b o e hx=>?_,fun b xs e=>tups b xs (I.base.tups b xs e),fun b o xs e=>frzs b o xs (I.base.frzs b o xs e),fun b p n e=>tbls b p n (I.base.tbls b p n e)⟩,?_,fun x c e=>?_,?_,fun x c e=>?_,fun p hp=>?_,hok,I.len⟩;exact keep b o (neL b o e) hb (neC b o e hx) (I.base.keep b o e n hb hx) (I.base.free b o e n hx);obtain ⟨sl,e1⟩:=I.base.slot b o e n hb hx;obtain ⟨sl',e2⟩:=slot b _ (neL b o e) hb (neC b o e hx) e1 (I.base.free b o e n hx);exact ⟨sl',e2⟩;obtain ⟨o',e1⟩:=I.base.there b o e hx;exact free b o' (neC b o e hx) e1 (I.base.free b o e n hx);obtain ⟨o',e1⟩:=I.base.there b o e hx;exact there b o' (neC b o e hx) e1;obtain ⟨m,hn,hl⟩:=I.loc;refine ⟨m,ns m hn,fun i x v e1 e2 e3=>?_⟩;obtain ⟨u,r,l⟩:=hl i x v e1 e2 e3;refine ⟨u,r,?_⟩;rcases l with l | ⟨k,c,e,z⟩;exact .inl l;exact .inr ⟨k,c,e,cellK x c e _ z⟩;obtain ⟨v,z⟩:=I.cell x c e;exact ⟨v,cellK x c e v z⟩;obtain ⟨m,⟨o,_,_,ho,_⟩,_⟩:=I.loc;exact free _ o (fun z=>(hch _ z).2.1 rfl) ho I.free;obtain ⟨v,o,ho,hd⟩:=I.cell x c e;exact free c o (fun z=>(hch c z).2.2.1 x c e rfl) ho (I.freeC x c e);obtain ⟨e,n,ne,nf,d⟩:=I.pin p hp;have nch:p.1∉ch:=fun z=>(hch p.1 z).2.2.2 p hp rfl;exact ⟨keep p.1 p.2 ne nf nch e n,free p.1 p.2 nch e n,ne,nf,d⟩
theorem Inv.un (I:Inv X pins σ H s)(u:Un X.fs [] H H' s.heap h')(hok:HOk X.prog X.w H' h'):Inv X pins σ H' {s with heap:=h',toks:=t'}:=by
  obtain ⟨m,⟨o,es,ep,ho,r⟩,_⟩:=id I.loc;obtain ⟨sl,hL⟩:=u.any ho I.free (by simp);exact I.step (g':=s.gens) (d':=s.drawn) (ch:=[]) (fun _ z=>nomatch z) (fun b o _ hb _ e n=>u.keep b o e n hb (by simp)) (fun b o _ hb _ e n=>u.slot b o e n hb (by simp)) (fun b o _ e n=>u.free b o e n (by simp)) (fun b o _ e=>u.there b o e (by simp)) u.tups u.frzs u.tbls (fun m' hm=>by
    obtain ⟨o',es',ep',ho',r'⟩:=hm;rw [ho] at ho';cases ho';exact ⟨_,es',ep',hL,r'⟩) hok I.bare
theorem Inv.call (I:Inv X pins σ H s)(u:Un (frs X.stack) ch H H' s.heap h')(hok:HOk X.prog X.w H' h')(hg:Fq g')
    (hch:∀b∈ch,(b∈X.ex\/X.s₀.heap.objs.size<=b)/\b≠X.env.locals/\(∀x c,X.env.cells.lookup x=some c->c≠b)/\∀p∈X.pn++pins,p.1≠b) :
    Inv X pins σ H' {s with heap:=h',gens:=g',drawn:=d',toks:=t'}:=by
  obtain ⟨m,⟨o,es,ep,ho,r⟩,_⟩:=id I.loc;obtain ⟨sl,hL⟩:=u.any ho I.free fun z=>(hch _ z).2.1 rfl;exact I.step (ch:=ch) hch (fun b o hL hb hc e n=>u.keep b o e n (fun z=>(An.mp (I.stkSub b z)).elim hL hb) hc) (fun b o _ _ hc e n=>u.any e n hc) (fun b o hc e n=>u.free b o e n hc) (fun b o hc e=>u.there b o e hc) u.tups u.frzs u.tbls (fun m' hm=>by
    obtain ⟨o',es',ep',ho',r'⟩:=hm;rw [ho] at ho';cases ho';exact ⟨_,es',ep',hL,r'⟩) hok hg
theorem Inv.turned (I:Inv X pins σ H s)(k:∀b o,b≠it->s.heap.get? b=some o->h'.get? b=some o)(hn:H it=none)(hL:it≠X.env.locals)
  (h1:it∈X.ex\/X.s₀.heap.objs.size<=it) (h2:∀x c,X.env.cells.lookup x=some c->c≠it) (h3:∀p∈X.pn++pins,p.1≠it):Inv X pins σ H {s with heap:=h',toks:=t'}:=by
 have nit:∀b u,H b=some u->b≠it:=fun b u e z=>by rw [z,hn] at e;cases e
 refine I.step (g':=s.gens) (d':=s.drawn) (ch:=[it]) (fun b hb=>?_) (fun b o _ _ hc e _=>k b o (fun z=>hc (by simp [z])) e) (fun b o _ _ hc e _=>⟨o.slots,k b o (fun z=>hc (by simp [z])) e⟩) (fun _ _ _ _ n=>n)
  (fun b o hc e=>⟨o,k b o (fun z=>hc (by simp [z])) e⟩) (fun _ _ e=>e) (fun _ _ _ e=>e) (fun _ _ _ e=>e) (fun m hm=>?_) (fun b u e=>?_) I.bare
 have e:b=it:=by simpa using hb
 subst e;exact ⟨h1,hL,h2,h3⟩;obtain ⟨o,es,ep,ho,r⟩:=hm;exact ⟨o,es,ep,k _ o (Ne.symm hL) ho,r⟩;refine (I.hok b u e).stay (fun c v hc q=>k c v ?_ q) (fun _ q=>q) (fun _ _ q=>q) fun _ _ _ q=>q;rcases hc with z | z;rw [z];exact nit b u e;exact nit c _ z
theorem Inv.tok (I:Inv X pins σ H s)(t:Nat):Inv X pins σ H {s with toks:=t}:=I.un (h':=s.heap) (t':=t) Un.refl I.hok
theorem Inv.kept {t':Nat}(I:Inv X pins σ H s)(k:∀b u,s.heap.get? b=some u->h'.get? b=some u):Inv X pins σ H {s with heap:=h',toks:=t'}:=I.un (Un.kept k) (I.hok.kept k)
theorem Inv.laid {a:Addr}{o:HO}{t':Nat}(I:Inv X pins σ H s)(k:∀b u,s.heap.get? b=some u->h'.get? b=some u)(hp:s.heap.objs.size<=a)(new:Yz X.prog X.w (upd H a o) h' a o) :
  Inv X pins σ (upd H a o) {s with heap:=h',toks:=t'}:=I.un (Un.laid k hp (I.hok.fresh hp)) (I.hok.laid k hp new)
theorem Inv.write {x e:Addr}{o:HO}{t':Nat}(I:Inv X pins σ H s)(mu:Mut (H x))(he:e=x\/H e=some (.own x))(k:∀b u,b≠e->s.heap.get? b=some u->h'.get? b=some u)(heo:∃u,h'.get? e=some u)
  (new:Yz X.prog X.w (upd H x o) h' x o):Inv X pins σ (upd H x o) {s with heap:=h',toks:=t'}:=I.un (Un.write mu he k heo) (I.hok.write mu he k heo new)
theorem Inv.pins_of (I:Inv X pins σ H s)(h:∀p∈pins',s.heap.get? p.1=some p.2/\H p.1=none/\p.1≠X.env.locals/\p.1∉X.fs/\∀v,p.2.data≠.cell v):Inv X pins' σ H s:=⟨I.ok,I.os,I.bare,I.base,I.loc,I.cell,I.free,I.freeC,fun p hp=>(Au.mp hp).elim (fun z=>I.pin p (AJ _ z)) (h p),I.hok,I.len⟩
theorem Zre (hN:N.Nodup)(a:N[i]?=some x)(b:N[j]?=some x):i=j:=by obtain ⟨h1,e1⟩:=Ag.mp a;obtain ⟨h2,e2⟩:=Ag.mp b;exact (List.getElem_inj hN).mp (e1.trans e2.symm)
theorem Zoo {Q:Unit->Ah->Prop}(I:Inv X pins σ H s)(hN:X.N.Nodup)(hi:X.N[i]?=some x)(hx:Loc X.env.scope x)(r:RelV v u)
  (h:∀s',Inv X pins (σ.set i (some v)) H s'->(∃a,Cb a s.heap s'.heap/\(a=X.env.locals\/X.env.cells.lookup x=some a))->Q () s') (hf:autoParam (X.fn x=true\/X.env.scope.names.lookup x=some .local) aT0._auto_1):wpAny M A (K2 X.env x u) Q E s:=by
 obtain ⟨m,hn,hl⟩:=id I.loc;have hcls:(X.env.scope.kind==.class||(X.env.scope.kind==.module&&X.env.locals != X.env.globals))=false:=by rw [I.ok.kind];rfl
 have hiσ:i<σ.length:=by rw [I.len];exact (Ag.mp hi).1
 have cne:=I.cne;have tracked:∀{a:Addr} {h':Heap},(∃o,s.heap.get? a=some o/\H a=none)->Cb a s.heap h'->HOk X.prog X.w H h':=fun {a h'} ha hs b ob e=>by obtain ⟨_,_,hfree⟩:=ha;refine (I.hok b ob e).stay (fun c w' hc q=>(hs.2 c ?_).trans q) (fun _ q=>q) (fun _ _ q=>q) fun _ _ _ q=>q;rintro rfl;rcases hc with rfl | hc;rw [hfree] at e;cases e;rw [hfree] at hc;cases hc
 rcases hx with hk | hk;refine wpAny_storeName_local hk hn (fun h' hn' hs=>?_) hcls;obtain ⟨oL,_,_,hoL,_⟩:=id hn;refine h _ ⟨I.ok,I.os,I.bare,⟨fun b o e n hb hx=>?_,fun b o e n hb hx=>?_,I.base.free,fun b o e hx=>?_,I.base.tups,I.base.frzs,I.base.tbls⟩,⟨_,hn',fun j y v' e1 e2 e3=>?_⟩,fun y c e=>?_,I.free,I.freeC,fun p hp=>?_,tracked ⟨oL,hoL,I.free⟩ hs,by simpa using I.len⟩ ⟨_,hs,.inl rfl⟩;exact (hs.2 b (BD (AF (AW e) I.ok.above))).trans (I.base.keep b o e n hb hx);obtain ⟨sl,e1⟩:=I.base.slot b o e n hb hx;exact ⟨sl,(hs.2 b (BD (AF (AW e) I.ok.above))).trans e1⟩;obtain ⟨o',e1⟩:=I.base.there b o e hx;exact ⟨o',(hs.2 b (BD (AF (AW e) I.ok.above))).trans e1⟩;by_cases hj:j=i;subst hj;rw [hi] at e1;cases e1;rw [Cu hiσ] at e2;cases e2;exact ⟨u,r,.inl ⟨hk,by simp⟩⟩;rw [BL (Ne.symm hj)] at e2;obtain ⟨u',r',q⟩:=hl j y v' e1 e2 e3;refine ⟨u',r',?_⟩;rcases q with ⟨k,e⟩ | ⟨k,c,e,z⟩;refine .inl ⟨k,?_⟩;have:y≠x:=fun e=>hj (Zre hN e1 (e▸hi));simp [this,e];exact .inr ⟨k,c,e,z.sameBut hs (cne y c e)⟩;obtain ⟨w',z⟩:=I.cell y c e;exact ⟨w',z.sameBut hs (cne y c e)⟩;obtain ⟨e,n,ne,nf,d⟩:=I.pin p hp;exact ⟨(hs.2 p.1 ne).trans e,n,ne,nf,d⟩;have hfn:X.fn x=true:=by rcases hf with z | z;exact z;rw [z] at hk;cases hk
 obtain ⟨c,hc⟩:=I.ok.has x (.inl hk);obtain ⟨w',z⟩:=I.cell x c hc;refine wpAny_storeName_cell I.ok.kind hk hc z (fun h' hc' hs=>?_);obtain ⟨oc,hoc,hocd⟩:=id z;refine h {s with heap:=h'} ⟨I.ok,I.os,I.bare,⟨fun b o e n hb hx=>?_,fun b o e n hb hx=>?_,I.base.free,fun b o e hx=>?_,I.base.tups,I.base.frzs,I.base.tbls⟩,⟨m,hn.sameBut hs (Ne.symm (cne x c hc)),fun j y v' e1 e2 e3=>?_⟩,fun y c' e=>?_,I.free,I.freeC,fun p hp=>?_,tracked ⟨oc,hoc,I.freeC x c hc⟩ hs,by simpa using I.len⟩ ⟨c,hs,.inr hc⟩;exact (hs.2 b (BD (AF (AW e) (I.ok.cab x c hfn hc)))).trans (I.base.keep b o e n hb hx);obtain ⟨sl,e1⟩:=I.base.slot b o e n hb hx;exact ⟨sl,(hs.2 b (BD (AF (AW e) (I.ok.cab x c hfn hc)))).trans e1⟩;obtain ⟨o',e1⟩:=I.base.there b o e hx;exact ⟨o',(hs.2 b (BD (AF (AW e) (I.ok.cab x c hfn hc)))).trans e1⟩;by_cases hj:j=i;subst hj;rw [hi] at e1;cases e1;rw [Cu hiσ] at e2;cases e2;exact ⟨u,r,.inr ⟨.inl hk,c,hc,hc'⟩⟩;rw [BL (Ne.symm hj)] at e2;obtain ⟨u',r',q⟩:=hl j y v' e1 e2 e3;refine ⟨u',r',?_⟩;rcases q with q | ⟨k,c',e,z'⟩;exact .inl q;refine .inr ⟨k,c',e,z'.sameBut hs ?_⟩;rintro rfl;exact hj (Zre hN e1 (I.ok.inj _ _ _ e hc▸hi));by_cases hcc:c'=c;subst hcc;exact ⟨_,hc'⟩;obtain ⟨w2,z2⟩:=I.cell y c' e;exact ⟨w2,z2.sameBut hs hcc⟩;obtain ⟨e,n,ne,nf,d⟩:=I.pin p hp;refine ⟨(hs.2 p.1 ?_).trans e,n,ne,nf,d⟩;intro q;rw [q,hoc] at e;have q':oc=p.2:=AU e;exact d w' (by rw [<- q'];exact hocd)
theorem Zlf {Q:Unit->Ah->Prop}(I:Inv X pins σ H s)(hN:X.N.Nodup)(hi:X.N[i]?=some x)(hx:Loc X.env.scope x)(r:RelV v u)
  (h:∀s',Inv X pins (σ.set i (some v)) H s'->Q () s') (hf:autoParam (X.fn x=true\/X.env.scope.names.lookup x=some .local) aT0._auto_1):wpAny M A (K2 X.env x u) Q E s:=
 Zoo I hN hi hx r (fun s' I' _=>h s' I') hf
theorem Inv.call' (I:Inv X pins σ H s)(ho:s'.os=s.os)(u:Un (frs X.stack) ch H H' s.heap s'.heap)(hok:HOk X.prog X.w H' s'.heap)(hg:Fq s'.gens)
  (hch:∀b∈ch,(b∈X.ex\/X.s₀.heap.objs.size<=b)/\b≠X.env.locals/\(∀x c,X.env.cells.lookup x=some c->c≠b)/\∀p∈X.pn++pins,p.1≠b):Inv X pins σ H' s':=by
 obtain ⟨h',g',d',t',o'⟩:=s';have e:o'=s.os:=ho;subst e;exact I.call (g':=g') (t':=t') (d':=d') u hok hg hch
end
abbrev XK:=Value->Option Addr->Hp->Prop
abbrev St:=List (Option V)
abbrev VK:=V->Hp->Prop
abbrev TE:=St->Hp->VK->Prop
abbrev TT:=St->Hp->(Bool->Hp->Prop)->Prop
abbrev TA:=St->Hp->(List V->Hp->Prop)->Prop
structure Ends where
 nx:St->Hp->Prop
 rt:VK
 bk:St->Hp->Prop:=fun _ _=>False
 ct:St->Hp->Prop:=fun _ _=>False
abbrev TS:=Ends->St->Hp->Prop
def EP (X:Cx)(pins:List (Addr×Obj))(σ:St)(Q:VK)(u:Value)(s':Ah):Prop:=∃v H',Inv X pins σ H' s'/\RelV v u/\Q v H'
def TP (X:Cx)(pins:List (Addr×Obj))(σ:St)(Q:Bool->Hp->Prop)(b:Bool)(s':Ah):Prop:=∃H',Inv X pins σ H' s'/\Q b H'
def AP (X:Cx)(pins:List (Addr×Obj))(σ:St)(Q:List V->Hp->Prop)(us:List Value)(s':Ah):Prop:=∃vs H',Inv X pins σ H' s'/\Yl vs us/\Q vs H'
def SP (X:Cx)(pins:List (Addr×Obj))(D:Ends)(f:Flow)(s':Ah):Prop:=
 match f with
 | .next=>∃σ' H',Inv X pins σ' H' s'/\D.nx σ' H'
 | .brk=>∃σ' H',Inv X pins σ' H' s'/\D.bk σ' H'
 | .cont=>∃σ' H',Inv X pins σ' H' s'/\D.ct σ' H'
 | .ret u=>∃v σ' H',Inv X pins σ' H' s'/\RelV v u/\D.rt v H'
def PE (X:Cx)(e:Expr)(t:TE):Prop:=
 ∀(pins:List (Addr×Obj)) (s:Ah) (σ:St) (H:Hp) (Q:VK),Inv X pins σ H s->t σ H Q->wpAny (model X.prog X.w) X.A (eval e X.env) (EP X pins σ Q) X.xe s
def PT (X:Cx)(e:Expr)(t:TT):Prop:=
 ∀(pins:List (Addr×Obj)) (s:Ah) (σ:St) (H:Hp) (Q:Bool->Hp->Prop),Inv X pins σ H s->t σ H Q->wpAny (model X.prog X.w) X.A (isTrue e X.env (eval e X.env)) (TP X pins σ Q) X.xe s
def PW (X:Cx)(e:Expr)(t:TT):Prop:=
 ∀(whole:Sem Value) (pins:List (Addr×Obj)) (s:Ah) (σ:St) (H:Hp) (Q:Bool->Hp->Prop),Inv X pins σ H s->t σ H Q->wpAny (model X.prog X.w) X.A (isTrue e X.env whole) (TP X pins σ Q) X.xe s
theorem PW.pt {t:TT}(h:PW X e t):PT X e t:=h _
def PA (X:Cx)(es:List Expr)(t:TA):Prop:=
 ∀(pos:Pos) (pins:List (Addr×Obj)) (s:Ah) (σ:St) (H:Hp) (Q:List V->Hp->Prop),Inv X pins σ H s->t σ H Q->wpAny (model X.prog X.w) X.A (spliced (BU pos (Af es X.env))) (AP X pins σ Q) X.xe s
def PS (X:Cx)(st:Stmt)(t:TS):Prop:=
 ∀(pins:List (Addr×Obj)) (s:Ah) (σ:St) (H:Hp) (D:Ends),Inv X pins σ H s->t D σ H->wpAny (model X.prog X.w) X.A (exec st X.env) (SP X pins D) X.xe s
def PSs (X:Cx)(st:List Stmt)(t:TS):Prop:=
 ∀(pins:List (Addr×Obj)) (s:Ah) (σ:St) (H:Hp) (D:Ends),Inv X pins σ H s->t D σ H->wpAny (model X.prog X.w) X.A (execs st X.env) (SP X pins D) X.xe s
theorem thn {t:Sem α}{Q Q':α->Ah->Prop}(h:wpAny M A t Q E s)(hQ:∀a s,Q a s->Q' a s):wpAny M A t Q' E s:=Cw h hQ fun _ _ x=>x
section
def Zgp (i:Nat):TE:=fun σ H Q=>∃v,σ[i]?=some (some v)/\Q v H
def tC (v:V):TE:=fun _ H Q=>Q v H
theorem Xrp (hN:X.N[i]?=some x)(hv:Vis X.env.scope x)(hd:(x==("__debug__":Str))=false:=by decide)(hcd:(x==("__classdict__":Str))=false:=by decide):PE X (.Name x pos) (Zgp i):=by intro pins s σ H Q I h;obtain ⟨v,e,h⟩:=h;obtain ⟨m,hn,hl⟩:=I.loc;obtain ⟨u,r,l⟩:=hl i x v hN e hv;have fin:EP X pins σ Q u s:=⟨v,H,I,r,h⟩;rcases l with ⟨hk,hm⟩ | ⟨hk,c,hc,hcell⟩;exact Kn (JY I.ok.kind hk hn hm fin) hd;rcases hk with hk | hk;exact Kn (Kb I.ok.kind hk hc hcell fin) hd;exact Kn (wpAny_loadName_free I.ok.kind hk hc hcell fin hcd) hd
theorem Xue {i j pos}:PE X (.Constant (.int i) j pos) (tC (.int i)):=fun _ _ _ H _ I h=>wpAny_Constant_int ⟨.int i,H,I.tok _,⟨_,rfl⟩,h⟩
theorem pe_bl {b j pos}:PE X (.Constant (.bool b) j pos) (tC (.bl b)):=fun _ _ _ H _ I h=>Constant_bool ⟨.bl b,H,I,rfl,h⟩
theorem Xui {x j pos}:PE X (.Constant (.str x) j pos) (tC (.str x)):=fun _ _ _ H _ I h=>Calls.Constant_str ⟨.str x,H,I.tok _,⟨_,rfl⟩,h⟩
def Gl (X:Cx)(x:Str):Prop:=X.env.kindOf x=some .globalImplicit
theorem Zxz (I:Inv X pins σ H s)(hg:Gl X x)(hm:X.mg x=some u)(h:Q u s)
  (hd:(x==("__debug__":Str))=false:=by decide):wpAny (model X.prog X.w) X.A (eval (.Name x pos) X.env) Q E s:=
 GU I.ok.kind hg (Calls.loadGlobal_global (by rw [I.ok.glob];exact I.mod.glob.keeps I.bk) hm h) hd
theorem Zgf (I:Inv X pins σ H s)(hg:Gl X x)(hm:X.mg x=none)(hv:Ck x=some u)(h:Q u s)
  (hn:x≠"__name__":=by decide) (hd:(x==("__debug__":Str))=false:=by decide):wpAny (model X.prog X.w) X.A (eval (.Name x pos) X.env) Q E s:=by
 obtain ⟨mb,h1,h2⟩:=I.mod.blt;exact GU I.ok.kind hg (Calls.loadGlobal_builtin (by rw [I.ok.glob];exact I.mod.glob.keeps I.bk) hm (by rw [I.ok.blt];exact h1.keeps I.bk) ((h2 x hn).trans hv) h) hd
theorem Xny (hg:Gl X x)(hm:X.mg x=some u)(r:RelV v u)(hd:(x==("__debug__":Str))=false:=by decide):PE X (.Name x pos) (tC v):=fun _ _ _ H _ I h=>Zxz I hg hm ⟨v,H,I,r,h⟩ hd
theorem Xmy (hg:Gl X x)(hm:X.mg x=none)(hv:Ck x=some u)(r:RelV v u)(hn:x≠"__name__":=by decide)(hd:(x==("__debug__":Str))=false:=by decide):PE X (.Name x pos) (tC v):=fun _ _ _ H _ I h=>Zgf I hg hm hv ⟨v,H,I,r,h⟩ hn hd
variable {a b:Expr}
def tB (t:TE):TT:=fun σ H Q=>t σ H fun x H1=>∃c,x=.bl c/\Q c H1
theorem Xuu {t:TE}(h:PE X e t)(he:∀whole,isTrue e X.env whole=(do let v <- whole;Fi e.pos;CZ [v] (II v)):=by intro _;rfl):PT X e (tB t):=by intro pins s σ H Q I hw;refine isTrue_plain (thn (h pins s σ H _ I hw) fun v s1 hz9=>?_) (he _);obtain ⟨x,H1,I1,r1,q1⟩:=hz9;obtain ⟨d,rfl,q⟩:=q1;cases r1;exact Cr ⟨H1,I1,q⟩
variable {tA tB':TT}{rest:List Expr}
def tAnd (t u:TT):TT:=fun σ H Q=>t σ H fun c H1=>if c=true then u σ H1 Q else Q false H1
def tOr (t u:TT):TT:=fun σ H Q=>t σ H fun c H1=>if c=true then Q true H1 else u σ H1 Q
def tNot (t:TT):TT:=fun σ H Q=>t σ H fun c H1=>Q (!c) H1
theorem Xot (ha:PT X a tA):PW X (.BoolOp .And [a] pos) tA:=by
 intro wh pins s σ H Q I h;refine isTrue_and (thn (ha pins s σ H Q I h) fun c s1 e=>?_);cases c with
 | true=>exact isTrue_and_nil e
 | false=>exact e
theorem Xwx (ha:PT X a tA):PW X (.BoolOp .Or [a] pos) tA:=by
 intro wh pins s σ H Q I h;refine isTrue_or (thn (ha pins s σ H Q I h) fun c s1 e=>?_);cases c with
 | false=>exact isTrue_or_nil e
 | true=>exact e
theorem Xse (ha:PT X a tA)(hb:PW X (.BoolOp .And (b::rest) pos) tB'):PW X (.BoolOp .And (a::b::rest) pos) (tAnd tA tB'):=by
 intro wh pins s σ H Q I h;refine isTrue_and (thn (ha pins s σ H _ I h) fun c s1 ⟨H1,I1,q1⟩=>?_);cases c with
 | true=>exact hb wh pins s1 σ H1 Q I1 q1
 | false=>exact ⟨H1,I1,q1⟩
theorem pw_or (ha:PT X a tA)(hb:PW X (.BoolOp .Or (b::rest) pos) tB'):PW X (.BoolOp .Or (a::b::rest) pos) (tOr tA tB'):=by
 intro wh pins s σ H Q I h;refine isTrue_or (thn (ha pins s σ H _ I h) fun c s1 ⟨H1,I1,q1⟩=>?_);cases c with
 | true=>exact ⟨H1,I1,q1⟩
 | false=>exact hb wh pins s1 σ H1 Q I1 q1
theorem Xvy (ha:PT X a tA):PT X (.UnaryOp .Not a pos) (tNot tA):=by intro pins s σ H Q I h;exact isTrue_not (ha pins s σ H (fun c H1=>Q (!c) H1) I h)
def Xfx (ta tb:TE):TE:=fun σ H Q=>ta σ H fun x H1=>∃c,x=.bl c/\if c=true then tb σ H1 Q else Q (.bl false) H1
def Xhm (ta:TE):TE:=fun σ H Q=>ta σ H fun x H1=>∃c,x=.bl c/\Q (.bl (!c)) H1
theorem Xsp {op}{t:TE}(h:PE X a t):PE X (.BoolOp op [a] pos) t:=fun pins s σ H Q I hw=>BoolOp_one (h pins s σ H Q I hw)
theorem Xto (ha:PE X a ta)(hb:PE X (.BoolOp .And (b::rest) pos) tb):PE X (.BoolOp .And (a::b::rest) pos) (Xfx ta tb):=by
 intro pins s σ H Q I h;refine BoolOp_and (thn (ha pins s σ H _ I h) fun v s1 hz9=>?_);obtain ⟨x,H1,I1,r1,q1⟩:=hz9;obtain ⟨c,rfl,q1⟩:=q1;cases r1;refine Cr ?_;cases c with
 | true=>exact hb pins s1 σ H1 Q I1 q1
 | false=>exact ⟨.bl false,H1,I1,rfl,q1⟩
theorem Xre (ha:PE X a ta):PE X (.UnaryOp .Not a pos) (Xhm ta):=by intro pins s σ H Q I h;refine UnaryOp_ (thn (ha pins s σ H _ I h) fun v s1 hz9=>?_);obtain ⟨x,H1,I1,r1,q1⟩:=hz9;obtain ⟨c,rfl,q1⟩:=q1;cases r1;exact not_of (Cr ⟨.bl (!c),H1,I1,rfl,q1⟩)
def tIf (t:TT)(ta tb:TE):TE:=fun σ H Q=>t σ H fun c H1=>if c=true then ta σ H1 Q else tb σ H1 Q
theorem Xcs (hc:PT X c tA)(ha:PE X a ta)(hb:PE X b tb):PE X (.IfExp c a b pos) (tIf tA ta tb):=by
 intro pins s σ H Q I h;refine wpAny_IfExp (thn (hc pins s σ H _ I h) fun d s1 ⟨H1,I1,q1⟩=>?_);cases d with
 | true=>exact ha pins s1 σ H1 Q I1 q1
 | false=>exact hb pins s1 σ H1 Q I1 q1
end
def SqL (K:Frag)(H:Hp)(a:Addr)(xs:List V):Prop:=
 Rd H a (.lst xs)\/
  ∃(o:Obj) (its:Array Value) (n:Nat),K.lookup a=some o/\o.cls=.type "list"/\o.dict=none/\o.data=.seq its n/\its.size<=Aw/\Yl xs its.toList
def SqT (K:Frag)(H:Hp)(a:Addr)(xs:List V):Prop:=
 Rd H a (.tup xs)\/
  ∃(o:Obj) (its:Array Value) (n:Nat),K.lookup a=some o/\o.cls=.type "tuple"/\o.data=.seq its n/\its.size<=Aw/\Yl xs its.toList
def absV:Value->Option V
 | .none=>some .non
 | .bool b=>some (.bl b)
 | .int i _=>some (.int i)
 | .str x _=>some (.str x)
 | .bytes b _=>some (.byt b)
 | .float b _=>some (.flt b)
 | .ref a=>some (.ref a)
 | .type n=>some (.ty n)
 | _=>none
theorem RelV.abs {x:V}(r:RelV x u):absV u=some x:=by
 cases x with
 | non=>cases r;rfl
 | bl _=>cases r;rfl
 | int _=>obtain ⟨t,rfl⟩:=r;rfl
 | str _=>obtain ⟨t,rfl⟩:=r;rfl
 | byt _=>obtain ⟨t,rfl⟩:=r;rfl
 | flt _=>obtain ⟨t,rfl⟩:=r;rfl
 | ref _=>cases r;rfl
 | ty _=>cases r;rfl
theorem RelV.inj {x y:V}{u:Value}(r:RelV x u)(q:RelV y u):x=y:=AU (r.abs.symm.trans q.abs)
theorem Yl.inj:∀{xs ys:List V} {us:List Value},Yl xs us->Yl ys us->xs=ys
 | _,_,_,.nil,.nil=>rfl
 | _,_,_,.cons r t,.cons r' t'=>by rw [r.inj r',Yl.inj t t']
section
variable {ys:List V}
theorem SqL.of (h:H a=some (.lst xs)):SqL K H a xs:=.inl (.inl h)
theorem SqT.of (h:H a=some (.tup xs)):SqT K H a xs:=.inl (.inl h)
theorem Inv.list (I:Inv X pins σ H s)(h:SqL X.K H a xs):∃its:List Value,Yl xs its/\PlainL s.heap a its.toArray/\xs.length<=Aw:=by rcases h with h | ⟨o,its,n,hk,hc,hd,hs,hz,r⟩;obtain ⟨z,its,n,r,e⟩:=h.ok I.hok;exact ⟨its,r,⟨_,n,e,rfl,rfl,rfl⟩,z⟩;refine ⟨its.toList,r,⟨o,n,I.kIn a o hk,hc,hd,by simpa using hs⟩,?_⟩;have e:=r.length;simp only [AN] at e;omega
theorem Inv.tuple (I:Inv X pins σ H s)(h:SqT X.K H a xs):∃its:List Value,Yl xs its/\IG s.heap a its.toArray/\xs.length<=Aw:=by rcases h with h | ⟨o,its,n,hk,hc,hs,hz,r⟩;obtain ⟨z,its,r,p⟩:=h.ok I.hok;exact ⟨its,r,p,z⟩;refine ⟨its.toList,r,⟨o,I.kIn a o hk,hc,n,by simpa using hs⟩,?_⟩;have e:=r.length;simp only [AN] at e;omega
theorem Inv.list_inj (I:Inv X pins σ H s)(h:SqL X.K H a xs)(h':SqL X.K H a ys):xs=ys:=by
 obtain ⟨its,r,⟨o,n,e,_,_,d⟩,_⟩:=I.list h;obtain ⟨its',r',⟨o',n',e',_,_,d'⟩,_⟩:=I.list h';rw [e] at e';cases e';rw [d] at d';injection d' with d1 _;have:its=its':=by simpa using congrArg KC d1
 subst this;exact r.inj r'
theorem Inv.tuple_inj (I:Inv X pins σ H s)(h:SqT X.K H a xs)(h':SqT X.K H a ys):xs=ys:=by
 obtain ⟨its,r,⟨o,e,_,n,d⟩,_⟩:=I.tuple h;obtain ⟨its',r',⟨o',e',_,n',d'⟩,_⟩:=I.tuple h';rw [e] at e';cases e';rw [d] at d';injection d' with d1 _;have:its=its':=by simpa using congrArg KC d1
 subst this;exact r.inj r'
end
abbrev Cx.wish (X:Cx)(E:Value->Ah->Prop):Cx:={X with xe:=E}
abbrev Cx.nox (X:Cx):Cx:=X.wish fun _ _=>False
theorem Cx.Ok.wish {X:Cx}(ok:X.Ok)(E:Value->Ah->Prop):(X.wish E).Ok:=⟨ok.mod,ok.kind,ok.glob,ok.blt,ok.above,ok.inj,ok.has,ok.cab,ok.hd,ok.frames,ok.stk,ok.exf,ok.bs,ok.bsz,ok.noex,ok.exfs,ok.funs,ok.frf⟩
theorem Cx.Ok.unwish (ok:(X.wish E).Ok):X.Ok:=⟨ok.mod,ok.kind,ok.glob,ok.blt,ok.above,ok.inj,ok.has,ok.cab,ok.hd,ok.frames,ok.stk,ok.exf,ok.bs,ok.bsz,ok.noex,ok.exfs,ok.funs,ok.frf⟩
theorem Inv.wish (I:Inv X pins σ H s)(E:Value->Ah->Prop):Inv (X.wish E) pins σ H s:=⟨I.ok.wish E,I.os,I.bare,I.base,I.loc,I.cell,I.free,I.freeC,I.pin,I.hok,I.len⟩
theorem Inv.unwish (I:Inv (X.wish E) pins σ H s):Inv X pins σ H s:=⟨I.ok.unwish,I.os,I.bare,I.base,I.loc,I.cell,I.free,I.freeC,I.pin,I.hok,I.len⟩
theorem SP.unwish {D:Ends}{f:Flow}{s':Ah}(h:SP (X.wish E) pins D f s'):SP X pins D f s':=by
 cases f with
 | next=>obtain ⟨σ',H',I,q⟩:=h;exact ⟨σ',H',I.unwish,q⟩
 | brk=>obtain ⟨σ',H',I,q⟩:=h;exact ⟨σ',H',I.unwish,q⟩
 | cont=>obtain ⟨σ',H',I,q⟩:=h;exact ⟨σ',H',I.unwish,q⟩
 | ret u=>obtain ⟨v,σ',H',I,r,q⟩:=h;exact ⟨v,σ',H',I.unwish,r,q⟩
theorem PSs.nox {st:List Stmt}{t:TS}(h:PSs X.nox st t):PSs X st t:=fun pins s σ H D I hw =>
 Cw (h pins s σ H D (I.wish _) hw) (fun _ _ q=>q.unwish) fun _ _ z=>False.elim z
section
variable {rest:List Stmt}{t u:TS}
def Zva:TS:=fun D σ H=>D.nx σ H
def Xpz (t u:TS):TS:=fun D σ H=>t {D with nx:=u D} σ H
theorem Xmw:PSs X [] Zva:=fun _ _ σ H _ I h=>Hk ⟨σ,H,I,h⟩
theorem Xey (h1:PS X st t)(h2:PSs X rest u):PSs X (st::rest) (Xpz t u):=by
 intro pins s σ H D I h;refine K1 (thn (h1 pins s σ H {D with nx:=u D} I h) fun f s1 q=>?_);cases f with
 | next =>obtain ⟨σ',H',I',q⟩:=q;exact h2 pins s1 σ' H' D I' q
 | ret v=>exact q
 | brk=>exact q
 | cont=>exact q
theorem Xnp (h1:PS X st t):PSs X [st] t:=by
 intro pins s σ H D I h;refine K1 (thn (h1 pins s σ H D I h) fun f s1 q=>?_);cases f with
 | next=>exact Hk q
 | ret v=>exact q
 | brk=>exact q
 | cont=>exact q
def Xjr:TS:=fun D σ H=>D.ct σ H
theorem Zpj:PS X (.Continue pos) Xjr:=fun _ _ σ H _ I h=>wpAny_Continue ⟨σ,H,I,h⟩
theorem Inv.quiet (I:Inv X pins σ H s):interactive X.env=false:=by simp [interactive,I.ok.kind]
def Zgl (te:TE):TS:=fun D σ H=>te σ H fun _ H1=>D.nx σ H1
theorem Xou (he:PE X e te)(hs:Cs e none pos.line X.env=pure false:=by rfl):PS X (.Expr e pos) (Zgl te):=by intro pins s σ H D I h;exact wpAny_Expr_any (thn (he pins s σ H _ I h) fun v s1 ⟨x,H1,I1,r1,q1⟩=>⟨σ,H1,I1,q1⟩) I.quiet hs
def Xpw (te:TE):TS:=fun D σ H=>te σ H D.rt
theorem Xrj (he:PE X e te):PS X (.Return (some e) pos) (Xpw te):=by intro pins s σ H D I h;exact wpAny_Return_some (thn (he pins s σ H _ I h) fun v s1 ⟨x,H1,I1,r1,q1⟩=>⟨x,σ,H1,I1,r1,q1⟩)
def Xqc (c:TT)(t u:TS):TS:=fun D σ H=>c σ H fun b H1=>if b=true then t D σ H1 else u D σ H1
theorem ps_if {a b:List Stmt}{tc:TT}(hc:PT X c tc)(ha:PSs X a t)(hb:PSs X b u):PS X (.If c a b pos) (Xqc tc t u):=by
 intro pins s σ H D I h;refine wpAny_If (thn (hc pins s σ H _ I h) fun d s1 ⟨H1,I1,q1⟩=>?_);cases d with
 | true=>exact ha pins s1 σ H1 D I1 q1
 | false=>exact hb pins s1 σ H1 D I1 q1
def Ztm:TS:=fun _ _ _=>False
theorem Xho:PS X st Ztm:=fun _ _ _ _ _ _ h=>h.elim
end
abbrev TG:=V->St->Hp->(St->Hp->Prop)->Prop
abbrev TGs:=List V->St->Hp->(St->Hp->Prop)->Prop
def PG (X:Cx)(target:Expr)(t:TG):Prop:=
 ∀(pins:List (Addr×Obj)) (s:Ah) (σ:St) (H:Hp) (v:V) (u:Value) (Q:St->Hp->Prop),Inv X pins σ H s->RelV v u->t v σ H Q->
  wpAny (model X.prog X.w) X.A (Dg target X.env u) (fun _ s'=>∃σ' H',Inv X pins σ' H' s'/\Q σ' H') X.xe s
def PGs (X:Cx)(ts:List Expr)(t:TGs):Prop:=
 ∀(pins:List (Addr×Obj)) (s:Ah) (σ:St) (H:Hp) (vs:List V) (us:List Value) (Q:St->Hp->Prop),Inv X pins σ H s->Yl vs us->t vs σ H Q->
  wpAny (model X.prog X.w) X.A (assignInOrder ((AV ts X.env).map (·.2)) us) (fun _ s'=>∃σ' H',Inv X pins σ' H' s'/\Q σ' H') X.xe s
abbrev TSet:=V->V->V->Hp->(Hp->Prop)->Prop
def PSet (X:Cx)(t:TSet):Prop:=
 ∀(pins:List (Addr×Obj)) (s:Ah) (σ:St) (H:Hp) (o i v:V) (ov iv u:Value) (Q:Hp->Prop),Inv X pins σ H s->RelV o ov->RelV i iv->RelV v u->t o i v H Q->
  wpAny (model X.prog X.w) X.A (Ht ov iv u) (fun _ s'=>∃H',Inv X pins σ H' s'/\Q H') X.xe s
abbrev TIp:=V->V->Hp->VK->Prop
def PIp (X:Cx)(op:HI)(t:TIp):Prop:=
 ∀(pins:List (Addr×Obj)) (s:Ah) (σ:St) (H:Hp) (x y:V) (v u:Value) (Q:VK),Inv X pins σ H s->RelV x v->RelV y u->t x y H Q->
  wpAny (model X.prog X.w) X.A (inplaceOp op v u) (EP X pins σ Q) X.xe s
def Zas (i:Nat):TG:=fun v σ H Q=>Q (σ.set i (some v)) H
theorem Xlr (hN:X.N.Nodup)(hi:X.N[i]?=some x)(hx:Loc X.env.scope x)(hf:autoParam (X.fn x=true\/X.env.scope.names.lookup x=some .local) aT0._auto_1):PG X (.Name x pos) (Zas i):=by intro pins s σ H v u Q I r h;exact KF (Zlf I hN hi hx r (fun s' I'=>⟨_,H,I',h⟩) hf)
def Xci:TGs:=fun vs σ H Q=>vs=[]/\Q σ H
def Zji (t:TG)(u:TGs):TGs:=fun vs σ H Q=>∃v r,vs=v::r/\t v σ H fun σ' H'=>u r σ' H' Q
theorem Xlw:PGs X [] Xci:=by intro pins s σ H vs us Q I r h;obtain ⟨e,h⟩:=h;subst e;cases r;exact assignInOrder_nil ⟨σ,H,I,h⟩
theorem Xeu {t:TG}{u:TGs}(h1:PG X e t)(h2:PGs X es u)
  (hs:(AV (e::es) X.env).map (·.2)=Dg e X.env::(AV es X.env).map (·.2):=by rfl):PGs X (e::es) (Zji t u):=by
 intro pins s σ H vs us Q I r h;obtain ⟨v,vr,e1,h⟩:=h;subst e1;cases r with
 | cons r rr =>rw [hs];refine assignInOrder_cons (thn (h1 pins s σ H _ _ _ I r h) fun _ s1 hz9=>?_);obtain ⟨σ1,H1,I1,q1⟩:=hz9;exact h2 pins s1 σ1 H1 _ _ Q I1 rr q1
def Zfa (K:Frag)(n:Nat)(t:TGs):TG:=fun v σ H Q=>∃a xs,v=.ref a/\SqT K H a xs/\xs.length=n/\t xs σ H Q
theorem Xwl {t:TGs}(hc:X.calm=true)(h:PGs X es t)
  (hn:(AV es X.env).length=n:=by rfl) (hst:(AV es X.env).findIdx? (·.1)=none:=by rfl):PG X (.Tuple es k pos) (Zfa X.K n t):=by
 intro pins s σ H v u Q I r hw;obtain ⟨a,xs,e1,hq,hl,hw⟩:=hw;subst e1;cases r;obtain ⟨its,rv,ht,hz⟩:=I.tuple hq;refine assign_Tuple_tuple (I.ok.hd hc) ht (by simp [hn,<- hl,rv.length]) hst fun h' hx=>?_;have I1:Inv X pins σ H {s with heap:=h'}:=I.kept (t':=s.toks) fun b o e=>hx b o (BD (AW e)) e;exact h pins _ σ H xs _ Q I1 (by simpa using rv) hw
def Zgi (to ti:TE)(t:TSet):TG:=fun v σ H Q=>to σ H fun o H1=>ti σ H1 fun i H2=>t o i v H2 fun H3=>Q σ H3
theorem Xwc {o i:Expr}{to ti:TE}{t:TSet}(ho:PE X o to)(hi:PE X i ti)(hs:PSet X t)
    (ha:∀v,Dg (.Subscript o i pos) X.env v=(do
      let ov <- CZ [v] (eval o X.env)
      let iv <- CZ [v,ov] (eval i X.env)
      Fi pos
      CZ [v,ov,iv] (Ht ov iv v)
      KG [v,ov,iv] []):=by intro _;rfl):PG X (.Subscript o i pos) (Zgi to ti t):=by
  intro pins s σ H v u Q I r h;rw [ha];refine Aa (BZ (thn (ho pins s σ H _ I h) fun ov s1 hz9=>?_));obtain ⟨x,H1,I1,r1,q1⟩:=hz9;refine Aa (BZ (thn (hi pins s1 σ H1 _ I1 q1) fun iv s2 hz9=>?_));obtain ⟨y,H2,I2,r2,q2⟩:=hz9;refine Aa (Ge (Aa (BZ (thn (hs pins s2 σ H2 x y v ov iv u _ I2 r1 r2 r q2) fun _ s3 ⟨H3,I3,q3⟩=>?_))));exact wpAny_release ⟨σ,H3,I3,q3⟩
def Zjr (te:TE)(g:TG):TS:=fun D σ H=>te σ H fun x H1=>g x σ H1 D.nx
theorem Xvw {g:TG}(he:PE X e te)(hg:PG X tg g)(hs:EW [tg] e pos.line X.env=pure false:=by rfl)(hw:EX [tg] e X.env=pure none:=by rfl)
  (h1:(AV [tg] X.env).map (·.2)=[Dg tg X.env]:=by rfl):PS X (.Assign [tg] e pos) (Zjr te g):=by
 intro pins s σ H D I h;refine wpAny_Assign_stores (thn (he pins s σ H _ I h) fun v s1 hz9=>?_) hs hw;obtain ⟨x,H1,I1,r1,q1⟩:=hz9;rw [h1];exact thn (hg pins s1 σ H1 x v _ I1 r1 q1) fun _ s2 q=>q
theorem Xuy (hN:X.N.Nodup)(hi:X.N[i]?=some x)(hx:Loc X.env.scope x)(he:PE X e te)(hs:Cs e (some (.Name x pos')) pos.line X.env=pure false:=by rfl)(hf:autoParam (X.fn x=true\/X.env.scope.names.lookup x=some .local) aT0._auto_1) :
  PS X (.Assign [.Name x pos'] e pos) (Zjr te (Zas i)):=by
 intro pins s σ H D I h;refine wpAny_Assign_Name (thn (he pins s σ H _ I h) fun v s1 hz9=>?_) hs;obtain ⟨y,H1,I1,r1,q1⟩:=hz9;exact Zlf I1 hN hi hx r1 (fun s2 I2=>⟨_,H1,I2,q1⟩) hf
def tAug (i:Nat)(te:TE)(ti:TIp):TS:=fun D σ H=>∃x,σ[i]?=some (some x)/\te σ H fun y H1=>ti x y H1 fun z H2=>D.nx (σ.set i (some z)) H2
theorem Xvi {op:HI}(hN:X.N.Nodup)(hi:X.N[i]?=some x)(hx:Loc X.env.scope x)(he:PE X e te)(ho:PIp X op ti)(hf:autoParam (X.fn x=true\/X.env.scope.names.lookup x=some .local) aT0._auto_1) :
  PS X (.AugAssign (.Name x pos') op e pos) (tAug i te ti):=by
 intro pins s σ H D I h;obtain ⟨v,e1,h⟩:=h;obtain ⟨m,hn,hl⟩:=I.loc;have vis:Vis X.env.scope x:=by rcases hx with k | k;exact .inl k;exact .inr (.inl k)
 obtain ⟨u,r,l⟩:=hl i x v hi e1 vis;refine wpAny_AugAssign_Name ?_;have go:wpAny (model X.prog X.w) X.A (eval e X.env) (fun w s₂=>wpAny (model X.prog X.w) X.A (inplaceOp op u w) (fun r s₃=>wpAny (model X.prog X.w) X.A (K2 X.env x r) (fun _=>SP X pins D .next) X.xe s₃) X.xe s₂) X.xe s:=by refine thn (he pins s σ H _ I h) fun w s1 hz9=>?_;obtain ⟨y,H1,I1,r1,q1⟩:=hz9;refine thn (ho pins s1 σ H1 v y u w _ I1 r r1 q1) fun z s2 hz9=>?_;obtain ⟨zv,H2,I2,r2,q2⟩:=hz9;exact Zlf I2 hN hi hx r2 (fun s3 I3=>⟨_,H2,I3,q2⟩) hf
 rcases l with ⟨hk,hm⟩ | ⟨hk,c,hc,hcell⟩;exact JY I.ok.kind hk hn hm go;rcases hk with hk | hk;exact Kb I.ok.kind hk hc hcell go;rcases hx with k | k;have:X.env.scope.names.lookup x=some .free:=hk;rw [k] at this;cases this;have:X.env.scope.names.lookup x=some .free:=hk;rw [k] at this;cases this
structure It where
 go:Nat->Hp->Prop
 yld:Nat->Hp->V->Hp->Prop
 stop:Nat->Hp->Prop
def Zuv (X:Cx)(pins:List (Addr×Obj))(H:Hp)(b:Addr):Prop:=
 H b=none/\b≠X.env.locals/\b∉X.fs/\(b∈X.ex\/X.s₀.heap.objs.size<=b)/\(∀x c,X.env.cells.lookup x=some c->c≠b)/\∀p∈X.pn++pins,p.1≠b
theorem Inv.fpOk (I:Inv X pins σ H s)(hb:s.heap.objs.size<=b)(hn:H' b=none):Zuv X pins H' b:=by refine ⟨hn,FN (AF I.lt hb),I.nofs hb,.inr (AC I.sz hb),fun x c e z=>?_,fun p hp z=>?_⟩;obtain ⟨v,q⟩:=I.cell x c e;exact absurd (AF q.lt (by rw [z];exact hb)) (Bh _);exact absurd (AF (AW (I.pin p hp).1) (by rw [z];exact hb)) (Bh _)
structure Turn (P:AZ)(w:BC)(K:Frag)(tg:Expr)(J:It)(fp:List Addr)(it:Addr)(tn:Nat->Heap->Prop):Prop where
  mem:it∈fp
  obj:∀i h,tn i h->∀b∈fp,∃o,h.get? b=some o/\∀v,o.data≠.cell v
  keep:∀i h h',tn i h->(∀b∈fp,∀o,h.get? b=some o->h'.get? b=some o)->tn i h'
  item:∀(X:Cx),X.prog=P->X.w=w->X.K=K->X.calm=true->∀(i:Nat) (pins:List (Addr×Obj)) (s:Ah) (σ:St) (H:Hp) (E:Value->Ah->Prop),Inv X pins σ H s->(∀b∈fp,Zuv X pins H b)->tn i s.heap->J.go i H->
    wpAny (model P w) X.A (pyNext (.ref it)) (fun r s1=>∃u,r=some u/\
      wpAny (model P w) X.A (letOwnedTupleGo tg (.ref it) u) (fun _ s2=>∃x H',Inv X pins σ H' s2/\RelV x u/\J.yld i H x H'/\tn (i+1) s2.heap/\∀b∈fp,H' b=none) E s1) E s
  done:∀(X:Cx),X.prog=P->X.w=w->X.K=K->X.calm=true->∀(i:Nat) (pins:List (Addr×Obj)) (s:Ah) (σ:St) (H:Hp) (E:Value->Ah->Prop),Inv X pins σ H s->(∀b∈fp,Zuv X pins H b)->tn i s.heap->J.stop i H->
    wpAny (model P w) X.A (pyNext (.ref it)) (fun r s1=>r=none/\Inv X pins σ H s1) E s
  self:∀(A:BE) (i:Nat) (s:Ah) (Q:Value->Ah->Prop) (E:Value->Ah->Prop),tn i s.heap->Q (.ref it) s->wpAny (model P w) A (IM (.ref it)) Q E s
abbrev TI:=St->Hp->(It->Hp->Prop)->Prop
def PIE (X:Cx)(pins:List (Addr×Obj))(σ:St)(tg:Expr)(R:It->Hp->Prop)(itv:Value)(s2:Ah):Prop:=
 ∃(it:Addr) (fp:List Addr) (tn:Nat->Heap->Prop) (J:It) (H':Hp),itv=.ref it/\Inv X pins σ H' s2/\Turn X.prog X.w X.K tg J fp it tn/\tn 0 s2.heap/\(∀b∈fp,Zuv X pins H' b)/\R J H'
def PI (X:Cx)(tg iter:Expr)(wi:TI):Prop:=
 ∀(pins:List (Addr×Obj)) (s:Ah) (σ:St) (H:Hp) (R:It->Hp->Prop),Inv X pins σ H s->wi σ H R->
  wpAny (model X.prog X.w) X.A (eval iter X.env) (fun v s1=>wpAny (model X.prog X.w) X.A (IM v) (PIE X pins σ tg R) X.xe s1) X.xe s
theorem Xli {n:String}{vs:Array Value}{Q:Unit->Ah->Prop}(ho:s.heap.get? it=some o)(hc:o.cls=.type n)(hd:o.data=.fields vs)
    (hn:["enumerate","zip","dict_itemiterator","dict_reverseitemiterator","odict_iterator","itertools.zip_longest","itertools.pairwise"].contains n=false) (hQ:Q () s):wpAny M A (letOwnedTupleGo tg (.ref it) u) Q E s:=by
  unfold letOwnedTupleGo;cases tg<;>first
    | exact Ac hQ
    | (cases u<;>first
        | exact Ac hQ
        | (refine Aa (wpAny_load ho ?_)
           rw [hc,hd];show wpAny M A (if (["enumerate","zip","dict_itemiterator","dict_reverseitemiterator","odict_iterator","itertools.zip_longest","itertools.pairwise"].contains n&&vs[0]?==some (D1 _))=true then _ else _) Q E s;rw [if_neg (by intro h;rw [hn,Km] at h;cases h)];exact Ac hQ))
def Itl (K:Frag)(a:Addr):It:=
 ⟨fun i H=>∃xs x,SqL K H a xs/\xs[i]?=some x,fun i H x H'=>H'=H/\∀xs,SqL K H a xs->xs[i]?=some x,fun i H=>∃xs,SqL K H a xs/\xs.length<=i⟩
def Itr (lo:Int)(n:Nat):It:=⟨fun i _=>i<n,fun i H x H'=>H'=H/\x=.int (lo+i),fun i _=>n<=i⟩
theorem Zwj (a it:Addr):Turn P w K tg (Itl K a) [it] it (fun i h=>h.IsListIter it a i) where
 mem:=by simp
 obj:=fun i h st b hb=>by
  have e:b=it:=by simpa using hb
  subst e;obtain ⟨o,e,c,d⟩:=st;exact ⟨o,e,fun v z=>by rw [d] at z;cases z⟩
 keep:=fun i h h' st k=>st.at fun o e=>k it (by simp) o e
 item:=by intro X hP hw hK hc i pins s σ H E I hf st hg;subst hP hw hK;obtain ⟨xs,x,hq,hx⟩:=hg;obtain ⟨its,rv,p,hz⟩:=I.list hq;obtain ⟨u,hu,ru⟩:=rv.get hx;obtain ⟨f0,f1,f2,f3,f4,f5⟩:=hf it (by simp);refine wpAny_pyNext_list_item st p.isList (x:=u) (by simpa using hu) fun h' st' sb=>?_;have I1:Inv X pins σ H {s with heap:=h'}:=I.turned (t':=s.toks) (fun b o hb e=>(sb.2 b hb).trans e) f0 f1 f3 f4 f5;obtain ⟨o,e,c,d⟩:=id st';exact ⟨u,rfl,Xli (s:={s with heap:=h'}) e c d (by decide) ⟨x,H,I1,ru,⟨rfl,fun ys hy=>by rw [I.list_inj hy hq];exact hx⟩,st',fun b hb=>(hf b hb).1⟩⟩
 done:=by intro X hP hw hK hc i pins s σ H E I hf st hg;subst hP hw hK;obtain ⟨xs,hq,hx⟩:=hg;obtain ⟨its,rv,p,hz⟩:=I.list hq;obtain ⟨f0,f1,f2,f3,f4,f5⟩:=hf it (by simp);have hl:=rv.length;exact wpAny_pyNext_list_end (I.ok.hd hc) st p.isList (by simp;omega) fun h' eb=>⟨rfl,I.turned (t':=s.toks) (fun b o hb e=>eb b o hb e) f0 f1 f3 f4 f5⟩
 self:=fun _ _ _ _ _ st h=>wpAny_pyIter_listiter st h
theorem Zug (it:Addr)(lo:Int)(n:Nat):Turn P w K tg (Itr lo n) [it] it (fun i h=>IsRangeIter h it (lo+(i:Nat)*1) ((n:Int) - (i:Nat)) 1) where
  mem:=by simp
  obj:=fun i h st b hb=>by
    have e:b=it:=by simpa using hb
    subst e;exact ⟨_,st,fun v z=>by
      have z':Data.fields _=Data.cell v:=z;cases z'⟩
  keep:=fun i h h' st k=>k it (by simp) _ st
  item:=by intro X hP hw hK hc i pins s σ H E I hf st hg;subst hP hw hK;obtain ⟨f0,f1,f2,f3,f4,f5⟩:=hf it (by simp);have W:=Walks.range (prog:=X.prog) (w:=X.w) (I.ok.hd hc) it lo 1 n;refine W.item i s _ _ hg st fun v h' tk hv st' kk=>?_;obtain ⟨t,rfl⟩:=hv;have I1:Inv X pins σ H {s with heap:=h',toks:=tk}:=I.turned (fun b o hb e=>kk b o (by simpa using hb) e) f0 f1 f3 f4 f5;refine ⟨_,rfl,Xli (s:={s with heap:=h',toks:=tk}) (n:="range_iterator") st' rfl rfl (by decide) ⟨.int (lo+i),H,I1,⟨t,?_⟩,⟨rfl,rfl⟩,st',fun b hb=>(hf b hb).1⟩⟩;rw [Int.mul_one]
  done:=by intro X hP hw hK hc i pins s σ H E I hf st hg;subst hP hw hK;obtain ⟨f0,f1,f2,f3,f4,f5⟩:=hf it (by simp);exact wpAny_pyNext_range_end (I.ok.hd hc) st (by have:n<=i:=hg;omega) fun h' eb=>⟨rfl,I.turned (t':=s.toks) (fun b o hb e=>eb b o hb e) f0 f1 f3 f4 f5⟩
  self:=fun _ _ _ _ _ st h=>wpAny_pyIter_rangeiter st h
def Xgi (K:Frag)(tl:TE):TI:=fun σ H R=>tl σ H fun x H1=>∃a,x=.ref a/\(∃xs,SqL K H1 a xs)/\R (Itl K a) H1
theorem Xkn {tl:TE}(hl:PE X l tl):PI X tg l (Xgi X.K tl):=by
 intro pins s σ H R I h;refine thn (hl pins s σ H _ I h) fun v s1 hz9=>?_;obtain ⟨x,H1,I1,r1,q1⟩:=hz9;obtain ⟨a,e,⟨xs,hq⟩,q⟩:=q1;subst e;cases r1;obtain ⟨its,rv,p,hz⟩:=I1.list hq;refine KD p.isList ?_;refine ⟨s1.heap.objs.size,[s1.heap.objs.size],_,_,H1,rfl,I1.kept (t':=s1.toks) fun b o e=>Ae _ e,Zwj a _,⟨_,Az _ rfl,rfl,rfl⟩,fun b hb=>?_,q⟩;have e:b=s1.heap.objs.size:=by simpa using hb
 subst e;exact I1.fpOk (Ax _) (I1.hok.fresh (Ax _))
theorem Ztk {R:It->Hp->Prop}{lo hi:Int}{t u v:Tok}(I:Inv X pins σ H s)(h1:-(2 ^ 62)<=lo)(h2:lo<2 ^ 62)(h3:-(2 ^ 62)<=hi)(h4:hi<2 ^ 62)
    (q:R (Itr lo (hi - lo).toNat) H):wpAny (model X.prog X.w) X.A (IM (.ref s.heap.objs.size)) (PIE X pins σ tg R) E {s with heap:=s.heap.push {cls:=.type "range",data:=.fields #[.int lo t,.int hi u,.int 1 v]},toks:=tk}:=by
  refine wpAny_pyIter_range (IsRange.new ..) (small_one h1 h2 h3 h4) ?_;have I1:Inv X pins σ H {s with heap:=s.heap.push {cls:=.type "range",data:=.fields #[.int lo t,.int hi u,.int 1 v]},toks:=tk}:=I.kept fun b o e=>Ae _ e;refine ⟨(s.heap.push {cls:=.type "range",data:=.fields #[.int lo t,.int hi u,.int 1 v]}).objs.size,[(s.heap.push {cls:=.type "range",data:=.fields #[.int lo t,.int hi u,.int 1 v]}).objs.size],_,_,H,rfl,
    I1.kept (t':=tk) fun b o e=>Ae _ e,Zug _ lo (hi - lo).toNat,?_,fun b hb=>?_,q⟩
  have e1:lo+((0:Nat):Int)*1=lo:=by simp
  have e2:(((hi - lo).toNat:Nat):Int) - ((0:Nat):Int)=FY lo hi 1:=by rw [LK];split<;>omega
  show IsRangeIter _ _ (lo+((0:Nat):Int)*1) ((((hi - lo).toNat:Nat):Int) - ((0:Nat):Int)) 1;rw [e1,e2];exact Az _ rfl;have e:b=(s.heap.push {cls:=.type "range",data:=.fields #[.int lo t,.int hi u,.int 1 v]}).objs.size:=by simpa using hb
  subst e;exact I1.fpOk (Ax _) (I1.hok.fresh (Ax _))
def Xdx (ta:TA):TI:=fun σ H R=>ta σ H fun vs H1=>∃j:Int,vs=[.int j]/\-(2 ^ 62)<=j/\j<2 ^ 62/\R (Itr 0 j.toNat) H1
def Xcy (ta:TA):TI:=fun σ H R=>ta σ H fun vs H1=>∃i j:Int,vs=[.int i,.int j]/\(-(2 ^ 62)<=i/\i<2 ^ 62/\-(2 ^ 62)<=j/\j<2 ^ 62)/\R (Itr i (j - i).toNat) H1
theorem Xbn {a:Expr}{ta:TA}(hg:Gl X "range")(hm:X.mg "range"=none)(ha:PA X [a] ta)(hs:Af [a] X.env=[(false,eval a X.env)]:=by rfl):PI X tg (.Call (.Name "range" p) [a] [] pos) (Xdx ta):=by
 intro pins s σ H R I h;refine Call_ (Zgf I hg hm boot_range (Ce (thn (ha pos pins s σ H _ I h) fun us s1 hz9=>?_) hs rfl));obtain ⟨vs,H1,I1,r1,q1⟩:=hz9;obtain ⟨j,e,q1,q2,q⟩:=q1;subst e;cases r1 with
 | cons r rr =>cases rr;obtain ⟨t,rfl⟩:=r;exact call_range_1 (Ztk I1 (by omega) (by omega) q1 q2 (by simpa using q))
theorem Xcd {a b:Expr}{ta:TA}(hg:Gl X "range")(hm:X.mg "range"=none)(ha:PA X [a,b] ta)(hs:Af [a,b] X.env=[(false,eval a X.env),(false,eval b X.env)]:=by rfl)(hs2:Af [b] X.env=[(false,eval b X.env)]:=by rfl) :
  PI X tg (.Call (.Name "range" p) [a,b] [] pos) (Xcy ta):=by
 intro pins s σ H R I h;refine Call_ (Zgf I hg hm boot_range (Ce (thn (ha pos pins s σ H _ I h) fun us s1 hz9=>?_) (by rw [hs,hs2]) (by rw [hs2];rfl)));obtain ⟨vs,H1,I1,r1,q1⟩:=hz9;obtain ⟨i,j,e,⟨q1,q2,q3,q4⟩,q⟩:=q1;subst e;cases r1 with
 | cons r rr =>
  cases rr with
  | cons r' rr =>cases rr;obtain ⟨t,rfl⟩:=r;obtain ⟨t',rfl⟩:=r';exact call_range_2 (Ztk I1 q1 q2 q3 q4 q)
def Xqg (wi:TI)(g:TG)(tb:TS):TS:=fun D σ H=>wi σ H fun J H1=>∃W:Nat->Nat->St->Hp->Prop,(∃m,W 0 m σ H1)/\∀i m σ H,W i m σ H->
 (J.stop i H/\D.nx σ H)\/(J.go i H/\∃N:St->Hp->Prop,(∀σ' H',N σ' H'->∃m',m'<m/\W (i+1) m' σ' H')/\∀x H',J.yld i H x H'->g x σ H' fun σ2 H2=>tb {D with nx:=N,ct:=N,bk:=D.nx} σ2 H2)
def Zof (fp:List Addr)(h:Heap):List (Addr×Obj):=fp.filterMap fun b=>(h.get? b).map fun o=>(b,o)
theorem Zdd (hb:b∈fp)(e:h.get? b=some o):(b,o)∈Zof fp h:=ID.mpr ⟨b,hb,by rw [e];rfl⟩
theorem Zzv {p:Addr×Obj}(hp:p∈Zof fp h):p.1∈fp/\h.get? p.1=some p.2:=by
 obtain ⟨b,hb,e⟩:=ID.mp hp;cases q:h.get? b with
 | none=>rw [q] at e;cases e
 | some o =>rw [q] at e;have e':(b,o)=p:=AU e;subst e';exact ⟨hb,q⟩
theorem Inv.pinned (I:Inv X pins σ H s)(hf:∀b∈fp,Zuv X pins H b)(ho:∀b∈fp,∃o,s.heap.get? b=some o/\∀v,o.data≠.cell v):Inv X (pins++Zof fp s.heap) σ H s:=I.pins_of fun p hp=>(Au.mp hp).elim (fun z=>I.pin p (As _ z)) fun z=>by obtain ⟨hb,e⟩:=Zzv z;obtain ⟨f0,f1,f2,_⟩:=hf p.1 hb;obtain ⟨o,e',d⟩:=ho p.1 hb;rw [e] at e';cases e';exact ⟨e,f0,f1,f2,d⟩
theorem Inv.unpinned (I:Inv X (pins++pl) σ H s):Inv X pins σ H s:=I.pins_of fun p hp=>I.pin p (As _ (AJ _ hp))
theorem Xsw {wi:TI}{g:TG}{tb:TS}(hp:IB (model X.prog X.w) X.A X.env X.xe)(hc:X.calm=true)(hi:PI X tg iter wi)(hg:PG X tg g)(hb:PSs X body tb)
  (hs:∀x,Bt iter X.env x=pure x:=by intro _;rfl):PS X (.For tg iter body [] pos) (Xqg wi g tb):=by
 intro pins s σ H D I h;refine wpAny_For (thn (hi pins s σ H _ I h) fun v s1 h1=>thn h1 fun itv s2 h2=>?_) hs;obtain ⟨it,fp,tn,J,H2,e,I2,T,st2,f2,W,⟨m0,w0⟩,turn⟩:=h2;subst e;have stat:∀{H':Hp},(∀b∈fp,H' b=none)->∀b∈fp,Zuv X pins H' b:=fun hn b hb=>⟨hn b hb,(f2 b hb).2⟩;refine codeAny_forLoop_any (fun n s'=>∃i σ' H',Inv X pins σ' H' s'/\tn i s'.heap/\(∀b∈fp,H' b=none)/\W i n σ' H') ?_ m0 ⟨0,σ,H2,I2,st2,fun b hb=>(f2 b hb).1,w0⟩;rintro n s3 ⟨i,σ3,H3,I3,st3,fr3,w3⟩;rcases turn i n σ3 H3 w3 with ⟨stop,qn⟩ | ⟨go,N,hN,step⟩
 ·refine Ep hp (thn (T.done X rfl rfl rfl hc i pins s3 σ3 H3 X.xe I3 (stat fr3) st3 stop) fun r s4 ⟨hr,I4⟩=>?_);subst hr;exact Hk ⟨σ3,H3,I4,qn⟩
 ·refine Ep hp (thn (T.item X rfl rfl rfl hc i pins s3 σ3 H3 X.xe I3 (stat fr3) st3 go) fun r s4 ⟨u,hr,h4⟩=>?_);subst hr;refine Ep hp (thn h4 fun _ s5 hz9=>?_);obtain ⟨x,H5,I5,r5,y5,st5,fr5⟩:=hz9;have I5':=I5.pinned (stat fr5) (T.obj _ _ st5);refine Ep hp (thn (hg _ s5 σ3 H5 x u _ I5' r5 (step x H5 y5)) fun _ s6 hz9=>?_);obtain ⟨σ6,H6,I6,q6⟩:=hz9;refine Ep hp (thn (hb _ s6 σ6 H6 _ I6 q6) fun f s7 q7=>?_);have KL:∀{σ7:St} {H7:Hp},Inv X (pins++Zof fp s5.heap) σ7 H7 s7->N σ7 H7->∃m,m<n/\∃i σ' H',Inv X pins σ' H' s7/\tn i s7.heap/\(∀b∈fp,H' b=none)/\W i m σ' H':=fun {σ7 H7} I7 n7=>by obtain ⟨m',hm,w7⟩:=hN σ7 H7 n7;refine ⟨m',hm,i+1,σ7,H7,I7.unpinned,T.keep _ _ _ st5 fun b hb o e=>(I7.pin (b,o) (As _ (As _ (Zdd hb e)))).1,fun b hb=>?_,w7⟩;obtain ⟨o,e,d⟩:=T.obj _ _ st5 b hb;exact (I7.pin (b,o) (As _ (As _ (Zdd hb e)))).2.1
  cases f with
  | next=>obtain ⟨σ7,H7,I7,n7⟩:=q7;exact KL I7 n7
  | cont=>obtain ⟨σ7,H7,I7,n7⟩:=q7;exact KL I7 n7
  | brk=>obtain ⟨σ7,H7,I7,q7⟩:=q7;exact ⟨σ7,H7,I7.unpinned,q7⟩
  | ret v=>obtain ⟨x7,σ7,H7,I7,r7,q7⟩:=q7;exact ⟨x7,σ7,H7,I7.unpinned,r7,q7⟩
abbrev R2:=V->V->Hp->VK->Prop
def OpR (X:Cx)(f:Value->Value->Sem Value)(r:R2):Prop:=
 ∀(pins:List (Addr×Obj)) (s:Ah) (σ:St) (H:Hp) (x y:V) (v u:Value) (Q:VK),Inv X pins σ H s->RelV x v->RelV y u->r x y H Q->
  wpAny (model X.prog X.w) X.A (f v u) (EP X pins σ Q) X.xe s
def UnR (X:Cx)(f:Value->Sem Value)(r:V->Hp->VK->Prop):Prop:=
 ∀(pins:List (Addr×Obj)) (s:Ah) (σ:St) (H:Hp) (x:V) (v:Value) (Q:VK),Inv X pins σ H s->RelV x v->r x H Q->
  wpAny (model X.prog X.w) X.A (f v) (EP X pins σ Q) X.xe s
def Jy (X:Cx)(f:Value)(r:List V->Hp->VK->Prop):Prop:=
 ∀(pins:List (Addr×Obj)) (s:Ah) (σ:St) (H:Hp) (xs:List V) (us:List Value) (Q:VK),Inv X pins σ H s->Yl xs us->r xs H Q->
  wpAny (model X.prog X.w) X.A (call f us) (EP X pins σ Q) X.xe s
def TruR (X:Cx)(r:V->Hp->(Bool->Hp->Prop)->Prop):Prop:=
 ∀(pins:List (Addr×Obj)) (s:Ah) (σ:St) (H:Hp) (x:V) (v:Value) (Q:Bool->Hp->Prop),Inv X pins σ H s->RelV x v->r x H Q->
  wpAny (model X.prog X.w) X.A (II v) (TP X pins σ Q) X.xe s
def tOp (r:R2)(ta tb:TE):TE:=fun σ H Q=>ta σ H fun x H1=>tb σ H1 fun y H2=>r x y H2 Q
def tUn (r:V->Hp->VK->Prop)(ta:TE):TE:=fun σ H Q=>ta σ H fun x H1=>r x H1 Q
def rI (C:Int->Int->Prop)(g:Int->Int->V):R2:=fun x y H Q=>∃i j,x=.int i/\y=.int j/\C i j/\Q (g i j) H
def rI0 (g:Int->Int->V):R2:=fun x y H Q=>∃i j,x=.int i/\y=.int j/\Q (g i j) H
def rU (g:Int->V):V->Hp->VK->Prop:=fun x H Q=>∃i,x=.int i/\Q (g i) H
section
variable {a b:Expr}
theorem binT (ha:PE X a ta)(hb:PE X b tb){R:V->V->Hp->Prop}(I:Inv X pins σ H s)
  (h:ta σ H fun x H1=>tb σ H1 fun y H2=>R x y H2) {Q:Value->Ah->Prop} {f:Value->Value->Sem Value}
  (hf:∀v u s2 x y H2,Inv X pins σ H2 s2->RelV x v->RelV y u->R x y H2->wpAny (model X.prog X.w) X.A (f v u) Q X.xe s2) :
  wpAny (model X.prog X.w) X.A (eval a X.env) (fun v s₁=>wpAny (model X.prog X.w) X.A (eval b X.env) (fun u s₂=>wpAny (model X.prog X.w) X.A (f v u) Q X.xe s₂) X.xe s₁) X.xe s:=by
 refine thn (ha pins s σ H _ I h) fun v s1 hz9=>?_;obtain ⟨x,H1,I1,r1,q1⟩:=hz9;refine thn (hb pins s1 σ H1 _ I1 q1) fun u s2 hz9=>?_;obtain ⟨y,H2,I2,r2,q2⟩:=hz9;exact hf v u s2 x y H2 I2 r1 r2 q2
theorem pe_op {op:HI}{r:R2}(ho:OpR X (CA op) r)(ha:PE X a ta)(hb:PE X b tb):PE X (.BinOp a op b pos) (tOp r ta tb):=by intro pins s σ H Q I h;exact wpAny_BinOp (binT ha hb I h fun v u s2 x y H2 I2 rx ry q=>ho pins s2 σ H2 x y v u Q I2 rx ry q)
theorem pe_un {op:UnaryOp}{r:V->Hp->VK->Prop}(ho:UnR X (unaryOp op) r)(ha:PE X a ta):PE X (.UnaryOp op a pos) (tUn r ta):=by intro pins s σ H Q I h;exact UnaryOp_ (thn (ha pins s σ H _ I h) fun v s1 ⟨x,H1,I1,r1,q1⟩=>ho pins s1 σ H1 x v Q I1 r1 q1)
theorem opI {C:Int->Int->Prop}{g:Int->Int->Int}
  (rule:∀(i j:Int) (t u:Tok) (s:Ah) (Q:Value->Ah->Prop) (E:Value->Ah->Prop),C i j->Q (.int (g i j) s.toks) {s with toks:=s.toks+1}->wpAny (model X.prog X.w) X.A (f (.int i t) (.int j u)) Q E s) :
  OpR X f (rI C fun i j=>.int (g i j)):=by
 intro pins s σ H x y v u Q I rx ry h;obtain ⟨i,j,rfl,rfl,hc,q⟩:=h;obtain ⟨t,rfl⟩:=rx;obtain ⟨t',rfl⟩:=ry;exact rule i j t t' s _ _ hc ⟨.int (g i j),H,I.tok _,⟨_,rfl⟩,q⟩
theorem opI0 {g:Int->Int->Int}
  (rule:∀(i j:Int) (t u:Tok) (s:Ah) (Q:Value->Ah->Prop) (E:Value->Ah->Prop),Q (.int (g i j) s.toks) {s with toks:=s.toks+1}->wpAny (model X.prog X.w) X.A (f (.int i t) (.int j u)) Q E s) :
  OpR X f (rI0 fun i j=>.int (g i j)):=by
 intro pins s σ H x y v u Q I rx ry h;obtain ⟨i,j,rfl,rfl,q⟩:=h;obtain ⟨t,rfl⟩:=rx;obtain ⟨t',rfl⟩:=ry;exact rule i j t t' s _ _ ⟨.int (g i j),H,I.tok _,⟨_,rfl⟩,q⟩
theorem opB0 {g:Int->Int->Bool}
  (rule:∀(i j:Int) (t u:Tok) (s:Ah) (Q:Value->Ah->Prop) (E:Value->Ah->Prop),Q (.bool (g i j)) s->wpAny (model X.prog X.w) X.A (f (.int i t) (.int j u)) Q E s) :
  OpR X f (rI0 fun i j=>.bl (g i j)):=by
 intro pins s σ H x y v u Q I rx ry h;obtain ⟨i,j,rfl,rfl,q⟩:=h;obtain ⟨t,rfl⟩:=rx;obtain ⟨t',rfl⟩:=ry;exact rule i j t t' s _ _ ⟨.bl (g i j),H,I,rfl,q⟩
def CPow (i j:Int):Prop:=0<=j/\j<=1000000/\i.natAbs<2 ^ 64
def Xpy (i j:Int):Prop:=(-(2 ^ 64)<i/\i<2 ^ 64)\/(-(2 ^ 64)<j/\j<2 ^ 64)
theorem Xpy.ok {i j:Int}(h:Xpy i j):IntMulOk i j:=by rcases h with ⟨h1,h2⟩ | ⟨h1,h2⟩;exact .of_left (LM h1 h2);exact .of_right (LM h1 h2)
theorem Xvo:OpR X (CA .Add) (rI0 fun i j=>.int (i+j)):=opI0 fun _ _ _ _ _ _ _ q=>add_int q
theorem Zfy:OpR X (CA .Sub) (rI0 fun i j=>.int (i - j)):=opI0 fun _ _ _ _ _ _ _ q=>sub_int q
theorem Xqo:OpR X (CA .Mult) (rI Xpy fun i j=>.int (i*j)):=opI fun _ _ _ _ _ _ _ hc q=>mul_int q hc.ok
theorem Zav:OpR X (CA .Mod) (rI (fun _ j=>0<j) fun i j=>.int (i % j)):=opI fun i j _ _ _ _ _ hc q=>by have h1:(0:Int)<j:=hc;exact mod_int' (by omega) (by rw [Int.fmod_eq_emod_of_nonneg i (by omega)];exact q)
theorem Zet:OpR X (CA .Pow) (rI CPow fun i j=>.int (i ^ j.toNat)):=opI fun _ _ _ _ _ _ _ hc q=>pow_int_small hc.1 hc.2.1 hc.2.2 q
theorem unI {f:Value->Sem Value}{g:Int->Int}
  (rule:∀(i:Int) (t:Tok) (s:Ah) (Q:Value->Ah->Prop) (E:Value->Ah->Prop),Q (.int (g i) s.toks) {s with toks:=s.toks+1}->wpAny (model X.prog X.w) X.A (f (.int i t)) Q E s) :
  UnR X f (rU fun i=>.int (g i)):=by
 intro pins s σ H x v Q I rx h;obtain ⟨i,rfl,q⟩:=h;obtain ⟨t,rfl⟩:=rx;exact rule i t s _ _ ⟨.int (g i),H,I.tok _,⟨_,rfl⟩,q⟩
theorem Xrq:UnR X (unaryOp .USub) (rU fun i=>.int (-i)):=unI fun _ _ _ _ _ q=>neg_int q
end
def scal:V->V->Bool
 | .non,.non=>true | .non,.int _=>true | .int _,.non=>true | .non,.bl _=>true | .bl _,.non=>true | .non,.str _=>true | .str _,.non=>true
 | .int _,.int _=>true | .bl _,.bl _=>true | .str _,.str _=>true | .byt _,.byt _=>true
 | .int _,.str _=>true | .str _,.int _=>true | .bl _,.str _=>true | .str _,.bl _=>true
 | _,_=>false
def rEq:R2:=fun x y H Q=>scal x y=true/\Q (.bl (decide (x=y))) H
def rNe:R2:=fun x y H Q=>scal x y=true/\Q (.bl (!decide (x=y))) H
theorem Xcf {i j:Int}:decide (V.int i=V.int j)=(i==j):=by rw [DI];simp
theorem Xhy {i j:Bool}:decide (V.bl i=V.bl j)=(i==j):=by rw [DI];simp
theorem Zxm {i j:Str}:decide (V.str i=V.str j)=(i==j):=by rw [DI];simp
theorem Zxp {i j:Array UInt8}:decide (V.byt i=V.byt j)=(i.toList==j.toList):=by rw [DI];cases i;cases j;simp
section
variable {a b:Expr}
theorem Yc {Q:VK}{k k':Bool}(I:Inv X pins σ H s)(q:Q (.bl k) H)(e:k=k'):EP X pins σ Q (.bool k') s:=by subst e;exact ⟨.bl k,H,I,rfl,q⟩
theorem op_eq:OpR X (BX .Eq) rEq:=by
 intro pins s σ H x y v u Q I rx ry h;obtain ⟨hs,q⟩:=h;cases x with
 | non =>
  cases rx;cases y with
  | non=>cases ry;exact PySem.EqNone.eq_none_none (Yc I q (by simp))
  | bl j=>cases ry;exact PySem.EqNone.eq_none_bool (Yc I q (by simp))
  | int j=>obtain ⟨t',rfl⟩:=ry;exact PySem.EqNone.eq_none_int (Yc I q (by simp))
  | str j=>obtain ⟨t',rfl⟩:=ry;exact PySem.EqNone.eq_none_str (Yc I q (by simp))
  | _=>exact absurd (show false=true from hs) Aj
 | bl i =>
  cases rx;cases y with
  | non=>cases ry;exact PySem.EqNone.eq_bool_none (Yc I q (by simp))
  | bl j=>cases ry;exact eq_bool (Yc I q Xhy)
  | str j=>obtain ⟨t',rfl⟩:=ry;exact PySem.EqMixed.eq_bool_str (Yc I q (by simp))
  | _=>exact absurd (show false=true from hs) Aj
 | int i =>
  obtain ⟨t,rfl⟩:=rx;cases y with
  | non=>cases ry;exact PySem.EqNone.eq_int_none (Yc I q (by simp))
  | int j=>obtain ⟨t',rfl⟩:=ry;exact eq_int (Yc I q Xcf)
  | str j=>obtain ⟨t',rfl⟩:=ry;exact PySem.EqMixed.eq_int_str (Yc I q (by simp))
  | _=>exact absurd (show false=true from hs) Aj
 | str i =>
  obtain ⟨t,rfl⟩:=rx;cases y with
  | non=>cases ry;exact PySem.EqNone.eq_str_none (Yc I q (by simp))
  | bl j=>cases ry;exact PySem.EqMixed.eq_str_bool (Yc I q (by simp))
  | int j=>obtain ⟨t',rfl⟩:=ry;exact PySem.EqMixed.eq_str_int (Yc I q (by simp))
  | str j=>obtain ⟨t',rfl⟩:=ry;exact eq_str (Yc I q Zxm)
  | _=>exact absurd (show false=true from hs) Aj
 | byt i =>
  obtain ⟨t,rfl⟩:=rx;cases y with
  | byt j=>obtain ⟨t',rfl⟩:=ry;exact PySem.W.eq_bytes (Yc I q Zxp)
  | _=>exact absurd (show false=true from hs) Aj
 | _=>cases y<;>exact absurd (show false=true from hs) Aj
theorem op_ne:OpR X (BX .NotEq) rNe:=by
 intro pins s σ H x y v u Q I rx ry h;obtain ⟨hs,q⟩:=h;cases x with
 | non =>
  cases rx;cases y with
  | non=>cases ry;exact PySem.EqNone.ne_none_none (Yc I q (by simp))
  | bl j=>cases ry;exact PySem.EqNone.ne_none_bool (Yc I q (by simp))
  | int j=>obtain ⟨t',rfl⟩:=ry;exact PySem.EqNone.ne_none_int (Yc I q (by simp))
  | str j=>obtain ⟨t',rfl⟩:=ry;exact PySem.EqNone.ne_none_str (Yc I q (by simp))
  | _=>exact absurd (show false=true from hs) Aj
 | bl i =>
  cases rx;cases y with
  | non=>cases ry;exact PySem.EqNone.ne_bool_none (Yc I q (by simp))
  | bl j=>cases ry;exact ne_bool (Yc I q (congrArg not Xhy))
  | str j=>obtain ⟨t',rfl⟩:=ry;exact PySem.EqMixed.ne_bool_str (Yc I q (by simp))
  | _=>exact absurd (show false=true from hs) Aj
 | int i =>
  obtain ⟨t,rfl⟩:=rx;cases y with
  | non=>cases ry;exact PySem.EqNone.ne_int_none (Yc I q (by simp))
  | int j=>obtain ⟨t',rfl⟩:=ry;exact ne_int (Yc I q (congrArg not Xcf))
  | str j=>obtain ⟨t',rfl⟩:=ry;exact PySem.EqMixed.ne_int_str (Yc I q (by simp))
  | _=>exact absurd (show false=true from hs) Aj
 | str i =>
  obtain ⟨t,rfl⟩:=rx;cases y with
  | non=>cases ry;exact PySem.EqNone.ne_str_none (Yc I q (by simp))
  | bl j=>cases ry;exact PySem.EqMixed.ne_str_bool (Yc I q (by simp))
  | int j=>obtain ⟨t',rfl⟩:=ry;exact PySem.EqMixed.ne_str_int (Yc I q (by simp))
  | str j=>obtain ⟨t',rfl⟩:=ry;exact ne_str (Yc I q (congrArg not Zxm))
  | _=>exact absurd (show false=true from hs) Aj
 | byt i =>
  obtain ⟨t,rfl⟩:=rx;cases y with
  | byt j=>obtain ⟨t',rfl⟩:=ry;exact PySem.W.ne_bytes (Yc I q (congrArg not Zxp))
  | _=>exact absurd (show false=true from hs) Aj
 | _=>cases y<;>exact absurd (show false=true from hs) Aj
theorem Ziq:OpR X (BX .Lt) (rI0 fun i j=>.bl (decide (i<j))):=opB0 fun _ _ _ _ _ _ _ q=>lt_int q
theorem Xsh:OpR X (BX .LtE) (rI0 fun i j=>.bl (decide (i<=j))):=opB0 fun _ _ _ _ _ _ _ q=>le_int q
theorem Zkm:OpR X (BX .Gt) (rI0 fun i j=>.bl (decide (j<i))):=opB0 fun _ _ _ _ _ _ _ q=>gt_int q
theorem Xrz:OpR X (BX .GtE) (rI0 fun i j=>.bl (decide (j<=i))):=opB0 fun _ _ _ _ _ _ _ q=>ge_int q
theorem OpR.or {r r':R2}(h:OpR X f r)(h':OpR X f r'):OpR X f (fun x y H Q=>r x y H Q\/r' x y H Q):=by intro pins s σ H x y v u Q I rx ry q;rcases q with q | q;exact h pins s σ H x y v u Q I rx ry q;exact h' pins s σ H x y v u Q I rx ry q
theorem Xs (b:Expr)(h:op≠.In:=by decide)(h2:op≠.NotIn:=by decide):Dq op b=false:=by
 have e1:(op==CmpOp.In)=false:=by cases op<;>first | rfl | exact absurd rfl h
 have e2:(op==CmpOp.NotIn)=false:=by cases op<;>first | rfl | exact absurd rfl h2
 cases b<;>simp [Dq,e1,e2]
theorem Xni {r:R2}(ho:OpR X (BX op) r)(ha:PE X a ta)(hb:PE X b tb)(hm:Dq op b=false):PE X (.Compare a [op] [b] pos) (tOp r ta tb):=by intro pins s σ H Q I h;exact wpAny_Compare1 (binT ha hb I h fun v u s2 x y H2 I2 rx ry q=>ho pins s2 σ H2 x y v u Q I2 rx ry q) hm
def Xef (t:TE):TT:=fun σ H Q=>t σ H fun x H'=>∃k,x=.bl k/\Q k H'
theorem Xmx {r:R2}(ho:OpR X (BX op) r)(ha:PE X a ta)(hb:PE X b tb)(hm:Dq op b=false):PT X (.Compare a [op] [b] pos) (Xef (tOp r ta tb)):=by
  intro pins s σ H Q I h;refine wpAny_isTrue_Compare1 (thn (ha pins s σ H _ I h) fun v s1 ⟨x,H1,I1,r1,q1⟩=>thn (hb pins s1 σ H1 _ I1 q1) fun u s2 ⟨y,H2,I2,r2,q2⟩ =>
    thn (ho pins s2 σ H2 x y v u _ I2 r1 r2 q2) fun c s3 ⟨z,H3,I3,r3,k,e,q3⟩=>?_) hm
  subst e;cases r3;exact Cr ⟨H3,I3,q3⟩
def TruV (K:Frag)(x:V)(H:Hp)(k:Bool):Prop:=
 match x with
 | .non=>k=false
 | .bl b=>k=b
 | .int i=>k=(i != 0)
 | .str y=>y.length<=Aw/\k=((y.length:Int) != 0)
 | .byt y=>y.size<=Aw/\k=((y.size:Int) != 0)
 | .ref p=>(∃xs,SqL K H p xs/\k=!xs.isEmpty)\/(∃xs,SqT K H p xs/\k=!xs.isEmpty)\/∃kvs,H p=some (.dK kvs)/\k=!kvs.isEmpty
 | _=>False
theorem Zvh {kvs:List (κ×V)}{vs:List (κ×Value)}(r:KV kvs vs):(!vs.isEmpty)=!kvs.isEmpty:=by cases r<;>rfl
theorem Zjm (r:Yl xs its):(!its.toArray.isEmpty)=!xs.isEmpty:=by cases r<;>simp
theorem Zjl:(Aw:Nat)<2 ^ 63:=by rw [He];decide
theorem Xvr:TruR X (fun x H Q=>∃k,TruV X.K x H k/\Q k H):=by
 intro pins s σ H x v Q I rx h;obtain ⟨k,e,q⟩:=h;have hl:=Zjl;have hs:Aw=16777216:=He;cases x with
 | non =>cases rx;have e':k=false:=e;subst e';exact truthy_none ⟨H,I,q⟩
 | bl b =>cases rx;have e':k=b:=e;subst e';exact Cr ⟨H,I,q⟩
 | int i =>obtain ⟨t,rfl⟩:=rx;have e':k=(i != 0):=e;subst e';exact PySem.P.truthy_int ⟨H,I,q⟩
 | str y =>obtain ⟨t,rfl⟩:=rx;obtain ⟨hy,e'⟩:y.length<=Aw/\k=((y.length:Int) != 0):=e;subst e';exact PySem.P.truthy_str (by omega) ⟨H,I.tok _,q⟩
 | byt y =>obtain ⟨t,rfl⟩:=rx;obtain ⟨hy,e'⟩:y.size<=Aw/\k=((y.size:Int) != 0):=e;subst e';exact PySem.W.truthy_bytes (by omega) ⟨H,I.tok _,q⟩
 | ref p =>cases rx;have e':(∃xs,SqL X.K H p xs/\k=!xs.isEmpty)\/(∃xs,SqT X.K H p xs/\k=!xs.isEmpty)\/∃kvs,H p=some (.dK kvs)/\k=!kvs.isEmpty:=e;rcases e' with ⟨xs,hx,e'⟩ | ⟨xs,hx,e'⟩ | ⟨kvs,hx,e'⟩;subst e';obtain ⟨its,r,pl,hz⟩:=I.list hx;have hlen:=r.length;exact wpAny_truthy_list pl.isList (by simp only [AG];omega) ⟨H,I.tok _,by rw [Zjm r];exact q⟩;subst e';obtain ⟨its,r,pl,hz⟩:=I.tuple hx;have hlen:=r.length;exact truthy_tuple pl (by simp only [AG];omega) ⟨H,I.tok _,by rw [Zjm r];exact q⟩;subst e';obtain ⟨hz,hS,vs,r,m⟩:kvs.length<=Aw/\(p==CH)=false/\∃vs,KV kvs vs/\s.heap.DictOf (Yg X.prog X.w) p vs:=I.hok p _ hx;have hlen:kvs.length=vs.length:=Paired.length r;exact wpAny_truthy_dict hS m (by omega) ⟨H,I.tok _,by rw [Zvh r];exact q⟩
 | _=>exact (show False from e).elim
theorem Xek (ha:PE X a ta)(he:∀whole,isTrue a X.env whole=(do let v <- whole;Fi a.pos;CZ [v] (II v))) :
  PT X a (fun σ H Q=>ta σ H fun x H'=>∃k,TruV X.K x H' k/\Q k H'):=by
 intro pins s σ H Q I h;exact isTrue_plain (thn (ha pins s σ H _ I h) fun v s1 ⟨x,H1,I1,r1,q1⟩=>Xvr pins s1 σ H1 x v Q I1 r1 q1) (he _)
theorem Zuj:OpR X (CA .Add) (fun x y H Q=>∃i j,x=.str i/\y=.str j/\i.length+j.length<=Aw/\Q (.str (i++j)) H):=by intro pins s σ H x y v u Q I rx ry h;obtain ⟨i,j,rfl,rfl,hz,q⟩:=h;obtain ⟨t,rfl⟩:=rx;obtain ⟨t',rfl⟩:=ry;exact add_str (fun t' tk=>⟨.str (i++j),H,I.tok _,⟨_,rfl⟩,q⟩) hz
theorem vals1 {x:V}(r:Yl [x] us):∃u,us=[u]/\RelV x u:=by
 cases r with
 | cons r1 r2=>cases r2;exact ⟨_,rfl,r1⟩
theorem vals2 {x y:V}(r:Yl [x,y] us):∃u w',us=[u,w']/\RelV x u/\RelV y w':=by
 cases r with
 | cons r1 r2 =>
  cases r2 with
  | cons r3 r4=>cases r4;exact ⟨_,_,rfl,r1,r3⟩
theorem Xav (hc:X.calm=true):Jy X (.builtin "min") (fun xs H Q=>∃i j,xs=[.int i,.int j]/\Q (.int (if j<i then j else i)) H):=by intro pins s σ H xs us Q I r h;obtain ⟨i,j,rfl,q⟩:=h;obtain ⟨u,w',rfl,⟨t,rfl⟩,⟨t',rfl⟩⟩:=vals2 r;refine min_two_ints (I.ok.hd hc) fun h' tk k=>⟨_,H,I.kept k,?_,q⟩;by_cases hj:j<i;rw [if_pos hj,if_pos hj];exact ⟨_,rfl⟩;rw [if_neg hj,if_neg hj];exact ⟨_,rfl⟩
end
structure ObjM (h:Heap)(x dx C:Addr)(mA:Str->Option Value):Prop where
 obj:h.get? x=some (KI C dx)
 ns:h.Ns1 dx mA
 ne:dx≠x
theorem Xau (n:h.Ns1 dx mA):∃od,h.get? dx=some od/\∀name,lookIn name od=some (mA name):=by
 obtain ⟨o,es,ep,ho,hd,hk,_,hm⟩:=n;refine ⟨o,ho,fun name=>?_⟩;have e:=hm name;unfold nsFind findBy at e;rw [<- Array.find?_toList] at e;unfold lookIn;rw [hd];dsimp only;split;rename_i y q;rw [q] at e;exact congrArg some e;rename_i q;rw [q] at e;have a:es.toList.any (·.refKey)=false:=by rw [List.any_eq_false];intro y hy;obtain ⟨z,t,hkey⟩:=hk y (HU.mp hy);simp [LX,hkey]
 have a':¬es.toList.any (·.refKey)=true:=by rw [a];exact Aj
 rw [if_neg a'];exact congrArg some e
theorem ObjM.look {x:Addr}(I:ObjM h x dx C mA):∃od,PySem.W.InstAt h x (KI C dx) C (some od)/\∀name,lookIn name od=some (mA name):=
 let ⟨od,ho,hl⟩:=Xau I.ns
 ⟨od,⟨I.obj,rfl,rfl,ho⟩,hl⟩
section
variable {x f:Addr}{v:Value}
end
theorem Xbr.some_of {o:Option Value}(r:Xbr (some v) o):∃u,o=some u/\RelV v u:=by
 cases o with
 | none=>exact (show False from r).elim
 | some u=>exact ⟨u,rfl,r⟩
section
variable {fs:List (Str×V)}
theorem Xkq (hok:HOk P w H h)(e:H a=some (.ins C dx fs)):∃mA,ObjM h a dx C mA/\(∀f,Xbr (fs.lookup f) (mA f))/\PySem.Within mA (fs.map (·.1))/\fs.length<=1000/\H dx=some (.own a):=by obtain ⟨d,z,ne,ob,mA,n,r,q⟩:=(show Yz P w H h a (.ins C dx fs) from hok a _ e);exact ⟨mA,⟨ob,n,ne⟩,r,q,z,d⟩
end
structure Cls (K:Frag)(C:Addr):Prop where
 pg:PySem.W.plainGet K C Str.empty=true
 hd:PySem.W.hasDictIn K C=true
 po:PySem.W.plainOver K C=true
 sa:Er K (.ref C) "__setattr__"=some (some (.builtin "object.__setattr__"))
theorem Cls.get (c:Cls K C)(f:Str):PySem.W.plainGet K C f=true:=c.pg
structure Con (K:Frag)(C:Addr)(f:Str)(v:V)(u:Value):Prop where
 at_:Er K (.ref C) f=some (some u)
 rel:RelV v u
 get:Iu K u "__get__"=some none
 cp:PySem.W.copiedNames.contains f=false
structure Meth (K:Frag)(C:Addr)(m:Str)(f:Addr):Prop where
 at_:Er K (.ref C) m=some (some (.ref f))
 fn:isFn K (.ref f)=true
 kp:Fk K (.ref f)=true
section
variable {fs:List (Str×V)}{f:Str}
end
section
variable {o value:Expr}{f:Str}{tpos:Pos}{tv:TE}
end
section
variable {c:Value}{b:Bool}
inductive TyOf (K:Frag)(H:Hp):V->Value->Prop where
 | non:TyOf K H .non (.type "NoneType")
 | bl (x:Bool):TyOf K H (.bl x) (.type "bool")
 | int (i:Int):TyOf K H (.int i) (.type "int")
 | str (x:Str):TyOf K H (.str x) (.type "str")
 | flt (x:UInt64):TyOf K H (.flt x) (.type "float")
 | lst {a:Addr} {xs:List V} (e:H a=some (.lst xs)):TyOf K H (.ref a) (.type "list")
 | frz {a:Addr} {o:Obj} {xs:List V} (e:H a=some (.frz o (.lst xs))):TyOf K H (.ref a) (.type "list")
 | tup {a:Addr} {xs:List V} (e:H a=some (.tup xs)):TyOf K H (.ref a) (.type "tuple")
 | dK {a:Addr} {kvs:List (Key×V)} (e:H a=some (.dK kvs)):TyOf K H (.ref a) (.type "dict")
 | dT {a:Addr} {kvs:List (List Key×V)} (e:H a=some (.dT kvs)):TyOf K H (.ref a) (.type "dict")
 | ins {a C dx:Addr} {fs:List (Str×V)} (e:H a=some (.ins C dx fs)) (cl:Cls K C) (ha:Er K (.ref C) "__class__"=some (some (.builtin "object.__class__")))
   (hn:Iu K (.builtin "object.__class__") "__get__"=some (some (.builtin "getset_descriptor.__get__"))) (htk:PySem.W.takesIn K (.builtin "object.__class__")=some true)
   (hm:PySem.W.mroIn K C (.type "object")=some true):TyOf K H (.ref a) (.ref C)
theorem Zyq {x:V}{t:Value}(I:Inv X pins σ H s)(rx:RelV x u)(ty:TyOf X.K H x t)(e:Kq X.K t c=some b)(h:∀tk,Q (.bool b) {s with toks:=tk}) :
  wpAny (model X.prog X.w) A (call (.builtin "isinstance") [u,c]) Q E s:=by
 cases ty with
 | non=>cases (show u=BH from rx);exact Ef PySem.W.kitx_none I.kIn CO e (fun z=>nomatch z) h
 | bl y=>cases (show u=Em y from rx);exact Ef PySem.W.kitx_bool I.kIn CO e (fun z=>nomatch z) h
 | int i=>obtain ⟨t,q⟩:=(show ∃t,u=Fe i t from rx);cases q;exact Ef PySem.W.kitx_int I.kIn CO e (fun z=>nomatch z) h
 | str y=>obtain ⟨t,q⟩:=(show ∃t,u=Ga y t from rx);cases q;exact Ef PySem.W.kitx_str I.kIn CO e (fun z=>nomatch z) h
 | flt y=>obtain ⟨t,q⟩:=(show ∃t,u=KN y t from rx);cases q;exact Ef PySem.W.kitx_float I.kIn CO e (fun z=>nomatch z) h
 | @lst a xs ea =>cases (show u=AL a from rx);obtain ⟨_,_,n,_,h1⟩:=(show Yz X.prog X.w H s.heap a (.lst xs) from I.hok a _ ea);exact Ef PySem.W.kitx_list I.kIn ⟨_,h1,rfl⟩ e (fun z=>nomatch z) h
 | @frz a ob xs ea =>cases (show u=AL a from rx);obtain ⟨_,_,_,n,_,h1⟩:=(show Yz X.prog X.w H s.heap a (.frz ob (.lst xs)) from I.hok a _ ea);exact Ef PySem.W.kitx_list I.kIn ⟨_,h1,rfl⟩ e (fun z=>nomatch z) h
 | @tup a xs ea =>cases (show u=AL a from rx);obtain ⟨_,_,_,p⟩:=(show Yz X.prog X.w H s.heap a (.tup xs) from I.hok a _ ea);obtain ⟨o,h1,h2,_⟩:=p;exact Ef PySem.W.kitx_tuple I.kIn ⟨o,h1,h2⟩ e (fun z=>nomatch z) h
 | @dK a kvs ea =>cases (show u=AL a from rx);obtain ⟨_,_,vs,_,p⟩:=(show Yz X.prog X.w H s.heap a (.dK kvs) from I.hok a _ ea);obtain ⟨o,es,ep,h1,h2,_⟩:=p;exact Ef PySem.W.kitx_dict I.kIn ⟨o,h1,h2.1⟩ e (fun z=>nomatch z) h
 | @dT a kvs ea =>cases (show u=AL a from rx);obtain ⟨_,_,xs,_,o,es,ep,h1,h2,_⟩:=(show Yz X.prog X.w H s.heap a (.dT kvs) from I.hok a _ ea);exact Ef PySem.W.kitx_dict I.kIn ⟨o,h1,h2.1⟩ e (fun z=>nomatch z) h
 | @ins a C dx fs ea cl ha hn htk hm =>cases (show u=AL a from rx);obtain ⟨mA,O,_⟩:=Xkq I.hok ea;obtain ⟨od,J,_⟩:=O.look;exact Ef (PySem.W.kitx_own (cl.get _) cl.hd ha hn htk hm) I.kIn J e (fun z=>nomatch z) h
end
structure Zgr (k:Nat)(A:BE):Prop where
 hd:A.handled=none
 dp:A.depth+3*k+5<FL
 un:A.units+16*k+200<Bw
 gd:A.guards=some []
theorem Zgr.mono (r:Zgr k A)(h:j<=k):Zgr j A:=⟨r.hd,by have:=r.dp;omega,by have:=r.un;omega,r.gd⟩
theorem Zgr.deeper {k:Nat}{A:BE}(r:Zgr (k+1) A)(env:Env):Zgr k (A.deeper env):=⟨r.hd,by have:=r.dp;show A.depth+1+3*k+5<_;omega,by have:=r.un;show A.units+3+16*k+200<_;omega,r.gd⟩
theorem Zgr.depth {k:Nat}{A:BE}(r:Zgr k A):A.depth<FL:=by have:=r.dp;omega
theorem Zgr.units {k:Nat}{A:BE}(r:Zgr k A):A.units+64<Bw:=by have:=r.un;omega
def Zmw:TA:=fun _ H Q=>Q [] H
def Jz (ta:TE)(tr:TA):TA:=fun σ H Q=>ta σ H fun x H1=>tr σ H1 fun xs H2=>Q (x::xs) H2
section
variable {t:TA}
theorem Zrp:PA X [] Zmw:=fun _ _ _ _ H Q I h=>Calls.spliced_nil ⟨[],H,I,.nil,h⟩
theorem Zir (ha:PE X e te)(hr:PA X es t)(hs:Af (e::es) X.env=(false,eval e X.env)::Af es X.env:=by rfl):PA X (e::es) (Jz te t):=by intro pos pins s σ H Q I h;rw [hs];show wpAny _ _ (spliced ((false,eval e X.env)::BU pos (Af es X.env))) _ _ s;refine Calls.spliced_cons (thn (ha pins s σ H _ I h) fun u s1 hz9=>?_);obtain ⟨x,H1,I1,r1,q1⟩:=hz9;exact thn (hr pos pins s1 σ H1 _ I1 q1) fun us s2 ⟨xs,H2,I2,r2,q2⟩=>⟨x::xs,H2,I2,.cons r1 r2,q2⟩
def Xwd (t:TA):TE:=fun σ H Q=>t σ H fun xs H1=>xs.length<=Aw/\∀p,H1 p=none->Q (.ref p) (upd H1 p (.tup xs))
def Xqd (t:TA):TE:=fun σ H Q=>t σ H fun xs H1=>xs.length<=Aw/\∀p,H1 p=none->Q (.ref p) (upd H1 p (.lst xs))
theorem Xtb {x1}(h:PA X es t):PE X (.Tuple es x1 pos) (Xwd t):=by intro pins s σ H Q I hq;refine wpAny_Tuple_spliced (thn (h pos pins s σ H _ I hq) fun us s1 ⟨xs,H1,I1,r,z,q⟩=>⟨by rw [<- r.length];exact z,?_⟩);have hf:H1 s1.heap.objs.size=none:=I1.hok.fresh (Ax _);refine ⟨.ref s1.heap.objs.size,upd H1 s1.heap.objs.size (.tup xs),I1.laid (t':=s1.toks) (fun b u e=>Ae _ e) (Ax _) ?_,rfl,q _ hf⟩;exact ⟨z,us,r,⟨_,Az _ rfl,rfl,_,rfl⟩⟩
theorem Xwy (h:PA X es t):PE X (.List es pos) (Xqd t):=by intro pins s σ H Q I hq;refine wpAny_List_spliced (thn (h pos pins s σ H _ I hq) fun us s1 ⟨xs,H1,I1,r,z,q⟩=>⟨by rw [<- r.length];exact z,?_⟩);have hf:H1 s1.heap.objs.size=none:=I1.hok.fresh (Ax _);refine ⟨.ref s1.heap.objs.size,upd H1 s1.heap.objs.size (.lst xs),I1.laid (t':=s1.toks) (fun b u e=>Ae _ e) (Ax _) ?_,rfl,q _ hf⟩;exact ⟨z,us,0,r,Az _ rfl⟩
end
abbrev Sp:=List V->Hp->VK->XK->Prop
abbrev CXT:=List Env->Hp->Ah->XK->Value->Ah->Prop
structure Xvv (P:AZ)(w:BC)(K:Frag)(mg:Str->Option Value)(base:Heap)(A:BE)(outer:List Env)(s:Ah)(H:Hp):Prop where
 frames:A.frames=some outer
 mod:Mod K mg base
 bs:∀b o,base.get? b=some o->s.heap.get? b=some o/\H b=none
 bsz:base.objs.size<=s.heap.objs.size
 funs:s.heap.FunFrames base outer
 frf:∀b∈frs outer,H b=none
 hok:HOk P w H s.heap
 bare:Fq s.gens
def CE (outer:List Env)(P:AZ)(w:BC)(H:Hp)(s:Ah)(Q:VK)(u:Value)(s':Ah):Prop:=
 ∃v H',s'.os=s.os/\Fq s'.gens/\Un (frs outer) [] H H' s.heap s'.heap/\HOk P w H' s'.heap/\RelV v u/\Q v H'
def CR (CX:CXT)(outer:List Env)(P:AZ)(w:BC)(H:Hp)(s:Ah)(Q:VK)(E:XK)(r:Kt)(s':Ah):Prop:=
 match r with
 | .ok (.ret u)=>CE outer P w H s Q u s'
 | .ok _=>False
 | .error e=>CX outer H s E e s'
structure Zbe (P:AZ)(w:BC)(K:Frag)(mg:Str->Option Value)(base:Heap)(CX:CXT)(k:Nat)(f:Addr)(fd:C4)(ps:List Str)(sp:Sp):Prop where
 len:∀vs H Q E,sp vs H Q E->vs.length=ps.length
 run:∀(A:BE) (outer:List Env) (s:Ah) (H:Hp) (args:Args) (us:List Value) (vs:List V) (Q:VK) (E:XK),Zgr k A->Xvv P w K mg base A outer s H->FZ s fd args (ps.zip us)->Yl vs us->sp vs H Q E->
  codeAny (model P w) A (.call (.ref f) args) (CR CX outer P w H s Q E) s
theorem Zbe.imp {f:Addr}{sp':Sp}(F:Zbe P w K mg base CX k f fd ps sp)
  (h:∀vs H Q E,sp' vs H Q E->sp vs H Q E):Zbe P w K mg base CX k f fd ps sp':=
 ⟨fun vs H Q E q=>F.len vs H Q E (h _ _ _ _ q),fun A outer s H args us vs Q E hr he hb hv hs=>F.run A outer s H args us vs Q E hr he hb hv (h _ _ _ _ hs)⟩
theorem Inv.env0 (I:Inv X pins σ H s):Xvv X.prog X.w X.K X.mg X.base X.A X.stack s H:=⟨I.ok.frames,I.ok.mod,I.bs,AC I.ok.bsz I.sz,I.stack,I.stkFree,I.hok,I.bare⟩
theorem Inv.after {Q:VK}(I:Inv X pins σ H s)(h:CE X.stack X.prog X.w H s Q u s'):EP X pins σ Q u s':=by obtain ⟨v,H',os,bare,un,hok,r,q⟩:=h;obtain ⟨hh,g,d,t,os'⟩:=s';obtain rfl:os'=s.os:=os;exact ⟨v,H',I.call (h':=hh) (g':=g) (d':=d) (t':=t) (ch:=[]) un hok bare (fun b z=>absurd z (by simp)),r,q⟩
def Zmv (sp:Sp)(dvs:List V)(E:XK)(t:TA):TE:=fun σ H Q=>t σ H fun vs H1=>sp (vs++dvs) H1 Q E
def Binds (K:Frag)(fd:C4)(ps:List Str)(ds:List Value):Prop:=
 ∀(s:Ah) (us:List Value),K.In s.heap->(us++ds).length=ps.length->FZ s fd ⟨us,[]⟩ (ps.zip (us++ds))
theorem Binds.all (h:∀us:List Value,us.length=ps.length->LF fd ⟨us,[]⟩=pure (ps.zip us)):Binds K fd ps []:=fun s us _ hl=>by rw [CK] at hl ⊢;exact .of_eq (h us hl)
def Zih (CX:CXT)(X:Cx)(E:XK):Prop:=∀(pins:List (Addr×Obj)) (σ:St) (H:Hp) (s:Ah) (e:Value) (s':Ah),Inv X pins σ H s->CX X.stack H s E e s'->X.xe e s'
section
variable {f:Addr}{E:XK}{o:Expr}{t:TA}
theorem Xqz {Q:VK}(F:Zbe X.prog X.w X.K X.mg X.base CX k f fd ps sp)(hr:Zgr k X.A)(hb:Binds X.K fd ps ds)(hd:Yl dvs ds)(hx:Zih CX X E)
  (I:Inv X pins σ H s) (r:Yl vs us) (h:sp (vs++dvs) H Q E):wpAny (model X.prog X.w) X.A (call (.ref f) us) (EP X pins σ Q) X.xe s:=by
 have r2:Yl (vs++dvs) (us++ds):=r.append hd;have hl:(us++ds).length=ps.length:=by rw [<- r2.length];exact F.len _ _ _ _ h
 refine wpAny_call (IS (F.run X.A X.stack s H ⟨us,[]⟩ (us++ds) (vs++dvs) Q E hr I.env0 (hb s us I.kIn hl) r2 h) fun r s' hq=>?_);cases r with
 | error e=>exact hx pins σ H s e s' I hq
 | ok fl =>
  cases fl with
  | ret u=>exact I.after hq
  | next=>exact False.elim hq
  | brk=>exact False.elim hq
  | cont=>exact False.elim hq
theorem Xnf (F:Zbe X.prog X.w X.K X.mg X.base CX k f fd ps sp)(hr:Zgr k X.A)(hg:Gl X x)(hm:X.mg x=some (.ref f))(hk:Fk X.K (.ref f)=true)(hb:Binds X.K fd ps ds)(hd:Yl dvs ds)(hx:Zih CX X E)
  (ha:PA X (e::es) t) (hdb:(x==("__debug__":Str))=false:=by decide) (he:Af (e::es) X.env=(false,eval e X.env)::Af es X.env:=by rfl) (hpl:(BU pos (Af es X.env)).any (·.1)=false:=by rfl) :
  PE X (.Call (.Name x p) (e::es) [] pos) (Zmv sp dvs E t):=by
 intro pins s σ H Q I h;refine EI (Zxz I hg hm ?_ hdb);refine PySem.W.callWith_K (h₀:=X.base) I.ok.mod.kin hk (thn (ha pos pins s σ H _ I h) fun us s1 ⟨vs,H1,I1,r,q⟩=>⟨I1.kIn,?_⟩) he hpl;exact Xqz F hr hb hd hx I1 r q
structure Mk (K:Frag)(C f:Addr):Prop where
 makes:PySem.W.makesIn K C=true
 init:Er K (.ref C) "__init__"=some (some (.ref f))
 fn:isFn K (.ref f)=true
 kp:Fk K (.ref C)=true
end
section
variable {f:Addr}{E:XK}{kpos:Pos}{o:Expr}{t tk:TA}
structure KBinds (K:Frag)(fd:C4)(ps ks:List Str)(g:List Value->List Value->List Value)(gV:List V->List V->List V):Prop where
 to:∀(s:Ah) (us ws:List Value),K.In s.heap->(g us ws).length=ps.length->FZ s fd ⟨us,ks.zip ws⟩ (ps.zip (g us ws))
 rel:∀{vs:List V} {us:List Value} {zs:List V} {ws:List Value},Yl vs us->Yl zs ws->Yl (gV vs zs) (g us ws)
end
structure Xg (N P:List Str)(sc:Scope):Prop where
 kind:sc.kind=.function
 co:sc.isCoroutine=false
 gen:sc.isGenerator=false
 nd:N.Nodup
 pre:N.take P.length=P
 par:∀x∈P,sc.names.lookup x=some .local\/sc.names.lookup x=some .cell
 nofree:∀y∈sc.names,y.2≠.free
theorem Zmy {B6:Str->Option C3}{x:Str}:∀{binds:List (Str×Value)} {m:Str->Option Value},(∀v,(x,v)∉binds)->Iz B6 binds m x=m x
 | [],_,_=>rfl
 | (n,v)::r,m,h=>by
  unfold Iz;rw [Zmy fun w hw=>h w (Cy _ hw)];split;have:x≠n:=by rintro rfl;exact h v Do
  simp [this];rfl
theorem Znq {B6:Str->Option C3}{x:Str}:∀{binds:List (Str×Value)} {m:Str->Option Value},(∀v,(x,v)∉binds)->IA B6 binds m x=m x
 | [],_,_=>rfl
 | (n,v)::r,m,h=>by
  unfold IA;rw [Znq fun w hw=>h w (Cy _ hw)];split;rfl;have:x≠n:=by rintro rfl;exact h v Do
  simp [this]
theorem Znc {B6:Str->Option C3}{x:Str}{v:Value}:∀{P:List Str} {vs:List Value} {i:Nat} {m:Str->Option Value},P.Nodup->P[i]?=some x->vs[i]?=some v->B6 x=some .local->
  Iz B6 (P.zip vs) m x=some v
 | [],_,_,_,_,h,_,_=>by simp at h
 | _::_,[],_,_,_,_,h,_=>by simp at h
 | p::P,w::vs,0,m,nd,h1,h2,hk=>by simp at h1 h2;subst h1;subst h2;show Iz B6 ((p,w)::P.zip vs) m p=_;unfold Iz;rw [Zmy fun v hv=>(AA.mp nd).1 (DA hv).1,if_pos hk];simp
 | p::P,w::vs,i+1,m,nd,h1,h2,hk=>by show Iz B6 ((p,w)::P.zip vs) m x=_;unfold Iz;exact Znc (i:=i) (AA.mp nd).2 (by simpa using h1) (by simpa using h2) hk
theorem Zml {B6:Str->Option C3}{x:Str}{v:Value}:∀{P:List Str} {vs:List Value} {i:Nat} {m:Str->Option Value},P.Nodup->P[i]?=some x->vs[i]?=some v->B6 x≠some .local->
  IA B6 (P.zip vs) m x=some v
 | [],_,_,_,_,h,_,_=>by simp at h
 | _::_,[],_,_,_,_,h,_=>by simp at h
 | p::P,w::vs,0,m,nd,h1,h2,hk=>by simp at h1 h2;subst h1;subst h2;show IA B6 ((p,w)::P.zip vs) m p=_;unfold IA;rw [Znq fun v hv=>(AA.mp nd).1 (DA hv).1,if_neg hk];simp
 | p::P,w::vs,i+1,m,nd,h1,h2,hk=>by show IA B6 ((p,w)::P.zip vs) m x=_;unfold IA;exact Zml (i:=i) (AA.mp nd).2 (by simpa using h1) (by simpa using h2) hk
def start (N:List Str)(vs:List V):St:=vs.map some++Ab (N.length - vs.length) none
def Xga (CX:CXT)(P:AZ)(w:BC)(K:Frag)(mg:Str->Option Value)(base:Heap)(N:List Str)(qual:Str)(scope:Scope)(f:Addr)(cd:Value)(A:BE)(outer:List Env)(s:Ah)(H:Hp)(E:XK):Cx where
 prog:=P
 w:=w
 K:=K
 mg:=mg
 base:=base
 A:=A.deeper (EZ qual scope s.heap.objs.size f cd)
 N:=N
 s₀:=s
 H₀:=H
 env:=EZ qual scope s.heap.objs.size f cd
 outer:=outer
 stack:=EZ qual scope s.heap.objs.size f cd::outer
 ex:=[]
 calm:=true
 fn:=fun _=>true
 pn:=[]
 xe:=fun e s'=>wpAny (model P w) (A.deeper (EZ qual scope s.heap.objs.size f cd)) (leaving (EZ qual scope s.heap.objs.size f cd) e) (fun _ s''=>CX outer H s E e s'') (fun e' s''=>CX outer H s E e' s'') s'
theorem Ztf {sc:Scope}(h:sc.names.lookup x=some .cell):∃c,(Iy n sc.names []).lookup x=some c:=by have q:=PySem.W.cellsFrom_some sc.names n [] (.inl h);exact Ey.mp q
theorem Zyo {f:Addr}{s1:Ah}{E:XK}
    (S:Xg N ps scope) (hd:A.handled=none) (e0:Xvv P w K mg base A outer s H) (hl:vs.length=ps.length) (r:Yl vs us)
    (x:InCallC s s.heap.objs.size (Iz (EZ qual scope s.heap.objs.size f cd).kindOf (ps.zip us) fun _=>none) (Iy (s.heap.objs.size+1) scope.names []) (IA (EZ qual scope s.heap.objs.size f cd).kindOf (ps.zip us) fun _=>none) s1) :
    Inv (Xga CX P w K mg base N qual scope f cd A outer s H E) [] (start N vs) H s1:=by
  have hpl:ps.length<=N.length:=by have:=congrArg EB S.pre;rw [B9] at this;omega
  obtain ⟨h1,tk,rfl,hk⟩:=x.done;have noA:∀b:Addr,b∉(Xga CX P w K mg base N qual scope f cd A outer s H E).ex:=fun b z=>absurd (show b∈([]:List Addr) from z) (by simp);refine ⟨⟨e0.mod,S.kind,rfl,rfl,Ax _,fun y z c h1 h2=>?_,fun y hy=>?_,fun y c _ h=>?_,fun _=>hd,Around.frames_deeper e0.frames,.inr ⟨rfl,rfl⟩,fun b z=>absurd z (noA b),e0.bs,e0.bsz,fun b _ _=>noA b,fun b z=>absurd z (noA b),e0.funs,e0.frf⟩,
    rfl,e0.bare,Un.kept hk,⟨_,x.toInCall.ns,fun i y v h1 h2 h3=>?_⟩,fun y c h=>⟨_,x.cell y c h⟩,e0.hok.fresh (Ax _),fun y c h=>?_,fun p hp=>absurd (show p∈([]:List (Addr×Obj)) from hp) (by simp),e0.hok.kept hk,?_⟩
  exact name_of_addr x.apart (PySem.mem_of_lookup h1) (PySem.mem_of_lookup h2);have hy:scope.names.lookup y=some .cell\/scope.names.lookup y=some .free:=hy;rcases hy with hy | hy;exact Ztf hy;exact absurd rfl (S.nofree _ (PySem.mem_of_lookup hy));exact HA (x.above y c (PySem.mem_of_lookup h));have hi:i<vs.length:=by unfold start at h2;by_cases hi:i<vs.length;exact hi;rw [AR (by simpa using hi)] at h2;rw [EM] at h2;split at h2<;>cases h2
  have ha:vs[i]?=some v:=by
    unfold start at h2;rw [AH (by simpa using hi),Bk] at h2;cases e:vs[i]? with
    | none=>rw [e] at h2;cases h2
    | some a=>rw [e] at h2;cases h2;rfl
  obtain ⟨u,hu,rv⟩:=r.get ha;have hp:ps[i]?=some y:=by rw [<- S.pre,List.getElem?_take_of_lt (by omega)];exact h1
  have ndP:ps.Nodup:=by rw [<- S.pre];exact S.nd.sublist (IU _ _)
  refine ⟨u,rv,?_⟩;rcases S.par y (Al hp) with k | k;exact .inl ⟨k,Znc ndP hp hu k⟩;obtain ⟨c,e⟩:=Ztf (n:=s.heap.objs.size+1) k;refine .inr ⟨.inl k,c,e,?_⟩;have q:=x.cell y c e;rw [Zml ndP hp hu (by show scope.names.lookup y≠_;rw [k];decide)] at q;exact q;exact e0.hok.fresh (HA (x.above y c (PySem.mem_of_lookup h)));unfold start;show _=N.length;rw [Ai,Am,Cg];omega
theorem fn_of {f:Addr}{dV kV doc pm cdv ct oc:Value}
    {osl:Array (Option Value)} {N ps:List Str} {sp:Sp} (lk:K.lookup f=some ⟨oc,od,.func (fnOf name qual params body scope dV kV doc pm an cdv ct),osl⟩) (hcd:codeIn K cdv qual=true) (S:Xg N ps scope)
    (len:∀vs H Q E,sp vs H Q E->vs.length=ps.length)
    (hbody:∀(A:BE) (outer:List Env) (s:Ah) (H:Hp) (vs:List V) (Q:VK) (E:XK),Zgr k (A.deeper (EZ qual scope s.heap.objs.size f cdv))->sp vs H Q E->
      ∃t,PSs (Xga CX P w K mg base N qual scope f cdv A outer s H E) body t/\t {nx:=fun _ H'=>Q .non H',rt:=Q} (start N vs) H) :
    Zbe P w K mg base CX (k+1) f (fnOf name qual params body scope dV kV doc pm an cdv ct) ps sp:=by
  refine ⟨len,fun A outer s H args us vs Q E hr e0 hb r hsp=>?_⟩;have hl:=len _ _ _ _ hsp;have KX:K.In s.heap:=e0.mod.kin.keeps fun b o e=>(e0.bs b o e).1;have lim:s.heap.NoLimit:=e0.mod.nolimit.keeps fun b o e=>(e0.bs b o e).1;have hkind:∀y∈ps.zip us,scope.names.lookup y.1=some .local\/(scope.names.lookup y.1=some .cell/\((Iy (s.heap.objs.size+1) scope.names []).lookup y.1).isSome=true):=fun ⟨n,v⟩ hy=>by
    rcases S.par n (DA hy).1 with q | q
    · exact .inl q
    · exact .inr ⟨q,PySem.W.cellsFrom_some _ _ _ (.inl q)⟩
  refine codeAny_call_function hr.depth (KX _ _ lk) rfl S.co S.gen rfl (PySem.W.codeRec_of KX hcd) (hb _ _ _ _ ?_);refine wpAny_newFunctionEnv_cells S.kind hkind fun env he s1 x=>?_;subst he;refine ⟨lim.keeps x.toInCall.keep,codeAny_func ?_⟩;obtain ⟨t,ht,hq⟩:=hbody A outer s H vs Q E (hr.deeper _) hsp;have I:Inv (Xga CX P w K mg base N qual scope f cdv A outer s H E) [] (start N vs) H s1:=Zyo S hr.hd e0 hl r x;refine Cw (ht [] s1 (start N vs) H _ I hq) (fun fl s' hs=>?_) fun e s' hs=>hs;have fin:∀{σ':St} {H':Hp} {v:V} {u:Value},Inv (Xga CX P w K mg base N qual scope f cdv A outer s H E) [] σ' H' s'->RelV v u->Q v H'->CE outer P w H s Q u s':=fun {σ' H' v u} J rv q=>⟨v,H',J.os,J.bare,J.base,J.hok,rv,q⟩;cases fl with
  | ret u =>obtain ⟨v,σ',H',J,rv,q⟩:=hs;exact fin J rv q
  | next =>obtain ⟨σ',H',J,q⟩:=hs;exact fin (v:=V.non) (u:=BH) J rfl q
  | brk =>obtain ⟨_,_,_,q⟩:=hs;exact False.elim q
  | cont =>obtain ⟨_,_,_,q⟩:=hs;exact False.elim q
section
variable {t:TA}{id T:String}
def tCB (r:List V->Hp->VK->Prop)(t:TA):TE:=fun σ H Q=>t σ H fun vs H1=>r vs H1 Q
theorem Xdp (hc:Jy X (.builtin id) r)(hg:Gl X x)(hm:X.mg x=none)(hv:Ck x=some (.builtin id))(ha:PA X (e::es) t)(hn:x≠"__name__":=by decide)(hdb:(x==("__debug__":Str))=false:=by decide)
  (he:Af (e::es) X.env=(false,eval e X.env)::Af es X.env:=by rfl) (hpl:(BU pos (Af es X.env)).any (·.1)=false:=by rfl):PE X (.Call (.Name x p) (e::es) [] pos) (tCB r t):=by
 intro pins s σ H Q I h;refine EI (Zgf I hg hm hv ?_ hn hdb);exact Lf (thn (ha pos pins s σ H _ I h) fun us s1 ⟨vs,H1,I1,r1,q1⟩=>hc pins s1 σ H1 vs us Q I1 r1 q1) he hpl
theorem Zwk (hc:Jy X (.type T) r)(hg:Gl X x)(hm:X.mg x=none)(hv:Ck x=some (.type T))(ha:PA X (e::es) t)(hn:x≠"__name__":=by decide)(hdb:(x==("__debug__":Str))=false:=by decide)
  (he:Af (e::es) X.env=(false,eval e X.env)::Af es X.env:=by rfl) (hpl:(BU pos (Af es X.env)).any (·.1)=false:=by rfl):PE X (.Call (.Name x p) (e::es) [] pos) (tCB r t):=by
 intro pins s σ H Q I h;refine EI (Zgf I hg hm hv ?_ hn hdb);exact Ce (thn (ha pos pins s σ H _ I h) fun us s1 ⟨vs,H1,I1,r1,q1⟩=>hc pins s1 σ H1 vs us Q I1 r1 q1) he hpl
end
end L2
namespace HT
open PySem PyProof.Rows
variable {prog:AZ}{w:BC}{A:BE}{E Q:Value->Ah->Prop}{s:Ah}{vs ws:List Value}{v vl vu:Value}{o lo hi:Option Int}{sl:Addr}{n:Nat}{items:Array Value}
section
open PySem.SeqAt
open PySem.AutoSeq1 (wpAny_loadPart')
open PySem.MeetsSeq PySem.MeetsSeq2 PySem.MeetsSeq3
theorem cat_tup {t b:Addr}(ht:IG s.heap t vs.toArray)(hb:IG s.heap b ws.toArray)(hv:vs≠[])
  (h1:ws=[]->Q (.ref t) s) (h2:ws≠[]->Q (.ref s.heap.objs.size) {s with heap:=s.heap.push {cls:=.type "tuple",data:=.seq (vs++ws).toArray}})
  (hsz:vs.length+ws.length<=Aw):wpAny (model prog w) A (CA .Add (.ref t) (.ref b)) Q E s:=by
 obtain ⟨⟨cls,dd,data,sl⟩,ho,hc,n,hd⟩:=id ht;obtain ⟨⟨cls2,dd2,data2,sl2⟩,ho2,hc2,n2,hd2⟩:=id hb;simp only at hc hd hc2 hd2;subst hc hd hc2 hd2;have e:vs.toArray++ws.toArray=(vs++ws).toArray:=by simp
 by_cases hw:ws=[];exact IR ⟨_,ho,rfl⟩ ⟨_,ho2,rfl⟩ G2 Ig PySem.F.slot_tuple_add PySem.F.entry_tuple_add (PySem.F.args_tuple_add_2 _ _)
  (tuple_addW1 t b vs.toArray ws.toArray n n2 dd dd2 sl sl2 (by simpa using hv) (by simp [hw])) ⟨ho,ho2,h1 hw⟩
 refine IR ⟨_,ho,rfl⟩ ⟨_,ho2,rfl⟩ G2 Ig PySem.F.slot_tuple_add PySem.F.entry_tuple_add (PySem.F.args_tuple_add_2 _ _)
  (tuple_addW2 t b vs.toArray ws.toArray n n2 dd dd2 sl sl2 (by simpa using hv) (by simpa using hw) (by rw [AG,AG];exact hsz)) ⟨ho,ho2,?_⟩
 rw [e];exact h2 hw
def sIx (n d:Nat):Option Int->Nat
 | none=>d
 | some v=>if v<0 then (v+(n:Int)).toNat else min v.toNat n
theorem Xxa (n d:Nat)(hd:d<=n)(o:Option Int):sIx n d o<=n:=by
 cases o with
 | none=>exact hd
 | some v =>show (if v<0 then (v+(n:Int)).toNat else min v.toNat n)<=n;by_cases hv:v<0;rw [if_pos hv];omega;rw [if_neg hv];exact J5 _ _
theorem clip_eq (v:Int)(n d:Nat):(if v<0 then max (v+(n:Int)) 0 else min v (n:Int))=((sIx n d (some v):Nat):Int):=by show (if v<0 then max (v+(n:Int)) 0 else min v (n:Int))=(((if v<0 then (v+(n:Int)).toNat else min v.toNat n):Nat):Int);by_cases hv:v<0;simp only [if_pos hv];omega;simp only [if_neg hv];omega
theorem Zuu (lo hi:Option Int)(n:Nat):D3 lo hi 1 (n:Int)=(((sIx n 0 lo:Nat):Int),((sIx n n hi:Nat):Int)):=by
 have h1:¬((1:Int)<0):=by omega
 unfold D3;simp only [h1,if_false];refine Prod.ext ?_ ?_;cases lo with
 | none=>rfl
 | some v=>exact clip_eq v n 0
 cases hi with
 | none=>rfl
 | some v=>exact clip_eq v n n
theorem Zua (i j:Nat):C6 (i:Int) (j:Int) 1=j - i:=by
 unfold C6;have h1:(1:Int) > 0:=by omega
 simp only [h1,if_true,Int.ediv_one];split<;>omega
theorem Zjs {Q:Option Int->Ah->Prop}(p:G5 v o)(h:Q o s):wpAny (model prog w) A (Lc v) Q E s:=by
 cases p with
 | none=>exact LA h
 | int i t=>exact slicePart_int h
theorem Zgm {Q:Int×Int×Nat->Ah->Prop}(hs:s.heap.IsSliceOf sl vl vu .none)(pl:G5 vl lo)(pu:G5 vu hi)
  (h:Q (((sIx n 0 lo:Nat):Int),1,sIx n n hi - sIx n 0 lo) s):wpAny (model prog w) A (Fz (.ref sl) (pure (n:Int))) Q E s:=by
 obtain ⟨os,hos,hcs,hds⟩:=id hs;unfold Fz Ld;refine Aa (Aa (Bu hos hds (x:=vl) rfl (Aa (Bu hos hds (x:=vu) rfl (Aa (Bu hos hds (x:=.none) rfl (Ac ?_)))))));refine Aa (LA ?_);show wpAny _ _ (if ((1:Int)==0)=true then _ else _) _ _ s;rw [if_neg (by decide)];refine Aa (Zjs pl (Aa (Zjs pu (Aa (Ac ?_)))));show wpAny _ _ (match D3 lo hi 1 (n:Int) with | (lo,hi)=>pure (lo,(1:Int),C6 lo hi 1)) _ _ s;rw [Zuu lo hi n];show wpAny _ _ (pure (((sIx n 0 lo:Nat):Int),(1:Int),C6 ((sIx n 0 lo:Nat):Int) ((sIx n n hi:Nat):Int) 1)) _ _ s;rw [Zua];exact Ac h
theorem Xgy (xs:Array Value)(i k:Nat):((AO k).filterMap fun (m:Nat)=>xs[((i:Int)+(m:Int)*1).toNat]?).toArray=((xs.toList.drop i).take k).toArray:=by
 have e:(fun (m:Nat)=>xs[((i:Int)+(m:Int)*1).toNat]?)=fun m=>xs[i+m]?:=by
  funext m;have:((i:Int)+(m:Int)*1).toNat=i+m:=by omega
  rw [this]
 rw [e];have:=pick_run xs i k;rw [List.filterMap_map] at this;have e2:((fun x=>xs[x]?)∘fun x=>i+x)=fun m=>xs[i+m]?:=rfl;rw [e2] at this;rw [this]
theorem getItem_tuple_cut {t:Addr}(ht:IG s.heap t items)(hs:s.heap.IsSliceOf sl vl vu .none)(pl:G5 vl lo)(pu:G5 vu hi)
    (hw:¬(sIx items.size 0 lo=0/\sIx items.size items.size hi=items.size))
    (h:Q (.ref s.heap.objs.size) {s with heap:=s.heap.push {cls:=.type "tuple",data:=.seq ((items.toList.drop (sIx items.size 0 lo)).take (sIx items.size items.size hi - sIx items.size 0 lo)).toArray}})
    (hsz:items.size<=Aw):wpAny (model prog w) A (FV (.ref t) (.ref sl)) Q E s:=by
  have htake:sizeOk (.seq ((items.toList.drop (sIx items.size 0 lo)).take (sIx items.size items.size hi - sIx items.size 0 lo)).toArray):=by show ((items.toList.drop (sIx items.size 0 lo)).take (sIx items.size items.size hi - sIx items.size 0 lo)).toArray.size<=Aw;rw [AG,B9,DV,AN];omega
  have hj:sIx items.size items.size hi<=items.size:=Xxa _ _ (Ax _) hi;obtain ⟨os,hos,hcs,hds⟩:=id hs;have hTs:s.TypeIs (.ref sl) "slice":=⟨os,hos,hcs⟩;unfold FV
  try with_reducible refine BZ ?_
  first | refine Aa (Ac ?_) | skip
  refine Aa (wpAny_sequenceKey ht.typeIs (by decide) ?_);refine Aa (Bs (name:=BQ "__getitem__") ht.typeIs DE
    (Bg DE ht.typeIs entry_tuple_getitem ?_ (args_tuple_getitem _ _)))
  show wpAny _ _ (Lb (.ref t) >>= _) _ _ s;refine Aa (tupleItemsOf_ ht ?_);refine Aa (wpAny_typeOf hTs ?_);rw [if_pos (by decide)];refine Aa (Zgm hs pl pu ?_);have hno:¬((((sIx items.size 0 lo:Nat):Int)==0&&(1:Int)==1&&(sIx items.size items.size hi - sIx items.size 0 lo)==items.size)=true):=by intro q;rw [A9,A9] at q;have q1:((sIx items.size 0 lo:Nat):Int)=0:=BA q.1.1;have q2:sIx items.size items.size hi - sIx items.size 0 lo=items.size:=BA q.2;exact hw ⟨by omega,by omega⟩
  show wpAny _ _ (if (((sIx items.size 0 lo:Nat):Int)==0&&(1:Int)==1&&(sIx items.size items.size hi - sIx items.size 0 lo)==items.size)=true then _ else _) _ _ s;rw [if_neg hno,Xgy]
  first
    | exact Aa (m:=Di _) (A5 (Ac ⟨_,rfl,Ac h⟩) htake)
    | exact Aa (m:=Di _) (A5 (Aa (Ac (Ac ⟨_,rfl,Ac h⟩))) htake)
    | exact Aa (Aa (m:=Di _) (A5 (Ac (Ac ⟨_,rfl,Ac h⟩)) htake))
    | exact Aa (Aa (m:=Di _) (A5 (Ac ⟨_,rfl,Ac h⟩) htake))
end
end HT
namespace L2
open PySem PySem.Spec PyProof.Rows
variable {ns:List Int}{X:Cx}{e:Expr}{lo hi:Option Expr}{pos:Pos}{r:V->Option Int->Option Int->Hp->VK->Prop}{xs:List V}{us its its':List Value}{n j t':Nat}{i:Int}{α:Type}{f:Array Value->Array Value}{r':List V->Hp->VK->Prop}{pins:List (Addr×Obj)}{σ:St}{H:Hp}{s:Ah}{T:String}{v:Value}{es:List Expr}{name:Str}{prog:AZ}{w:BC}{A:BE}{E:Value->Ah->Prop}
abbrev TO:=St->Hp->(Option Int->Hp->Prop)->Prop
def PO (X:Cx)(e:Option Expr)(t:TO):Prop:=
 ∀(pins:List (Addr×Obj)) (s:Ah) (σ:St) (H:Hp) (Q:Option Int->Hp->Prop),Inv X pins σ H s->t σ H Q->
  wpAny (model X.prog X.w) X.A (evalPart e X.env) (fun u s'=>∃o H',Inv X pins σ H' s'/\G5 u o/\Q o H') X.xe s
def Zls:TO:=fun _ H Q=>Q none H
def Xcr (t:TE):TO:=fun σ H Q=>t σ H fun x H1=>∃i,x=.int i/\Q (some i) H1
theorem intsAre_of :∀{us:List Value},Yl (ns.map V.int) us->Fo us ns:=by
 induction ns with
 | nil=>intro us r;rw [KH] at r;cases r;exact .nil
 | cons n ns ih =>
  intro us r;rw [Bn] at r;cases r with
  | cons r1 r2 =>obtain ⟨t,e⟩:=r1;subst e;exact .cons n t (ih r2)
section
variable {te:TE}{tl th:TO}{p2:Pos}
theorem Xme:PO X none Zls:=by intro pins s σ H Q I h;rw [Ih];exact Ac ⟨none,H,I,.none,h⟩
theorem Xph (h:PE X e te):PO X (some e) (Xcr te):=by intro pins s σ H Q I hw;rw [LN];refine thn (h pins s σ H _ I hw) fun u s1 hz9=>?_;obtain ⟨x,H1,I1,r1,q1⟩:=hz9;obtain ⟨i,rfl,q⟩:=q1;obtain ⟨t,rfl⟩:=r1;exact ⟨some i,H1,I1,.int i t,q⟩
def SlR (X:Cx)(r:V->Option Int->Option Int->Hp->VK->Prop):Prop:=
 ∀(pins:List (Addr×Obj)) (s:Ah) (σ:St) (H:Hp) (x:V) (v vl vu:Value) (lo hi:Option Int) (sl:Addr) (Q:VK),Inv X pins σ H s->RelV x v->s.heap.IsSliceOf sl vl vu .none->G5 vl lo->G5 vu hi->r x lo hi H Q->
  ∃T id,typeLookup (.type T) "__getitem__"=pure (some (.builtin id))/\s.TypeIs v T/\wpAny (model X.prog X.w) X.A (FV v (.ref sl)) (EP X pins σ Q) X.xe s
def tSl (r:V->Option Int->Option Int->Hp->VK->Prop)(te:TE)(tl th:TO):TE:=fun σ H Q=>te σ H fun x H1=>tl σ H1 fun l H2=>th σ H2 fun u H3=>r x l u H3 Q
theorem Xfa (hr:SlR X r)(he:PE X e te)(hl:PO X lo tl)(hu:PO X hi th):PE X (.Subscript e (.Slice lo hi none p2) pos) (tSl r te tl th):=by intro pins s σ H Q I h;refine HH (thn (he pins s σ H _ I h) fun v s1 hz9=>?_);obtain ⟨x,H1,I1,r1,q1⟩:=hz9;refine wpAny_Slice (thn (hl pins s1 σ H1 _ I1 q1) fun vl s2 ⟨l,H2,I2,pl,q2⟩=>thn (hu pins s2 σ H2 _ I2 q2) fun vu s3 ⟨u,H3,I3,pu,q3⟩=>?_);rw [Ih];refine Ac ?_;have I4:Inv X pins σ H3 {s3 with heap:=s3.heap.push {cls:=.type "slice",data:=.fields #[vl,vu,.none]}}:=I3.kept (t':=s3.toks) fun b ob q=>Ae _ q;obtain ⟨T,id,hT,ht,hg⟩:=hr pins {s3 with heap:=s3.heap.push {cls:=.type "slice",data:=.fields #[vl,vu,.none]}} σ H3 x v vl vu l u s3.heap.objs.size Q I4 r1 (GH ..) pl pu q3;show wpAny (model X.prog X.w) X.A (Gg e (.Slice lo hi none p2) v (.ref s3.heap.objs.size)) (EP X pins σ Q) X.xe {s3 with heap:=s3.heap.push {cls:=.type "slice",data:=.fields #[vl,vu,.none]}};exact Lz (ops:=[.ref s3.heap.objs.size,v]) ht hT hg (by with_unfolding_all rfl)
def Xbf (xs:List V)(lo hi:Option Int):List V:=(xs.drop (HT.sIx xs.length 0 lo)).take (HT.sIx xs.length xs.length hi - HT.sIx xs.length 0 lo)
theorem Zhg (xs:List V)(lo hi:Option Int):(Xbf xs lo hi).length<=xs.length:=by unfold Xbf;rw [B9,DV];omega
def rSlT (K:Frag):V->Option Int->Option Int->Hp->VK->Prop:=fun x lo hi H Q=>∃a xs,x=.ref a/\SqT K H a xs/\
 ¬(HT.sIx xs.length 0 lo=0/\HT.sIx xs.length xs.length hi=xs.length)/\∀p,H p=none->Q (.ref p) (upd H p (.tup (Xbf xs lo hi)))
theorem Xud:SlR X (rSlT X.K):=by
 intro pins s σ H x v vl vu lo hi sl Q I rx hs pl pu h;obtain ⟨a,xs,rfl,hx,hw,q⟩:=h;cases rx;obtain ⟨its,r,ht,hz⟩:=I.tuple hx;have hlen:its.toArray.size=xs.length:=by rw [AG];exact r.length.symm
 refine ⟨"tuple",_,DE.lookup,ht.typeIs,?_⟩;refine HT.getItem_tuple_cut ht hs pl pu (by rw [hlen];exact hw) ?_ (by rw [hlen];exact hz);rw [hlen];refine ⟨.ref s.heap.objs.size,_,I.laid (t':=s.toks) (o:=.tup (Xbf xs lo hi)) (fun b ob q=>Ae _ q) (Ax _) ?_,rfl,q _ (I.hok.fresh (Ax _))⟩;exact ⟨AC (Zhg xs lo hi) hz,_,(r.drop (HT.sIx xs.length 0 lo)).take (HT.sIx xs.length xs.length hi - HT.sIx xs.length 0 lo),Ln _ _⟩
theorem Yl.nil_iff (r:Yl xs us):us=[]↔xs=[]:=by
 cases r with
 | nil=>simp
 | cons _ _=>simp
end
def ixN (n:Nat)(i:Int):Option Nat:=if 0<=i then (if i<n then some i.toNat else none) else if -(n:Int)<=i then some (i+n).toNat else none
def atI {α:Type}(xs:List α)(i:Int):Option α:=(ixN xs.length i).bind fun j=>xs[j]?
theorem Zzi (h:ixN n i=some j):K3 i n=some j/\j<n/\-(n:Int)<=i/\i<n:=by unfold ixN at h;by_cases h0:0<=i;rw [if_pos h0] at h;by_cases h1:i<n;rw [if_pos h1] at h;have e:i.toNat=j:=AU h;exact ⟨by rw [seqIndex_of h0 h1,e],by omega,by omega,h1⟩;rw [if_neg h1] at h;cases h;rw [if_neg h0] at h;by_cases h1:-(n:Int)<=i;rw [if_pos h1] at h;have e:(i+n).toNat=j:=AU h;exact ⟨by rw [seqIndex_neg (by omega) h1,e],by omega,h1,by omega⟩;rw [if_neg h1] at h;cases h
theorem Zdv {xs:List α}{v:α}(h:atI xs i=some v):∃j,K3 i xs.length=some j/\xs[j]?=some v/\j<xs.length/\-(xs.length:Int)<=i/\i<xs.length:=by
 unfold atI at h;cases e:ixN xs.length i with
 | none=>rw [e] at h;cases h
 | some j =>rw [e] at h;obtain ⟨h1,h2,h3,h4⟩:=Zzi e;exact ⟨j,h1,h,h2,h3,h4⟩
def Zbo (b:Expr):Prop:=∀o i,Hd b false o i=operate [o,i] (FV o i)
def IxR (X:Cx)(r:R2):Prop:=
 ∀(value slice:Expr) (pins:List (Addr×Obj)) (s:Ah) (σ:St) (H:Hp) (x y:V) (v u:Value) (Q:VK),Inv X pins σ H s->RelV x v->RelV y u->r x y H Q->
  Hd slice false v u=operate [v,u] (FV v u)->wpAny (model X.prog X.w) X.A (Gg value slice v u) (EP X pins σ Q) X.xe s
def MtR (X:Cx)(id:String)(r:V->List V->Hp->VK->Prop):Prop:=
 ∀(pins:List (Addr×Obj)) (s:Ah) (σ:St) (H:Hp) (x:V) (xs:List V) (v:Value) (us:List Value) (Q:VK),Inv X pins σ H s->RelV x v->Yl xs us->r x xs H Q->
  wpAny (model X.prog X.w) X.A (call (.builtin id) (v::us)) (EP X pins σ Q) X.xe s
section
variable {a b:Expr}{ta tb:TE}
theorem IxR.or {r r':R2}(h:IxR X r)(h':IxR X r'):IxR X (fun x y H Q=>r x y H Q\/r' x y H Q):=by intro value slice pins s σ H x y v u Q I rx ry q hs;rcases q with q | q;exact h value slice pins s σ H x y v u Q I rx ry q hs;exact h' value slice pins s σ H x y v u Q I rx ry q hs
theorem pe_ix {r:R2}(hr:IxR X r)(ha:PE X a ta)(hb:PE X b tb)(hs:Zbo b):PE X (.Subscript a b pos) (tOp r ta tb):=by intro pins s σ H Q I h;exact HH (binT ha hb I h fun v u s2 x y H2 I2 rx ry q=>hr a b pins s2 σ H2 x y v u Q I2 rx ry q (hs _ _))
def rIxL (K:Frag):R2:=fun x y H Q=>∃p xs i v,x=.ref p/\y=.int i/\SqL K H p xs/\atI xs i=some v/\Q v H
def rIxT (K:Frag):R2:=fun x y H Q=>∃p xs i v,x=.ref p/\y=.int i/\SqT K H p xs/\atI xs i=some v/\Q v H
def rIxS:R2:=fun x y H Q=>∃z i c,x=.str z/\y=.int i/\z.length<=Aw/\atI z.cps.toList i=some c/\Q (.str ⟨#[c]⟩) H
theorem Xog:IxR X (rIxL X.K):=by
 intro value slice pins s σ H x y v u Q I rx ry h hs;obtain ⟨p,xs,i,z,rfl,rfl,hq,he,q⟩:=h;cases rx;obtain ⟨t,rfl⟩:=ry;obtain ⟨its,r,pl,hz⟩:=I.list hq;obtain ⟨j,h1,h2,h3,h4,h5⟩:=Zdv he;obtain ⟨w,ew,rw'⟩:=r.get h2;have hl:=r.length;have hn:=Zjl;have fin:EP X pins σ Q w s:=⟨z,H,I,rw',q⟩;by_cases h0:0<=i;have hj:i.toNat=j:=by rw [seqIndex_of h0 h5] at h1;exact AU h1
 exact item_listR pl.isList h0 (by omega) (by rw [hj];simpa using ew) fin hs;have hj:(i+(its.toArray.size:Int)).toNat=j:=by rw [seqIndex_neg (by omega) h4] at h1;rw [AG,<- hl];exact AU h1
 exact IJ (x:=w) pl.isList.typeIs GM.lookup
  (wpAny_getItem_list_neg (Q:=fun r s'=>r=w/\EP X pins σ Q r s') pl.isList (by omega) (by rw [AG]<;>omega) (by omega) (by rw [hj];simpa using ew) ⟨rfl,fin⟩) hs
theorem Xvj:IxR X (rIxT X.K):=by
 intro value slice pins s σ H x y v u Q I rx ry h hs;obtain ⟨p,xs,i,z,rfl,rfl,hq,he,q⟩:=h;cases rx;obtain ⟨t,rfl⟩:=ry;obtain ⟨its,r,pl,hz⟩:=I.tuple hq;obtain ⟨j,h1,h2,h3,h4,h5⟩:=Zdv he;obtain ⟨w,ew,rw'⟩:=r.get h2;have hl:=r.length;have hn:=Zjl;have fin:EP X pins σ Q w s:=⟨z,H,I,rw',q⟩;exact IJ (x:=w) pl.typeIs slot_tuple_getitem.lookup
  (getItem_tuple (j:=j) (Q:=fun r s'=>r=w/\EP X pins σ Q r s') pl (by omega) (by omega) (by rw [AG,<- hl];exact h1) (by simpa using ew) ⟨rfl,fin⟩) hs
theorem Xvg:IxR X rIxS:=by
  intro value slice pins s σ H x y v u Q I rx ry h hs;obtain ⟨z,i,c,rfl,rfl,hz,he,q⟩:=h;obtain ⟨t,rfl⟩:=rx;obtain ⟨t',rfl⟩:=ry;obtain ⟨j,h1,h2,h3,h4,h5⟩:=Zdv he;have hl:z.cps.toList.length=z.length:=by simp [Str.length]
  rw [hl] at h1 h4 h5;have hn:=Zjl;exact Lz (typeIs_str s z t) slot_str_getitem.lookup (getItem_str (c:=c) (by
    have e1:decide (i < -(2 ^ 63:Int))=false:=decide_eq_false (by omega);have e2:decide (i>=2 ^ 63)=false:=decide_eq_false (by omega);rw [e1,e2,Bool.or_false]) (by rw [h1];simpa using h2) ⟨.str ⟨#[c]⟩,H,I.tok _,⟨_,rfl⟩,q⟩) hs
def rIx (K:Frag):R2:=fun x y H Q=>rIxL K x y H Q\/rIxT K x y H Q\/rIxS x y H Q
theorem Xir:IxR X (rIx X.K):=Xog.or (Xvj.or Xvg)
theorem Zol (lo hi:Option Int)(n:Nat):(El lo hi none n).1=((HT.sIx n 0 lo:Nat):Int)/\(El lo hi none n).2.1=((HT.sIx n n hi:Nat):Int)/\(El lo hi none n).2.2=1:=by
 refine ⟨?_,?_,rfl⟩;cases lo with
 | none=>simp [El,HT.sIx]
 | some i =>simp only [El,HT.sIx,IC,show (1:Int) > 0 by decide,if_true];by_cases h:i<0;simp only [h,if_true]<;>omega;simp only [h,if_false]<;>omega
 cases hi with
 | none=>simp [El,HT.sIx]
 | some i =>simp only [El,HT.sIx,IC,show (1:Int) > 0 by decide,if_true];by_cases h:i<0;simp only [h,if_true]<;>omega;simp only [h,if_false]<;>omega
theorem Zkp (its:List Value)(lo hi:Option Int):slicePick its.toArray lo hi none=((its.drop (HT.sIx its.length 0 lo)).take (HT.sIx its.length its.length hi - HT.sIx its.length 0 lo)).toArray:=by obtain ⟨h1,h2,h3⟩:=Zol lo hi its.toArray.size;unfold slicePick;rw [h1,h2,h3];simp only [sliceRange_one,pick_run,AG]<;>rfl
def rSlL (K:Frag):V->Option Int->Option Int->Hp->VK->Prop:=fun x lo hi H Q=>∃a xs,x=.ref a/\SqL K H a xs/\∀p,H p=none->Q (.ref p) (upd H p (.lst (Xbf xs lo hi)))
theorem Xkp:SlR X (rSlL X.K):=by intro pins s σ H x v vl vu lo hi sl Q I rx hs pl pu h;obtain ⟨a,xs,rfl,hx,q⟩:=h;cases rx;obtain ⟨its,r,ht,hz⟩:=I.list hx;have hlen:=r.length;refine ⟨"list",_,GM.lookup,ht.isList.typeIs,?_⟩;refine Ic ht.isList hs pl pu .none (by simp) ?_ (by rw [AG]<;>omega);rw [Zkp,<- hlen];refine ⟨.ref s.heap.objs.size,_,I.laid (t':=s.toks) (o:=.lst (Xbf xs lo hi)) (fun b ob q=>Ae _ q) (Ax _) ?_,rfl,q _ (I.hok.fresh (Ax _))⟩;exact ⟨AC (Zhg xs lo hi) hz,_,0,(r.drop (HT.sIx xs.length 0 lo)).take (HT.sIx xs.length xs.length hi - HT.sIx xs.length 0 lo),Az _ rfl⟩
theorem Zmr:Jy X (.builtin "len") (fun xs H Q=>∃p ys,xs=[.ref p]/\(SqL X.K H p ys\/SqT X.K H p ys)/\Q (.int ys.length) H):=by intro pins s σ H xs us Q I r h;obtain ⟨p,ys,rfl,hq,q⟩:=h;obtain ⟨u,rfl,rx⟩:=vals1 r;cases rx;have hn:=Zjl;rcases hq with hq | hq;obtain ⟨its,r',pl,hz⟩:=I.list hq;have hlen:=r'.length;exact Calls.call_len_list pl.isList (by simp only [AG]<;>omega) ⟨.int ys.length,H,I.tok _,⟨s.toks+1,by rw [AG,hlen]⟩,q⟩;obtain ⟨its,r',pl,hz⟩:=I.tuple hq;have hlen:=r'.length;exact len_tuple pl (by simp only [AG]<;>omega) ⟨.int ys.length,H,I.tok _,⟨s.toks+1,by rw [AG,hlen]⟩,q⟩
theorem Znf:Jy X (.builtin "len") (fun xs H Q=>∃z,xs=[.str z]/\z.length<=Aw/\Q (.int z.length) H):=by intro pins s σ H xs us Q I r h;obtain ⟨z,rfl,hz,q⟩:=h;obtain ⟨u,rfl,t,rfl⟩:=vals1 r;have hn:=Zjl;exact len_str (by omega) ⟨.int z.length,H,I.tok _,⟨_,rfl⟩,q⟩
theorem Jy.or {f:Value}{r:List V->Hp->VK->Prop}(h:Jy X f r)(h':Jy X f r'):Jy X f (fun xs H Q=>r xs H Q\/r' xs H Q):=by intro pins s σ H xs us Q I rs q;rcases q with q | q;exact h pins s σ H xs us Q I rs q;exact h' pins s σ H xs us Q I rs q
theorem Zms:Jy X (.type "list") (fun xs H Q=>∃p ys,xs=[.ref p]/\(SqL X.K H p ys\/SqT X.K H p ys)/\∀l,H l=none->Q (.ref l) (upd H l (.lst ys))):=by
 intro pins s σ H xs us Q I r h;obtain ⟨p,ys,rfl,hq,q⟩:=h;obtain ⟨u,rfl,rx⟩:=vals1 r;cases rx;have fin:∀(its:List Value),Yl ys its->ys.length<=Aw->∀(h':Heap) (c':Nat),(∀b o',s.heap.get? b=some o'->h'.get? b=some o')->
   h'.get? s.heap.objs.size=some {cls:=.type "list",dict:=none,data:=.seq its.toArray c',slots:=#[]}->EP X pins σ Q (.ref s.heap.objs.size) {s with heap:=h'}:=fun its r' hz h' c' kp e =>
  ⟨.ref s.heap.objs.size,_,I.laid (t':=s.toks) kp (Ax _) (show Yz X.prog X.w _ h' _ (.lst ys) from ⟨hz,its,c',r',e⟩),rfl,q _ (I.hok.fresh (Ax _))⟩
 rcases hq with hq | hq;obtain ⟨its,r',pl,hz⟩:=I.list hq;have hlen:=r'.length;obtain ⟨o,ho,hc,n,hd⟩:=pl.isList;exact LO p (.inl rfl) ho hc hd (fun h' c' kp e=>fin its r' hz h' c' kp e) (by simp only [AG]<;>omega);obtain ⟨its,r',pl,hz⟩:=I.tuple hq;have hlen:=r'.length;obtain ⟨o,ho,hc,n,hd⟩:=pl;exact LO p (.inr rfl) ho hc hd (fun h' c' kp e=>fin its r' hz h' c' kp e) (by simp only [AG]<;>omega)
def tyV (K:Frag)(T:String)(x:V)(H:Hp):Prop:=match x with
 | .str _=>T="str"
 | .int _=>T="int"
 | .ref p=>(T="list"/\∃xs,SqL K H p xs)\/(T="tuple"/\∃o,K.lookup p=some o/\o.cls=.type "tuple"/\o.dict=none)\/
   (T="dict"/\((∃kvs,H p=some (.dK kvs))\/∃kvs,H p=some (.dT kvs)))\/(T="set"/\∃S n,H p=some (.set S n))
 | _=>False
theorem Xva {x:V}(I:Inv X pins σ H s)(r:RelV x v)(ty:tyV X.K T x H) :
  s.TypeIs v T/\∀a,v=.ref a->∃ob,s.heap.get? a=some ob/\ob.dict=none:=by
 cases x with
 | str z =>obtain ⟨t,rfl⟩:=r;cases (show T="str" from ty);exact ⟨typeIs_str s z t,fun _ e=>nomatch e⟩
 | int i =>obtain ⟨t,rfl⟩:=r;cases (show T="int" from ty);exact ⟨Ko s i t,fun _ e=>nomatch e⟩
 | ref p =>
  cases r;rcases ty with ⟨rfl,xs,hq⟩ | ⟨rfl,o,hk,hc,hd⟩ | ⟨rfl,hk⟩ | ⟨rfl,S,n,hk⟩;obtain ⟨its,_,pl,_⟩:=I.list hq;refine ⟨pl.isList.typeIs,fun a e=>?_⟩;cases e;obtain ⟨o,n,e,c,hd,_⟩:=pl;exact ⟨o,e,hd⟩;refine ⟨⟨o,I.kIn p o hk,hc⟩,fun a e=>?_⟩;cases e;exact ⟨o,I.kIn _ o hk,hd⟩;have z:∃o,s.heap.get? p=some o/\o.ExactDict:=by rcases hk with ⟨kvs,hk⟩ | ⟨kvs,hk⟩;obtain ⟨_,_,_,_,o,_,_,e,ex,_⟩:=I.hok p _ hk;exact ⟨o,e,ex⟩;obtain ⟨_,_,_,_,o,_,_,e,ex,_⟩:=I.hok p _ hk;exact ⟨o,e,ex⟩
  obtain ⟨o,e,ex⟩:=z;refine ⟨⟨o,e,ex.1⟩,fun a e2=>?_⟩;cases e2;exact ⟨o,e,ex.2.1⟩;obtain ⟨o,_,_,_,e,ex,_⟩:=I.hok p _ hk;refine ⟨⟨o,e,ex.1⟩,fun a e2=>?_⟩;cases e2;exact ⟨o,e,ex.2.1⟩
 | _=>exact False.elim ty
def tBM (K:Frag)(T:String)(r:V->List V->Hp->VK->Prop)(to:TE)(t:TA):TE:=fun σ H Q=>to σ H fun x H1=>tyV K T x H1/\t σ H1 fun xs H2=>r x xs H2 Q
variable {o:Expr}{to:TE}{t:TA}{apos cpos:Pos}{id:String}{r:V->List V->Hp->VK->Prop}
theorem pe_bm (pa:PlainAttrs T)(slot:Slot T name id)(hty:typeOf (.builtin id)=pure (.type "method_descriptor"))(hm:MtR X id r)(ho:PE X o to)(ha:PA X (e::es) t)
    (hbase:CW o name X.env (eval o X.env)=eval o X.env:=by rfl)
    (hfew:((BU cpos (Af (e::es) X.env)).all (fun x=>!x.1)&&(EL cpos (DD [] X.env)).all (fun x=>x.1.isSome)
      && decide ((e::es).length+([]:List CM).length+(if ([]:List CM).isEmpty then 0 else 1)<30))=true:=by rfl)
    (hline:(apos.endLine==cpos.line)=true:=by rfl) (hs:Af (e::es) X.env=(false,eval e X.env)::Af es X.env:=by rfl) (hplain:(BU cpos (Af es X.env)).any (·.1)=false:=by rfl) :
    PE X (.Call (.Attribute o name apos) (e::es) [] cpos) (tBM X.K T r to t):=by
  intro pins s σ H Q I h;refine wpAny_Call_method_late hbase hfew hline rfl (thn (ho pins s σ H _ I h) fun v s1 hz9=>?_);obtain ⟨x,H1,I1,r1,ty,q1⟩:=hz9;obtain ⟨h1,h2⟩:=Xva I1 r1 ty;refine ⟨T,id,pa,slot,hty,h1,h2,?_⟩;have hA:=ha cpos pins s1 σ H1 _ I1 q1;rw [hs] at hA ⊢;refine Hr (by show (false||(BU cpos (Af es X.env)).any (·.1))=false;rw [hplain]<;>rfl) (Calls.evalArgs_plain ?_);exact thn hA fun us s2 ⟨vs,H2,I2,r2,q2⟩=>hm pins s2 σ H2 x vs v us Q I2 r1 r2 q2
end
def MtM (X:Cx)(id:String)(r:V->List V->Hp->VK->Prop):Prop:=
 ∀(pins:List (Addr×Obj)) (s:Ah) (σ:St) (H:Hp) (x:V) (xs:List V) (v:Value) (us:List Value) (Q:VK),Inv X pins σ H s->RelV x v->Yl xs us->r x xs H Q->
  wpAny (model X.prog X.w) X.A (call (.builtin id) (v::us)) (EP X pins σ Q) X.xe s
theorem Yl.one:∀{x:V} {us:List Value},Yl [x] us->∃u,us=[u]/\RelV x u
 | _,_,.cons r .nil=>⟨_,rfl,r⟩
theorem Yl.zero:∀{us:List Value},Yl [] us->us=[]
 | _,.nil=>rfl
theorem Yl.reverse {xs:List V}{us:List Value}(h:Yl xs us):Yl xs.reverse us.reverse:=by
 induction h with
 | nil=>exact .nil
 | cons r t ih=>rw [EA,EA];exact Yl.append ih (.cons r .nil)
theorem Yl.rep {xs:List V}{us:List Value}(h:Yl xs us):∀k:Nat,Yl (Ab k xs).flatten (Ab k us).flatten
 | 0=>.nil
 | k+1=>by rw [Bi,Bi,Ba,Ba];exact Yl.append h (Yl.rep h k)
theorem foldl_rep (its:List Value):∀(k:Nat) (acc:List Value),
  IF (fun x1 x2=>x1++x2) acc.toArray (Ab k its.toArray)=(acc++(Ab k its).flatten).toArray
 | 0,acc=>by simp
 | k+1,acc=>by
  have e:acc.toArray++its.toArray=(acc++its).toArray:=by simp
  have e2:(acc++its)++(Ab k its).flatten=acc++(Ab (k+1) its).flatten:=by rw [Bi,Ba,AD]
  rw [<- e2,<- foldl_rep its k (acc++its),<- e,Bi,DT]
section
variable {l b:Addr}{ys zs:List V}
theorem Inv.lset (I:Inv X pins σ H s)(hH:H l=some (.lst xs))
  (e:s.heap.get? l=some {cls:=.type "list",data:=.seq its.toArray n}) (hf:f its.toArray=its'.toArray) (hv:Yl ys its') (hz:ys.length<=Aw) :
  Inv X pins σ (upd H l (.lst ys)) {s with heap:=s.heap.update l (CC f),toks:=t'}:=by
 have q:=PySem.IsL.update e f;rw [hf] at q;refine I.write (x:=l) (e:=l) (by rw [hH];exact trivial) (.inl rfl) (fun b' u hb hu=>(CQ s.heap (CC f) (Ne.symm hb)).trans hu) ⟨_,q⟩ ?_;exact ⟨hz,its',_,hv,q⟩
theorem Inv.lnew (I:Inv X pins σ H s)(hv:Yl ys its)(hz:ys.length<=Aw) :
  Inv X pins σ (upd H s.heap.objs.size (.lst ys)) {s with heap:=s.heap.push {cls:=.type "list",data:=.seq its.toArray},toks:=t'}:=
 I.laid (fun _ _ q=>Ae _ q) (Ax _) ⟨hz,its,0,hv,Az _ rfl⟩
theorem Inv.fresh (I:Inv X pins σ H s):H s.heap.objs.size=none:=I.hok.fresh (Ax _)
theorem Inv.lstM (I:Inv X pins σ H s)(hH:H l=some (.lst xs)):xs.length<=Aw/\∃(its:List Value) (n:Nat),Yl xs its/\xs.length=its.length/\s.heap.get? l=some {cls:=.type "list",data:=.seq its.toArray n}:=by obtain ⟨z,its,n,r,e⟩:=I.hok l _ hH;exact ⟨z,its,n,r,r.length,e⟩
theorem Xee (h:n<=Aw):D8 n=false:=by unfold D8;exact decide_eq_false (by omega)
end
def Zbn:V->List V->Hp->VK->Prop:=fun x vs H Q=>∃l xs y,x=.ref l/\vs=[y]/\H l=some (.lst xs)/\xs.length<Aw/\Q .non (upd H l (.lst (xs++[y])))
theorem Zeo:MtM X "list.append" Zbn:=by intro pins s σ H x vs v us Q I rx rv h;obtain ⟨l,xs,y,rfl,rfl,hH,hz,q⟩:=h;cases rx;obtain ⟨u,rfl,ru⟩:=rv.one;obtain ⟨z,its,n,r,hl,e⟩:=I.lstM hH;refine HD F.slot_list_append ⟨_,e,rfl⟩ F.entry_list_append (F.args_list_append_2 _ _) (PySem.list_append l its.toArray n u (by rw [AG];omega)) ⟨e,?_⟩;refine ⟨.non,_,I.lset (its':=its++[u]) hH e (by simp) (r.append (.cons ru .nil)) ?_,rfl,q⟩;rw [Ai,HN];omega
def rCat:R2:=fun x y H Q=>∃l b xs zs,x=.ref l/\y=.ref b/\H l=some (.lst xs)/\H b=some (.lst zs)/\xs.length+zs.length<=Aw/\∀p,H p=none->Q (.ref p) (upd H p (.lst (xs++zs)))
theorem Xtq:OpR X (CA .Add) rCat:=by
 intro pins s σ H x y v u Q I rx ry h;obtain ⟨l,b,xs,zs,rfl,rfl,hH,hB,hz,q⟩:=h;cases rx;cases ry;obtain ⟨z,its,n,r,hl,e⟩:=I.lstM hH;obtain ⟨z2,its2,n2,r2,hl2,e2⟩:=I.lstM hB;refine PySem.P.add_list e e2 ?_ (by rw [AG,AG];omega);have ea:its.toArray++its2.toArray=(its++its2).toArray:=by simp
 rw [ea];exact ⟨.ref _,_,I.lnew (t':=s.toks) (r.append r2) (by rw [Ai];omega),rfl,q _ I.fresh⟩
def rRep:R2:=fun x y H Q=>∃l k xs,x=.ref l/\y=.int k/\H l=some (.lst xs)/\-(2 ^ 63)<=k/\k<2 ^ 63/\xs.length*k.toNat<=Aw/\
 ∀p,H p=none->Q (.ref p) (upd H p (.lst (Ab k.toNat xs).flatten))
theorem len_rep (xs:List α)(k:Nat):(Ab k xs).flatten.length=k*xs.length:=by
 induction k with
 | zero=>simp
 | succ k ih=>rw [Bi,Ba,Ai,ih,HJ,HM]
theorem Xst:OpR X (CA .Mult) rRep:=by
  intro pins s σ H x y v u Q I rx ry h;obtain ⟨l,k,xs,rfl,rfl,hH,h1,h2,hz,q⟩:=h;cases rx;obtain ⟨t,rfl⟩:=ry;obtain ⟨z,its,n,r,hl,e⟩:=I.lstM hH;have hlen:its.toArray.size*k.toNat<=Aw:=by rw [AG,<- hl];exact hz
  have hcap:¬its.toArray.size*k.toNat > (2 ^ 63 - 1) / 8:=by
    have:(Aw:Nat)<=(2 ^ 63 - 1) / 8:=by decide
    omega
  have hfit:¬(!Builtin.List.listFitsIndex k)=true:=by rw [fitsIndex_both h1 h2];exact Aj
  have hlong:¬D8 (its.toArray.size*k.toNat)=true:=by rw [Xee hlen];exact Aj
  have hnew:IF (fun x1 x2=>x1++x2) #[] (Ab (if its.toArray.isEmpty=true then 0 else k.toNat) its.toArray)=(Ab k.toNat its).flatten.toArray:=by
    have f0:∀m:Nat,IF (fun x1 x2=>x1++x2) #[] (Ab m its.toArray)=(Ab m its).flatten.toArray:=fun m=>by have:=foldl_rep its m [];rw [J9] at this;exact this
    rw [f0];cases its with
    | nil=>simp
    | cons a r'=>rw [if_neg (by simp)]
  refine wpAny_binaryOp_repeat_ref (T:="list") (U:="int") (by decide) ⟨_,e,rfl⟩ (fun s'=>Ko s' k t) noFill_list_mul F.fills_int_mul KZ repeat_list F.slot_int_index.lookup
    (HD KZ (Ko s k t) F.entry_int_rmul (F.args_int_rmul_2 _ _) (int___rmul___int_list k t l its.toArray n)
      ⟨e,rfl,⟨_,e,rfl⟩,HD F.slot_list_mul ⟨_,e,rfl⟩ F.entry_list_mul (F.args_list_mul_2 _ _) (LY l its.toArray n k t hfit hcap hlong) ⟨e,?_⟩⟩)
  rw [hnew];exact ⟨.ref _,_,I.lnew (t':=s.toks) (r.rep k.toNat) (by rw [len_rep,Nat.mul_comm];exact hz),rfl,q _ I.fresh⟩
end L2
namespace Att
open PySem PySem.W PySem.Calls PyProof.Rows
variable {P:Params}{h:Heap}{l:OpenLaw}{n:Nat}{args:List WData}{vals:List Value}{q prog:AZ}{loose:List Str}{XP:(Str->Option Value)->Heap->Prop}{YP:BC->Heap->Prop}{d:DefRec}{w:BC}{A:BE}{E:Value->Ah->Prop}{s:Ah}{K:Frag}
theorem Ziz :∀(ns:List Int) (vs:List Value),WellAll P h vs (ns.map WData.int)->Fo vs ns:=by
 intro ns
 induction ns with
 | nil =>intro vs w;rw [KH] at w;cases w;exact .nil
 | cons n ns ih =>
  intro vs w;rw [Bn] at w;cases w with
  | cons a b =>cases a;exact .cons _ _ (ih _ b)
theorem Zwl (hn:l.most=some n)
  (hpre:l.row.toRowW.claim.pre args=true) (hwl:WellAll P h vals args) :
  ∃a vs ns,vals=[AL a]/\args=[WData.list (ns.map WData.int)]/\h.get? a=some {cls:=.type "list",data:=.seq vs.toArray}/\Fo vs ns/\ns.length<=n:=by
 have hsh:WShape.hasAll [] args [.list .int]=true:=(pre_splitW hpre).1;have hc:l.pre.holds [] {args:=args}=true:=(pre_splitW hpre).2;obtain ⟨d,r,rfl,h1,h2⟩:=hasAllW_cons hsh;obtain rfl:=hasAllW_nil h2;obtain ⟨xs,rfl,h3⟩:=hasW_list h1;obtain ⟨ns,rfl⟩:=items_int h3;have hlen:ns.length<=n:=by
  unfold OpenLaw.pre at hc;have h4:(WTm.not (.lt (.lit (.int (n:Int))) (.len (.arg 0)))).holds [] {args:=[.list (ns.map .int)]}=true:=by have h4:=(holds_andW hc).1;rw [hn] at h4;exact h4
  have h5:=condW_of h4 (w_not (w_lt w_lit (w_len_list (w_arg rfl))));rw [Am] at h5;refine J7 fun q=>?_;have q':(n:Int)<((ns.length:Nat):Int):=by omega
  first
   | (rw [decide_eq_true q'] at h5;exact absurd h5 (by decide))
   | (simp at h5;omega)
 cases hwl with
 | cons w1 w2 =>
  cases w2;cases w1 with
  | list ho hall=>exact ⟨_,_,ns,rfl,rfl,ho,Ziz ns _ hall,hlen⟩
theorem Zvy (l:OpenLaw)(args:List WData):l.row.toRowW.claim.post args (.bool true) args=true:=
 postW_of (r:=l.row.toRowW) (X:=(true==true))
  (show WShape.has [] (.bool true) .bool=true by first | rfl | decide | simp [WShape.has,WShape.arms,WShape.armsAll])
  (show (WTm.eq .res (.lit (.bool true))).value [] {args:=args,res:=some (.bool true),after:=args}=some (.bool (true==true)) from w_eq_bool (w_res rfl) w_lit) rfl
theorem attach_call 
    (hn:l.most=some n) (hdf:d.params.defaults=[])
    (call:∀(w:BC) (s₀ s₁:Ah) (mg mb:Str->Option Value) (fa:Addr) (o:Obj) (pm cd doc:Value) (a:Addr) (vs:List Value) (ns:List Int),
      Ground q loose [] XP w s₀ mg mb s₁.heap->YP w s₁.heap->
      s₁.heap.get? fa=some o->o.data=.func (docDef d.name d.params d.body d.scope pm cd doc)->s₁.heap.CodeRec cd d.name->mg d.name=some (.ref fa)->
      s₁.heap.get? a=some {cls:=.type "list",data:=.seq vs.toArray}->Fo vs ns->ns.length<=n->s₁.gens=#[]->
      codeAny (model l.prog w) GP (.call (.ref fa) ⟨[.ref a],[]⟩) (fun r s'=>r=.ok (.ret (.bool true))/\OldK s₁.heap s'.heap/\s'.os=s₁.os/\Fq s'.gens) s₁) :
    WalkO q loose XP YP l.row.toRowW d [] (fun f vs=>PySem.call f vs):=by
  intro w s₀ s₁ mg mb G Y fa o pm cd doc dV kV ho hd hcd hD hmg hg args vals as hpre hlay hrd hwl hlo;obtain rfl:dV=.none:=Dflts.none hD hdf;obtain rfl:kV=.none:=Dflts.noKw hD;obtain ⟨a,vs,ns,rfl,rfl,hobj,hints,hlen⟩:=Zwl hn hpre hwl;refine enter_call (IS (call w s₀ s₁ mg mb fa o pm cd doc a vs ns G Y ho (fd_plain hd) hcd hmg hobj hints hlen hg) fun r s' hq=>?_);obtain ⟨rfl,h2,h3,h4⟩:=hq;exact ⟨.inl ⟨.bool true,.bool true,[],rfl,fun _=>rfl,.bool true,Zvy l _,fun _=>⟨Dw,fun _ hm=>(nomatch hm)⟩⟩,h2,h3,h4⟩
end Att
namespace L2
open PySem PySem.Spec PyProof.Rows
variable {P q prog:AZ}{w:BC}{K:Frag}{mg mb m:Str->Option Value}{CX:CXT}{k n x1 tk:Nat}{a b e tg iter elt:Expr}{fd:C4}{x qual z name y:Str}{sp:Sp}{s₁ s s2:Ah}{vs its:List Value}{ns:List Int}{l f p it:Addr}{loose N ps N2:List Str}{XP:(Str->Option Value)->Heap->Prop}{YP:BC->Heap->Prop}{d:DefRec}{X:Cx}{base h':Heap}{st s1:Stmt}{oc u:Value}{od an:Option Addr}{osl:Array (Option Value)}{pos p2 apos cpos pos' px py spos:Pos}{H H2 H':Hp}{op:HI}{es as ifs:List Expr}{env:Env}{c:Const}{ks:List CM}{ops:List LI}{gs:List Comprehension}{j i:Int}{pins:List (Addr×Obj)}{σ:St}{te ts to:TE}{E:Value->Ah->Prop}{Q:VK}{C:Int->Int->Prop}{g:Int->Int->V}{xs ys:List V}{v:V}{lo hi:Option Expr}{r:List V->Hp->VK->Prop}{T:String}{tt:TGs}{body:List Stmt}{wi:TI}{A:BE}{scope esc:Scope}{tc:TT}{fp:List Addr}{tn:Nat->Heap->Prop}{RR:Value->Addr->Kt->Ah->Prop}{tp:TIp}
theorem Znx:∀{vs:List Value} {ns:List Int},Fo vs ns->Yl (ns.map V.int) vs
 | _,_,.nil=>.nil
 | _,_,.cons n t h=>.cons ⟨t,rfl⟩ (Znx h)
def Only (H:Hp):Prop:=∀b,H b=none\/∃o xs,H b=some (.frz o (.lst xs))
theorem Xfe {fa a:Addr}
    (KX:K.In s₁.heap) (hns:s₁.heap.Ns Ar mg) (hb:s₁.heap.Ns Gz mb) (hbb:∀x:Str,x≠"__name__"->mb x=Ck x) (hlim:s₁.heap.NoLimit) (hg:s₁.gens=#[])
    (ha:s₁.heap.get? a=some {cls:=.type "list",data:=.seq vs.toArray}) (hi:Fo vs ns) (hl:ns.length<=Aw) (hr:Zgr k GP)
    (F:∀base:Heap,K.In base->base.Ns Ar mg->Zbe P w K mg base CX k fa fd [x] sp) (hbind:∀(s:Ah) (u:Value),FZ s fd ⟨[u],[]⟩ [(x,u)])
    (hsp:∀H:Hp,Only H->SqL K H a (ns.map V.int)->sp [.ref a] H (fun v _=>v=.bl true) fun _ _ _=>False)
    (hCX:∀H e s',CX [] H s₁ (fun _ _ _=>False) e s'->False) :
    codeAny (model P w) GP (.call (.ref fa) ⟨[.ref a],[]⟩) (fun r s'=>r=.ok (.ret (.bool true))/\OldK s₁.heap s'.heap/\s'.os=s₁.os/\Fq s'.gens) s₁:=by
  have rv:=Znx hi;have lenV:=hi.length;have core:∀H:Hp,Only H->SqL K H a (ns.map V.int)->HOk P w H s₁.heap->(∀b,H b≠none->b=a)->(H a≠none->K.lookup a=none)->
      codeAny (model P w) GP (.call (.ref fa) ⟨[.ref a],[]⟩) (fun r s'=>r=.ok (.ret (.bool true))/\OldK s₁.heap s'.heap/\s'.os=s₁.os/\Fq s'.gens) s₁:=by
    intro H hO hS hok hA hK;have base_of:∀{b:Addr} {o:Obj},s₁.heap.get? b=some o->H b=none->(Xhv s₁.heap H).get? b=some o:=fun e n=>Xhk e n;have noA:∀{b:Addr} {o:Obj} {es:Array DX} {ep:Nat},s₁.heap.get? b=some o->o.data=.dict es ep->H b=none:=fun {b o es ep} e d=>by
      cases q:H b with
      | none=>rfl
      | some u =>have e':b=a:=hA b (by rw [q];simp);subst e';rw [ha] at e;cases e;have d':Data.seq vs.toArray _=Data.dict es ep:=d;cases d'
    have nsK:∀{b:Addr} {m:Str->Option Value},s₁.heap.Ns b m->(Xhv s₁.heap H).Ns b m:=fun {b m} ⟨o,es,ep,e,d,r⟩=>⟨o,es,ep,base_of e (noA e d),d,r⟩;have hKb:K.In (Xhv s₁.heap H):=fun b o e=>base_of (KX b o e) (by
      cases q:H b with
      | none=>rfl
      | some u =>
        have e':b=a:=hA b (by rw [q];simp);subst e';rw [hK (by rw [q];simp)] at e;cases e)
    have hM:Mod K mg (Xhv s₁.heap H):=⟨hKb,nsK hns,⟨mb,nsK hb,hbb⟩,let ⟨mc,h1,h2⟩:=hlim;⟨mc,nsK h1,h2⟩⟩;have e0:Xvv P w K mg (Xhv s₁.heap H) GP [] s₁ H:=⟨rfl,hM,fun b o e=>Xlp e,Fb (Zzk _ _),trivial,fun b hb=>absurd (show b∈([]:List Addr) from hb) (by simp),hok,.of_eq hg⟩;refine IS ((F _ hKb (nsK hns)).run GP [] s₁ H ⟨[.ref a],[]⟩ [.ref a] [.ref a] _ _ hr e0 (hbind s₁ (.ref a)) (.cons rfl .nil) (hsp H hO hS)) fun r s' h=>?_;cases r with
    | error e=>exact (hCX H e s' h).elim
    | ok fl =>
      cases fl with
      | next=>exact False.elim h
      | brk=>exact False.elim h
      | cont=>exact False.elim h
      | ret u =>
        obtain ⟨v,H',os,bare,un,hok',r',q⟩:=h;have q':v=.bl true:=q;subst q';obtain rfl:u=Em true:=r';refine ⟨rfl,OldK.of_keep fun b o e=>?_,os,bare⟩;cases q:H b with
        | none=>exact un.keep b o e q (by intro z;exact absurd (show b∈([]:List Addr) from z) (by simp)) (by simp)
        | some u =>
          rcases hO b with z | ⟨ob,xs,z⟩
          · rw [q] at z;cases z
          · have z2:=un.frzs b ob _ z;obtain ⟨e1,_⟩:=hok b _ z;obtain ⟨e2,_⟩:=hok' b _ z2;rw [e] at e1;cases e1;exact e2
  cases hk:K.lookup a with
  | some o =>have e:=KX a o hk;rw [ha] at e;cases e;refine core (fun _=>none) (fun _=>.inl rfl) (.inr ⟨_,vs.toArray,_,hk,rfl,rfl,rfl,by rw [AG,lenV];exact hl,by simpa using rv⟩) (fun b u z=>by have z':(none:Option HO)=some u:=z;cases z') (fun b z=>absurd rfl z) fun z=>absurd rfl z
  | none =>
    refine core (fun b=>if b=a then some (.frz {cls:=.type "list",data:=.seq vs.toArray} (.lst (ns.map V.int))) else none) (fun b=>?_) (.inl (.inr ⟨{cls:=.type "list",data:=.seq vs.toArray},if_pos rfl⟩)) (fun b u z=>?_) (fun b z=>?_) fun _=>hk
    · by_cases hb:b=a
      · exact .inr ⟨_,_,if_pos hb⟩
      · exact .inl (if_neg hb)
    · by_cases hb:b=a
      · have z':=(if_pos hb).symm.trans z;cases z';subst hb;exact ⟨ha,by rw [Am];exact hl,vs,_,rv,ha⟩
      · have z':=(if_neg hb).symm.trans z;cases z'
    · by_cases hb:b=a
      · exact hb
      · exact absurd (if_neg hb) z
abbrev KOf {K:Frag}{h:Heap}(_:K.In h):Frag:=K
theorem Xod {l:PySem.W.OpenLaw}{K:Params->Frag}{CX:BC->CXT}{sp:BC->Sp}
    (hn:l.most=some n) (hn2:n<=Aw) (hdf:d.params.defaults=[]) (hr:Zgr k GP)
    (hY:∀(w:BC) (h:Heap),YP w h->(K w.params).In h)
    (F:∀(w:BC) (mg:Str->Option Value) (fa:Addr) (h:Heap),(K w.params).In h->h.Ns Ar mg->mg d.name=some (.ref fa)->
      ∃fd:C4,(∀(s:Ah) (u:Value),FZ s fd ⟨[u],[]⟩ [(x,u)])/\
        ∀base:Heap,(K w.params).In base->base.Ns Ar mg->Zbe l.prog w (K w.params) mg base (CX w) k fa fd [x] (sp w))
    (hsp:∀(w:BC) (H:Hp) (a:Addr) (ns:List Int),ns.length<=n->Only H->SqL (K w.params) H a (ns.map V.int)->sp w [.ref a] H (fun v _=>v=.bl true) fun _ _ _=>False)
    (hCX:∀(w:BC) (H:Hp) (s:Ah) (e:Value) (s':Ah),CX w [] H s (fun _ _ _=>False) e s'->False) :
    PySem.W.WalkO q loose XP YP l.row.toRowW d [] (fun f vs=>PySem.call f vs):=by
  refine Att.attach_call hn hdf fun w s₀ s₁ mg mb fa o pm cd doc a vs ns G Y ho hd hcd hmg hobj hints hlen hg=>?_;have KX:=hY w _ Y;obtain ⟨fd,hb,hF⟩:=F w mg fa _ KX G.T.g hmg;exact Xfe KX G.T.g G.T.b G.T.builtins G.T.nolimit hg hobj hints (AC hlen hn2) hr hF hb (fun H hO hS=>hsp w H a ns hlen hO hS) fun H e s'=>hCX w H s₁ e s'
def Zcr (s:Stmt):F0:=match s with
 | .FunctionDef _ a _ _ _ _ _ _ _ _=>a
 | _=>{posonlyargs:=[],args:=[],vararg:=none,kwonlyargs:=[],kw_defaults:=[],kwarg:=none,defaults:=[]}
def Zab (s:Stmt):List Stmt:=match s with
 | .FunctionDef _ _ b _ _ _ _ _ _ _=>b
 | _=>[]
def Zn (s:Stmt):Scope:=match s with
 | .FunctionDef _ _ _ _ _ _ sc _ _ _=>sc
 | _=>{kind:=.function,names:=[],isGenerator:=false,isCoroutine:=false}
abbrev CX0:CXT:=fun _ _ _ _ _ _=>False
abbrev E0:XK:=fun _ _ _=>False
theorem Yq :Zih CX0 X E0:=fun _ _ _ _ _ _ _ h=>h.elim
structure Fun (K:Frag)(x qual:Str)(st:Stmt)(f:Addr)(fd:C4):Prop where
 ex:∃(oc:Value) (od:Option Addr) (kV doc pm:Value) (an:Option Addr) (cdv ct:Value) (osl:Array (Option Value)),
  fd=fnOf x qual (Zcr st) (Zab st) (Zn st) .none kV doc pm an cdv ct/\K.lookup f=some ⟨oc,od,.func fd,osl⟩/\codeIn K cdv qual=true
 kp:Fk K (.ref f)=true
theorem Fun.ok (F:Fun K x qual st f fd)(S:Xg N ps (Zn st))(len:∀vs H Q E,sp vs H Q E->vs.length=ps.length)
    (hbody:∀(cdv:Value) (A:BE) (outer:List Env) (s:Ah) (H:Hp) (vs:List V) (Q:VK) (E:XK),Zgr k (A.deeper (EZ qual (Zn st) s.heap.objs.size f cdv))->sp vs H Q E->
      ∃t,PSs (Xga CX0 P w K mg base N qual (Zn st) f cdv A outer s H E).nox (Zab st) t/\t {nx:=fun _ H'=>Q .non H',rt:=Q} (start N vs) H):Zbe P w K mg base CX0 (k+1) f fd ps sp:=by
  obtain ⟨oc,od,kV,doc,pm,an,cdv,ct,osl,rfl,lk,hcd⟩:=F.ex;refine fn_of lk hcd S len fun A outer s H vs Q E hr hsp=>?_;obtain ⟨t,h,q⟩:=hbody cdv A outer s H vs Q E hr hsp;exact ⟨t,h.nox,q⟩
theorem Fun.binds (F:Fun K x qual st f fd)
  (h:∀(kV doc pm:Value) (an:Option Addr) (cdv ct:Value) (us:List Value),us.length=ps.length->LF (fnOf x qual (Zcr st) (Zab st) (Zn st) .none kV doc pm an cdv ct) ⟨us,[]⟩=pure (ps.zip us)):Binds K fd ps []:=by
 obtain ⟨oc,od,kV,doc,pm,an,cdv,ct,osl,rfl,lk,hcd⟩:=F.ex;exact .all (h kV doc pm an cdv ct)
theorem Yi {kV doc pm cdv ct:Value}(l:K.lookup f=some ⟨oc,od,.func (fnOf x qual (Zcr st) (Zab st) (Zn st) .none kV doc pm an cdv ct),osl⟩)
  (c:codeIn K cdv qual=true) (k:Fk K (.ref f)=true):Fun K x qual st f (fnOf x qual (Zcr st) (Zab st) (Zn st) .none kV doc pm an cdv ct):=⟨⟨oc,od,kV,doc,pm,an,cdv,ct,osl,rfl,l,c⟩,k⟩
theorem pv (i:Nat)(hN:X.N[i]?=some x:=by rfl)(hv:autoParam (Vis X.env.scope x) aT3._auto_1)(hd:(x==("__debug__":Str))=false:=by decide)
  (hcd:(x==("__classdict__":Str))=false:=by decide):PE X (.Name x pos) (Zgp i):=Xrp hN hv hd hcd
def Xi (H H':Hp):Prop:=∀b o,H b=some o->H' b=some o
theorem Xi.refl (H:Hp):Xi H H:=fun _ _ h=>h
theorem Xi.trans {H1:Hp}(a:Xi H H1)(b:Xi H1 H2):Xi H H2:=fun c o h=>b c o (a c o h)
theorem Xi.free (e:Xi H H')(h:H' l=Ca):H l=Ca:=by
 cases q:H l with
 | none=>rfl
 | some o =>rw [e l o q] at h;cases h
theorem Zv :Af (.BinOp a op b pos::es) env=(false,eval (.BinOp a op b pos) env)::Af es env:=rfl
theorem Zf :Af (.Constant c k pos::es) env=(false,eval (.Constant c k pos) env)::Af es env:=rfl
theorem Za :Af (.Name x pos::es) env=(false,eval (.Name x pos) env)::Af es env:=rfl
theorem Xc :Af (.Subscript a b pos::es) env=(false,eval (.Subscript a b pos) env)::Af es env:=rfl
theorem Yn :Af (.Call a as ks pos::es) env=(false,eval (.Call a as ks pos) env)::Af es env:=rfl
theorem Zdy :Af (.List as pos::es) env=(false,eval (.List as pos) env)::Af es env:=rfl
theorem Zrc :Af (.Tuple as k pos::es) env=(false,eval (.Tuple as k pos) env)::Af es env:=rfl
theorem Zgq :Af (.Compare a ops as pos::es) env=(false,eval (.Compare a ops as pos) env)::Af es env:=rfl
theorem Jf {sc:Scope}:Af (.ListComp a gs sc pos::es) env=(false,eval (.ListComp a gs sc pos) env)::Af es env:=rfl
theorem Zan :Zbo (.Subscript a b pos):=fun _ _=>rfl
theorem Xb :Zbo (.Name x pos):=fun _ _=>rfl
theorem Zk :Zbo (.Constant c k pos):=fun _ _=>rfl
theorem plain_bin :Zbo (.BinOp a op b pos):=fun _ _=>rfl
theorem Zey {op:UnaryOp}:Zbo (.UnaryOp op a pos):=fun _ _=>rfl
def Xdg:R2:=fun x y H Q=>rI0 (fun i j=>.int (i+j)) x y H Q\/(∃i j,x=.str i/\y=.str j/\i.length+j.length<=Aw/\Q (.str (i++j)) H)\/rCat x y H Q
def Xen:R2:=fun x y H Q=>rI Xpy (fun i j=>.int (i*j)) x y H Q\/rRep x y H Q
def Xvh (_ j:Int):Prop:=0<j/\j<2 ^ 200
theorem Zs:OpR X (CA .Add) Xdg:=Xvo.or (Zuj.or Xtq)
theorem Xu:OpR X (CA .Mult) Xen:=Xqo.or Xst
theorem log2_small (h1:0<j)(h2:j<2 ^ 200):j.natAbs.log2<9000:=by
 have h3:j.natAbs<2 ^ 200:=by omega
 exact Hz ((Nat.log2_lt (by omega)).mpr h3) (by decide)
theorem Ztb:OpR X (CA .FloorDiv) (rI Xvh fun i j=>.int (i / j)):=opI fun i j _ _ _ _ _ hc q=>by have h1:(0:Int)<j:=hc.1;have h2:j<2 ^ 200:=hc.2;exact floordiv_int (by omega) (by rw [Int.fdiv_eq_ediv_of_nonneg i (by omega)];exact q) (.inl (PyProof.noPylong_of_log2 (log2_small h1 h2)))
mutual
inductive Dn (K:Frag)(H:Hp):V->E1->Prop
 | non:Dn K H .non .none
 | bl (b:Bool):Dn K H (.bl b) (.bool b)
 | int (i:Int):Dn K H (.int i) (.int i)
 | str (x:Str):Dn K H (.str x) (.str x)
 | lst {a:Addr} {xs:List V} {ds:List E1}:SqL K H a xs->DnA K H xs ds->Dn K H (.ref a) (.list ds)
 | tup {a:Addr} {xs:List V} {ds:List E1}:SqT K H a xs->DnA K H xs ds->Dn K H (.ref a) (.tuple ds)
inductive DnA (K:Frag)(H:Hp):List V->List E1->Prop
 | nil:DnA K H [] []
 | cons {x:V} {d:E1} {xs:List V} {ds:List E1}:Dn K H x d->DnA K H xs ds->DnA K H (x::xs) (d::ds)
end
mutual
theorem Dn.reads (I:Inv X pins σ H s):∀{x:V} {d:E1} {u:Value},Dn X.K H x d->RelV x u->∃as,Gi s.heap u d as
 | _,_,_,.non,r=>by cases (show _=BH from r);exact ⟨_,.none⟩
 | _,_,_,.bl b,r=>by cases (show _=Em b from r);exact ⟨_,.bool b⟩
 | _,_,_,.int i,r=>by obtain ⟨t,q⟩:=(show ∃t,_=Fe i t from r);cases q;exact ⟨_,.int i t⟩
 | _,_,_,.str x,r=>by obtain ⟨t,q⟩:=(show ∃t,_=Ga x t from r);cases q;exact ⟨_,.str x t⟩
 | _,_,_,.lst (a:=a) h ra,r=>by cases (show _=AL a from r);obtain ⟨its,rv,pl,_⟩:=I.list h;obtain ⟨as,q⟩:=DnA.reads I ra rv;obtain ⟨o,ho,hc,n,hd⟩:=pl.isList;exact ⟨_,.list ho hc hd q⟩
 | _,_,_,.tup (a:=a) h ra,r=>by cases (show _=AL a from r);obtain ⟨its,rv,pl,_⟩:=I.tuple h;obtain ⟨as,q⟩:=DnA.reads I ra rv;obtain ⟨o,ho,hc,n,hd⟩:=pl;exact ⟨_,.tuple ho hc hd q⟩
theorem DnA.reads (I:Inv X pins σ H s):∀{xs:List V} {ds:List E1} {us:List Value},DnA X.K H xs ds->Yl xs us->∃as,LG s.heap us ds as
 | _,_,_,.nil,.nil=>⟨_,.nil⟩
 | _,_,_,.cons h ra,.cons r rs=>by obtain ⟨as,q⟩:=Dn.reads I h r;obtain ⟨bs,q'⟩:=DnA.reads I ra rs;exact ⟨_,.cons q q'⟩
end
def rEqD (K:Frag):R2:=fun x y H Q=>∃dx dy,Dn K H x dx/\Dn K H y dy/\Ea dx=true/\Ea dy=true/\Q (.bl (DW dx dy)) H
def rNeD (K:Frag):R2:=fun x y H Q=>∃dx dy,Dn K H x dx/\Dn K H y dy/\Ea dx=true/\Ea dy=true/\Q (.bl (!PyData.eqv dx dy)) H
def Xcj (K:Frag):R2:=fun x y H Q=>rEq x y H Q\/rEqD K x y H Q
def rNeA (K:Frag):R2:=fun x y H Q=>rNe x y H Q\/rNeD K x y H Q
theorem Xti (hu:X.A.units+64<Bw):OpR X (BX .Eq) (rEqD X.K):=by intro pins s σ H x y v u Q I rx ry h;obtain ⟨dx,dy,h1,h2,s1,s2,q⟩:=h;obtain ⟨as,ra⟩:=h1.reads I rx;obtain ⟨bs,rb⟩:=h2.reads I ry;exact eq_dataH ra rb s1 s2 hu ⟨.bl _,H,I,rfl,q⟩
theorem Xss (hu:X.A.units+64<Bw):OpR X (BX .NotEq) (rNeD X.K):=by intro pins s σ H x y v u Q I rx ry h;obtain ⟨dx,dy,h1,h2,s1,s2,q⟩:=h;obtain ⟨as,ra⟩:=h1.reads I rx;obtain ⟨bs,rb⟩:=h2.reads I ry;exact ne_dataH ra rb s1 s2 hu ⟨.bl _,H,I,rfl,q⟩
theorem Zfq (hu:X.A.units+64<Bw):OpR X (BX .Eq) (Xcj X.K):=op_eq.or (Xti hu)
theorem Xjc (hu:X.A.units+64<Bw):OpR X (BX .NotEq) (rNeA X.K):=op_ne.or (Xss hu)
def Zbj (K:Frag):List V->Hp->VK->Prop:=fun xs H Q=>(∃p ys,xs=[.ref p]/\(SqL K H p ys\/SqT K H p ys)/\Q (.int ys.length) H)\/∃z,xs=[.str z]/\z.length<=Aw/\Q (.int z.length) H
def rSum (K:Frag):List V->Hp->VK->Prop:=fun xs H Q=>∃(p:Addr) (ns:List Int),xs=[.ref p]/\SqL K H p (ns.map V.int)/\Q (.int ns.sum) H
def Xqa (K:Frag):List V->Hp->VK->Prop:=fun xs H Q=>∃x c t b,xs=[x,.ty c]/\TyOf K H x t/\Kq K t (.type c)=some b/\Q (.bl b) H
def Zpc (lo:Int)(n:Nat):List V:=(AO n).map fun (k:Nat)=>V.int (lo+(k:Int))
def Zlc (K:Frag):List V->Hp->VK->Prop:=fun xs H Q=>(∃p ys,xs=[.ref p]/\(SqL K H p ys\/SqT K H p ys)/\∀l,H l=none->Q (.ref l) (upd H l (.lst ys)))\/
 ∃p i j,xs=[.ref p]/\H p=some (.rng i j)/\-(2 ^ 62)<=i/\i<2 ^ 62/\-(2 ^ 62)<=j/\j<2 ^ 62/\(j - i).toNat<=1000000/\∀l,H l=none->Q (.ref l) (upd H l (.lst (Zpc i (j - i).toNat)))
theorem Xz:Jy X (.builtin "len") (Zbj X.K):=Zmr.or Znf
theorem Xhr (hc:X.calm=true):Jy X (.builtin "sum") (rSum X.K):=by
 intro pins s σ H xs us Q I r h;obtain ⟨p,ns,rfl,hq,q⟩:=h;obtain ⟨u,rfl,rx⟩:=vals1 r;cases rx;obtain ⟨its,rv,pl,hz⟩:=I.list hq;have hi:Fo its ns:=intsAre_of rv;obtain ⟨xs,hxs⟩:=hi.allInts.items;have hn:numsOf its.toArray.toList=ns:=by rw [show its.toArray.toList=its from rfl,hi.numsOf]
 have hl:=pl.isList;rw [hxs] at hl hn;rw [Gh] at hn;refine sum_intListG (I.ok.hd hc) hl fun h' tk t' hk=>⟨.int ns.sum,H,I.kept hk,⟨t',?_⟩,q⟩;rw [preSum_eq,B5 (by simp),hn]
theorem Zqe:Jy X (.builtin "isinstance") (Xqa X.K):=by intro pins s σ H xs us Q I r h;obtain ⟨x,c,t,b,rfl,ty,e,q⟩:=h;obtain ⟨u,w',rfl,rx,ry⟩:=vals2 r;cases (show w'=K5 c from ry);exact Zyq I rx ty e fun tk=>⟨.bl b,H,I.tok _,rfl,q⟩
theorem Zku (hc:X.calm=true):Jy X (.type "list") (fun xs H Q=>∃p i j,xs=[.ref p]/\H p=some (.rng i j)/\-(2 ^ 62)<=i/\i<2 ^ 62/\-(2 ^ 62)<=j/\j<2 ^ 62/\(j - i).toNat<=1000000/\
    ∀l,H l=none->Q (.ref l) (upd H l (.lst (Zpc i (j - i).toNat)))):=by
  intro pins s σ H xs us Q I r h;obtain ⟨p,i,j,rfl,hH,h1,h2,h3,h4,h5,q⟩:=h;obtain ⟨u,rfl,rx⟩:=vals1 r;cases rx;obtain ⟨t,u,v,e⟩:=I.hok p _ hH;have en:FY i j 1=(((j - i).toNat:Nat):Int):=by rw [LK];split<;>omega
  refine call_list_range (n:=(j - i).toNat) (I.ok.hd hc) e (small_one h1 h2 h3 h4) en (AC h5 (by decide)) fun h' tk acc' c' hk hg hit=>?_;refine ⟨.ref s.heap.objs.size,_,I.laid (t':=tk) hk (Ax _) (show Yz X.prog X.w _ h' _ (.lst (Zpc i (j - i).toNat)) from ⟨?_,acc'.toList,c',?_,?_⟩),rfl,q _ I.fresh⟩;unfold Zpc;rw [Am,Dc];exact AC h5 (by decide);obtain ⟨hsz,hv⟩:=hit;have key:∀(k:Nat) (l:List Value) (lo:Int),l.length=k->(∀(m:Nat) (v:Value),l[m]?=some v->∃t,v=Fe (lo+(m:Int)) t)->Yl (Zpc lo k) l:=by
    intro k
    induction k with
    | zero =>intro l lo hl _;rw [BF.mp hl];exact .nil
    | succ k ih =>
      intro l lo hl hv;cases l with
      | nil=>simp at hl
      | cons x l =>
        obtain ⟨t,e⟩:=hv 0 x (by simp);have er:Zpc lo (k+1)=V.int lo::Zpc (lo+1) k:=by unfold Zpc;rw [List.range_succ_eq_map,Bn,BI];congr 1;simp;apply CI;intro m _;show V.int (lo+((m+1:Nat):Int))=V.int (lo+1+(m:Int));congr 1;omega
        rw [er];refine .cons ⟨t,?_⟩ (ih l (lo+1) (by simpa using hl) fun m v hm=>?_);rw [e];congr 1;simp;obtain ⟨t',e'⟩:=hv (m+1) v (by simpa using hm);refine ⟨t',?_⟩;rw [e'];congr 1;omega
  refine key _ _ i (by simpa using hsz) fun m v hm=>?_;obtain ⟨t,e⟩:=hv m v (by simpa using hm);exact ⟨t,by rw [e];congr 1;omega⟩;simpa using hg
theorem Zbi (hc:X.calm=true):Jy X (.type "list") (Zlc X.K):=Zms.or (Zku hc)
def tRev (K:Frag)(te ts:TE):TE:=fun σ H Q=>te σ H fun x H1=>ts σ H1 fun y H2=>∃a xs,x=.ref a/\y=.int (-1)/\SqL K H2 a xs/\∀p,H2 p=none->Q (.ref p) (upd H2 p (.lst xs.reverse))
theorem Xux {st:Expr}(he:PE X e te)(hst:PE X st ts):PE X (.Subscript e (.Slice none none (some st) p2) pos) (tRev X.K te ts):=by intro pins s σ H Q I h;refine HH (thn (he pins s σ H _ I h) fun v s1 hz9=>?_);obtain ⟨x,H1,I1,r1,q1⟩:=hz9;refine wpAny_Slice ?_;rw [Ih];refine Ac (Ac ?_);rw [LN];refine thn (hst pins s1 σ H1 _ I1 q1) fun vk s3 hz9=>?_;obtain ⟨y,H3,I3,r3,a,xs,ex,ey,hx,q3⟩:=hz9;subst ex ey;obtain ⟨tk,rfl⟩:=r3;cases r1;have I4:Inv X pins σ H3 {s3 with heap:=s3.heap.push {cls:=.type "slice",data:=.fields #[.none,.none,.int (-1) tk]}}:=I3.kept (t':=s3.toks) fun b ob q=>Ae _ q;obtain ⟨its,r,ht,hz⟩:=I4.list hx;have hlen:=r.length;show wpAny (model X.prog X.w) X.A (Gg e (.Slice none none (some st) p2) (.ref a) (.ref s3.heap.objs.size)) (EP X pins σ Q) X.xe {s3 with heap:=s3.heap.push {cls:=.type "slice",data:=.fields #[.none,.none,.int (-1) tk]}};refine Lz (ops:=[.ref a,.ref s3.heap.objs.size]) ht.isList.typeIs GM.lookup ?_ (by with_unfolding_all rfl);refine Ic ht.isList (GH ..) .none .none (.int (-1) tk) (by simp) ?_ (by rw [AG]<;>omega);rw [PySem.W.krv_pick];refine ⟨.ref _,_,I4.laid (t':=s3.toks) (o:=.lst xs.reverse) (fun b ob q=>Ae _ q) (Ax _) ?_,rfl,q3 _ (I4.hok.fresh (Ax _))⟩;exact ⟨by rw [Fu];exact hz,_,0,r.reverse,Az _ rfl⟩
structure Def (P:AZ)(w:BC)(K:Frag)(mg:Str->Option Value)(base:Heap)(CX:CXT)(k:Nat)(x:Str)(ps:List Str)(sp:Sp):Prop where
 ex:∃f fd,mg x=some (.ref f)/\Fk K (.ref f)=true/\Binds K fd ps []/\Zbe P w K mg base CX k f fd ps sp
theorem Xhf {E:XK}{p:Pos}{t:TA}(D:Def X.prog X.w X.K X.mg X.base CX k x ps sp)(hr:Zgr k X.A)(hg:Gl X x)(hx:Zih CX X E)
  (ha:PA X (e::es) t) (hdb:(x==("__debug__":Str))=false:=by decide) (he:Af (e::es) X.env=(false,eval e X.env)::Af es X.env:=by rfl) (hpl:(BU pos (Af es X.env)).any (·.1)=false:=by rfl) :
  PE X (.Call (.Name x p) (e::es) [] pos) (Zmv sp [] E t):=by
 obtain ⟨f,fd,m,kp,b,F⟩:=D.ex;exact Xnf F hr hg m kp b .nil hx ha hdb he hpl
section
variable {D:Ends}
theorem rd_I (c:C i j)(q:Q (g i j) H):rI C g (.int i) (.int j) H Q:=⟨i,j,rfl,rfl,c,q⟩
theorem rd_I0 (q:Q (g i j) H):rI0 g (.int i) (.int j) H Q:=⟨i,j,rfl,rfl,q⟩
theorem rd_U {g:Int->V}(q:Q (g i) H):rU g (.int i) H Q:=⟨i,rfl,q⟩
theorem Xty (q:Q (.int (i+j)) H):Xdg (.int i) (.int j) H Q:=.inl ⟨i,j,rfl,rfl,q⟩
theorem Xtl (c:Xpy i j)(q:Q (.int (i*j)) H):Xen (.int i) (.int j) H Q:=.inl ⟨i,j,rfl,rfl,c,q⟩
theorem Zwf {E:XK}{t:TA}(q:t σ H fun vs H1=>sp vs H1 Q E):Zmv sp [] E t σ H Q:=by
 show t σ H fun vs H1=>sp (vs++[]) H1 Q E;have e:(fun vs H1=>sp (vs++[]) H1 Q E)=fun vs H1=>sp vs H1 Q E:=by funext vs H1;rw [CK]
 rw [e];exact q
theorem Xwu (h:SqL K H p xs)(e:atI xs i=some v)(q:Q v H):rIx K (.ref p) (.int i) H Q:=.inl ⟨p,xs,i,v,rfl,rfl,h,e,q⟩
theorem Xsm (h:SqT K H p xs)(e:atI xs i=some v)(q:Q v H):rIx K (.ref p) (.int i) H Q:=.inr (.inl ⟨p,xs,i,v,rfl,rfl,h,e,q⟩)
theorem Zxy (h:SqL K H p ys)(q:Q (.int ys.length) H):Zbj K [.ref p] H Q:=.inl ⟨p,ys,rfl,.inl h,q⟩
theorem Xjw (h:SqT K H p ys)(q:Q (.int ys.length) H):Zbj K [.ref p] H Q:=.inl ⟨p,ys,rfl,.inr h,q⟩
theorem Xnz (h:z.length<=Aw)(q:Q (.int z.length) H):Zbj K [.str z] H Q:=.inr ⟨z,rfl,h,q⟩
theorem Xwi {y:V}(h:H l=some (.lst xs))(hz:xs.length<Aw)(q:Q .non (upd H l (.lst (xs++[y])))):Zbn (.ref l) [y] H Q:=⟨l,xs,y,rfl,rfl,h,hz,q⟩
theorem Xin {a:Addr}{lo hi:Option Int}(h:SqL K H a xs)(q:∀p,H p=none->Q (.ref p) (upd H p (.lst (Xbf xs lo hi)))):rSlL K (.ref a) lo hi H Q:=⟨a,xs,rfl,h,q⟩
theorem Xtw {a b:Addr}{zs:List V}(h1:H a=some (.lst xs))(h2:H b=some (.lst zs))(hz:xs.length+zs.length<=Aw)(q:∀p,H p=none->Q (.ref p) (upd H p (.lst (xs++zs)))):Xdg (.ref a) (.ref b) H Q:=.inr (.inr ⟨a,b,xs,zs,rfl,rfl,h1,h2,hz,q⟩)
theorem Xqv {k:Int}(h:H l=some (.lst xs))(h1:-(2 ^ 63)<=k)(h2:k<2 ^ 63)(hz:xs.length*k.toNat<=Aw)(q:∀p,H p=none->Q (.ref p) (upd H p (.lst (Ab k.toNat xs).flatten))):Xen (.ref l) (.int k) H Q:=.inr ⟨l,k,xs,rfl,rfl,h,h1,h2,hz,q⟩
theorem Xwk (h:SqL K H p (ns.map V.int))(q:Q (.int ns.sum) H):rSum K [.ref p] H Q:=⟨p,ns,rfl,h,q⟩
theorem Xug {x:V}{c:String}{t:Value}{b:Bool}(h:TyOf K H x t)(e:Kq K t (.type c)=some b)(q:Q (.bl b) H):Xqa K [x,.ty c] H Q:=⟨x,c,t,b,rfl,h,e,q⟩
theorem Xfp (h:SqL K H p ys)(q:∀l,H l=none->Q (.ref l) (upd H l (.lst ys))):Zlc K [.ref p] H Q:=.inl ⟨p,ys,rfl,.inl h,q⟩
theorem Xdr (h:H p=some (.rng i j))(h1:-(2 ^ 62)<=i)(h2:i<2 ^ 62)(h3:-(2 ^ 62)<=j)(h4:j<2 ^ 62)(h5:(j - i).toNat<=1000000)(q:∀l,H l=none->Q (.ref l) (upd H l (.lst (Zpc i (j - i).toNat)))):Zlc K [.ref p] H Q:=.inr ⟨p,i,j,rfl,h,h1,h2,h3,h4,h5,q⟩
end
structure QE (X:Cx)(e:Expr)(t:TE):Prop where
 out:PE X e t
structure QT (X:Cx)(e:Expr)(t:TT):Prop where
 out:PT X e t
structure QW (X:Cx)(e:Expr)(t:TT):Prop where
 out:PW X e t
structure QA (X:Cx)(es:List Expr)(t:TA):Prop where
 out:PA X es t
structure QO (X:Cx)(e:Option Expr)(t:TO):Prop where
 out:PO X e t
structure QG (X:Cx)(e:Expr)(t:TG):Prop where
 out:PG X e t
structure QGs (X:Cx)(es:List Expr)(t:TGs):Prop where
 out:PGs X es t
structure QI (X:Cx)(tg iter:Expr)(wi:TI):Prop where
 out:PI X tg iter wi
structure QS (X:Cx)(st:Stmt)(t:TS):Prop where
 out:PS X st t
structure QSs (X:Cx)(st:List Stmt)(t:TS):Prop where
 out:PSs X st t
section
variable {c st o:Expr}{rest:List Expr}{ta tb tc:TE}{tA tB':TT}{t:TA}{p:Pos}
theorem Xts {j:Nat}:QE X (.Constant (.int i) j pos) (tC (.int i)):=⟨Xue⟩
theorem qe_bl {i:Bool}{j:Nat}:QE X (.Constant (.bool i) j pos) (tC (.bl i)):=⟨pe_bl⟩
theorem Xvk {j:Nat}:QE X (.Constant (.str x) j pos) (tC (.str x)):=⟨Xui⟩
theorem qv (i:Nat)(hN:X.N[i]?=some x:=by rfl)(hv:autoParam (Vis X.env.scope x) aT3._auto_1)(hd:(x==("__debug__":Str))=false:=by decide)
  (hcd:(x==("__classdict__":Str))=false:=by decide):QE X (.Name x pos) (Zgp i):=⟨pv i hN hv hd hcd⟩
theorem Xnv (hg:Gl X x)(hm:X.mg x=some u)(r:RelV v u)(hd:(x==("__debug__":Str))=false:=by decide):QE X (.Name x pos) (tC v):=⟨Xny hg hm r hd⟩
theorem Xmb (hg:Gl X x)(hm:X.mg x=none)(hv:Ck x=some u)(r:RelV v u)(hn:x≠"__name__":=by decide)(hd:(x==("__debug__":Str))=false:=by decide):QE X (.Name x pos) (tC v):=⟨Xmy hg hm hv r hn hd⟩
theorem qe_op {r:R2}(ho:OpR X (CA op) r)(ha:QE X a ta)(hb:QE X b tb):QE X (.BinOp a op b pos) (tOp r ta tb):=⟨pe_op ho ha.out hb.out⟩
theorem qe_un {op:UnaryOp}{r:V->Hp->VK->Prop}(ho:UnR X (unaryOp op) r)(ha:QE X a ta):QE X (.UnaryOp op a pos) (tUn r ta):=⟨pe_un ho ha.out⟩
theorem Xln {op:LI}{r:R2}(ho:OpR X (BX op) r)(ha:QE X a ta)(hb:QE X b tb)(hm:Dq op b=false):QE X (.Compare a [op] [b] pos) (tOp r ta tb):=⟨Xni ho ha.out hb.out hm⟩
theorem Xlx {op:LI}{r:R2}(ho:OpR X (BX op) r)(ha:QE X a ta)(hb:QE X b tb)(hm:Dq op b=false):QT X (.Compare a [op] [b] pos) (Xef (tOp r ta tb)):=⟨Xmx ho ha.out hb.out hm⟩
theorem Xuz {op:BoolOp}(h:QE X a ta):QE X (.BoolOp op [a] pos) ta:=⟨Xsp h.out⟩
theorem Xtj (ha:QE X a ta)(hb:QE X (.BoolOp .And (b::rest) pos) tb):QE X (.BoolOp .And (a::b::rest) pos) (Xfx ta tb):=⟨Xto ha.out hb.out⟩
theorem Xru (ha:QE X a ta):QE X (.UnaryOp .Not a pos) (Xhm ta):=⟨Xre ha.out⟩
theorem Xez (hc:QT X c tA)(ha:QE X a ta)(hb:QE X b tb):QE X (.IfExp c a b pos) (tIf tA ta tb):=⟨Xcs hc.out ha.out hb.out⟩
theorem Xuo (h:QE X e te)(he:∀whole,isTrue e X.env whole=(do let v <- whole;Fi e.pos;CZ [v] (II v)):=by intro _;rfl):QT X e (tB te):=⟨Xuu h.out he⟩
theorem Xri (ha:QT X a tA):QT X (.UnaryOp .Not a pos) (tNot tA):=⟨Xvy ha.out⟩
theorem Xma (ha:QT X a tA):QW X (.BoolOp .And [a] pos) tA:=⟨Xot ha.out⟩
theorem Xsz (ha:QT X a tA):QW X (.BoolOp .Or [a] pos) tA:=⟨Xwx ha.out⟩
theorem Xua (ha:QT X a tA)(hb:QW X (.BoolOp .And (b::rest) pos) tB'):QW X (.BoolOp .And (a::b::rest) pos) (tAnd tA tB'):=⟨Xse ha.out hb.out⟩
theorem qw_or (ha:QT X a tA)(hb:QW X (.BoolOp .Or (b::rest) pos) tB'):QW X (.BoolOp .Or (a::b::rest) pos) (tOr tA tB'):=⟨pw_or ha.out hb.out⟩
theorem qt_w (h:QW X a tA):QT X a tA:=⟨h.out.pt⟩
theorem Zjw:QA X [] Zmw:=⟨Zrp⟩
theorem Zbb (ha:QE X e te)(hr:QA X es t)(hs:Af (e::es) X.env=(false,eval e X.env)::Af es X.env):QA X (e::es) (Jz te t):=⟨Zir ha.out hr.out hs⟩
theorem Xim (h:QA X es t):QE X (.Tuple es x1 pos) (Xwd t):=⟨Xtb h.out⟩
theorem Xif (h:QA X es t):QE X (.List es pos) (Xqd t):=⟨Xwy h.out⟩
theorem Xwa {r:R2}(hr:IxR X r)(ha:QE X a ta)(hb:QE X b tb)(hs:Zbo b):QE X (.Subscript a b pos) (tOp r ta tb):=⟨pe_ix hr ha.out hb.out hs⟩
theorem Xjp:QO X none Zls:=⟨Xme⟩
theorem Xjv (h:QE X e te):QO X (some e) (Xcr te):=⟨Xph h.out⟩
theorem Zrz {r:V->Option Int->Option Int->Hp->VK->Prop}{tl th:TO}(hr:SlR X r)(he:QE X e te)(hl:QO X lo tl)(hu:QO X hi th):QE X (.Subscript e (.Slice lo hi none p2) pos) (tSl r te tl th):=⟨Xfa hr he.out hl.out hu.out⟩
theorem Xsr (he:QE X e te)(hst:QE X st ts):QE X (.Subscript e (.Slice none none (some st) p2) pos) (tRev X.K te ts):=⟨Xux he.out hst.out⟩
theorem Zsp {E:XK}(D:Def X.prog X.w X.K X.mg X.base CX k x ps sp)(hr:Zgr k X.A)(hg:Gl X x)(hx:Zih CX X E)
  (ha:QA X (e::es) t) (hdb:(x==("__debug__":Str))=false:=by decide) (he:Af (e::es) X.env=(false,eval e X.env)::Af es X.env:=by rfl) (hpl:(BU pos (Af es X.env)).any (·.1)=false:=by rfl) :
  QE X (.Call (.Name x p) (e::es) [] pos) (Zmv sp [] E t):=⟨Xhf D hr hg hx ha.out hdb he hpl⟩
theorem Zkn {id:String}(hc:Jy X (.builtin id) r)(hg:Gl X x)(hm:X.mg x=none)(hv:Ck x=some (.builtin id))(ha:QA X (e::es) t)(hn:x≠"__name__":=by decide)(hdb:(x==("__debug__":Str))=false:=by decide)
  (he:Af (e::es) X.env=(false,eval e X.env)::Af es X.env:=by rfl) (hpl:(BU pos (Af es X.env)).any (·.1)=false:=by rfl):QE X (.Call (.Name x p) (e::es) [] pos) (tCB r t):=⟨Xdp hc hg hm hv ha.out hn hdb he hpl⟩
theorem Xcg (hc:Jy X (.type T) r)(hg:Gl X x)(hm:X.mg x=none)(hv:Ck x=some (.type T))(ha:QA X (e::es) t)(hn:x≠"__name__":=by decide)(hdb:(x==("__debug__":Str))=false:=by decide)
  (he:Af (e::es) X.env=(false,eval e X.env)::Af es X.env:=by rfl) (hpl:(BU pos (Af es X.env)).any (·.1)=false:=by rfl):QE X (.Call (.Name x p) (e::es) [] pos) (tCB r t):=⟨Zwk hc hg hm hv ha.out hn hdb he hpl⟩
theorem Xlf {id:String}{r:V->List V->Hp->VK->Prop}(pa:PlainAttrs T)(slot:Slot T name id)(hty:typeOf (.builtin id)=pure (.type "method_descriptor"))(hm:MtR X id r)(ho:QE X o to)(ha:QA X (e::es) t)
    (hbase:CW o name X.env (eval o X.env)=eval o X.env:=by rfl)
    (hfew:((BU cpos (Af (e::es) X.env)).all (fun x=>!x.1)&&(EL cpos (DD [] X.env)).all (fun x=>x.1.isSome)
      && decide ((e::es).length+([]:List CM).length+(if ([]:List CM).isEmpty then 0 else 1)<30))=true:=by rfl)
    (hline:(apos.endLine==cpos.line)=true:=by rfl) (hs:Af (e::es) X.env=(false,eval e X.env)::Af es X.env:=by rfl) (hplain:(BU cpos (Af es X.env)).any (·.1)=false:=by rfl) :
    QE X (.Call (.Attribute o name apos) (e::es) [] cpos) (tBM X.K T r to t):=⟨pe_bm pa slot hty hm ho.out ha.out hbase hfew hline hs hplain⟩
theorem Zlx {i:Nat}(hN:X.N.Nodup)(hi:X.N[i]?=some x)(hx:Loc X.env.scope x)(hf:autoParam (X.fn x=true\/X.env.scope.names.lookup x=some .local) aT0._auto_1):QG X (.Name x pos) (Zas i):=⟨Xlr hN hi hx hf⟩
theorem Zqx (hc:X.calm=true)(h:QGs X es tt)(hn:(AV es X.env).length=n:=by rfl)(hst:(AV es X.env).findIdx? (·.1)=none:=by rfl):QG X (.Tuple es k pos) (Zfa X.K n tt):=⟨Xwl hc h.out hn hst⟩
theorem Zle:QGs X [] Xci:=⟨Xlw⟩
theorem Zgz {tt:TG}{u:TGs}(h1:QG X e tt)(h2:QGs X es u)(hs:(AV (e::es) X.env).map (·.2)=Dg e X.env::(AV es X.env).map (·.2):=by rfl):QGs X (e::es) (Zji tt u):=⟨Xeu h1.out h2.out hs⟩
theorem Xon (hl:QE X e te):QI X tg e (Xgi X.K te):=⟨Xkn hl.out⟩
theorem Xai (hg:Gl X "range")(hm:X.mg "range"=none)(ha:QA X [a] t)(hs:Af [a] X.env=[(false,eval a X.env)]:=by rfl):QI X tg (.Call (.Name "range" p) [a] [] pos) (Xdx t):=⟨Xbn hg hm ha.out hs⟩
theorem Zxn (hg:Gl X "range")(hm:X.mg "range"=none)(ha:QA X [a,b] t)(hs:Af [a,b] X.env=[(false,eval a X.env),(false,eval b X.env)]:=by rfl)(hs2:Af [b] X.env=[(false,eval b X.env)]:=by rfl):QI X tg (.Call (.Name "range" p) [a,b] [] pos) (Xcy t):=⟨Xcd hg hm ha.out hs hs2⟩
variable {ss other:List Stmt}{u v:TS}
theorem Zxi:QSs X [] Zva:=⟨Xmw⟩
theorem Zqv (h1:QS X s1 u)(h2:QSs X ss v):QSs X (s1::ss) (Xpz u v):=⟨Xey h1.out h2.out⟩
theorem Zqo (h1:QS X s1 u):QSs X [s1] u:=⟨Xnp h1.out⟩
theorem Xei:QS X s1 Ztm:=⟨Xho⟩
theorem Zja (he:QE X e te)(hs:Cs e none pos.line X.env=pure false:=by rfl):QS X (.Expr e pos) (Zgl te):=⟨Xou he.out hs⟩
theorem Xic (he:QE X e te):QS X (.Return (some e) pos) (Xpw te):=⟨Xrj he.out⟩
theorem Xrt (hc:QT X c tA)(ha:QSs X body u)(hb:QSs X other v):QS X (.If c body other pos) (Xqc tA u v):=⟨ps_if hc.out ha.out hb.out⟩
theorem Xan {g:TG}(he:QE X e te)(hg:QG X tg g)(hs:EW [tg] e pos.line X.env=pure false:=by rfl)(hw:EX [tg] e X.env=pure none:=by rfl)(h1:(AV [tg] X.env).map (·.2)=[Dg tg X.env]:=by rfl):QS X (.Assign [tg] e pos) (Zjr te g):=⟨Xvw he.out hg.out hs hw h1⟩
theorem Zzp {i:Nat}(hN:X.N.Nodup)(hi:X.N[i]?=some x)(hx:Loc X.env.scope x)(he:QE X e te)(hs:Cs e (some (.Name x pos')) pos.line X.env=pure false:=by rfl)(hf:autoParam (X.fn x=true\/X.env.scope.names.lookup x=some .local) aT0._auto_1) :
  QS X (.Assign [.Name x pos'] e pos) (Zjr te (Zas i)):=⟨Xuy hN hi hx he.out hs hf⟩
theorem Xje {g:TG}(hp:IB (model X.prog X.w) X.A X.env X.xe)(hc:X.calm=true)(hi:QI X tg iter wi)(hg:QG X tg g)(hb:QSs X body u)(hs:∀x,Bt iter X.env x=pure x:=by intro _;rfl):QS X (.For tg iter body [] pos) (Xqg wi g u):=⟨Xsw hp hc hi.out hg.out hb.out hs⟩
end
theorem Fun.okQ (F:Fun K x qual st f fd)(S:Xg N ps (Zn st))(len:∀vs H Q E,sp vs H Q E->vs.length=ps.length)
    (hbody:∀(cdv:Value) (A:BE) (outer:List Env) (s:Ah) (H:Hp) (vs:List V) (Q:VK) (E:XK),Zgr k (A.deeper (EZ qual (Zn st) s.heap.objs.size f cdv))->sp vs H Q E->
      ∃t,QSs (Xga CX0 P w K mg base N qual (Zn st) f cdv A outer s H E).nox (Zab st) t/\t {nx:=fun _ H'=>Q .non H',rt:=Q} (start N vs) H):Zbe P w K mg base CX0 (k+1) f fd ps sp:=
  F.ok S len fun cdv A outer s H vs Q E hr h=>by obtain ⟨t,ht,q⟩:=hbody cdv A outer s H vs Q E hr h;exact ⟨t,ht.out,q⟩
@[reducible] def Cx.blk (X:Cx)(N2:List Str)(x:Str)(sc:Scope)(cl:List (Str×Addr))(C:Addr)(s0:Ah)(H0:Hp)(fp:List Addr):Cx:=
 {X with N:=N2++[x],s₀:=s0,H₀:=H0,env:=HC sc cl C X.env,outer:=X.stack,ex:=fp,fn:=fun _=>false,pn:=[],xe:=fun _ _=>False}
structure BlkOk (sc esc:Scope)(x:Str)(N N2:List Str):Prop where
 kind:sc.kind=.function
 cell:∀y∈sc.names,y.2≠.cell
 loc:∀y∈sc.names,y.2=.local->sc.names.lookup y.1=some .local
 own:sc.names.lookup x=some .local
 free:∀y∈sc.names,y.2=.free->esc.names.lookup y.1=some .cell\/esc.names.lookup y.1=some .free
 out:∀y∈N2,sc.names.lookup y≠some .local
 nd:N.Nodup
 nd2:N2.Nodup
 len:N2.length=N.length
 ren:∀p∈N.zip N2,p.2=p.1\/sc.names.lookup p.2=none
theorem lookup_mem {l:List (Str×C3)}{k:C3}(h:(y,k)∈l):l.lookup y≠none:=by
 induction l with
 | nil=>simp at h
 | cons p r ih =>
  obtain ⟨n,k'⟩:=p;cases hy:y==n with
  | true=>rw [Bo,hy];simp
  | false =>rw [Bo,hy];rcases An.mp h with e | e;cases e;simp at hy;exact ih e
def Yu (cells:List (Str×Addr)):List (Str×C3)->List (Str×Addr)->List (Str×Addr)
 | [],cs=>cs
 | (n,k)::r,cs=>Yu cells r (if k=.free then (n,(cells.lookup n).getD 0)::cs else cs)
theorem Zdj {sc:Scope}(h:∀y∈sc.names,y.2=.free->∃c,env.cells.lookup y.1=some c):Kr sc env=pure (Yu env.cells sc.names []):=by
  unfold Kr;generalize sc.names=l at h ⊢;have key:∀(l:List (Str×C3)) (cs:List (Str×Addr)),(∀y∈l,y.2=.free->∃c,env.cells.lookup y.1=some c)->
      (forIn l cs fun (y:Str×C3) (r:List (Str×Addr))=>(do
        let (name,kind):=y
        if kind==.free then
          let c <- cellOf env name
          pure (EE ((name,c)::r))
        else pure (EE r):Sem (ForInStep (List (Str×Addr)))))=pure (Yu env.cells l cs):=by
    intro l
    induction l with
    | nil=>intro cs _;rfl
    | cons y r ih =>
      intro cs hy;obtain ⟨n,k⟩:=y;rw [Gx];have hr:∀y∈r,y.2=.free->∃c,env.cells.lookup y.1=some c:=fun y h'=>hy y (Cy _ h');by_cases hk:k=.free;subst hk;obtain ⟨c,hc⟩:=hy _ Do rfl;have e:cellOf env n=pure c:=by unfold cellOf;rw [show env.cells.lookup n=some c from hc]
      simp only [beq_self_eq_true,if_true,e];rw [Yu,if_pos rfl,show env.cells.lookup n=some c from hc];exact ih _ hr;have hb:(k==Cp)=false:=by simpa using hk
      rw [Yu,if_neg hk];simp only [hb,if_false,Bb];exact ih _ hr
  have q:=key l [] h;exact (congrArg (fun z:Sem (List (Str×Addr))=>z >>= fun r=>pure r) q).trans rfl
theorem Zoe {cells:List (Str×Addr)}:∀{l:List (Str×C3)} {cs:List (Str×Addr)} {y:Str} {c:Addr},(∀z∈l,z.2=.free->∃c,cells.lookup z.1=some c)->(∀c,cs.lookup y=some c->cells.lookup y=some c)->
  (Yu cells l cs).lookup y=some c->cells.lookup y=some c
 | [],_,_,_,_,h0,h=>h0 _ h
 | (n,k)::r,cs,y,c,hl,h0,h=>by
  rw [Yu] at h;refine Zoe (l:=r) (fun z hz=>hl z (Cy _ hz)) (fun c' hc'=>?_) h;by_cases hk:k=.free;rw [if_pos hk] at hc';obtain ⟨c0,e0⟩:=hl _ Do hk;cases hy:y==n with
  | true =>
   have e:y=n:=by simpa using hy
   subst e;rw [Bo,hy] at hc';have e1:(cells.lookup y).getD 0=c':=by simpa using hc'
   have e2:cells.lookup y=some c0:=e0;rw [e2] at e1 ⊢;simpa using e1
  | false =>rw [Bo,hy] at hc';exact h0 _ hc'
  rw [if_neg hk] at hc';exact h0 _ hc'
theorem Zoh {cells:List (Str×Addr)}:∀{l:List (Str×C3)} {cs:List (Str×Addr)} {y:Str},(∃c,cs.lookup y=some c)->∃c,(Yu cells l cs).lookup y=some c
 | [],_,_,h=>h
 | (n,k)::r,cs,y,h=>by
  rw [Yu];refine Zoh ?_;split;cases hy:y==n with
  | true=>exact ⟨_,by rw [Bo,hy]⟩
  | false=>rw [Bo,hy];exact h
  exact h
theorem Zlw {cells:List (Str×Addr)}:∀{l:List (Str×C3)} {cs:List (Str×Addr)} {y:Str},(y,Cp)∈l->∃c,(Yu cells l cs).lookup y=some c
 | (n,k)::r,cs,y,h=>by rw [Yu];rcases An.mp h with e | e;cases e;refine Zoh ?_;rw [if_pos rfl];exact ⟨_,by rw [Bo,beq_self_eq_true]⟩;exact Zlw e
theorem Zcj {env:Env}:∀{names:List (Str×C3)} {y:Str} {k:C3},(∀z∈names,z.2≠.cell)->(k=.cell\/k=.free)->
  (names.map fun (n,k)=>if (k==Cp&&env.scope.kind==.function&&env.kindOf n==some .cell) then (n,IT) else (n,k)).lookup y=some k->(y,Cp)∈names
 | [],_,_,_,_,hz=>by simp at hz
 | (n,k0)::r,y,k,hc,hk,h=>by
  rw [Bn] at h;cases hy:y==n with
  | true =>
   have e:y=n:=by simpa using hy
   subst e;by_cases hf:k0=.free;subst hf;exact Do;have hb:(k0==Cp)=false:=by simpa using hf
   simp only [hb,Km,Bb,if_false,Bo,beq_self_eq_true] at h;have e1:k0=k:=by simpa using h
   subst e1;rcases hk with z | z;exact absurd z (hc _ Do);exact absurd z hf
  | false =>refine Cy _ (Zcj (env:=env) (k:=k) (fun z hz=>hc z (Cy _ hz)) hk ?_);by_cases hc':(k0==Cp&&env.scope.kind==.function&&env.kindOf n==some .cell)=true;simp only [hc',if_true,Bo,hy] at h;exact h;simp only [hc',Bb,if_false,Bo,hy] at h;exact h
theorem Ziy {env:Env}:∀{names:List (Str×C3)} {y:Str},
  (names.map fun (n,k)=>if (k==Cp&&env.scope.kind==.function&&env.kindOf n==some .cell) then (n,IT) else (n,k)).lookup y=some .local->names.lookup y=some .local
 | [],_,h=>by simp at h
 | (n,kn)::r,y,h=>by
  rw [Bn] at h;cases hy:y==n with
  | true =>rw [Bo,hy];by_cases hc:(kn==Cp&&env.scope.kind==.function&&env.kindOf n==some .cell)=true;simp only [hc,if_true,Bo,hy] at h;cases h;simp only [hc,Bb,if_false,Bo,hy] at h;exact h
  | false =>rw [Bo,hy];refine Ziy (env:=env) ?_;by_cases hc:(kn==Cp&&env.scope.kind==.function&&env.kindOf n==some .cell)=true;simp only [hc,if_true,Bo,hy] at h;exact h;simp only [hc,Bb,if_false,Bo,hy] at h;exact h
section
variable {R:Kt->Ah->Prop}
def Xbi (ifs:List Expr)(env:Env):Sem Bool:=forIn ifs true fun c r=>if r=true then do let ok <- isTrue c env (eval c env);pure (EE ok) else pure (EE r)
theorem Zud {it ac:Value}(W:Nat->Ah->Prop)
    (turn:∀n s,W n s->wpAny (model P w) A (pyNext it) (fun r s₁=>match r with
      | none=>R (.ok .next) s₁
      | some v=>wpAny (model P w) A (letOwnedTupleGo tg it v) (fun _ s₁'=>wpAny (model P w) A (Dg tg env v) (fun _ s₂ =>
          wpAny (model P w) A (Xbi ifs env) (fun ok s₃ =>
            if ok=true then wpAny (model P w) A (eval elt env) (fun z s₄ =>
              wpAny (model P w) A (call (.builtin "list.append") [ac,z]) (fun _ s₅=>∃m,m<n/\W m s₅) (fun _ _=>False) s₄) (fun _ _=>False) s₃
            else ∃m,m<n/\W m s₃) (fun _ _=>False) s₂) (fun _ _=>False) s₁') (fun _ _=>False) s₁) (fun _ _=>False) s)
    (n:Nat) (h:W n s) :
    codeAny (model P w) A (.compLoop (.ListComp elt [⟨tg,iter,ifs,0⟩] scope pos) 0 it ac env) R s:=by
  refine codeAny_loop rfl W (fun n s hI=>?_) n h;show wpAny _ A ((compTurn (.ListComp elt [⟨tg,iter,ifs,0⟩] scope pos) 0 it ac env).onRaise (fun z=>do noteFrame z env;theTreesLotGoes z)) _ _ s;refine wpAny_noted ?_;rw [compTurn_list];refine Aa (Ge (Aa (Cw (turn n s hI) (fun r s₁ h₁=>?_) fun _ _ h'=>h'.elim)));cases r with
  | none=>exact Ac h₁
  | some v =>
    refine Aa (Cw h₁ (fun _ s₁' h₁'=>?_) fun _ _ h'=>h'.elim);refine Aa (Cw h₁' (fun _ s₂ h₂=>Aa (Cw h₂ (fun ok s₃ h₃=>?_) fun _ _ h'=>h'.elim)) fun _ _ h'=>h'.elim);cases ok with
    | false=>exact Ac (And.intro rfl h₃)
    | true =>exact Aa (Aa (Cw h₃ (fun x s₄ h₄=>Aa (Cw h₄ (fun _ s₅ h₅=>Ac (Ac ⟨rfl,h₅⟩)) fun _ _ h'=>h'.elim)) fun _ _ h'=>h'.elim))
end
def PIf (X:Cx)(ifs:List Expr)(t:TT):Prop:=
 ∀(pins:List (Addr×Obj)) (s:Ah) (σ:St) (H:Hp) (Q:Bool->Hp->Prop),Inv X pins σ H s->t σ H Q->wpAny (model X.prog X.w) X.A (Xbi ifs X.env) (TP X pins σ Q) X.xe s
def tYes:TT:=fun _ H Q=>Q true H
theorem Xpm :PIf X [] tYes:=fun _ _ _ H _ I h=>Ac ⟨H,I,h⟩
section
variable {sc:Scope}
end
structure QIf (X:Cx)(ifs:List Expr)(t:TT):Prop where
 out:PIf X ifs t
section
variable {c:Expr}{sc:Scope}
theorem Xmc:QIf X [] tYes:=⟨Xpm⟩
variable {a D:Addr}{R:Hp->Prop}
end
@[reducible] def Cx.blkN (X:Cx)(N2 xs:List Str)(sc:Scope)(cl:List (Str×Addr))(C:Addr)(s0:Ah)(H0:Hp)(fp:List Addr):Cx:=
 {X with N:=N2++xs,s₀:=s0,H₀:=H0,env:=HC sc cl C X.env,outer:=X.stack,ex:=fp,fn:=fun _=>false,pn:=[],xe:=fun _ _=>False}
structure Xch (sc esc:Scope)(xs N N2:List Str):Prop where
 kind:sc.kind=.function
 cell:∀y∈sc.names,y.2≠.cell
 loc:∀y∈sc.names,y.2=.local->sc.names.lookup y.1=some .local
 free:∀y∈sc.names,y.2=.free->esc.names.lookup y.1=some .cell\/esc.names.lookup y.1=some .free
 out:∀y∈N2,sc.names.lookup y≠some .local
 nd:N.Nodup
 len:N2.length=N.length
 ren:∀p∈N.zip N2,p.2=p.1\/sc.names.lookup p.2=none
def Zen (k:Nat)(g:TG)(wi:TI)(tc:TT)(te:TE):TE:=fun σ H Q=>wi σ H fun J H1=>∀D,H1 D=none->∃W:Nat->Nat->Hp->Prop,(∃m,W 0 m (upd H1 D (.lst [])))/\∀i m H,W i m H->
  (J.stop i H/\Q (.ref D) H)\/(J.go i H/\∃N:Hp->Prop,(∀H',N H'->∃m',m'<m/\W (i+1) m' H')/\∀x H',J.yld i H x H'->∀os:St,os.length=k->g x (σ++os) H' fun σ' Hg=>(∃os',os'.length=k/\σ'=σ++os')/\tc σ' Hg fun b H2 =>
    if b=true then te σ' H2 fun v H3=>∃ys,H3 D=some (.lst ys)/\ys.length<Aw/\N (upd H3 D (.lst (ys++[v])))
    else N H2)
section
variable {xs:List Str}{g:TG}{sc:Scope}
theorem Zub {s1:Ah}(B:Xch sc X.env.scope xs X.N N2)(I:Inv X pins σ H s)(hf:∀b∈fp,Zuv X pins H b)
    (hfl:∀b∈fp,b<s.heap.objs.size) (hn:h'.Ns s.heap.objs.size m) (hk:∀b o,s.heap.get? b=some o->h'.get? b=some o) (e1:s1={s with heap:=h',toks:=tk}) :
    Inv (X.blkN N2 xs sc (Yu X.env.cells sc.names []) s.heap.objs.size s H fp) [] (σ++Ab xs.length none) H s1:=by
  subst e1;have hcl:∀y∈sc.names,y.2=.free->∃c,X.env.cells.lookup y.1=some c:=fun y hy hf=>I.ok.has y.1 (B.free y hy hf);have look:∀y c,(Yu X.env.cells sc.names []).lookup y=some c->X.env.cells.lookup y=some c:=fun y c h=>Zoe hcl (fun _ z=>by simp at z) h;have isfree:∀y,(IL sc X.env).names.lookup y=some .cell\/(IL sc X.env).names.lookup y=some .free->(y,Cp)∈sc.names:=fun y hy=>by rcases hy with hy | hy;exact Zcj (env:=X.env) B.cell (.inl rfl) hy;exact Zcj (env:=X.env) B.cell (.inr rfl) hy
  refine ⟨⟨I.ok.mod,B.kind,I.ok.glob,I.ok.blt,Ax _,fun y z c h1 h2=>I.ok.inj y z c (look y c h1) (look z c h2),fun y hy=>Zlw (isfree y hy),fun _ _ h=>(by cases h),I.ok.hd,I.ok.frames,.inl rfl,fun b hb=>?_,fun b o e=>?_,AC I.ok.bsz I.sz,fun b o e hb=>?_,fun b hb hs=>?_,I.stack,I.stkFree⟩,
    rfl,I.bare,Un.kept hk,⟨_,hn,fun i y v h1 h2 h3=>?_⟩,fun y c h=>?_,I.hok.fresh (Ax _),fun y c h=>I.freeC y c (look y c h),fun p hp=>absurd (show p∈([]:List (Addr×Obj)) from hp) (by simp),I.hok.kept hk,?_⟩
  exact ⟨BD (hfl b hb),fun y c h=>(hf b hb).2.2.2.2.1 y c (look y c h)⟩;exact I.bs b o e;rcases (hf b hb).2.2.2.1 with z | z;exact I.ok.noex b o e z;exact absurd (AF (AW e) (AC I.ok.bsz z)) (Bh _);rcases An.mp (I.stkSub b hs) with z | z;exact (hf b hb).2.1 z;exact (hf b hb).2.2.1 z;have hlen:=I.len;have hl2:=B.len;have h1:(N2++xs)[i]?=some y:=h1;have h2:(σ++Ab xs.length none)[i]?=some (some v):=h2;have hi:i<X.N.length:=by by_cases hi:i<X.N.length;exact hi;rw [AR (by omega)] at h2;have hm:=Al h2;rw [EY] at hm;exact absurd hm.2 (by intro z;cases z)
  rw [AH (by omega)] at h1;rw [AH (by omega)] at h2;have h3':(IL sc X.env).names.lookup y=some .cell\/(IL sc X.env).names.lookup y=some .free:=by rcases h3 with z | z;exact absurd (Ziy (env:=X.env) z) (B.out y (Al h1));exact z
  have hfr:=isfree y h3';have h1:X.N[i]?=some y:=by obtain ⟨z,hz⟩:∃z,X.N[i]?=some z:=⟨X.N[i],Ad hi⟩;rcases B.ren (z,y) (Al (Ez.mpr ⟨hz,h1⟩)) with e | e;rw [hz,show y=z from e];exact absurd e (lookup_mem hfr)
  obtain ⟨m3,hn3,hl3⟩:=I.loc;have hv:X.env.scope.names.lookup y=some .cell\/X.env.scope.names.lookup y=some .free:=B.free (y,.free) hfr rfl;obtain ⟨u,ru,lk⟩:=hl3 i y v h1 h2 (.inr hv);refine ⟨u,ru,.inr ⟨h3',?_⟩⟩;rcases lk with ⟨k1,_⟩ | ⟨k1,c,ec,zc⟩;rcases hv with q | q;rw [show X.env.kindOf y=X.env.scope.names.lookup y from rfl,q] at k1;cases k1;rw [show X.env.kindOf y=X.env.scope.names.lookup y from rfl,q] at k1;cases k1;obtain ⟨c',e'⟩:=Zlw (cells:=X.env.cells) (cs:=[]) hfr;have e2:=look y c' e';rw [ec] at e2;cases e2;obtain ⟨o,ho,hd⟩:=zc;exact ⟨c,e',o,hk _ _ ho,hd⟩;obtain ⟨v,o,ho,hd⟩:=I.cell y c (look y c h);exact ⟨v,o,hk _ _ ho,hd⟩;show (σ++Ab xs.length none).length=(N2++xs).length;rw [Ai,Ai,I.len,B.len,Cg]
def Tk (H H':Hp):Prop:=∀b p q,H b=some (.tbl p q)->H' b=some (.tbl p q)
theorem Ztd {J:It}(hc:X.calm=true)(B:Xch sc X.env.scope xs X.N N2)
    (hg:∀cl C s0 H0 fp,Tk X.H₀ H0->PG (X.blkN N2 xs sc cl C s0 H0 fp) tg g) (ht:∀cl C s0 H0 fp,Tk X.H₀ H0->PIf (X.blkN N2 xs sc cl C s0 H0 fp) ifs tc) (he:∀cl C s0 H0 fp,Tk X.H₀ H0->PE (X.blkN N2 xs sc cl C s0 H0 fp) elt te)
    (I2:Inv X pins σ H2 s2) (T:Turn X.prog X.w X.K tg J fp it tn) (st2:tn 0 s2.heap) (f2:∀b∈fp,Zuv X pins H2 b)
    (hw:∀D,H2 D=none->∃W:Nat->Nat->Hp->Prop,(∃m,W 0 m (upd H2 D (.lst [])))/\∀i m H,W i m H->
      (J.stop i H/\Q (.ref D) H)\/(J.go i H/\∃N:Hp->Prop,(∀H',N H'->∃m',m'<m/\W (i+1) m' H')/\∀x H',J.yld i H x H'->∀os:St,os.length=xs.length->g x (σ++os) H' fun σ' Hg=>(∃os',os'.length=xs.length/\σ'=σ++os')/\tc σ' Hg fun b H2 =>
        if b=true then te σ' H2 fun v H3=>∃ys,H3 D=some (.lst ys)/\ys.length<Aw/\N (upd H3 D (.lst (ys++[v])))
        else N H2))
    (fin:∀(D C:Addr) (H':Hp) (s':Ah) (m:Str->Option Value),Inv X pins σ H' s'->s'.heap.Ns C m->Zuv X pins H' C->Q (.ref D) H'->RR (.ref D) C (.ok .next) s') :
    wpAny (model X.prog X.w) X.A (newList []) (fun acc s₃=>wpAny (model X.prog X.w) X.A (newFunctionEnv sc X.env.globals (Yu X.env.cells sc.names []) [] X.env.qual none .none (some X.env)) (fun cenv s₄ =>
      codeAny (model X.prog X.w) X.A (.compStart (.ListComp elt [⟨tg,iter,ifs,0⟩] sc pos) 0 (.ref it) acc {cenv with scope:=IL sc X.env}) (RR acc cenv.locals) s₄) E s₃) E s2:=by
  refine A5 (wpAny_newFunctionEnv B.cell (by intro y hy;simp at hy) (fun h₁ hns₁ hsb₁=>?_) B.kind);have hD:H2 s2.heap.objs.size=none:=I2.fresh;obtain ⟨W,⟨m0,w0⟩,turn⟩:=hw _ hD;have I3:Inv X pins σ (upd H2 s2.heap.objs.size (.lst [])) {s2 with heap:=s2.heap.push {cls:=.type "list",data:=.seq ([]:List Value).toArray}}:=I2.lnew (its:=[]) (t':=s2.toks) .nil (Dt _);have fne:∀b∈fp,b<s2.heap.objs.size:=fun b hb=>by obtain ⟨o,ho,_⟩:=T.obj _ _ st2 b hb;exact AW ho
  generalize hs3:({s2 with heap:=s2.heap.push {cls:=.type "list",data:=.seq ([]:List Value).toArray}}:Ah)=s3 at I3;have hs3h:s3.heap=s2.heap.push {cls:=.type "list",data:=.seq ([]:List Value).toArray}:=by rw [<- hs3]
  have f3:∀b∈fp,Zuv X pins (upd H2 s2.heap.objs.size (.lst [])) b:=fun b hb=>⟨by rw [Xa (BD (fne b hb))];exact (f2 b hb).1,(f2 b hb).2⟩;have fl3:∀b∈fp,b<s3.heap.objs.size:=fun b hb=>by rw [hs3h,E9];exact Dp (fne b hb)
  have keep3:∀b o,s3.heap.get? b=some o->h₁.get? b=some o:=fun b o e=>by rw [hs3h] at e;refine hsb₁.extBut b o ?_ (Ae _ e);exact BD (AW e)
  have hns3:h₁.Ns s3.heap.objs.size (fun z=>([]:List (Str×Value)).reverse.lookup z):=by rw [hs3h];exact hns₁
  have I4:=Zub (xs:=xs) (sc:=sc) (s1:={s3 with heap:=h₁,toks:=s3.toks+([]:List (Str×Value)).length}) B I3 f3 fl3 hns3 keep3 rfl;have st4:tn 0 h₁:=T.keep _ _ _ st2 fun b hb o e=>keep3 b o (by rw [hs3h];exact Ae _ e);have stat:∀{H':Hp},(∀b∈fp,H' b=none)->∀b∈fp,Zuv (X.blkN N2 xs sc (Yu X.env.cells sc.names []) s3.heap.objs.size s3 (upd H2 s2.heap.objs.size (.lst [])) fp) [] H' b:=fun hn b hb =>
    ⟨hn b hb,(I4.ok.exf b hb).1,I4.ok.exfs b hb,.inl hb,(I4.ok.exf b hb).2,fun p hp=>absurd (show p∈([]:List (Addr×Obj)) from hp) (by simp)⟩
  have tk:Tk X.H₀ (upd H2 s2.heap.objs.size (.lst [])):=fun b p q h=>I3.base.tbls b p q h;have loop:∀s4:Ah,s4={s3 with heap:=h₁,toks:=s3.toks+([]:List (Str×Value)).length}->
      codeAny (model X.prog X.w) X.A (.compLoop (.ListComp elt [⟨tg,iter,ifs,0⟩] sc pos) 0 (.ref it) (.ref s2.heap.objs.size) (HC sc (Yu X.env.cells sc.names []) s3.heap.objs.size X.env)) (RR (.ref s2.heap.objs.size) s3.heap.objs.size) s4:=by
    rintro s4 rfl;refine Zud (fun n s'=>∃(i:Nat) (o:St) (H':Hp),o.length=xs.length/\Inv (X.blkN N2 xs sc (Yu X.env.cells sc.names []) s3.heap.objs.size s3 (upd H2 s2.heap.objs.size (.lst [])) fp) [] (σ++o) H' s'/\tn i s'.heap/\(∀b∈fp,H' b=none)/\W i n H') ?_ m0
      ⟨0,Ab xs.length none,_,by simp,I4,st4,fun b hb=>(f3 b hb).1,w0⟩
    rintro n s5 ⟨i,o,H5,ol5,I5,st5,fr5,w5⟩;rcases turn i n H5 w5 with ⟨stop,qn⟩ | ⟨go,N,hN,step⟩;refine thn (T.done (X.blkN N2 xs sc (Yu X.env.cells sc.names []) s3.heap.objs.size s3 (upd H2 s2.heap.objs.size (.lst [])) fp) rfl rfl rfl hc i [] s5 (σ++o) H5 _ I5 (stat fr5) st5 stop) fun r s6 ⟨hr,I6⟩=>?_;subst hr;obtain ⟨m6,hn6,_⟩:=I6.loc;refine fin _ _ H5 s6 m6 ?_ hn6 (I3.fpOk (Ax _) I6.free) qn;exact I3.call' (ch:=fp) I6.os I6.base I6.hok I6.bare fun b hb=>⟨(f3 b hb).2.2.2.1,(f3 b hb).2.1,(f3 b hb).2.2.2.2.1,(f3 b hb).2.2.2.2.2⟩;refine thn (T.item (X.blkN N2 xs sc (Yu X.env.cells sc.names []) s3.heap.objs.size s3 (upd H2 s2.heap.objs.size (.lst [])) fp) rfl rfl rfl hc i [] s5 (σ++o) H5 _ I5 (stat fr5) st5 go) fun r s6 ⟨u,hr,h6⟩=>?_;subst hr;refine thn h6 fun _ s7 hz9=>?_;obtain ⟨v,H7,I7,r7,y7,st7,fr7⟩:=hz9;have I7':=I7.pinned (stat fr7) (T.obj _ _ st7);refine thn (hg _ _ _ _ _ tk _ s7 _ H7 v u _ I7' r7 (step v H7 y7 o ol5)) fun _ s8 ⟨σ8,H8,I8,⟨os',ol8,e8⟩,q8⟩=>?_;subst e8;have KL:∀{H9:Hp} {s9:Ah},Inv (X.blkN N2 xs sc (Yu X.env.cells sc.names []) s3.heap.objs.size s3 (upd H2 s2.heap.objs.size (.lst [])) fp) ([]++Zof fp s7.heap) (σ++os') H9 s9->N H9->
        ∃m,m<n/\∃(i:Nat) (o:St) (H':Hp),o.length=xs.length/\Inv (X.blkN N2 xs sc (Yu X.env.cells sc.names []) s3.heap.objs.size s3 (upd H2 s2.heap.objs.size (.lst [])) fp) [] (σ++o) H' s9/\tn i s9.heap/\(∀b∈fp,H' b=none)/\W i m H':=fun {H9 s9} I9 n9=>by
      obtain ⟨m',hm,w9⟩:=hN H9 n9;refine ⟨m',hm,i+1,os',H9,ol8,I9.unpinned,T.keep _ _ _ st7 fun b hb o e=>(I9.pin (b,o) (As _ (As _ (Zdd hb e)))).1,fun b hb=>?_,w9⟩;obtain ⟨o,e,d⟩:=T.obj _ _ st7 b hb;exact (I9.pin (b,o) (As _ (As _ (Zdd hb e)))).2.1
    refine thn (ht _ _ _ _ _ tk _ s8 _ H8 _ I8 q8) fun ok s9 ⟨H9,I9,q9⟩=>?_;cases ok with
    | false =>rw [if_neg Aj] at q9 ⊢;exact KL I9 q9
    | true =>rw [if_pos rfl] at q9 ⊢;refine thn (he _ _ _ _ _ tk _ s9 _ H9 _ I9 q9) fun ue s10 hz9=>?_;obtain ⟨ve,H10,I10,r10,ys,hy,hz,q10⟩:=hz9;refine thn (Zeo _ s10 _ H10 (.ref s2.heap.objs.size) [ve] (.ref s2.heap.objs.size) [ue] (fun _ H'=>N H') I10 rfl (.cons r10 .nil) ⟨_,ys,ve,rfl,rfl,hy,hz,q10⟩) fun _ s11 hz9=>?_;obtain ⟨_,H11,I11,_,q11⟩:=hz9;exact KL I11 q11
  have fin':codeAny (model X.prog X.w) X.A (.compStart (.ListComp elt [⟨tg,iter,ifs,0⟩] sc pos) 0 (.ref it) (.ref s2.heap.objs.size) (HC sc (Yu X.env.cells sc.names []) s3.heap.objs.size X.env)) (RR (.ref s2.heap.objs.size) s3.heap.objs.size) {s3 with heap:=h₁,toks:=s3.toks+([]:List (Str×Value)).length}:=codeAny_compStart_list (loop _ rfl) (T.self _ 0 _ _ _ st4 (loop _ rfl));exact fin'
theorem Xed (hc:X.calm=true)(B:Xch sc X.env.scope xs X.N N2)(hi:PI X tg iter wi)(hg:∀cl C s0 H0 fp,Tk X.H₀ H0->PG (X.blkN N2 xs sc cl C s0 H0 fp) tg g)(ht:∀cl C s0 H0 fp,Tk X.H₀ H0->PIf (X.blkN N2 xs sc cl C s0 H0 fp) ifs tc)(he:∀cl C s0 H0 fp,Tk X.H₀ H0->PE (X.blkN N2 xs sc cl C s0 H0 fp) elt te)
  (hs:∀v,Bt iter X.env v=pure v:=by intro _;rfl):PE X (.ListComp elt [⟨tg,iter,ifs,0⟩] sc pos) (Zen xs.length g wi tc te):=by
 intro pins s σ H Q I h;rw [eval_ListComp];have hcl:∀y∈sc.names,y.2=.free->∃c,X.env.cells.lookup y.1=some c:=fun y hy hf=>I.ok.has y.1 (B.free y hy hf);refine Ie (use:=none) rfl hs (Zdj hcl) B.kind B.loc (thn (hi pins s σ H _ I h) fun v s1 h1=>thn h1 fun itv s2 h2=>?_);obtain ⟨it,fp,tn,J,H2,e,I2,T,st2,f2,hw⟩:=h2;subst e;refine Ztd (RR:=fun acc C=>compPost (model X.prog X.w) X.A X.xe none (EP X pins σ Q) acc C) hc B hg ht he I2 T st2 f2 hw ?_;intro D C H' s' m I' hn hC q;obtain ⟨c0,c1,c2,c3,c4,c5⟩:=hC;refine ⟨m,hn,fun h'' hs''=>⟨.ref D,H',?_,rfl,q⟩⟩;exact I'.turned (t':=s'.toks) (fun b o hb e=>hs''.extBut b o hb e) c0 c1 c3 c4 c5
theorem Xdy {i:Nat}(hc:X.calm=true)(B:Xch sc X.env.scope xs X.N N2)(hi:PI X tg iter wi)(hg:∀cl C s0 H0 fp,Tk X.H₀ H0->PG (X.blkN N2 xs sc cl C s0 H0 fp) tg g)(ht:∀cl C s0 H0 fp,Tk X.H₀ H0->PIf (X.blkN N2 xs sc cl C s0 H0 fp) ifs tc)(he:∀cl C s0 H0 fp,Tk X.H₀ H0->PE (X.blkN N2 xs sc cl C s0 H0 fp) elt te)
    (hy:X.N[i]?=some y) (hl:X.env.scope.names.lookup y=some .local) (hsw:Cs (.ListComp elt [⟨tg,iter,ifs,0⟩] sc pos) (some (.Name y py)) spos.line X.env=pure true:=by rfl)
    (hs:∀v,Bt iter X.env v=pure v:=by intro _;rfl):PS X (.Assign [.Name y py] (.ListComp elt [⟨tg,iter,ifs,0⟩] sc pos) spos) (Zjr (Zen xs.length g wi tc te) (Zas i)):=by
  intro pins s σ H D I h;have hx:=exec_Assign_Name_used (env:=X.env) _ _ _ _ hsw;rw [hx];refine Aa (Ge ?_);refine Aa ?_;show wpAny _ X.A (do let _ <- comprehension (.ListComp elt [⟨tg,iter,ifs,0⟩] sc pos) sc X.env _ (newList []) false (eval iter X.env) (some (Dg (.Name y py) X.env))) _ _ s;have hcl:∀y∈sc.names,y.2=.free->∃c,X.env.cells.lookup y.1=some c:=fun y hy hf=>I.ok.has y.1 (B.free y hy hf);refine Aa (Cw (Ie (use:=some (Dg (.Name y py) X.env)) (Q:=fun _ s'=>SP X pins D .next s') rfl hs (Zdj hcl) B.kind B.loc
    (thn (hi pins s σ H _ I h) fun v s1 h1=>thn h1 fun itv s2 h2=>?_)) (fun _ s' hq=>Ac (Ac hq)) fun _ _ e=>e)
  obtain ⟨it,fp,tn,J,H2,e,I2,T,st2,f2,hw⟩:=h2;subst e;refine Ztd (Q:=fun v H1=>Zas i v σ H1 D.nx) (RR:=fun acc C=>compPost (model X.prog X.w) X.A X.xe (some (Dg (.Name y py) X.env)) (fun _ s'=>SP X pins D .next s') acc C) hc B hg ht he I2 T st2 f2 hw ?_;intro E C H' s' m I' hn hC q;obtain ⟨c0,c1,c2,c3,c4,c5⟩:=hC;show wpAny _ X.A (Dg (.Name y py) X.env (.ref E)) _ _ _;refine KF (Zoo (v:=.ref E) I' B.nd hy (.inl hl) rfl (fun s8 I8 ⟨a,sb,ha⟩=>?_) (.inr hl));have hCa:C≠a:=by rcases ha with z | z;rw [z];exact c1;exact fun z'=>c4 _ _ z z'.symm
  refine ⟨m,hn.sameBut sb hCa,fun h'' hs''=>⟨_,H',?_,q⟩⟩;exact I8.turned (t':=s8.toks) (fun b o hb e=>hs''.extBut b o hb e) c0 c1 c3 c4 c5
end
section
variable {c:Expr}{xs:List Str}{sc:Scope}{g:TG}
theorem Zwa (esc:Scope)(N N2 xs:List Str)(B:Xch sc esc xs N N2)(hi:QI X tg iter wi)(hg:∀cl C s0 H0 fp,Tk X.H₀ H0->QG (X.blkN N2 xs sc cl C s0 H0 fp) tg g)(ht:∀cl C s0 H0 fp,Tk X.H₀ H0->QIf (X.blkN N2 xs sc cl C s0 H0 fp) ifs tc)(he:∀cl C s0 H0 fp,Tk X.H₀ H0->QE (X.blkN N2 xs sc cl C s0 H0 fp) elt te)
  (hesc:X.env.scope=esc:=by rfl) (hN:X.N=N:=by rfl) (hc:X.calm=true:=by rfl) (hs:∀v,Bt iter X.env v=pure v:=by intro _;rfl):QE X (.ListComp elt [⟨tg,iter,ifs,0⟩] sc pos) (Zen xs.length g wi tc te):=by
 subst hesc hN;exact ⟨Xed hc B hi.out (fun cl C s0 H0 fp z=>(hg cl C s0 H0 fp z).out) (fun cl C s0 H0 fp z=>(ht cl C s0 H0 fp z).out) (fun cl C s0 H0 fp z=>(he cl C s0 H0 fp z).out) hs⟩
theorem Xet (esc:Scope)(N N2 xs:List Str)(B:Xch sc esc xs N N2)(hi:QI X tg iter wi)(hg:∀cl C s0 H0 fp,QG (X.blkN N2 xs sc cl C s0 H0 fp) tg g)(ht:∀cl C s0 H0 fp,QIf (X.blkN N2 xs sc cl C s0 H0 fp) ifs tc)(he:∀cl C s0 H0 fp,QE (X.blkN N2 xs sc cl C s0 H0 fp) elt te)
  (hesc:X.env.scope=esc:=by rfl) (hN:X.N=N:=by rfl) (hc:X.calm=true:=by rfl) (hs:∀v,Bt iter X.env v=pure v:=by intro _;rfl):QE X (.ListComp elt [⟨tg,iter,ifs,0⟩] sc pos) (Zen xs.length g wi tc te):=
 Zwa esc N N2 xs B hi (fun cl C s0 H0 fp _=>hg cl C s0 H0 fp) (fun cl C s0 H0 fp _=>ht cl C s0 H0 fp) (fun cl C s0 H0 fp _=>he cl C s0 H0 fp) hesc hN hc hs
theorem Xce {i:Nat}(esc:Scope)(N N2 xs:List Str)(B:Xch sc esc xs N N2)(hy:N[i]?=some y)(hl:esc.names.lookup y=some .local)(hi:QI X tg iter wi)(hg:∀cl C s0 H0 fp,Tk X.H₀ H0->QG (X.blkN N2 xs sc cl C s0 H0 fp) tg g)(ht:∀cl C s0 H0 fp,Tk X.H₀ H0->QIf (X.blkN N2 xs sc cl C s0 H0 fp) ifs tc)(he:∀cl C s0 H0 fp,Tk X.H₀ H0->QE (X.blkN N2 xs sc cl C s0 H0 fp) elt te)
  (hesc:X.env.scope=esc:=by rfl) (hN:X.N=N:=by rfl) (hc:X.calm=true:=by rfl) (hsw:Cs (.ListComp elt [⟨tg,iter,ifs,0⟩] sc pos) (some (.Name y py)) spos.line X.env=pure true:=by rfl)
  (hs:∀v,Bt iter X.env v=pure v:=by intro _;rfl):QS X (.Assign [.Name y py] (.ListComp elt [⟨tg,iter,ifs,0⟩] sc pos) spos) (Zjr (Zen xs.length g wi tc te) (Zas i)):=by
 subst hesc hN;exact ⟨Xdy hc B hi.out (fun cl C s0 H0 fp z=>(hg cl C s0 H0 fp z).out) (fun cl C s0 H0 fp z=>(ht cl C s0 H0 fp z).out) (fun cl C s0 H0 fp z=>(he cl C s0 H0 fp z).out) hy hl hsw hs⟩
theorem Xfh {i:Nat}(esc:Scope)(N N2 xs:List Str)(B:Xch sc esc xs N N2)(hy:N[i]?=some y)(hl:esc.names.lookup y=some .local)(hi:QI X tg iter wi)(hg:∀cl C s0 H0 fp,QG (X.blkN N2 xs sc cl C s0 H0 fp) tg g)(ht:∀cl C s0 H0 fp,QIf (X.blkN N2 xs sc cl C s0 H0 fp) ifs tc)(he:∀cl C s0 H0 fp,QE (X.blkN N2 xs sc cl C s0 H0 fp) elt te)
  (hesc:X.env.scope=esc:=by rfl) (hN:X.N=N:=by rfl) (hc:X.calm=true:=by rfl) (hsw:Cs (.ListComp elt [⟨tg,iter,ifs,0⟩] sc pos) (some (.Name y py)) spos.line X.env=pure true:=by rfl)
  (hs:∀v,Bt iter X.env v=pure v:=by intro _;rfl):QS X (.Assign [.Name y py] (.ListComp elt [⟨tg,iter,ifs,0⟩] sc pos) spos) (Zjr (Zen xs.length g wi tc te) (Zas i)):=
 Xce esc N N2 xs B hy hl hi (fun cl C s0 H0 fp _=>hg cl C s0 H0 fp) (fun cl C s0 H0 fp _=>ht cl C s0 H0 fp) (fun cl C s0 H0 fp _=>he cl C s0 H0 fp) hesc hN hc hsw hs
end
theorem Zzg (bt:Nat->Nat->Bool):∀k,Du bt k<=k
 | 0=>Ax _
 | k+1=>by rw [Du];have:=Zzg bt k;split<;>omega
section
variable {D:Ends}
variable {c o i':Expr}{ti:TE}{tb:TS}
theorem Xvp {i:Nat}(hN:X.N.Nodup)(hi:X.N[i]?=some x)(hx:Loc X.env.scope x)(he:QE X e te)(ho:PIp X op tp)(hf:autoParam (X.fn x=true\/X.env.scope.names.lookup x=some .local) aT0._auto_1) :
  QS X (.AugAssign (.Name x pos') op e pos) (tAug i te tp):=⟨Xvi hN hi hx he.out ho hf⟩
theorem Xjf {t:TSet}(ho:QE X o to)(hi:QE X i' ti)(hs:PSet X t)
    (ha:∀v,Dg (.Subscript o i' pos) X.env v=(do
      let ov <- CZ [v] (eval o X.env)
      let iv <- CZ [v,ov] (eval i' X.env)
      Fi pos
      CZ [v,ov,iv] (Ht ov iv v)
      KG [v,ov,iv] []):=by intro _;rfl):QG X (.Subscript o i' pos) (Zgi to ti t):=⟨Xwc ho.out hi.out hs ha⟩
variable {p p':Pos}
end
theorem range_any (bs:List Bool):(AO bs.length).any (fun i=>bs.getD i false)=bs.any id:=by
 refine DI.mpr ⟨fun h=>DZ.mpr ?_,fun h=>DZ.mpr ?_⟩
 all_goals obtain ⟨i,hi,h⟩:=DZ.mp h
 ·have hl:i<bs.length:=BO.mp hi;refine ⟨bs[i],CD hl,?_⟩;simpa [Cz,hl] using h
 ·obtain ⟨j,hj,e⟩:=Fg.mp hi;refine ⟨j,BO.mpr hj,?_⟩;have e2:bs.getD j false=bs[j]:=by simp [Cz,hj]
  rw [e2,e];exact h
def Xdm (K:Frag):List V->Hp->VK->Prop:=fun xs H Q=>∃(p:Addr) (bs:List Bool),xs=[.ref p]/\SqL K H p (bs.map V.bl)/\Q (.bl (bs.any id)) H
theorem Xwm {bs:List Bool}(rv:Yl (bs.map V.bl) its):TruthOf prog w A (fun i v=>its.toArray[i]?=some v) (fun i=>bs.getD i false):=by
  intro i v s Q E hv hQ;have hl:=rv.length;rw [Am] at hl;have hv':its[i]?=some v:=by simpa using hv
  have hi:i<its.length:=(Ag.mp hv').1;obtain ⟨u,e,ru⟩:=rv.get (i:=i) (x:=V.bl (bs.getD i false)) (by
    rw [Bk,Ad (by omega)];simp [Cz,show i<bs.length by omega])
  rw [hv'] at e;cases e;cases (show v=Em (bs.getD i false) from ru);exact Cr hQ
theorem Zzs (hc:X.calm=true):Jy X (.builtin "any") (Xdm X.K):=by intro pins s σ H xs us Q I r h;obtain ⟨p,bs,rfl,hq,q⟩:=h;obtain ⟨u,rfl,rx⟩:=vals1 r;cases rx;obtain ⟨its,rv,pl,hz⟩:=I.list hq;have hl:=pl.isList;have hlen:=rv.length;rw [Am] at hlen;obtain ⟨oa,hoa,_⟩:=id hl;have hlt:p<s.heap.objs.size:=AW hoa;refine call_any_walk (KD pl.isList ⟨_,_,_,_,_,_,fun i=>bs.getD i false,rfl,Walks.list (A:=X.A.in1) (I.ok.hd hc) s.heap.objs.size p (BD hlt) its.toArray,⟨⟨_,Az _ rfl,rfl,rfl⟩,hl.push _⟩,Xwm rv,fun h' tk hk=>⟨.bl (bs.any id),H,I.kept (old_kept hk),?_,q⟩⟩);show Em _=Em _;rw [AG,<- hlen,range_any]
theorem Xob {bs:List Bool}(h:SqL K H p (bs.map V.bl))(q:Q (.bl (bs.any id)) H):Xdm K [.ref p] H Q:=⟨p,bs,rfl,h,q⟩
def rInD (K:Frag)(neg:Bool):R2:=fun x y H Q=>∃d xs,Dn K H y (.list xs)/\Dn K H x d/\FD xs=true/\d.canLay0=true/\d.depth<=20/\Q (.bl (if neg then !(xs.any fun z=>DW z d) else xs.any fun z=>DW z d)) H
theorem Zzc (hu:X.A.units+64<Bw):OpR X (BX .NotIn) (rInD X.K true):=by intro pins s σ H x y v u Q I rx ry h;obtain ⟨d,xs,h1,h2,c1,c2,dd,q⟩:=h;obtain ⟨as,ra⟩:=h1.reads I ry;obtain ⟨bs,rb⟩:=h2.reads I rx;exact SeqAt.notIn_list_reads ra rb c1 c2 (by have:=J5 (Gk xs) d.depth;omega) ⟨.bl _,H,I,rfl,q⟩
structure Kept (X:Cx)(own:List Addr)(h h':Heap):Prop where
 st:(KJ h (own++frs X.stack)).StaysIn h'
 fr:h'.FunFrames (KJ h (own++frs X.stack)) X.stack
 up:h.UpToSlots h'
abbrev bmV:List Value:=[.type "ValueError",.type "Exception",.type "BaseException",.type "object"]
def exO (e:Addr)(cls:Value)(dx:Option Addr):HO:=.ext fun h=>∃o vs,h.get? e=some o/\o.cls=cls/\o.data=.fields vs/\o.dict=dx
abbrev Cx.hand (X:Cx)(e:Addr):Cx:={X with A:=X.A.mark (some (.ref e)),calm:=false,xe:=fun _ _=>False}
end L2
namespace L2
open PySem PySem.Spec
variable {prog:AZ}{w:BC}{A:BE}{E:Value->Ah->Prop}{h:Heap}{g:Array HS}{d:Drawn}{os:KQ}{o:Obj}{vs:Array Value}
section
variable {t:Nat}{a C:Addr}
open PySem.W (Looks)
end
end L2
namespace L2
open PySem PySem.Spec PyProof.Rows
variable {X:Cx}{a b:Addr}{e value:Expr}{es:List Expr}{te td ty:TE}{pos cpos:Pos}{K:Frag}{σ:St}{H H':Hp}{κ:Type}{o:Option V}{u r:Value}{y v:V}{P prog:AZ}{w:BC}{k ks:List Key}{kvs:List (List Key×V)}{xs:List (List Key×Addr×Value)}{h h':Heap}{pins:List (Addr×Obj)}{s:Ah}{A:BE}{E Q:Value->Ah->Prop}{t':Nat}{vs:List (Key×Value)}{env:Env}
abbrev TJ:=St->Hp->(Hp->Prop)->Prop
def PJ (X:Cx)(es:List Expr)(t:TJ):Prop:=
 ∀(out:Str) (pins:List (Addr×Obj)) (s:Ah) (σ:St) (H:Hp) (Q:VK),Inv X pins σ H s->out.length+2000*es.length<=Aw->t σ H (fun H1=>∀z,Q (.str z) H1)->
  wpAny (model X.prog X.w) X.A (joinParts out (evalEach es X.env)) (EP X pins σ Q) X.xe s
structure QJ (X:Cx)(es:List Expr)(t:TJ):Prop where
 out:PJ X es t
section
variable {a b:Expr}{t:TJ}
end
open PySem.W (Looks)
structure ErrIn (K:Frag)(C:Addr):Prop where
 exc:PySem.W.excIn K C bmV "ValueError.__new__"=true
 ty:Kp K (.ref C)=some (.type "type")
 cl:∃c,clsIn K C=some c
 ga:Er K (.ref C) "__getattribute__"=some (some (.builtin "BaseException.__getattribute__"))
 ge:Er K (.ref C) "__getattr__"=some none
 lk:Er K (.ref C) "__class__"=some (some (.builtin "object.__class__"))
 so:Ir K (.ref C) (.type "object")=some true
 sb:Ir K (.ref C) (.type "BaseException")=some true
 se:Ir K (.ref C) (.ref C)=some true
section
variable {C D e:Addr}{b:Bool}
structure ErrK (K:Frag)(C:Addr):Prop where
 ob:∃dd cd sl,K.lookup C=some ⟨.type "type",dd,.cls cd,sl⟩
 ty:Kp K (.ref C)=some (.type "type")
 cl:∃c,clsIn K C=some c
 ga:Er K (.ref C) "__getattribute__"=some (some (.builtin "BaseException.__getattribute__"))
 ge:Er K (.ref C) "__getattr__"=some none
 lk:Er K (.ref C) "__class__"=some (some (.builtin "object.__class__"))
 so:Ir K (.ref C) (.type "object")=some true
 sb:Ir K (.ref C) (.type "BaseException")=some true
 se:Ir K (.ref C) (.ref C)=some true
end
section
variable {Q:VK}{D:Ends}
variable {a b c d:Expr}{ta tb tc:TE}
variable {t:TA}{np hpos:Pos}
end
structure Pl (n:Nat)(x:Str):Prop where
 len:x.length<=n
 asc:∀c∈x.cps.toList,c<128
section
variable [DecidableEq κ]
def Zuc (kvs:List (κ×V))(k:κ):Option V:=(kvs.find? fun kv=>decide (kv.1=k)).map (·.2)
def putK (kvs:List (κ×V))(k:κ)(v:V):List (κ×V):=
 if (kvs.any fun kv=>decide (kv.1=k))=true then kvs.map (fun kv=>if kv.1=k then (kv.1,v) else kv) else kvs++[(k,v)]
theorem Zhb {p:κ×V}{r:List (κ×V)}{k:κ}(e:p.1=k):Zuc (p::r) k=some p.2:=by simp [Zuc,EK,e]
theorem Zhd {p:κ×V}{r:List (κ×V)}{k:κ}(e:¬p.1=k):Zuc (p::r) k=Zuc r k:=by simp [Zuc,EK,e]
theorem Zkx (k:κ):∀kvs:List (κ×V),(kvs.any fun kv=>decide (kv.1=k))=(Zuc kvs k).isSome
 | []=>rfl
 | p::r=>by rw [FP];by_cases e:p.1=k;simp only [Zhb e,decide_eq_true e,Bool.true_or,Option.isSome_some];rw [Zhd e,decide_eq_false e,Bool.false_or];exact Zkx k r
theorem Zim (kvs:List (κ×V))(k:κ)(v:V):(putK kvs k v).length<=kvs.length+1:=by unfold putK;split;rw [Am];omega;rw [Ai,AX,GG];omega
theorem Xbr.isSome_eq {u:Option Value}(r:Xbr o u):o.isSome=u.isSome:=by
 cases o with
 | none=>cases u with
  | none=>rfl
  | some _=>exact (show False from r).elim
 | some _=>cases u with
  | none=>exact (show False from r).elim
  | some _=>rfl
theorem KV.val {kvs:List (κ×V)}{vs:List (κ×Value)}(r:KV kvs vs)(k:κ):Xbr (Zuc kvs k) (GK vs k):=by
 unfold KV at r
 induction r with
 | nil=>exact CO
 | @cons p q ps qs h t ih =>
  obtain ⟨h1,h2⟩:=h;by_cases e:p.1=k;have e':q.1=k:=h1.symm.trans e;have b:GK (q::qs) k=some q.2:=by simp [GK,EK,e']
  rw [Zhb e,b];exact h2;have e':¬q.1=k:=fun z=>e (h1.trans z);have b:GK (q::qs) k=GK qs k:=by simp [GK,EK,e']
  rw [Zhd e,b];exact ih
theorem KV.any {kvs:List (κ×V)}{vs:List (κ×Value)}(r:KV kvs vs)(k:κ):(kvs.any fun kv=>decide (kv.1=k))=vs.any fun kv=>decide (kv.1=k):=by
 unfold KV at r
 induction r with
 | nil=>rfl
 | cons h t ih=>rw [FP,FP,ih,h.1]
theorem KV.repl {kvs:List (κ×V)}{vs:List (κ×Value)}(r:KV kvs vs)(k:κ)(ry:RelV y u) :
  KV (kvs.map fun kv=>if kv.1=k then (kv.1,y) else kv) (vs.map fun kv=>if kv.1=k then (kv.1,u) else kv):=by
 unfold KV at r ⊢
 induction r with
 | nil=>exact .nil
 | @cons p q ps qs h t ih =>rw [Bn,Bn];refine .cons ?_ ih;obtain ⟨h1,h2⟩:=h;by_cases e:p.1=k;rw [if_pos e,if_pos (h1.symm.trans e)];exact ⟨h1,ry⟩;rw [if_neg e,if_neg (fun z=>e (h1.trans z))];exact ⟨h1,h2⟩
theorem KV.put {kvs:List (κ×V)}{vs:List (κ×Value)}(r:KV kvs vs)(k:κ)(ry:RelV y u):KV (putK kvs k y) (stored vs k u):=by unfold putK stored;rw [r.any k];by_cases e:(vs.any fun kv=>decide (kv.1=k))=true;rw [if_pos e,if_pos e];exact r.repl k ry;rw [if_neg e,if_neg e];exact Paired.snoc r ⟨rfl,ry⟩
theorem KV.length {kvs:List (κ×V)}{vs:List (κ×Value)}(r:KV kvs vs):kvs.length=vs.length:=Paired.length r
end
theorem Xfo {k:Key}(r:RelV (kV k) u):(Yg P w).is k u=true:=by
 cases k with
 | inl i=>obtain ⟨t,e⟩:=(show ∃t,u=Fe i t from r);subst e;exact Zpm P w i t
 | inr x=>obtain ⟨t,e⟩:=(show ∃t,u=Ga x t from r);subst e;exact Zqa P w x t
theorem Zny {P:AZ}{w:BC}:∀{ks:List Key} {us:List Value},Yl (ks.map kV) us->ItemsAre (Yg P w) ks us
 | [],_,r=>by rw [KH] at r;cases r;exact .nil
 | k::ks,_,r=>by
  rw [Bn] at r;cases r with
  | cons h t=>exact .cons (Xfo h) (Zny t)
abbrev KT (H:Hp):List (List Key×V)->List (List Key×Addr×Value)->Prop:=Paired fun p q=>p.1=q.1/\H q.2.1=some (.tup (p.1.map kV))/\RelV p.2 q.2.2
theorem KT.val (r:KT H kvs xs)(k:List Key):Xbr (Zuc kvs k) ((HE xs k).map (·.2)):=by
 induction r with
 | nil=>exact CO
 | @cons p q ps qs h t ih =>
  obtain ⟨h1,_,h2⟩:=h;by_cases e:p.1=k;have e':q.1=k:=h1.symm.trans e;have b:HE (q::qs) k=some q.2:=by simp [HE,EK,e']
  rw [Zhb e,b];exact h2;have e':¬q.1=k:=fun z=>e (h1.trans z);have b:HE (q::qs) k=HE qs k:=by simp [HE,EK,e']
  rw [Zhd e,b];exact ih
theorem KT.repl (r:KT H kvs xs)(k:List Key)(ry:RelV y u) :
  KT H (kvs.map fun kv=>if kv.1=k then (kv.1,y) else kv) (xs.map (putAt k u)):=by
 induction r with
 | nil=>exact .nil
 | @cons p q ps qs h t ih =>rw [Bn,Bn];refine .cons ?_ ih;obtain ⟨h1,h2,h3⟩:=h;unfold putAt;by_cases e:p.1=k;rw [if_pos e,if_pos (h1.symm.trans e)];exact ⟨h1,h2,ry⟩;rw [if_neg e,if_neg (fun z=>e (h1.trans z))];exact ⟨h1,h2,h3⟩
theorem KT.put (r:KT H kvs xs)(k:List Key)(hb:H b=some (.tup (k.map kV)))(ry:RelV y u) :
  KT H (putK kvs k y) (storedH xs k b u):=by
 have e:(kvs.any fun kv=>decide (kv.1=k))=(HE xs k).isSome:=by rw [Zkx,(r.val k).isSome_eq,Ii]
 unfold putK storedH;rw [e];by_cases q:(HE xs k).isSome=true;rw [if_pos q,if_pos q];exact r.repl k ry;rw [if_neg q,if_neg q];exact Paired.snoc r ⟨rfl,hb,ry⟩
theorem KT.keeps (r:KT H kvs xs)(ht:∀b ys,H b=some (.tup ys)->H' b=some (.tup ys)):KT H' kvs xs:=Paired.mapP r fun _ _ z=>⟨z.1,ht _ _ z.2.1,z.2.2⟩
theorem Xht {u:HO}(ok:HOk P w H h)(e:Rd H a u):Yz P w H h a u:=e.ok ok
theorem Zwu {kvs:List (Key×V)}(ok:HOk P w H h)(e:Rd H a (.dK kvs)):kvs.length<=Aw/\(a==CH)=false/\∃vs,KV kvs vs/\h.DictOf (Yg P w) a vs:=show Yz P w H h a (.dK kvs) from Xht ok e
theorem dk_of {kvs:List (Key×V)}(ok:HOk P w H h)(e:H a=some (.dK kvs)):kvs.length<=Aw/\(a==CH)=false/\∃vs,KV kvs vs/\h.DictOf (Yg P w) a vs:=Zwu ok (.inl e)
theorem Zok (ok:HOk P w H h)(e:H a=some (.tup (ks.map kV))):(DF (Yg P w)).is h ks a:=by obtain ⟨_,its,r,o,h1,h2,n,h3⟩:=(show Yz P w H h a (.tup (ks.map kV)) from ok a _ e);exact ⟨o,its.toArray,n,h1,h2,h3,by simpa using Zny r⟩
theorem Zxc (ok:HOk P w H h)(e:Rd H a (.dT kvs)):kvs.length<=Aw/\(a==CH)=false/\
  ∃xs,KT H kvs xs/\h.DictOfH (DF (Yg P w)) a xs:=by
 obtain ⟨z,y,xs,r,o,es,ep,h1,h2,h3,h4,h5⟩:=(show Yz P w H h a (.dT kvs) from Xht ok e);refine ⟨z,y,xs,r,o,es,ep,h1,h2,h3,h4,fun x hx=>?_,h5⟩;have all:∀{l:List (List Key×V)} {m:List (List Key×Addr×Value)},KT H l m->∀x∈m,(DF (Yg P w)).is h x.1 x.2.1:=by
  intro l m q
  induction q with
  | nil=>intro x hx;exact nomatch hx
  | @cons p q ps qs hq t ih =>intro x hx;rcases An.mp hx with e | hx;subst e;exact Zok ok (by rw [<- hq.1];exact hq.2.1);exact ih x hx
 exact all r x hx
theorem Xro (ok:HOk P w H h)(e:H a=some (.dT kvs)):kvs.length<=Aw/\(a==CH)=false/\
  ∃xs,KT H kvs xs/\h.DictOfH (DF (Yg P w)) a xs:=Zxc ok (.inl e)
def Xhg (H:Hp)(a:Addr)(y:V)(r:Option V):Prop:=
 (∃kvs k,Rd H a (.dK kvs)/\y=kV k/\r=Zuc kvs k)\/∃kvs k b,Rd H a (.dT kvs)/\y=.ref b/\H b=some (.tup (k.map kV))/\r=Zuc kvs k
def Xqm (H:Hp)(a:Addr)(y v:V)(H':Hp):Prop:=
 (∃kvs k,H a=some (.dK kvs)/\y=kV k/\kvs.length<Aw/\H'=upd H a (.dK (putK kvs k v)))\/
 ∃kvs k b,H a=some (.dT kvs)/\y=.ref b/\H b=some (.tup (k.map kV))/\kvs.length<Aw/\H'=upd H a (.dT (putK kvs k v))
theorem Xhg.t (e:H a=some (.dT kvs))(eb:H b=some (.tup (k.map kV))):Xhg H a (.ref b) (Zuc kvs k):=.inr ⟨kvs,k,b,.inl e,rfl,eb,rfl⟩
theorem Xqm.t (e:H a=some (.dT kvs))(eb:H b=some (.tup (k.map kV)))(hl:kvs.length<Aw) :
  Xqm H a (.ref b) v (upd H a (.dT (putK kvs k v))):=.inr ⟨kvs,k,b,e,rfl,eb,hl,rfl⟩
theorem Inv.big (I:Inv X pins σ H s):CH<s.heap.objs.size:=by have h:Ar<s.heap.objs.size:=(I.mod.glob.keeps I.bk).lt;exact Hz (by decide) h
theorem Zyi (hu:A.units+1<Bw)(I:Inv X pins σ H s)(g:Xhg H a y (some v))(ry:RelV y u)(h:∀w' s',Inv X pins σ H s'->RelV v w'->Q w' s') :
  wpAny (model X.prog X.w) A (FV (.ref a) u) Q E s:=by
 rcases g with ⟨kvs,k,e,ey,l⟩ | ⟨kvs,k,b,e,ey,eb,l⟩;subst ey;obtain ⟨z,hd,vs,rel,dd⟩:=Zwu I.hok e;obtain ⟨w',hw,rw'⟩:=Xbr.some_of (v:=v) (o:=GK vs k) (by rw [l];exact rel.val k);exact wpAny_getItem_of (Xfo ry) dd.mapOf hw (h w' _ (I.tok _) rw');subst ey;cases (show u=AL b from ry);obtain ⟨z,hd,xs,rel,dd⟩:=Zxc I.hok e;obtain ⟨w',hw,rw'⟩:=Xbr.some_of (v:=v) (o:=(HE xs k).map (·.2)) (by rw [l];exact rel.val k);obtain ⟨p,hp,hp2⟩:=AB.mp hw;refine wpAny_getItem_heap (Gv hu) (Zok I.hok eb) dd hp ?_;rw [hp2];exact h w' _ (I.tok _) rw'
theorem Xmp (hu:A.units+1<Bw)(I:Inv X pins σ H s)(g:Xhg H a y o)(ry:RelV y u)(h:∀s',Inv X pins σ H s'->Q (.bool (!o.isSome)) s') :
  wpAny (model X.prog X.w) A (BX .NotIn u (.ref a)) Q E s:=by
 rcases g with ⟨kvs,k,e,ey,l⟩ | ⟨kvs,k,b,e,ey,eb,l⟩;subst ey;obtain ⟨z,hd,vs,rel,dd⟩:=Zwu I.hok e;refine wpAny_notIn_of (Xfo ry) hd dd.mapOf ?_;rw [<- (rel.val k).isSome_eq,<- l];exact h _ (I.tok _);subst ey;cases (show u=AL b from ry);obtain ⟨z,hd,xs,rel,dd⟩:=Zxc I.hok e;refine wpAny_notIn_heap (Gv hu) (Zok I.hok eb) hd dd ?_;have q:=(rel.val k).isSome_eq;rw [Ii] at q;rw [<- q,<- l];exact h _ (I.tok _)
theorem Zpb {ob:HO}(I:Inv X pins σ H s)(mu:Mut (H a))(hs:Cb a s.heap h')(he:∃q,h'.get? a=some q)(new:Yz X.prog X.w (upd H a ob) h' a ob) :
  Inv X pins σ (upd H a ob) {s with heap:=h',toks:=t'}:=
 I.write (x:=a) (e:=a) mu (.inl rfl) (fun b q hb z=>(hs.2 b hb).trans z) he new
theorem Xrd {kvs:List (Key×V)}(z:kvs.length<=Aw)(hd:(a==CH)=false)(rel:KV kvs vs)(dd:h'.DictOf (Yg P w) a vs) :
  Yz P w H' h' a (.dK kvs):=⟨z,hd,vs,rel,dd⟩
theorem Zyd {Q:Unit->Ah->Prop}(hu:A.units+1<Bw)(I:Inv X pins σ H s)(g:Xqm H a y v H')(ry:RelV y u)(rv:RelV v r)(h:∀s',Inv X pins σ H' s'->Q () s') :
  wpAny (model X.prog X.w) A (Ht (.ref a) u r) Q E s:=by
 rcases g with ⟨kvs,k,e,ey,l,eH⟩ | ⟨kvs,k,b,e,ey,eb,l,eH⟩;subst ey eH;obtain ⟨z,hd,vs,rel,dd⟩:=dk_of I.hok e;have hz:vs.length<=Aw:=by rw [<- rel.length];exact z
 have hl:(putK kvs k v).length<=Aw:=by have:=Zim kvs k v;omega
 refine wpAny_setItem_pairs (hsz:=hz) (Xfo ry) dd fun h' dd' hs=>h _ ?_;have he:∃q,h'.get? a=some q:=let ⟨q,_,_,hq,_⟩:=dd';⟨q,hq⟩
 exact Zpb I (by rw [e];exact CO) hs he (Xrd hl hd (rel.put k rv) dd');subst ey eH;cases (show u=AL b from ry);obtain ⟨z,hd,xs,rel,dd⟩:=Xro I.hok e;have hz:xs.length<=Aw:=by rw [<- Paired.length rel];exact z
 have hl:(putK kvs k v).length<=Aw:=by have:=Zim kvs k v;omega
 refine wpAny_setItem_heap (hsz:=hz) (Gv hu) (Zok I.hok eb) dd fun h' dd' hs=>h _ ?_;obtain ⟨q,es,ep,hq,h2,h3,h4,_,h5⟩:=dd';refine Zpb I (by rw [e];exact CO) hs ⟨q,hq⟩ ⟨hl,hd,_,(rel.put k eb rv).keeps fun c ys ec=>?_,q,es,ep,hq,h2,h3,h4,h5⟩;rw [Xa (Xrm ec e (fun z=>nomatch z))];exact ec
section
variable {kvs:List (Key×V)}{k:Key}
end
def NoSl (i:Expr):Prop:=∀ov iv,Hd i false ov iv=operate [ov,iv] (FV ov iv)
theorem Xpr {slice:Expr}{T id:String}
  (hl:typeLookup (.type T) "__getitem__"=pure (some (.builtin id))) (hs:NoSl slice)
  (h:wpAny (model prog w) A (eval value env) (fun o s₁=>wpAny (model prog w) A (eval slice env) (fun i s₂=>s₂.TypeIs o T/\wpAny (model prog w) A (FV o i) Q E s₂) E s₁) E s) :
  wpAny (model prog w) A (eval (.Subscript value slice pos) env) Q E s:=by
 refine HH (Cw h (fun o s₁ h₁=>Cw h₁ (fun i s₂ h₂=>?_) fun _ _ x=>x) fun _ _ x=>x);obtain ⟨hT,h₂⟩:=h₂;unfold Gg;refine Aa ?_;rw [getitemInPython_of_ne hT.not_modules];refine Aa (Hj hT hl ?_);have fin:wpAny (model prog w) A (Hd slice false o i) (fun r s₃=>wpAny (model prog w) A (letTemporaryGo value o r >>= fun _=>pure r) Q E s₃) E s₂:=by rw [hs o i];exact wpAny_operating (Cw h₂ (fun r s₃ h₃=>Aa (wpAny_letTemporaryGo (Ac h₃))) fun _ _ x=>x)
 first
  | exact Ac (Aa fin)
  | exact Aa (Ac (Aa fin))
  | exact Aa fin
theorem Zpy (I:Inv X pins σ H s)(g:Xhg H a y o):s.TypeIs (.ref a) "dict":=by rcases g with ⟨kvs,k,e,_,_⟩ | ⟨kvs,k,b,e,_,_,_⟩;obtain ⟨_,_,vs,_,dd⟩:=Zwu I.hok e;exact dd.typeIs;obtain ⟨_,_,xs,_,dd⟩:=Zxc I.hok e;exact dd.typeIs
def Xnw (td ty:TE):TE:=fun σ H Q=>td σ H fun x H1=>ty σ H1 fun y H2=>∃a v,x=.ref a/\Xhg H2 a y (some v)/\Q v H2
section
variable {o i:Expr}{pos' tpos:Pos}{tv:TE}
theorem Xpj (hu:X.A.units+1<Bw)(ho:PE X o td)(hi:PE X i ty)(hs:NoSl i):PE X (.Subscript o i pos) (Xnw td ty):=by intro pins s σ H Q I h;refine Xpr PySem.F.slot_dict_getitem.lookup hs (thn (ho pins s σ H _ I h) fun u s1 ⟨x,H1,I1,rx,q1⟩=>thn (hi pins s1 σ H1 _ I1 q1) fun iv s2 ⟨y,H2,I2,ry,a,v,ex,g,q2⟩=>?_);subst ex;obtain rfl:u=AL a:=rx;exact ⟨Zpy I2 g,Zyi hu I2 g ry fun w' s3 I3 rw'=>⟨v,H2,I3,rw',q2⟩⟩
end
theorem Zsv (h:Heap)(hb:CH<h.objs.size):Yz P w H (h.push {cls:=.type "dict",data:=.dict #[]}) h.objs.size (.dT []):=⟨Dt _,beq_eq_false_iff_ne.mpr (Ne.symm (BD hb)),[],.nil,_,#[],0,Az _ rfl,⟨rfl,rfl,rfl⟩,rfl,rfl,Be⟩
def Zxj:TE:=fun _ H Q=>∀p,H p=none->Q (.ref p) (upd H p (.dT []))
theorem Xdi:PE X (.Dict [] [] pos) Zxj:=fun pins s σ H Q I h =>
 wpAny_Dict_empty ⟨.ref s.heap.objs.size,_,I.laid (a:=s.heap.objs.size) (o:=.dT []) (t':=s.toks) (fun _ _ q=>Ae _ q) (Ax _) (Zsv s.heap I.big),rfl,h _ (I.hok.fresh (Ax _))⟩
structure M1 (X:Cx)(o:Expr)(m:Str)(apos:Pos)(e:Expr)(cpos:Pos):Prop where
  base:CW o m X.env (eval o X.env)=eval o X.env
  few:((BU cpos (Af [e] X.env)).all (fun x=>!x.1)&&(EL cpos (DD [] X.env)).all (fun x=>x.1.isSome)
    && decide (([e]:List Expr).length+([]:List CM).length+(if ([]:List CM).isEmpty then 0 else 1)<30))=true
  line:(apos.endLine==cpos.line)=true
  trees:BU cpos (Af [e] X.env)=[(false,eval e X.env)]
structure M2 (X:Cx)(o:Expr)(m:Str)(apos:Pos)(e f:Expr)(cpos:Pos):Prop where
  base:CW o m X.env (eval o X.env)=eval o X.env
  few:((BU cpos (Af [e,f] X.env)).all (fun x=>!x.1)&&(EL cpos (DD [] X.env)).all (fun x=>x.1.isSome)
    && decide (([e,f]:List Expr).length+([]:List CM).length+(if ([]:List CM).isEmpty then 0 else 1)<30))=true
  line:(apos.endLine==cpos.line)=true
  trees:BU cpos (Af [e,f] X.env)=[(false,eval e X.env),(false,eval f X.env)]
def IsD (H:Hp)(a:Addr):Prop:=(∃kvs,Rd H a (.dK kvs))\/∃kvs,Rd H a (.dT kvs)
theorem Xqs (I:Inv X pins σ H s)(d:IsD H a) :
  s.TypeIs (.ref a) "dict"/\(∀b,AL a=.ref b->∃ob,s.heap.get? b=some ob/\ob.dict=none)/\(a==CH)=false:=by
 rcases d with ⟨kvs,e⟩ | ⟨kvs,e⟩;obtain ⟨_,hd,vs,_,dd⟩:=Zwu I.hok e;refine ⟨dd.typeIs,fun b q=>?_,hd⟩;cases q;obtain ⟨ob,_,_,h1,h2,_⟩:=dd;exact ⟨ob,h1,h2.2.1⟩;obtain ⟨_,hd,xs,_,dd⟩:=Zxc I.hok e;refine ⟨dd.typeIs,fun b q=>?_,hd⟩;cases q;obtain ⟨ob,_,_,h1,h2,_⟩:=dd;exact ⟨ob,h1,h2.2.1⟩
section
variable {d:V}
variable {o f:Expr}{apos:Pos}{tx:TE}{kvs:List (Key×V)}
end
end L2
namespace Dl
open PySem
variable {α β:Type}
set_option genInjectivity true in
inductive D where
 | non
 | bl (b:Bool)
 | int (i:Int)
 | str (x:Str)
 | lst (xs:List D)
 | tup (xs:List D)
 | scr (ns:List Int)
 | rng (lo hi:Int)
 | exc (c:String) (f:Option Int)
 | obj (c:String) (ns:List Str) (xs:List D)
 | dct (ks:List (Int ⊕ Str)) (xs:List D)
 | dtt (ks:List (List (Int ⊕ Str))) (xs:List D)
 | flst (xs:List D)
 | fdt (ks:List (List (Int ⊕ Str))) (xs:List D)
 deriving Inhabited
set_option genInjectivity true in
inductive R (α:Type) where
 | ok (a:α)
 | err (c:String) (f:Option Int)
 | bad
abbrev Env:=List (Option D)
set_option genInjectivity true in
inductive Fl where
 | nx (ρ:Env)
 | ret (d:D)
 | brk (ρ:Env)
 | cnt (ρ:Env)
def R.bind {α β:Type}:R α->(α->R β)->R β
 | .ok a,f=>f a
 | .err c x,_=>.err c x
 | .bad,_=>.bad
@[simp] theorem Zar (a:α)(f:α->R β):(R.ok a).bind f=f a:=(rfl)
@[simp] theorem bind_err (c:String)(x:Option Int)(f:α->R β):(R.err c x:R α).bind f=.err c x:=(rfl)
@[simp] theorem bind_bad (f:α->R β):(R.bad:R α).bind f=.bad:=(rfl)
abbrev FE:=Env->R D
abbrev FT:=Env->R Bool
abbrev FA:=Env->R (List D)
abbrev FO:=Env->R (Option Int)
abbrev FS:=Env->R Fl
def fC (d:D):FE:=fun _=>.ok d
def fV (i:Nat):FE:=fun ρ=>match ρ[i]? with
 | some (some d)=>.ok d
 | _=>.bad
def oR {α:Type}:Option α->R α
 | some a=>.ok a
 | none=>.bad
@[simp] theorem oR_some (a:α):oR (some a)=.ok a:=(rfl)
@[simp] theorem oR_none :(oR (none:Option α))=.bad:=(rfl)
def f1 (g:D->Option D)(a:FE):FE:=fun ρ=>(a ρ).bind fun x=>oR (g x)
def f2 (g:D->D->Option D)(a b:FE):FE:=fun ρ=>(a ρ).bind fun x=>(b ρ).bind fun y=>oR (g x y)
def Zw:FA:=fun _=>.ok []
def Zc (a:FE)(r:FA):FA:=fun ρ=>(a ρ).bind fun x=>(r ρ).bind fun xs=>.ok (x::xs)
def fA (g:List D->Option D)(a:FA):FE:=fun ρ=>(a ρ).bind fun xs=>oR (g xs)
def Ye (F:List D->R D)(a:FA):FE:=fun ρ=>(a ρ).bind F
abbrev lim:Nat:=1000000
def Je (xs:List D):Option D:=if xs.length<=lim then some (.lst xs) else none
def Zfa (xs:List D):Option D:=if xs.length<=lim then some (.tup xs) else none
mutual
def flat:D->Bool
 | .lst _=>false
 | .tup xs=>Zx xs
 | .non=>true
 | .bl _=>true
 | .int _=>true
 | .str _=>true
 | .scr _=>true
 | .rng _ _=>true
 | .exc _ _=>true
 | .obj _ _ _=>false
 | .dct _ _=>false
 | .dtt _ _=>false
 | .flst _=>true
 | .fdt _ _=>true
def Zx:List D->Bool
 | []=>true
 | x::xs=>flat x&&Zx xs
end
def Yv (d:D):Option D:=if flat d then some d else none
def Yo:D->D->Option D
 | .int i,.int j=>some (.int (i+j))
 | .str x,.str y=>if x.length+y.length<=lim then some (.str (x++y)) else none
 | .lst xs,.lst ys=>if xs.length+ys.length<=lim/\Zx xs/\Zx ys then some (.lst (xs++ys)) else none
 | _,_=>none
def Zgi:D->D->Option D
 | .int i,.int j=>some (.int (i - j))
 | _,_=>none
def short (i:Int):Bool:=decide (-(2 ^ 64)<i)&&decide (i<2 ^ 64)
def Zal:D->D->Option D
 | .int i,.int j=>if short i||short j then some (.int (i*j)) else none
 | .lst xs,.int k=>if k<=1000000/\xs.length*k.toNat<=lim/\-1000000<=k/\Zx xs then some (.lst (Ab k.toNat xs).flatten) else none
 | _,_=>none
def Zje:D->D->Option D
 | .int i,.int j=>if 0<j then some (.int (i % j)) else none
 | _,_=>none
def Xql:D->D->Option D
 | .int i,.int j=>if 0<j/\j<2 ^ 200 then some (.int (i / j)) else none
 | _,_=>none
def Zkb:D->D->Option D
 | .int i,.int j=>if 0<=j/\j<=1000000/\i.natAbs<2 ^ 64 then some (.int (i ^ j.toNat)) else none
 | _,_=>none
def Xcx:D->Option D
 | .int i=>some (.int (-i))
 | _=>none
def gLt:D->D->Option D
 | .int i,.int j=>some (.bl (decide (i<j)))
 | _,_=>none
def gLe:D->D->Option D
 | .int i,.int j=>some (.bl (decide (i<=j)))
 | _,_=>none
def gGt:D->D->Option D
 | .int i,.int j=>some (.bl (decide (j<i)))
 | _,_=>none
def gGe:D->D->Option D
 | .int i,.int j=>some (.bl (decide (j<=i)))
 | _,_=>none
mutual
def dep:D->Nat
 | .lst xs=>Zgt xs+1
 | .tup xs=>Zgt xs+1
 | .scr _=>100
 | .rng _ _=>100
 | .exc _ _=>100
 | .obj _ _ _=>100
 | .dct _ _=>100
 | .dtt _ _=>100
 | .flst _=>100
 | .fdt _ _=>100
 | .non=>0
 | .bl _=>0
 | .int _=>0
 | .str _=>0
def Zgt:List D->Nat
 | []=>0
 | x::xs=>max (dep x) (Zgt xs)
end
mutual
def eqv:D->D->Bool
 | .non,.non=>true
 | .bl a,.bl b=>a==b
 | .bl a,.int j=>(if a then 1 else 0)==j
 | .int i,.bl b=>i==(if b then 1 else 0)
 | .int i,.int j=>i==j
 | .str x,.str y=>x==y
 | .lst xs,.lst ys=>Xlu xs ys
 | .tup xs,.tup ys=>Xlu xs ys
 | _,_=>false
def Xlu:List D->List D->Bool
 | [],[]=>true
 | x::xs,y::ys=>eqv x y&&Xlu xs ys
 | _,_=>false
end
def gEq (a b:D):Option D:=if dep a<=20/\dep b<=20 then some (.bl (eqv a b)) else none
def gNe (a b:D):Option D:=if dep a<=20/\dep b<=20 then some (.bl (!eqv a b)) else none
def Zra (x:D):D->Option D
 | .lst ys=>if dep x<=20/\Zgt ys<=20 then some (.bl (!(ys.any fun y=>eqv y x))) else none
 | _=>none
def ixD (n:Nat)(i:Int):Option Nat:=if 0<=i then (if i<n then some i.toNat else none) else if -(n:Int)<=i then some (i+n).toNat else none
def atD {α:Type}(xs:List α)(i:Int):Option α:=(ixD xs.length i).bind fun j=>xs[j]?
def Zpn (n d:Nat):Option Int->Nat
 | none=>d
 | some v=>if v<0 then (max (v+(n:Int)) 0).toNat else min v.toNat n
def cut {α:Type}(xs:List α)(lo hi:Option Int):List α:=(xs.drop (Zpn xs.length 0 lo)).take (Zpn xs.length xs.length hi - Zpn xs.length 0 lo)
def gIx:D->D->Option D
 | .lst xs,.int i=>(atD xs i)
 | .tup xs,.int i=>(atD xs i)
 | .scr ns,.int i=>((atD ns i).map D.int)
 | .str z,.int i=>if z.length<=lim then ((atD z.cps.toList i).map fun c=>D.str ⟨#[c]⟩) else none
 | _,_=>none
def gIxL (x y:D):Option D:=match x with
 | .lst _=>gIx x y
 | _=>none
def Zhi:FO:=fun _=>.ok none
def Zef (a:FE):FO:=fun ρ=>(a ρ).bind fun d=>match d with
 | .int i=>.ok (some i)
 | _=>.bad
def fSl (g:D->Option Int->Option Int->Option D)(a:FE)(l h:FO):FE:=fun ρ=>(a ρ).bind fun x=>(l ρ).bind fun lo=>(h ρ).bind fun hi=>oR (g x lo hi)
def gSl:D->Option Int->Option Int->Option D
 | .lst xs,lo,hi=>if Zx xs then some (.lst (cut xs lo hi)) else none
 | .scr ns,lo,hi=>some (.lst ((cut ns lo hi).map D.int))
 | _,_,_=>none
def Xbd:D->D->Option D
 | .lst xs,.int i=>if i=-1 then some (.lst xs.reverse) else none
 | _,_=>none
def Xcb:D->Option Int->Option Int->Option D
 | .tup xs,lo,hi=>if Zx xs=true/\¬(Zpn xs.length 0 lo=0/\Zpn xs.length xs.length hi=xs.length) then some (.tup (cut xs lo hi)) else none
 | _,_,_=>none
def plain (n:Nat)(z:Str):Bool:=decide (z.length<=n)&&z.cps.toList.all (fun c=>decide (c<128))
def intsOf:List D->Option (List Int)
 | []=>some []
 | .int i::r=>(intsOf r).map (i::·)
 | _::_=>none
def bools:List D->Option (List Bool)
 | []=>some []
 | .bl i::r=>(bools r).map (i::·)
 | _::_=>none
def Zbr:List D->Option D
 | [.lst xs]=>some (.int xs.length)
 | [.tup xs]=>some (.int xs.length)
 | [.scr xs]=>some (.int xs.length)
 | [.str z]=>if z.length<=lim then some (.int z.length) else none
 | _=>none
def Xqp:List D->Option D
 | [.lst xs]=>(intsOf xs).bind fun ns=>some (.int ns.sum)
 | _=>none
def maxL:List Int->Int
 | []=>0
 | x::r=>r.foldl max x
def Xnm:List D->Option D
 | [.int i,.int j]=>some (.int (if j<i then j else i))
 | _=>none
def Zvs:List Int->Int
 | []=>0
 | x::r=>r.foldl min x
def gAny:List D->Option D
 | [.lst xs]=>(bools xs).bind fun bs=>some (.bl (bs.any id))
 | _=>none
def Zgj (lo:Int)(n:Nat):List D:=(AO n).map fun (k:Nat)=>D.int (lo+(k:Int))
def Zew:List D->Option D
 | [.lst xs]=>if Zx xs then some (.lst xs) else none
 | [.tup xs]=>if Zx xs then some (.lst xs) else none
 | [.rng i j]=>if -1000000000<=i/\i<=1000000000/\-1000000000<=j/\j<=1000000000/\(j - i).toNat<=lim then some (.lst (Zgj i (j - i).toNat)) else none
 | _=>none
def Xvz:List D->Option D
 | [.lst xs]=>some (.lst xs)
 | _=>none
def Xiu:D->String
 | .non=>"NoneType"
 | .bl _=>"bool"
 | .int _=>"int"
 | .str _=>"str"
 | .lst _=>"list"
 | .tup _=>"tuple"
 | .scr _=>"list"
 | .rng _ _=>"range"
 | .exc c _=>c
 | .obj c _ _=>c
 | .dct _ _=>"dict"
 | .dtt _ _=>"dict"
 | .flst _=>"list"
 | .fdt _ _=>"dict"
def Zvi (c:String):D->Option D
 | .non=>some (.bl false)
 | .bl _=>some (.bl (c=="bool"||c=="int"))
 | .int _=>some (.bl (c=="int"))
 | .str _=>some (.bl (c=="str"))
 | .lst _=>some (.bl (c=="list"))
 | .tup _=>some (.bl (c=="tuple"))
 | _=>none
def cE (a:FE):FT:=fun ρ=>(a ρ).bind fun d=>match d with
 | .bl b=>.ok b
 | _=>.bad
def Xcq (a:FT):FT:=fun ρ=>(a ρ).bind fun b=>.ok (!b)
def Xmz (a b:FT):FT:=fun ρ=>(a ρ).bind fun x=>if x then b ρ else .ok false
def cOr (a b:FT):FT:=fun ρ=>(a ρ).bind fun x=>if x then .ok true else b ρ
def fAnd (a b:FE):FE:=fun ρ=>(a ρ).bind fun x=>match x with
 | .bl true=>b ρ
 | .bl false=>.ok (.bl false)
 | _=>.bad
def fOr (a b:FE):FE:=fun ρ=>(a ρ).bind fun x=>match x with
 | .bl true=>.ok (.bl true)
 | .bl false=>b ρ
 | _=>.bad
def gNot:D->Option D
 | .bl b=>some (.bl (!b))
 | _=>none
def fIf (c:FT)(a b:FE):FE:=fun ρ=>(c ρ).bind fun x=>if x then a ρ else b ρ
def Xrs (g g':D->D->Option D)(a b c:FE):FE:=fun ρ=>(a ρ).bind fun x=>(b ρ).bind fun y=>(oR (g x y)).bind fun z=>match z with
 | .bl true=>(c ρ).bind fun w=>oR (g' y w)
 | .bl false=>.ok (.bl false)
 | _=>.bad
abbrev FB:=D->Env->R Env
def Zu (i:Nat):FB:=fun d ρ=>.ok (ρ.set i (some d))
def Zge:List D->Env->R Env
 | [],ρ=>.ok ρ
 | _,_=>.bad
def Yf (b:FB)(r:List D->Env->R Env):List D->Env->R Env
 | d::ds,ρ=>(b d ρ).bind fun ρ'=>r ds ρ'
 | _,_=>.bad
def Zgn (r:List D->Env->R Env):FB:=fun d ρ=>match d with
 | .tup ds=>r ds ρ
 | _=>.bad
def R.calm {α:Type}:R α->R α
 | .ok a=>.ok a
 | .err _ _=>.bad
 | .bad=>.bad
@[simp] theorem calm_ok (a:α):(R.ok a).calm=.ok a:=(rfl)
def Zbg (k:Nat)(b:FB)(c:FT)(e:FE)(ρ:Env):List D->R (List D)
 | []=>.ok []
 | x::xs=>(b x (ρ++Ab k none)).calm.bind fun ρ1=>(c ρ1).bind fun t=>if t then (e ρ1).bind fun y=>(Zbg k b c e ρ xs).bind fun ys=>.ok (y::ys) else Zbg k b c e ρ xs
def Zjc:FT:=fun _=>.ok true
abbrev FI:=Env->R (List D)
def Zed (a:FE):FI:=fun ρ=>(a ρ).bind fun d=>match d with
 | .lst xs=>if xs.length<=lim then .ok xs else .bad
 | .scr ns=>if ns.length<=lim then .ok (ns.map D.int) else .bad
 | _=>.bad
def jTup (a:FE):FI:=fun ρ=>(a ρ).bind fun d=>match d with
 | .tup xs=>if xs.length<=lim then .ok xs else .bad
 | _=>.bad
def Zgo (a:FA):FI:=fun ρ=>(a ρ).bind fun ds=>match ds with
 | [.int j]=>if -1000000000<=j/\j<=1000000 then .ok (Zgj 0 j.toNat) else .bad
 | _=>.bad
def Zty (a:FA):FI:=fun ρ=>(a ρ).bind fun ds=>match ds with
 | [.int i,.int j]=>if -1000000000<=i/\i<=1000000000/\-1000000000<=j/\j<=1000000000/\(j - i).toNat<=lim then .ok (Zgj i (j - i).toNat) else .bad
 | _=>.bad
def Xkb:List D->Option D
 | [.bl b]=>some (.int (if b=true then 1 else 0))
 | _=>none
def Zlm (ds:List D):List D:=ds.mapIdx fun i d=>D.tup [.int (i:Int),d]
def Xkv (a:FE):FI:=fun ρ=>(a ρ).bind fun d=>match d with
 | .lst xs=>if xs.length<=lim then .ok (Zlm xs) else .bad
 | _=>.bad
def Zcb (n k:Nat)(it:FI)(b:FB)(c:FT)(e:FE):FE:=fun ρ=>if ρ.length=n then (it ρ).bind fun xs=>(Zbg k b c e ρ xs).calm.bind fun ys=>.ok (.lst ys) else .bad
def sNx:FS:=fun ρ=>.ok (.nx ρ)
def Zjz:FS:=fun _=>.bad
def Xj (a b:FS):FS:=fun ρ=>(a ρ).bind fun fl=>match fl with
 | .nx ρ'=>b ρ'
 | fl=>.ok fl
def Xw (i:Nat)(e:FE):FS:=fun ρ=>(e ρ).bind fun d=>.ok (.nx (ρ.set i (some d)))
def Zcn (e:FE):FS:=fun ρ=>(e ρ).bind fun d=>.ok (.ret d)
def sIf (c:FT)(a b:FS):FS:=fun ρ=>(c ρ).bind fun x=>if x then a ρ else b ρ
def sCnt:FS:=fun ρ=>.ok (.cnt ρ)
def Zpf (i:Nat)(e:FE):FS:=fun ρ=>match ρ[i]? with
 | some (some (.lst xs))=>(e ρ).bind fun d=>if xs.length<lim then .ok (.nx (ρ.set i (some (.lst (xs++[d]))))) else .bad
 | _=>.bad
def Xnc (i:Nat)(g:D->D->Option D)(e:FE):FS:=fun ρ=>match ρ[i]? with
 | some (some x)=>(e ρ).bind fun y=>(oR (g x y)).bind fun z=>.ok (.nx (ρ.set i (some z)))
 | _=>.bad
def Xut (i j:Nat)(g:D->D->Option D)(x:D)(ρ:Env):R Fl:=match x,ρ[j]? with
 | .int k,some (some (.lst ds))=>match ds.getLast? with
  | some (.int n)=>match g (.int k) (.int n) with
   | some (.int z)=>if Zx ds=true then .ok (.nx ((ρ.set j (some (.lst ds.dropLast))).set i (some (.int z)))) else .bad
   | _=>.bad
  | _=>.bad
 | _,_=>.bad
def Xrn (i j:Nat)(g:D->D->Option D)(a:FE):FS:=fun ρ=>(a ρ).bind fun x=>Xut i j g x ρ
def Zvg (e:FE):FS:=fun ρ=>(e ρ).bind fun _=>.ok (.nx ρ)
def Zvr (f:List D->Option (List D)):List Int->D->Option D
 | [],.lst xs=>(f xs).map D.lst
 | n::r,.lst xs=>(ixD xs.length n).bind fun j=>xs[j]?.bind fun d=>(Zvr f r d).map fun d'=>D.lst (xs.set j d')
 | n::r,.tup xs=>(ixD xs.length n).bind fun j=>xs[j]?.bind fun d=>(Zvr f r d).map fun d'=>D.tup (xs.set j d')
 | _,_=>none
def Xck (d:D)(xs:List D):Option (List D):=if xs.length<lim then some (xs++[d]) else none
def Zvo (i:Nat)(ks:FA)(e:FE):FS:=fun ρ=>match ρ[i]? with
 | some (some d)=>(ks ρ).calm.bind fun zs=>match intsOf zs with
  | some path=>(e ρ).calm.bind fun v=>match Zvr (Xck v) path d with
   | some d'=>.ok (.nx (ρ.set i (some d')))
   | none=>.bad
  | none=>.bad
 | _=>.bad
def Xqn (e:FE)(b:FB):FS:=fun ρ=>(e ρ).bind fun d=>(b d ρ).calm.bind fun ρ'=>.ok (.nx ρ')
def Zhy (b:FB)(s:FS):List D->Env->R Fl
 | [],ρ=>.ok (.nx ρ)
 | x::xs,ρ=>(b x ρ).calm.bind fun ρ1=>(s ρ1).bind fun fl=>match fl with
  | .nx ρ2=>Zhy b s xs ρ2
  | .cnt ρ2=>Zhy b s xs ρ2
  | .brk ρ2=>.ok (.nx ρ2)
  | .ret d=>.ok (.ret d)
def Zfe (it:FI)(b:FB)(s:FS):FS:=fun ρ=>(it ρ).bind fun xs=>Zhy b s xs ρ
def Zru (c:FT)(s:FS):Nat->Env->R Fl
 | 0,_=>.bad
 | n+1,ρ=>(c ρ).bind fun b=>if b then (s ρ).bind fun fl=>match fl with
  | .nx ρ2=>Zru c s n ρ2
  | .cnt ρ2=>Zru c s n ρ2
  | .brk ρ2=>.ok (.nx ρ2)
  | .ret d=>.ok (.ret d)
  else .ok (.nx ρ)
def Xsb (n:Nat)(c:FT)(s:FS):FS:=fun ρ=>Zru c s n ρ
def Xtc (c:String)(words:FA):FS:=fun ρ=>(words ρ).bind fun _=>.err c none
def strsOf:List D->Option (List Str)
 | []=>some []
 | .str i::r=>(strsOf r).map (i::·)
 | _::_=>none
def Xra:D->D->Option D
 | .str s,.lst ds=>(strsOf ds).bind fun ts=>if (ts.map (·.length)).sum+ts.length*s.length<=lim then some (.str (Str.join s ts)) else none
 | _,_=>none
def Xil:D->D->Option D
 | .lst ds,.int n=>(intsOf ds).bind fun ns=>if n∈ns then some (D.int (ns.idxOf n:Nat)) else none
 | _,_=>none
def Xwv (a b:FE):FE:=fun ρ=>(a ρ).bind fun x=>match x with
 | .lst ds=>(b ρ).bind fun y=>oR (Xil (.lst ds) y)
 | _=>.bad
def fJoin (a b:FE):FE:=fun ρ=>(a ρ).bind fun x=>match x with
 | .str s=>(b ρ).bind fun y=>oR (Xra (.str s) y)
 | _=>.bad
def Zup:D->D->Option D
 | .int i,.int j=>if i.natAbs<2 ^ 4000/\j.natAbs<2 ^ 4000 then some (.int (i*j)) else none
 | _,_=>none
abbrev FM:=Env->R (D×Env)
abbrev FMT:=Env->R (Bool×Env)
def Zmg (a:FM):FS:=fun ρ=>(a ρ).bind fun p=>.ok (.nx p.2)
def Xbx (s:FS)(r:FM):FM:=fun ρ=>(s ρ).bind fun fl=>match fl with
 | .nx ρ'=>r ρ'
 | _=>.bad
def Xpk (s:FS):FM:=Xbx s fun ρ=>.ok (.non,ρ)
def Xsk (N:Nat)(G:FM)(ds:List D):R (D×D):=(G (ds.map some++Ab (N - ds.length) none)).bind fun p=>match p.2[0]? with
 | some (some d)=>.ok (p.1,d)
 | _=>.bad
def run (N:Nat)(b:FS)(ds:List D):R D:=(b (ds.map some++Ab (N - ds.length) none)).bind fun fl=>match fl with
 | .nx _=>.ok .non
 | .ret d=>.ok d
 | _=>.bad
def keyD:D->Option (Int ⊕ Str)
 | .int i=>some (.inl i)
 | .str x=>some (.inr x)
 | _=>none
def catO:Str->List D->Option D
 | out,[]=>some (.str out)
 | out,.str y::r=>if y.length<=2000 then catO (out++y) r else none
 | _,_=>none
def Zvj:List D->Option (List (Int ⊕ Str))
 | []=>some []
 | d::r=>(keyD d).bind fun k=>(Zvj r).bind fun ks=>some (k::ks)
def Xej:D->Option (List (Int ⊕ Str))
 | .tup ds=>Zvj ds
 | _=>none
def tAt:List (List (Int ⊕ Str))->List D->List (Int ⊕ Str)->Option D
 | j::ks,x::xs,k=>if j=k then some x else tAt ks xs k
 | _,_,_=>none
def Xmh (ks:List (List (Int ⊕ Str)))(k:List (Int ⊕ Str)):Bool:=ks.any fun j=>decide (j=k)
def Xpx (ks:List (List (Int ⊕ Str)))(xs:List D)(k:List (Int ⊕ Str))(d:D):D:=if Xmh ks k then .dtt ks (Bf (fun j x=>if j=k then d else x) ks xs) else .dtt (ks++[k]) (xs++[d])
def Zjd (i:Nat)(k e:FE):FS:=fun ρ=>(e ρ).bind fun d=>match ρ[i]? with
 | some (some (.dtt ks xs))=>(k ρ).bind fun z=>match Xej z with
  | some q=>if flat d=true/\Zx xs=true/\ks.length<lim then .ok (.nx (ρ.set i (some (Xpx ks xs q d)))) else .bad
  | none=>.bad
 | _=>.bad
def Xqe:D->D->Option D
 | .dtt ks xs,y=>if Zx xs then (Xej y).bind fun k=>tAt ks xs k else none
 | _,_=>none
abbrev Pc:=Int×Str
def sLt (x y:Str):Bool:=decide (x.cps.toList<y.cps.toList)
def pcLt (p q:Pc):Bool:=if p.1=q.1 then (if p.2=q.2 then false else sLt p.2 q.2) else decide (p.1<q.1)
def ctLt:List Pc->List Pc->Bool
 | [],[]=>false
 | [],_::_=>true
 | _::_,[]=>false
 | p::c,q::d=>if p=q then ctLt c d else pcLt p q
def aVars:List Nat->FA
 | []=>Zw
 | j::r=>Zc (fV j) (aVars r)
def keyLs (fb:FE)(fr:Env):List D->R (List Int)
 | []=>.ok []
 | x::r=>(fb (some x::fr)).calm.bind fun k=>match k with
  | .int k=>(keyLs fb fr r).bind fun ks=>.ok (k::ks)
  | _=>.bad
abbrev Pr:=Int×(Int ⊕ Str)
def kLt:Int ⊕ Str->Int ⊕ Str->Bool
 | .inl a,.inl b=>decide (a<b)
 | .inr a,.inr b=>sLt a b
 | _,_=>false
def Xvs (p q:Pr):Bool:=if p.1=q.1 then kLt p.2 q.2 else decide (p.1<q.1)
def insP (c:Pr):List Pr->List Pr
 | []=>[c]
 | d::r=>if Xvs c d=true then c::d::r else d::insP c r
def sortP:List Pr->List Pr
 | []=>[]
 | c::r=>insP c (sortP r)
def kdD:Int ⊕ Str->D
 | .inl i=>.int i
 | .inr x=>.str x
def prOfD:D->Option Pr
 | .tup [.int i,.int j]=>some (i,.inl j)
 | .tup [.int i,.str z]=>some (i,.inr z)
 | _=>none
def prsOf:List D->Option (List Pr)
 | []=>some []
 | d::r=>(prOfD d).bind fun c=>(prsOf r).bind fun cs=>some (c::cs)
def Zfo (x y:D):Option D:=match y with
 | .dtt ks _=>(Xej x).map fun k=>.bl (!Xmh ks k)
 | _=>none
def kOk:Int ⊕ Str->Bool
 | .inl _=>true
 | .inr z=>z.cps.all fun c=>decide (c<0x110000)
def Xke (ks:List Int)(k:Int):List Int:=if k∈ks then ks else ks++[k]
def Zxt (ks:List Int):List Int->List Int
 | []=>ks
 | n::ns=>Zxt (Xke ks n) ns
def Xjn:D->Option D
 | .lst ds=>if Zx ds=true then some (.flst ds) else none
 | _=>none
def Xms:D->Option D
 | .dtt ks ds=>if Zx ds=true then some (.fdt ks ds) else none
 | _=>none
def Zkc (i:Nat):FS:=fun ρ=>match ρ[i]? with
 | some (some (.dtt ks ds))=>if Zx ds=true then .ok (.ret (.fdt ks ds)) else .bad
 | _=>.bad
def Zjq (i j:Nat):FS:=fun ρ=>match ρ[j]? with
 | some (some (.dtt ks ds))=>if Zx ds=true/\i≠j/\i<ρ.length then .ok (.nx ((ρ.set j none).set i (some (.fdt ks ds)))) else .bad
 | _=>.bad
def Zif (i j:Nat):FS:=fun ρ=>match ρ[i]?,ρ[j]? with
 | some (some (.lst xs)),some (some (.dtt ks ds))=>if Zx ds=true/\Zx xs=true/\i≠j/\xs.length<lim then .ok (.nx ((ρ.set j none).set i (some (.lst (xs++[.fdt ks ds]))))) else .bad
 | _,_=>.bad
def Zij (k:List (Int ⊕ Str)):D:=.tup (k.map kdD)
def Zin (a:FE):FI:=fun ρ=>(a ρ).bind fun d=>match d with
 | .fdt ks xs=>if ks.length<=lim/\(ks.all fun k=>k.all kOk)=true then .ok (Bf (fun k x=>.tup [Zij k,x]) ks xs) else .bad
 | _=>.bad
def Zdg (a:FE):FI:=fun ρ=>(a ρ).bind fun d=>match d with
 | .fdt ks _=>if ks.length<=lim/\(ks.all fun k=>k.all kOk)=true then .ok (ks.map Zij) else .bad
 | _=>.bad
def Zfx (fk fv:FE):FE:=fun ρ=>(fk ρ).bind fun y=>(fv ρ).bind fun v=>match Xej y with
 | some k=>if flat v=true then .ok (.dtt [k] [v]) else .bad
 | none=>.bad
def smK:Int ⊕ Str->Bool
 | .inl i=>decide (0<=i)&&decide (i<1000)
 | .inr _=>false
def vlK:Int ⊕ Str->Int
 | .inl i=>i
 | .inr _=>0
def thK (k:List (Int ⊕ Str)):Int:=Dz (C5 (k.map vlK))
def Xuv:D->Option D
 | .fdt ks xs=>if ks≠[]/\(ks.all fun k=>k.all smK)=true/\(ks.map thK).Nodup/\Zx xs=true then some (.dtt ks xs) else none
 | _=>none
end Dl
namespace Dl
def Zti:List D->Option D
 | [d]=>Xuv d
 | _=>none
def Zee:List D->Option D
 | [.lst xs]=>if Zx xs=true then some (.tup xs) else none
 | _=>none
def Zkj:D->D->Option D
 | .tup xs,.tup ys=>if xs.length+ys.length<=lim/\Zx xs=true/\Zx ys=true then some (.tup (xs++ys)) else none
 | _,_=>none
def Zuz:D->D->Option D
 | .flst xs,.lst ys=>if xs.length+ys.length<=lim/\Zx ys=true then some (.lst (xs++ys)) else none
 | _,_=>none
def Zvm (a:FE):FT:=fun ρ=>(a ρ).bind fun d=>match d with
 | .flst xs=>.ok (!xs.isEmpty)
 | _=>.bad
def Zjk (i:Nat)(G:List D->R (D×D))(args:FA):FM:=fun ρ=>match ρ[i]? with
 | some (some d0)=>(args ρ).bind fun ys=>(G (d0::ys)).bind fun p=>.ok (p.1,ρ.set i (some p.2))
 | _=>.bad
def Zpr (f:FS):FS:=fun ρ=>(f ρ).bind fun fl=>match fl with
 | .nx ρ'=>.ok (.nx ρ')
 | _=>.bad
def Zlg (a b:FE):FI:=fun ρ=>(a ρ).bind fun x=>(b ρ).bind fun y=>match x,y with
 | .tup xs,.tup ys=>if xs.length<=lim/\Zx xs=true/\Zx ys=true then .ok (Bf (fun x y=>.tup [x,y]) xs ys) else .bad
 | _,_=>.bad
def ilt (p q:Int):Bool:=decide (p<q)
def Zcd:List Int->List Int->Bool
 | [],[]=>false
 | [],_::_=>true
 | _::_,[]=>false
 | p::c,q::d=>if p=q then Zcd c d else ilt p q
def Xqb (a:List Int):List (List Int)->List (List Int)
 | []=>[a]
 | b::r=>if Zcd a b=true then a::b::r else b::Xqb a r
def Ji:List (List Int)->List (List Int)
 | []=>[]
 | a::r=>Xqb a (Ji r)
def ilD (c:List Int):D:=.lst (c.map .int)
def Zzm:D->Option (List Int)
 | .lst xs=>intsOf xs
 | _=>none
def Zfs:List D->Option (List (List Int))
 | []=>some []
 | d::r=>(Zzm d).bind fun a=>(Zfs r).bind fun l=>some (a::l)
def Zhq:List D->Option D
 | [.lst ds]=>(Zfs ds).bind fun cs=>if cs.length<=1000 then some (.lst ((Ji cs).map ilD)) else none
 | _=>none
def Zyu:List D->Option D
 | [.tup xs]=>(intsOf xs).bind fun l=>if l=[] then none else some (.int (Zvs l))
 | _=>none
def Zpg (a b:FE):FE:=fun ρ=>(a ρ).bind fun t=>match t with
 | .tup xs=>match intsOf xs with
  | some l=>(b ρ).bind fun d=>match d with
   | .int i=>.ok (.int (if l=[] then i else Zvs l))
   | _=>.bad
  | none=>.bad
 | _=>.bad
end Dl
namespace L2
open PySem PySem.Spec PyProof.Rows
open Dl (D R FE FT FA FO FS FI FB Fl)
variable {K:Frag}{H H' H1 H2 H0 Hb Hc:Hp}{a Dd:Addr}{xs vs ys zs:List V}{C:String->Addr}{ds:List D}{A A2:Nat->List Addr}{d d' d0:D}{v v0:V}{ns:List Int}{E:XK}{Γ Δ Γ' Δ' Γ1 Δ1 Γl Δl Γk Δk:List Nat}{m m1 m2 mr j i m3 n k N x1 t':Nat}{S1 S2 S3:List (Nat×Bool)}{σ:St}{ρ:Xr}{α:Type}{er er':String->Option Int->Prop}{f ff:FA}{B Bx By A' B' l ch A0 as:List Addr}{r:List V->Hp->VK->Prop}{g:D->D->Option D}{ta tb te ts tk:TE}{fa fb fe fc fk:FE}{P:List Value->Prop}{F:List D->R D}{y z x qual ty nm:Str}{Q:VK}{p pos p2 apos cpos pos' np hpos jp tpos cp p1 p':Pos}{gv:Int->Int->V}{Cd:Int->Int->Prop}{e b c st o tg iter elt kx:Expr}{X:Cx}{lo hi:Option Expr}{tl th:TO}{fl fh:FO}{u gs:TGs}{tc tA tB':TT}{J:It}{Rr:Hp->Prop}{es ifs elts:List Expr}{o':HO}{wi:TI}{fi:FI}{op:LI}{fB:FT}{CX:CXT}{ps loose sn:List Str}{T newId initId:String}{tt gg:TG}{fu:List D->Xr->R Xr}{fg:FB}{s1:Stmt}{ss body:List Stmt}{w:BC}{mg:Str->Option Value}{base h' h:Heap}{fd:C4}{s:Ah}{tj:TJ}{pins:List (Addr×Obj)}{its bm bmB sub:List Value}{prog q:AZ}{a₀:Array Ay}{fm G:FM}{XP:(Str->Option Value)->Heap->Prop}{kwd:List (Str×Expr)}{os:KQ}{hdct ab:Bool}{col:Option Bool}{dd:Option Addr}{k0 k1 k2 k3 k5:Option Value}{env:Env}
def FzL (K:Frag)(H:Hp)(a:Addr)(xs:List V):Prop:=
 (∃o,H a=some (.frz o (.lst xs)))\/∃(o:Obj) (its:Array Value) (n:Nat),K.lookup a=some o/\o.cls=.type "list"/\o.dict=none/\o.data=.seq its n/\its.size<=Aw/\Yl xs its.toList
theorem FzL.sq (h:FzL K H a xs):SqL K H a xs:=by rcases h with ⟨o,h⟩ | h;exact .inl (.inr ⟨o,h⟩);exact .inr h
def fnm (c:String):Str:=if c="TooMany" then "most" else "at"
def FOk (H:Hp)(c:String)(f:Option Int)(dx:Option Addr):Prop:=match f with
 | none=>True
 | some i=>∃d,dx=some d/\H d=some (.xd [(fnm c,.int i)])
section
variable (K:Frag)(C:String->Addr)
mutual
def Rp (H:Hp):D->V->List Addr->Prop
 | .non,v,A=>v=.non/\A=[]
 | .bl b,v,A=>v=.bl b/\A=[]
 | .int i,v,A=>v=.int i/\A=[]
 | .str x,v,A=>v=.str x/\Dr x=true/\A=[]
 | .lst ds,v,A=>∃a xs B,v=.ref a/\H a=some (.lst xs)/\RpA H ds xs B/\A=a::B
 | .tup ds,v,A=>∃a xs,v=.ref a/\H a=some (.tup xs)/\RpA H ds xs A
 | .scr ns,v,A=>∃a,v=.ref a/\FzL K H a (ns.map V.int)/\A=[]
 | .rng lo hi,v,A=>∃a,v=.ref a/\H a=some (.rng lo hi)/\A=[]
 | .exc c f,v,A=>∃e dx,v=.ref e/\H e=some (exO e (.ref (C c)) dx)/\FOk H c f dx/\A=[]
 | .obj c ns ds,v,A=>∃a dx xs B,v=.ref a/\H a=some (.ins (C c) dx (ns.zip xs))/\ns.length=ds.length/\RpA H ds xs B/\A=a::B
 | .dct ks ds,v,A=>∃a xs B,v=.ref a/\H a=some (.dK (ks.zip xs))/\ks.length=ds.length/\RpA H ds xs B/\A=a::B
 | .dtt ks ds,v,A=>∃a xs B,v=.ref a/\H a=some (.dT (ks.zip xs))/\ks.length=ds.length/\RpA H ds xs B/\A=a::B
 | .flst ds,v,A=>∃a o xs,v=.ref a/\H a=some (.frz o (.lst xs))/\RpA H ds xs []/\A=[]
 | .fdt ks ds,v,A=>∃a o xs,v=.ref a/\H a=some (.frz o (.dT (ks.zip xs)))/\ks.length=ds.length/\RpA H ds xs []/\A=[]
def RpA (H:Hp):List D->List V->List Addr->Prop
 | [],xs,A=>xs=[]/\A=[]
 | d::ds,xs,A=>∃x r B B',xs=x::r/\Rp H d x B/\RpA H ds r B'/\A=B++B'
end
end
inductive IsM:HO->Prop where
 | lst {xs:List V}:IsM (.lst xs)
 | ins {C dx:Addr} {fs:List (Str×V)}:IsM (.ins C dx fs)
 | dct {kvs:List (Key×V)}:IsM (.dK kvs)
 | dtt {kvs:List (List Key×V)}:IsM (.dT kvs)
def Ext (W:Addr->Prop)(H H':Hp):Prop:=∀b o,H b=some o->H' b=some o\/(W b/\IsM o)
theorem Ext.same (h:Xi H H'):Ext (fun _=>False) H H':=fun b o q=>.inl (h b o q)
mutual
theorem Rp.ext {W:Addr->Prop}(h:Ext W H H'):∀{d:D} {v:V} {A:List Addr},(∀a∈A,¬W a)->Rp K C H d v A->Rp K C H' d v A
 | .non,_,_,_,r=>r
 | .bl _,_,_,_,r=>r
 | .int _,_,_,_,r=>r
 | .str _,_,_,_,r=>r
 | .lst ds,v,A,hw,r=>by obtain ⟨a,xs,B,e1,e2,e3,e4⟩:=r;subst e4;refine ⟨a,xs,B,e1,?_,RpA.ext h (fun b hb=>hw b (.tail _ hb)) e3,rfl⟩;rcases h a _ e2 with q | ⟨q,_⟩;exact q;exact absurd q (hw a (.head _))
 | .tup ds,v,A,hw,r=>by obtain ⟨a,xs,e1,e2,e3⟩:=r;refine ⟨a,xs,e1,?_,RpA.ext h hw e3⟩;rcases h a _ e2 with q | ⟨_,q⟩;exact q;cases q
 | .scr ns,v,A,_,r=>by obtain ⟨a,e1,e2,e3⟩:=r;refine ⟨a,e1,?_,e3⟩;rcases e2 with ⟨o,e2⟩ | e2;rcases h a _ e2 with q | ⟨_,q⟩;exact .inl ⟨o,q⟩;cases q;exact .inr e2
 | .rng lo hi,v,A,_,r=>by obtain ⟨a,e1,e2,e3⟩:=r;refine ⟨a,e1,?_,e3⟩;rcases h a _ e2 with q | ⟨_,q⟩;exact q;cases q
 | .exc c f,v,A,_,r=>by
  obtain ⟨a,dx,e1,e2,e3,e4⟩:=r;refine ⟨a,dx,e1,?_,?_,e4⟩;rcases h a _ e2 with q | ⟨_,q⟩;exact q;cases q;cases f with
  | none=>trivial
  | some i =>obtain ⟨d,z1,z2⟩:=e3;refine ⟨d,z1,?_⟩;rcases h d _ z2 with q | ⟨_,q⟩;exact q;cases q
 | .obj c ns ds,v,A,hw,r=>by obtain ⟨a,dx,xs,B,e1,e2,e0,e3,e4⟩:=r;subst e4;refine ⟨a,dx,xs,B,e1,?_,e0,RpA.ext h (fun b hb=>hw b (.tail _ hb)) e3,rfl⟩;rcases h a _ e2 with q | ⟨q,_⟩;exact q;exact absurd q (hw a (.head _))
 | .dct ks ds,v,A,hw,r=>by obtain ⟨a,xs,B,e1,e2,e0,e3,e4⟩:=r;subst e4;refine ⟨a,xs,B,e1,?_,e0,RpA.ext h (fun b hb=>hw b (.tail _ hb)) e3,rfl⟩;rcases h a _ e2 with q | ⟨q,_⟩;exact q;exact absurd q (hw a (.head _))
 | .dtt ks ds,v,A,hw,r=>by obtain ⟨a,xs,B,e1,e2,e0,e3,e4⟩:=r;subst e4;refine ⟨a,xs,B,e1,?_,e0,RpA.ext h (fun b hb=>hw b (.tail _ hb)) e3,rfl⟩;rcases h a _ e2 with q | ⟨q,_⟩;exact q;exact absurd q (hw a (.head _))
 | .flst ds,v,A,hw,r=>by obtain ⟨a,o,xs,e1,e2,e3,e4⟩:=r;refine ⟨a,o,xs,e1,?_,RpA.ext h (fun _ hb=>nomatch hb) e3,e4⟩;rcases h a _ e2 with q | ⟨_,q⟩;exact q;cases q
 | .fdt ks ds,v,A,hw,r=>by obtain ⟨a,o,xs,e1,e2,e0,e3,e4⟩:=r;refine ⟨a,o,xs,e1,?_,e0,RpA.ext h (fun _ hb=>nomatch hb) e3,e4⟩;rcases h a _ e2 with q | ⟨_,q⟩;exact q;cases q
theorem RpA.ext {W:Addr->Prop}(h:Ext W H H'):∀{ds:List D} {vs:List V} {A:List Addr},(∀a∈A,¬W a)->RpA K C H ds vs A->RpA K C H' ds vs A
 | [],_,_,_,r=>r
 | d::ds,vs,A,hw,r=>by obtain ⟨x,l,B,B',e1,e2,e3,e4⟩:=r;subst e4;exact ⟨x,l,B,B',e1,Rp.ext h (fun a ha=>hw a (AJ _ ha)) e2,RpA.ext h (fun a ha=>hw a (As _ ha)) e3,rfl⟩
end
theorem Rp.same (h:Xi H H'){d:D}{v:V}{A:List Addr}(r:Rp K C H d v A):Rp K C H' d v A:=r.ext (Ext.same h) (fun _ _ q=>q)
theorem RpA.same (h:Xi H H'){d:List D}{v:List V}{A:List Addr}(r:RpA K C H d v A):RpA K C H' d v A:=r.ext (Ext.same h) (fun _ _ q=>q)
def Agree (W:List Addr)(H Hb:Hp):Prop:=(∀a∈W,Hb a=H a)/\∀b o,H b=some o->¬IsM o->Hb b=some o
theorem Agree.ext {W:List Addr}(h:Agree W H H'):Ext (fun a=>a∉W) H H':=fun b o q=>by by_cases hb:b∈W;exact .inl ((h.1 b hb).trans q);by_cases ho:IsM o;exact .inr ⟨hb,ho⟩;exact .inl (h.2 b o q ho)
theorem RpA.agree {W:List Addr}(h:Agree W H H'){A:List Addr}(hA:∀a∈A,a∈W)(r:RpA K C H ds vs A):RpA K C H' ds vs A:=r.ext h.ext fun a ha z=>z (hA a ha)
mutual
theorem Rp.isl:∀{d:D} {v:V} {A:List Addr},Rp K C H d v A->∀a∈A,∃o,H a=some o/\IsM o
 | .non,_,_,r,a,ha=>by rw [r.2] at ha;cases ha
 | .bl _,_,_,r,a,ha=>by rw [r.2] at ha;cases ha
 | .int _,_,_,r,a,ha=>by rw [r.2] at ha;cases ha
 | .str _,_,_,r,a,ha=>by rw [r.2.2] at ha;cases ha
 | .lst ds,_,_,r,a,ha=>by obtain ⟨b,xs,B,e1,e2,e3,e4⟩:=r;rw [e4] at ha;rcases An.mp ha with z | z;rw [z];exact ⟨_,e2,.lst⟩;exact RpA.isl e3 a z
 | .tup ds,_,_,r,a,ha=>by obtain ⟨b,xs,e1,e2,e3⟩:=r;exact RpA.isl e3 a ha
 | .scr _,_,_,r,a,ha=>by obtain ⟨_,_,_,e⟩:=r;rw [e] at ha;cases ha
 | .rng _ _,_,_,r,a,ha=>by obtain ⟨_,_,_,e⟩:=r;rw [e] at ha;cases ha
 | .exc _ _,_,_,r,a,ha=>by obtain ⟨_,_,_,_,_,e⟩:=r;rw [e] at ha;cases ha
 | .obj c ns ds,_,_,r,a,ha=>by obtain ⟨b,dx,xs,B,e1,e2,e0,e3,e4⟩:=r;rw [e4] at ha;rcases An.mp ha with z | z;rw [z];exact ⟨_,e2,.ins⟩;exact RpA.isl e3 a z
 | .dct ks ds,_,_,r,a,ha=>by obtain ⟨b,xs,B,e1,e2,e0,e3,e4⟩:=r;rw [e4] at ha;rcases An.mp ha with z | z;rw [z];exact ⟨_,e2,.dct⟩;exact RpA.isl e3 a z
 | .dtt ks ds,_,_,r,a,ha=>by obtain ⟨b,xs,B,e1,e2,e0,e3,e4⟩:=r;rw [e4] at ha;rcases An.mp ha with z | z;rw [z];exact ⟨_,e2,.dtt⟩;exact RpA.isl e3 a z
 | .flst ds,_,_,r,a,ha=>by obtain ⟨b,o,xs,e1,e2,e3,e4⟩:=r;rw [e4] at ha;cases ha
 | .fdt ks ds,_,_,r,a,ha=>by obtain ⟨b,o,xs,e1,e2,e0,e3,e4⟩:=r;rw [e4] at ha;cases ha
theorem RpA.isl:∀{ds:List D} {vs:List V} {A:List Addr},RpA K C H ds vs A->∀a∈A,∃o,H a=some o/\IsM o
 | [],_,_,r,a,ha=>by rw [r.2] at ha;cases ha
 | d::ds,_,_,r,a,ha=>by obtain ⟨x,l,B,B',e1,e2,e3,e4⟩:=r;rw [e4] at ha;rcases Au.mp ha with z | z;exact Rp.isl e2 a z;exact RpA.isl e3 a z
end
mutual
theorem Rp.flat:∀{d:D} {v:V} {A:List Addr},Dl.flat d=true->Rp K C H d v A->A=[]
 | .non,_,_,_,r=>r.2
 | .bl _,_,_,_,r=>r.2
 | .int _,_,_,_,r=>r.2
 | .str _,_,_,_,r=>r.2.2
 | .lst _,_,_,h,_=>by simp [Dl.flat] at h
 | .tup ds,_,_,h,r=>by obtain ⟨b,xs,e1,e2,e3⟩:=r;exact RpA.flat (by simpa [Dl.flat] using h) e3
 | .scr _,_,_,_,r=>by obtain ⟨_,_,_,e⟩:=r;exact e
 | .rng _ _,_,_,_,r=>by obtain ⟨_,_,_,e⟩:=r;exact e
 | .exc _ _,_,_,_,r=>by obtain ⟨_,_,_,_,_,e⟩:=r;exact e
 | .obj _ _ _,_,_,h,_=>by simp [Dl.flat] at h
 | .dct _ _,_,_,h,_=>by simp [Dl.flat] at h
 | .dtt _ _,_,_,h,_=>by simp [Dl.flat] at h
 | .flst _,_,_,_,r=>by obtain ⟨_,_,_,_,_,_,e⟩:=r;exact e
 | .fdt _ _,_,_,_,r=>by obtain ⟨_,_,_,_,_,_,_,e⟩:=r;exact e
theorem RpA.flat:∀{ds:List D} {vs:List V} {A:List Addr},Dl.Zx ds=true->RpA K C H ds vs A->A=[]
 | [],_,_,_,r=>r.2
 | d::ds,_,_,h,r=>by obtain ⟨x,l,B,B',e1,e2,e3,e4⟩:=r;simp only [Dl.Zx,A9] at h;rw [e4,Rp.flat h.1 e2,RpA.flat h.2 e3];rfl
end
theorem RpA.len:∀{ds:List D} {vs:List V} {A:List Addr},RpA K C H ds vs A->vs.length=ds.length
 | [],_,_,r=>by rw [r.1];rfl
 | d::ds,_,_,r=>by obtain ⟨x,l,B,B',e1,e2,e3,e4⟩:=r;rw [e1,AX,AX,RpA.len e3]
theorem RpA.get:∀{ds:List D} {vs:List V} {A:List Addr} {i:Nat} {d:D},RpA K C H ds vs A->ds[i]?=some d->∃v B,vs[i]?=some v/\Rp K C H d v B/\∀a∈B,a∈A
 | [],_,_,_,_,_,h=>by simp at h
 | d::ds,_,_,0,_,r,h=>by obtain ⟨x,l,B,B',e1,e2,e3,e4⟩:=r;simp only [Hn,D6] at h;subst h e1 e4;exact ⟨x,B,rfl,e2,fun a ha=>AJ _ ha⟩
 | d::ds,_,_,i+1,_,r,h=>by obtain ⟨x,l,B,B',e1,e2,e3,e4⟩:=r;simp only [De] at h;obtain ⟨v,B2,q1,q2,q3⟩:=RpA.get e3 h;subst e1 e4;exact ⟨v,B2,by simpa using q1,q2,fun a ha=>As _ (q3 a ha)⟩
theorem RpA.get':∀{ds:List D} {vs:List V} {A:List Addr} {i:Nat} {v:V},RpA K C H ds vs A->vs[i]?=some v->∃d B,ds[i]?=some d/\Rp K C H d v B/\∀a∈B,a∈A:=fun {ds vs A i v} r h=>by
 have hl:=r.len;have hi:i<ds.length:=by have:=(Ag.mp h).1;omega
 obtain ⟨v',B,q1,q2,q3⟩:=r.get (Ad hi);rw [h] at q1;cases q1;exact ⟨_,B,Ad hi,q2,q3⟩
theorem RpA.app:∀{ds es:List D} {vs ws:List V} {A B:List Addr},RpA K C H ds vs A->RpA K C H es ws B->RpA K C H (ds++es) (vs++ws) (A++B)
 | [],_,_,_,_,_,r,q=>by obtain ⟨e1,e2⟩:=r;subst e1 e2;exact q
 | d::ds,_,_,_,_,_,r,q=>by obtain ⟨x,l,B,B',e1,e2,e3,e4⟩:=r;subst e1 e4;exact ⟨x,_,B,_,rfl,e2,RpA.app e3 q,AD ..⟩
theorem RpA.one {A:List Addr}(r:Rp K C H d v A):RpA K C H [d] [v] A:=⟨v,[],A,[],rfl,r,⟨rfl,rfl⟩,(CK _).symm⟩
theorem RpA.flatDrop {A:List Addr}:Dl.Zx ds=true->RpA K C H ds vs A->∀n,RpA K C H (ds.drop n) (vs.drop n) []:=by
 intro h r n
 induction ds generalizing vs A n with
 | nil=>rw [r.1];simp;exact ⟨rfl,rfl⟩
 | cons d ds ih =>
  have r0:=r;obtain ⟨x,l,B,B',e1,e2,e3,e4⟩:=r;cases n with
  | zero =>have z:=RpA.flat h r0;subst z;exact r0
  | succ n =>simp only [Dl.Zx,A9] at h;subst e1;exact ih h.2 e3 n
theorem RpA.flatTake {A:List Addr}:Dl.Zx ds=true->RpA K C H ds vs A->∀n,RpA K C H (ds.take n) (vs.take n) []:=by
 intro h r n
 induction ds generalizing vs A n with
 | nil=>rw [r.1];simp;exact ⟨rfl,rfl⟩
 | cons d ds ih =>
  obtain ⟨x,l,B,B',e1,e2,e3,e4⟩:=r;simp only [Dl.Zx,A9] at h;have z:=Rp.flat h.1 e2;subst e1 z;cases n with
  | zero=>exact ⟨rfl,rfl⟩
  | succ n=>exact ⟨x,_,[],_,rfl,e2,ih h.2 e3 n,rfl⟩
theorem Zvn (h:Dl.Zx ds=true):∀n,Dl.Zx (ds.drop n)=true:=by
 intro n
 induction ds generalizing n with
 | nil=>simp;rfl
 | cons d ds ih =>
  cases n with
  | zero=>exact h
  | succ n =>simp only [Dl.Zx,A9] at h;exact ih h.2 n
theorem RpA.ints :RpA K C H (ns.map D.int) (ns.map V.int) []:=by
 induction ns with
 | nil=>exact ⟨rfl,rfl⟩
 | cons n ns ih=>exact ⟨_,_,[],[],rfl,⟨rfl,rfl⟩,ih,rfl⟩
theorem RpA.ofInts:∀{ds:List D} {vs:List V} {A:List Addr} {ns:List Int},RpA K C H ds vs A->Dl.intsOf ds=some ns->vs=ns.map V.int
 | [],_,_,ns,r,h=>by simp only [Dl.intsOf,D6] at h;rw [r.1,<- h];rfl
 | d::ds,_,_,ns,r,h=>by
  obtain ⟨x,l,B,B',e1,e2,e3,e4⟩:=r;cases d<;>simp only [Dl.intsOf] at h<;>try cases h
  obtain ⟨ms,h1,h2⟩:=AB.mp h;rw [e1,e2.1,RpA.ofInts e3 h1,<- h2];rfl
theorem RpA.ofBools:∀{ds:List D} {vs:List V} {A:List Addr} {ns:List Bool},RpA K C H ds vs A->Dl.bools ds=some ns->vs=ns.map V.bl
 | [],_,_,ns,r,h=>by simp only [Dl.bools,D6] at h;rw [r.1,<- h];rfl
 | d::ds,_,_,ns,r,h=>by
  obtain ⟨x,l,B,B',e1,e2,e3,e4⟩:=r;cases d<;>simp only [Dl.bools] at h<;>try cases h
  obtain ⟨ms,h1,h2⟩:=AB.mp h;rw [e1,e2.1,RpA.ofBools e3 h1,<- h2];rfl
mutual
def toPy:D->E1
 | .non=>.none
 | .bl b=>.bool b
 | .int i=>.int i
 | .str x=>.str x
 | .lst ds=>.list (Zcs ds)
 | .tup ds=>.tuple (Zcs ds)
 | .scr _=>.none
 | .rng _ _=>.none
 | .exc _ _=>.none
 | .obj _ _ _=>.none
 | .dct _ _=>.none
 | .dtt _ _=>.none
 | .flst _=>.none
 | .fdt _ _=>.none
def Zcs:List D->List E1
 | []=>[]
 | d::ds=>toPy d::Zcs ds
end
mutual
theorem Rp.dn:∀{d:D} {v:V} {A:List Addr} {n:Nat},Dl.dep d<=n->n<100->Rp K C H d v A->Dn K H v (toPy d)/\(toPy d).canLay0=true/\(toPy d).depth=Dl.dep d
 | .non,_,_,_,_,_,r=>by rw [r.1];exact ⟨.non,rfl,rfl⟩
 | .bl _,_,_,_,_,_,r=>by rw [r.1];exact ⟨.bl _,rfl,rfl⟩
 | .int _,_,_,_,_,_,r=>by rw [r.1];exact ⟨.int _,rfl,rfl⟩
 | .str _,_,_,_,_,_,r=>by rw [r.1];exact ⟨.str _,by simpa [toPy,E3] using r.2.1,by simp [toPy,FC,Dl.dep]⟩
 | .lst ds,_,_,n,h,hn,r=>by obtain ⟨a,xs,B,e1,e2,e3,e4⟩:=r;simp only [Dl.dep] at h;obtain ⟨q1,q2,q3⟩:=RpA.dn (n:=n) (by omega) hn e3;rw [e1];exact ⟨.lst (SqL.of e2) q1,by simpa [toPy,E3] using q2,by simp [toPy,FC,Dl.dep,q3]⟩
 | .tup ds,_,_,n,h,hn,r=>by obtain ⟨a,xs,e1,e2,e3⟩:=r;simp only [Dl.dep] at h;obtain ⟨q1,q2,q3⟩:=RpA.dn (n:=n) (by omega) hn e3;rw [e1];exact ⟨.tup (SqT.of e2) q1,by simpa [toPy,E3] using q2,by simp [toPy,FC,Dl.dep,q3]⟩
 | .scr _,_,_,n,h,hn,_=>by simp only [Dl.dep] at h;omega
 | .rng _ _,_,_,n,h,hn,_=>by simp only [Dl.dep] at h;omega
 | .exc _ _,_,_,n,h,hn,_=>by simp only [Dl.dep] at h;omega
 | .obj _ _ _,_,_,n,h,hn,_=>by simp only [Dl.dep] at h;omega
 | .dct _ _,_,_,n,h,hn,_=>by simp only [Dl.dep] at h;omega
 | .dtt _ _,_,_,n,h,hn,_=>by simp only [Dl.dep] at h;omega
 | .flst _,_,_,n,h,hn,_=>by simp only [Dl.dep] at h;omega
 | .fdt _ _,_,_,n,h,hn,_=>by simp only [Dl.dep] at h;omega
theorem RpA.dn:∀{ds:List D} {vs:List V} {A:List Addr} {n:Nat},Dl.Zgt ds<=n->n<100->RpA K C H ds vs A->DnA K H vs (Zcs ds)/\FD (Zcs ds)=true/\Gk (Zcs ds)=Dl.Zgt ds
 | [],_,_,_,_,_,r=>by rw [r.1];exact ⟨.nil,rfl,rfl⟩
 | d::ds,_,_,n,h,hn,r=>by obtain ⟨x,l,B,B',e1,e2,e3,e4⟩:=r;simp only [Dl.Zgt] at h;obtain ⟨q1,q2,q3⟩:=Rp.dn (n:=n) (by omega) hn e2;obtain ⟨p1,p2,p3⟩:=RpA.dn (n:=n) (by omega) hn e3;rw [e1];exact ⟨.cons q1 p1,by simp [Zcs,FD,q2,p2],by simp [Zcs,Gk,Dl.Zgt,q3,p3]⟩
end
mutual
theorem Zrx:∀{d e:D},Dl.dep d<100->Dl.dep e<100->DW (toPy d) (toPy e)=Dl.eqv d e
 | .non,e,_,h=>by cases e<;>first | rfl | exact absurd h (Bh 100)
 | .bl _,e,_,h=>by cases e<;>first | rfl | exact absurd h (Bh 100)
 | .int _,e,_,h=>by cases e<;>first | rfl | exact absurd h (Bh 100)
 | .str _,e,_,h=>by cases e<;>first | rfl | exact absurd h (Bh 100)
 | .lst ds,e,h1,h=>by
  cases e with
  | lst es=>exact Zpe (ED h1) (ED h)
  | _=>rfl
 | .tup ds,e,h1,h=>by
  cases e with
  | tup es=>exact Zpe (ED h1) (ED h)
  | _=>rfl
 | .scr _,_,h,_=>absurd h (Bh 100)
 | .rng _ _,_,h,_=>absurd h (Bh 100)
 | .exc _ _,_,h,_=>absurd h (Bh 100)
 | .obj _ _ _,_,h,_=>absurd h (Bh 100)
 | .dct _ _,_,h,_=>absurd h (Bh 100)
 | .dtt _ _,_,h,_=>absurd h (Bh 100)
 | .flst _,_,h,_=>absurd h (Bh 100)
 | .fdt _ _,_,h,_=>absurd h (Bh 100)
theorem Zpe:∀{d e:List D},Dl.Zgt d<100->Dl.Zgt e<100->J3 (Zcs d) (Zcs e)=Dl.Xlu d e
 | [],[],_,_=>rfl
 | [],_::_,_,_=>rfl
 | _::_,[],_,_=>rfl
 | d::ds,e::es,h1,h=>by have a1:Dl.dep d<100/\Dl.Zgt ds<100:=LH.mp h1;have a2:Dl.dep e<100/\Dl.Zgt es<100:=LH.mp h;show (DW (toPy d) (toPy e)&&J3 (Zcs ds) (Zcs es))=(Dl.eqv d e&&Dl.Xlu ds es);rw [Zrx a1.1 a2.1,Zpe a1.2 a2.2]
end
abbrev Xr:=Dl.Env
section
variable (K:Frag)(C:String->Addr)
structure Zp (H0 Hb H:Hp)(Γ Δ:List Nat)(σ:St)(ρ:Xr)(A:Nat->List Addr):Prop where
 s0:Xi H0 Hb
 same:Xi Hb H
 len:σ.length=ρ.length
 rep:∀i d,ρ[i]?=some (some d)->∃v,σ[i]?=some (some v)/\Rp K C H d v (A i)
 nil:∀i,(∀d,ρ[i]?≠some (some d))->A i=[]
 loc:∀i∈Γ,∀a∈A i,H0 a=none
 top:∀i∈Γ,∀a r,A i=a::r->Hb a=none/\a∉r/\∀j,j≠i->a∉A j
 deep:∀i∈Δ,(A i).Nodup/\(∀j,j≠i->∀a∈A i,a∉A j)/\∀a∈A i,Hb a=none
def InS (A:Nat->List Addr)(S:List (Nat×Bool))(a:Addr):Prop:=∃p∈S,if p.2=true then a∈(A p.1).tail else a∈A p.1
def Res (m:Nat)(S:List (Nat×Bool))(H:Hp)(A:Nat->List Addr)(d:D)(v:V)(H':Hp):Prop:=
 ∃B,Rp K C H' d v B/\(∀a∈B,H a=none\/InS A S a)/\(m=1->∀a r,B=a::r->H a=none/\a∉r)/\(m=2->B.Nodup)
def ResA (m:Nat)(S:List (Nat×Bool))(H:Hp)(A:Nat->List Addr)(ds:List D)(vs:List V)(H':Hp):Prop:=
 ∃B,RpA K C H' ds vs B/\(∀a∈B,H a=none\/InS A S a)/\(m=2->B.Nodup)
def EC (E:XK)(c:String)(x:Option Int)(H:Hp):Prop:=∀dx,FOk H c x dx->E (.ref (C c)) dx H
def Xh {α:Type}(r:R α)(ok:α->Prop)(er:String->Option Int->Prop):Prop:=match r with
 | .ok a=>ok a
 | .err c x=>er c x
 | .bad=>False
def EOk (E:XK)(Γ Δ:List Nat)(m:Nat)(S:List (Nat×Bool))(t:TE)(f:FE):Prop:=∀(H0 Hb H:Hp) (σ:St) (ρ:Xr) (A:Nat->List Addr) (Q:VK),Zp K C H0 Hb H Γ Δ σ ρ A->
 Xh (f ρ) (fun d=>∀v H',Xi H H'->Res K C m S H A d v H'->Q v H') (fun c x=>∀H',Xi H H'->EC C E c x H')->t σ H Q
def AOk (E:XK)(Γ Δ:List Nat)(m:Nat)(S:List (Nat×Bool))(t:TA)(f:FA):Prop:=∀(H0 Hb H:Hp) (σ:St) (ρ:Xr) (A:Nat->List Addr) (Q:List V->Hp->Prop),Zp K C H0 Hb H Γ Δ σ ρ A->
 Xh (f ρ) (fun d=>∀v H',Xi H H'->ResA K C m S H A d v H'->Q v H') (fun c x=>∀H',Xi H H'->EC C E c x H')->t σ H Q
def TOk (E:XK)(Γ Δ:List Nat)(t:TT)(f:FT):Prop:=∀(H0 Hb H:Hp) (σ:St) (ρ:Xr) (A:Nat->List Addr) (Q:Bool->Hp->Prop),Zp K C H0 Hb H Γ Δ σ ρ A->
 Xh (f ρ) (fun b=>∀H',Xi H H'->Q b H') (fun c x=>∀H',Xi H H'->EC C E c x H')->t σ H Q
def OOk (E:XK)(Γ Δ:List Nat)(t:TO)(f:FO):Prop:=∀(H0 Hb H:Hp) (σ:St) (ρ:Xr) (A:Nat->List Addr) (Q:Option Int->Hp->Prop),Zp K C H0 Hb H Γ Δ σ ρ A->
 Xh (f ρ) (fun b=>∀H',Xi H H'->Q b H') (fun c x=>∀H',Xi H H'->EC C E c x H')->t σ H Q
def Zum (E:XK)(mr:Nat)(Γl Δl Γ' Δ':List Nat)(H0 Hb:Hp)(D:Ends)(r:R Fl):Prop:=Xh r (fun fl=>match fl with
    | .nx ρ'=>∀σ' H' A',Zp K C H0 Hb H' Γ' Δ' σ' ρ' A'->D.nx σ' H'
    | .ret d=>∀v H',Xi H0 H'->Res K C mr [] H0 (fun _=>[]) d v H'->D.rt v H'
    | .brk ρ'=>∀σ' H' A',Zp K C H0 Hb H' Γl Δl σ' ρ' A'->D.bk σ' H'
    | .cnt ρ'=>∀σ' H' A',Zp K C H0 Hb H' Γl Δl σ' ρ' A'->D.ct σ' H')
  (fun c x=>∀H',Xi H0 H'->EC C E c x H')
def SOk (E:XK)(mr:Nat)(Γl Δl Γ Δ Γ' Δ':List Nat)(t:TS)(f:FS):Prop:=∀(H0 Hb H:Hp) (σ:St) (ρ:Xr) (A:Nat->List Addr) (D:Ends),Zp K C H0 Hb H Γ Δ σ ρ A->
 Zum K C E mr Γl Δl Γ' Δ' H0 Hb D (f ρ)->t D σ H
end
section
variable {S:List (Nat×Bool)}
theorem Zp.mono (h:Zp K C H0 Hb H Γ Δ σ ρ A)(g:Xi H H'):Zp K C H0 Hb H' Γ Δ σ ρ A:=⟨h.s0,h.same.trans g,h.len,fun i d e=>let ⟨v,q1,q2⟩:=h.rep i d e;⟨v,q1,q2.same g⟩,h.nil,h.loc,h.top,h.deep⟩
theorem Zp.weak (h:Zp K C H0 Hb H Γ Δ σ ρ A)(h1:∀i∈Γ',i∈Γ)(h2:∀i∈Δ',i∈Δ):Zp K C H0 Hb H Γ' Δ' σ ρ A:=⟨h.s0,h.same,h.len,h.rep,h.nil,fun i hi=>h.loc i (h1 i hi),fun i hi=>h.top i (h1 i hi),fun i hi=>h.deep i (h2 i hi)⟩
theorem Zp.is (h:Zp K C H0 Hb H Γ Δ σ ρ A)(ha:a∈A j):∃o,H a=some o/\IsM o:=by by_cases q:∃d,ρ[j]?=some (some d);obtain ⟨d,q⟩:=q;obtain ⟨v,_,r⟩:=h.rep j d q;exact r.isl a ha;rw [h.nil j fun d e=>q ⟨d,e⟩] at ha;cases ha
theorem Zp.ne (h:Zp K C H0 Hb H Γ Δ σ ρ A)(ha:a∈A j)(hn:H a=none):False:=by obtain ⟨xs,q,_⟩:=h.is ha;rw [q] at hn;cases hn
theorem InS.mem (h:InS A S a):∃p∈S,a∈A p.1:=by obtain ⟨p,hp,q⟩:=h;refine ⟨p,hp,?_⟩;split at q;exact HX q;exact q
theorem InS.mono (h:InS A S1 a)(hs:∀p∈S1,p∈S2):InS A S2 a:=let ⟨p,hp,q⟩:=h;⟨p,hs p hp,q⟩
theorem Xh.imp {r:R α}{ok ok':α->Prop}(h:Xh r ok er)(h1:∀a,ok a->ok' a)(h2:∀c x,er c x->er' c x):Xh r ok' er':=by
 cases r with
 | ok a=>exact h1 a h
 | err c x=>exact h2 c x h
 | bad=>exact h
theorem Xh.bind {α β:Type}{r:R α}{g:α->R β}{ok:β->Prop}{er:String->Option Int->Prop}(h:Xh (r.bind g) ok er):Xh r (fun a=>Xh (g a) ok er) er:=by
 cases r with
 | ok a=>exact h
 | err c x=>exact h
 | bad=>exact h
theorem Res.flat (r:Rp K C H' d v []):Res K C m S H A d v H':=⟨[],r,fun _ h=>(nomatch h),fun _ _ _ e=>(nomatch e),fun _=>Be⟩
theorem Xdq (h:∀H,Rp K C H d v []):EOk K C E Γ Δ 2 [] (tC v) (Dl.fC d):=fun _ _ H _ _ _ _ _ p=>p v H (Xi.refl _) (Res.flat (h H))
theorem Xsx {ok:D->Prop}(h:Xh (Dl.fV i ρ) ok er):∃d,ρ[i]?=some (some d)/\ok d:=by unfold Dl.fV at h;split at h;rename_i d e;exact ⟨d,e,h⟩;exact h.elim
theorem eok_v :EOk K C E Γ Δ 0 [(i,false)] (Zgp i) (Dl.fV i):=fun H0 Hb H σ ρ A Q I p=>by obtain ⟨d,e,p⟩:=Xsx p;obtain ⟨v,e1,r⟩:=I.rep i d e;exact ⟨v,e1,p v H (Xi.refl _) ⟨A i,r,fun a ha=>.inr ⟨(i,false),.head _,ha⟩,(fun z=>nomatch z),(fun z=>nomatch z)⟩⟩
theorem Xur (hi:i∈Δ):EOk K C E Γ Δ 2 [(i,false)] (Zgp i) (Dl.fV i):=fun H0 Hb H σ ρ A Q I p=>by obtain ⟨d,e,p⟩:=Xsx p;obtain ⟨v,e1,r⟩:=I.rep i d e;exact ⟨v,e1,p v H (Xi.refl _) ⟨A i,r,fun a ha=>.inr ⟨(i,false),.head _,ha⟩,(fun z=>nomatch z),fun _=>(I.deep i hi).1⟩⟩
theorem Xfk {t:TE}{f:FE}(h:EOk K C E Γ Δ m S t f):EOk K C E Γ Δ 2 [] t (Dl.f1 Dl.Yv f):=fun H0 Hb H σ ρ A Q I p =>
  h H0 Hb H σ ρ A Q I (p.bind.imp (fun d q v H' g r=>by
    unfold Dl.Yv at q;split at q;rename_i hf;obtain ⟨B,r1,_⟩:=r;have e:=r1.flat hf;subst e;exact q v H' g (Res.flat r1)
    · exact q.elim) fun _ _ q=>q)
theorem Res.later {H3:Hp}(g1:Xi H0 H1)(g2:Xi H2 H3)(r:Res K C m S H1 A d v H2):Res K C m S H0 A d v H3:=by obtain ⟨B,r1,r2,r3,r4⟩:=r;exact ⟨B,r1.same g2,fun a ha=>(r2 a ha).imp (fun h=>g1.free h) id,fun hm a l e=>⟨g1.free (r3 hm a l e).1,(r3 hm a l e).2⟩,r4⟩
theorem Res.new (r:Rp K C H' d v B)(h1:B.Nodup)(h2:∀a∈B,H a=none):Res K C m S H A d v H':=⟨B,r,fun a ha=>.inl (h2 a ha),fun _ a l e=>by subst e;exact ⟨h2 a (.head _),(AA.mp h1).1⟩,fun _=>h1⟩
theorem Zdf {o:Option α}{ok:α->Prop}(h:Xh (Dl.oR o) ok er):∃a,o=some a/\ok a:=by
 cases o with
 | none=>exact h.elim
 | some a=>exact ⟨a,rfl,h⟩
def GOk (K:Frag)(C:String->Addr)(r:R2)(g:D->D->Option D):Prop:=
 ∀(H:Hp) (x y d:D) (vx vy:V) (Bx By:List Addr) (Q:VK),Rp K C H x vx Bx->Rp K C H y vy By->g x y=some d->(∀v H' B,Xi H H'->Rp K C H' d v B->B.Nodup->(∀a∈B,H a=none)->Q v H')->r vx vy H Q
def GAk (K:Frag)(C:String->Addr)(r:List V->Hp->VK->Prop)(g:List D->Option D):Prop:=
 ∀(H:Hp) (xs:List D) (d:D) (vs:List V) (Bx:List Addr) (Q:VK),RpA K C H xs vs Bx->g xs=some d->(∀v H' B,Xi H H'->Rp K C H' d v B->B.Nodup->(∀a∈B,H a=none)->Q v H')->r vs H Q
theorem Zza {r:R2}(hg:GOk K C r g)(ha:EOk K C E Γ Δ m1 S1 ta fa)(hb:EOk K C E Γ Δ m2 S2 tb fb):EOk K C E Γ Δ 2 [] (tOp r ta tb) (Dl.f2 g fa fb):=
  fun H0 Hb H σ ρ A Q I p=>ha H0 Hb H σ ρ A _ I (p.bind.imp (fun x q vx H1 g1 r1=>hb H0 Hb H1 σ ρ A _ (I.mono g1) (q.bind.imp (fun y q vy H2 g2 r2=>by
    obtain ⟨d,e,q⟩:=Zdf q;obtain ⟨Bx,r1,_⟩:=r1;obtain ⟨By,r2,_⟩:=r2;exact hg H2 x y d vx vy Bx By Q (r1.same g2) r2 e fun v H' B g3 r3 h1 h2=>q v H' (g1.trans (g2.trans g3)) (Res.new r3 h1 fun a ha=>(g1.trans g2).free (h2 a ha))) fun c x q H' g'=>q H' (g1.trans g'))) fun c x q H' g'=>q H' g')
theorem Xtt {r:V->Hp->VK->Prop}{g:D->Option D}(hg:∀(H:Hp) (x d:D) (vx:V) (Bx:List Addr) (Q:VK),Rp K C H x vx Bx->g x=some d->(∀v H' B,Xi H H'->Rp K C H' d v B->B.Nodup->(∀a∈B,H a=none)->Q v H')->r vx H Q)
    (ha:EOk K C E Γ Δ m1 S1 ta fa):EOk K C E Γ Δ 2 [] (tUn r ta) (Dl.f1 g fa):=
  fun H0 Hb H σ ρ A Q I p=>ha H0 Hb H σ ρ A _ I (p.bind.imp (fun x q vx H1 g1 r1=>by
    obtain ⟨d,e,q⟩:=Zdf q;obtain ⟨Bx,r1,_⟩:=r1;exact hg H1 x d vx Bx Q r1 e fun v H' B g3 r3 h1 h2=>q v H' (g1.trans g3) (Res.new r3 h1 fun a ha=>g1.free (h2 a ha))) fun c x q H' g'=>q H' g')
theorem Yw {d:α}{P:Prop}(e:(none:Option α)=some d):P:=nomatch e
theorem Zsm {F:List D->Option D}(hn:F []=none)(hc:∀x y r,F (x::y::r)=none):∀{ds:List D} {d:D},F ds=some d->∃x,ds=[x]
 | [],_,e=>Yw (hn.symm.trans e)
 | [x],_,_=>⟨x,rfl⟩
 | x::y::r,_,e=>Yw ((hc x y r).symm.trans e)
theorem Xmi {y:D}(e:Dl.gIx (.lst ds) y=some d):∃i,y=.int i/\atI ds i=some d:=by
 cases y with
 | int i=>exact ⟨i,rfl,e⟩
 | _=>exact Yw e
theorem Xng {y:D}(e:Dl.gIx (.tup ds) y=some d):∃i,y=.int i/\atI ds i=some d:=by
 cases y with
 | int i=>exact ⟨i,rfl,e⟩
 | _=>exact Yw e
theorem Xjq {y:D}(e:Dl.gIx (.scr ns) y=some d):∃i,y=.int i/\(atI ns i).map D.int=some d:=by
 cases y with
 | int i=>exact ⟨i,rfl,e⟩
 | _=>exact Yw e
theorem Xkx {y:D}(e:Dl.gIx (.str z) y=some d):∃i,y=.int i/\z.length<=Dl.lim/\(atI z.cps.toList i).map (fun c=>D.str ⟨#[c]⟩)=some d:=by
 cases y with
 | int i =>have e':(if z.length<=Dl.lim then ((Dl.atD z.cps.toList i).map fun c=>D.str ⟨#[c]⟩) else none)=some d:=e;by_cases h:z.length<=Dl.lim;rw [if_pos h] at e';exact ⟨i,rfl,h,e'⟩;rw [if_neg h] at e';exact Yw e'
 | _=>exact Yw e
theorem Xqq {x y:D}(e:Dl.gIx x y=some d):∃i,y=.int i/\((∃ds,x=.lst ds/\atI ds i=some d)\/(∃ds,x=.tup ds/\atI ds i=some d)\/(∃ns,x=.scr ns/\(atI ns i).map D.int=some d)\/∃z,x=.str z/\z.length<=Dl.lim/\(atI z.cps.toList i).map (fun c=>D.str ⟨#[c]⟩)=some d):=by
 cases x with
 | lst ds=>exact (Xmi e).imp fun _ h=>⟨h.1,.inl ⟨ds,rfl,h.2⟩⟩
 | tup ds=>exact (Xng e).imp fun _ h=>⟨h.1,.inr (.inl ⟨ds,rfl,h.2⟩)⟩
 | scr ns=>exact (Xjq e).imp fun _ h=>⟨h.1,.inr (.inr (.inl ⟨ns,rfl,h.2⟩))⟩
 | str z=>exact (Xkx e).imp fun _ h=>⟨h.1,.inr (.inr (.inr ⟨z,rfl,h.2⟩))⟩
 | _=>exact Yw e
theorem Xaj {β:Type}{ds:List α}{xs:List β}{i:Int}{d:α}{v:β}(hl:xs.length=ds.length)(e:atI ds i=some d)(h1:K3 i ds.length=some j)(hv:xs[j]?=some v):atI xs i=some v:=by
 unfold atI at e ⊢;rw [hl];cases hx:ixN ds.length i with
 | none=>rw [hx] at e;cases e
 | some k =>obtain ⟨z1,_⟩:=Zzi hx;rw [h1] at z1;cases z1;exact hv
theorem Xvc {x y:D}{vx vy:V}(rx:Rp K C H x vx Bx)(ry:Rp K C H y vy By)(e:Dl.gIx x y=some d)(q:∀v B,Rp K C H d v B->(∀a∈B,a∈Bx)->((∃ds,x=.lst ds)->∀a∈B,a∈Bx.tail)->Q v H):rIx K vx vy H Q:=by obtain ⟨i,rfl,h⟩:=Xqq e;cases ry.1;rcases h with ⟨ds,rfl,e'⟩ | ⟨ds,rfl,e'⟩ | ⟨ns,rfl,e'⟩ | ⟨z,rfl,hz,e'⟩;obtain ⟨a,xs,B,rfl,e2,e3,rfl⟩:=rx;obtain ⟨j,h1,h2,_⟩:=Zdv e';obtain ⟨v,B',q1,q2,q3⟩:=e3.get h2;exact Xwu (SqL.of e2) (v:=v) (Xaj e3.len e' h1 q1) (q v B' q2 (fun a ha=>.tail _ (q3 a ha)) fun _ a ha=>q3 a ha);obtain ⟨a,xs,rfl,e2,e3⟩:=rx;obtain ⟨j,h1,h2,_⟩:=Zdv e';obtain ⟨v,B',q1,q2,q3⟩:=e3.get h2;exact Xsm (SqT.of e2) (v:=v) (Xaj e3.len e' h1 q1) (q v B' q2 q3 fun z=>by obtain ⟨_,z⟩:=z;cases z);obtain ⟨a,rfl,e2,rfl⟩:=rx;obtain ⟨n,h1,rfl⟩:=AB.mp e';obtain ⟨j,h2,h3,_⟩:=Zdv h1;exact .inl ⟨a,ns.map V.int,i,.int n,rfl,rfl,e2.sq,Xaj (Am _) h1 h2 (by rw [Bk,h3];rfl),q (.int n) [] ⟨rfl,rfl⟩ (fun _ h=>(nomatch h)) fun _ _ h=>(nomatch h)⟩;obtain ⟨rfl,e2,rfl⟩:=rx;obtain ⟨c,h1,rfl⟩:=AB.mp e';refine .inr (.inr ⟨z,i,c,rfl,rfl,AC hz (by decide),h1,q _ [] ⟨rfl,?_,rfl⟩ (fun _ h=>(nomatch h)) fun _ _ h=>(nomatch h)⟩);obtain ⟨j,_,h3,_⟩:=Zdv h1;have hm:c∈z.cps:=HU.mp (Al h3);have ho:z.cps.all (·<0x110000)=true:=e2;have:=(Array.all_eq_true_iff_forall_mem.mp ho) c hm;unfold Dr;simpa using this
theorem Xwg (ha:EOk K C E Γ Δ m1 S1 ta fa)(hb:EOk K C E Γ Δ m2 S2 tb fb):EOk K C E Γ Δ 0 S1 (tOp (rIx K) ta tb) (Dl.f2 Dl.gIx fa fb):=
  fun H0 Hb H σ ρ A Q I p=>ha H0 Hb H σ ρ A _ I (p.bind.imp (fun x q vx H1 g1 r1=>hb H0 Hb H1 σ ρ A _ (I.mono g1) (q.bind.imp (fun y q vy H2 g2 r2=>by
    obtain ⟨d,e,q⟩:=Zdf q;obtain ⟨Bx,r1,r1',_⟩:=r1;obtain ⟨By,r2,_⟩:=r2;exact Xvc (r1.same g2) r2 e fun v B r3 h _=>q v H2 (g1.trans g2) ⟨B,r3,fun a ha=>r1' a (h a ha),(fun z=>nomatch z),(fun z=>nomatch z)⟩) fun c x q H' g'=>q H' (g1.trans g'))) fun c x q H' g'=>q H' g')
def gIxL (x y:D):Option D:=match x with
 | .lst _=>Dl.gIx x y
 | _=>none
theorem sameNew {p:Addr}(h:H p=none)(o:HO):Xi H (upd H p o):=fun b u q=>by rw [Xa (Xl q h)];exact q
abbrev Out (K:Frag)(C:String->Addr)(H:Hp)(d:D)(Q:VK):Prop:=∀v H' B,Xi H H'->Rp K C H' d v B->B.Nodup->(∀a∈B,H a=none)->Q v H'
theorem Out.flat (q:Out K C H d Q)(r:Rp K C H d v []):Q v H:=q v H [] (Xi.refl _) r Be (fun _ h=>nomatch h)
theorem Out.lst {ds:List D}{vs:List V}{p:Addr}(q:Out K C H (.lst ds) Q)(r:RpA K C H ds vs [])(hp:H p=none):Q (.ref p) (upd H p (.lst vs)):=q _ _ [p] (sameNew hp _) ⟨p,vs,[],rfl,Xd,r.same (sameNew hp _),rfl⟩ (by simp) (fun a ha=>by rw [Ao.mp ha];exact hp)
theorem Out.tup {ds:List D}{vs:List V}{p:Addr}(q:Out K C H (.tup ds) Q)(r:RpA K C H ds vs [])(hp:H p=none):Q (.ref p) (upd H p (.tup vs)):=q _ _ [] (sameNew hp _) ⟨p,vs,rfl,Xd,r.same (sameNew hp _)⟩ Be (fun _ h=>nomatch h)
theorem Zbu (h:n<=Dl.lim):n<=Aw:=AC h (by decide)
theorem Zdb (h:n<Dl.lim):n<Aw:=AF h (by decide)
theorem Zyj (h1:Dr x=true)(h2:Dr y=true):Dr (x++y)=true:=by unfold Dr at *;show (x.cps++y.cps).all _=true;rw [Array.all_append,h1,h2];rfl
theorem RpA.nil:RpA K C H [] [] []:=⟨rfl,rfl⟩
theorem RpA.flat' {A:List Addr}(h:Dl.Zx ds=true)(r:RpA K C H ds vs A):RpA K C H ds vs []:=by have e:=RpA.flat h r;subst e;exact r
theorem RpA.rep {ds:List D}{vs:List V}(r:RpA K C H ds vs []):∀n,RpA K C H (Ab n ds).flatten (Ab n vs).flatten []
 | 0=>RpA.nil
 | n+1=>by rw [Bi,Bi,Ba,Ba];exact r.app (RpA.rep r n)
theorem Zt:GOk K C Xdg Dl.Yo:=by intro H x y d vx vy Bx By Q rx ry e q;unfold Dl.Yo at e;split at e;cases e;obtain ⟨rfl,_⟩:=rx;obtain ⟨rfl,_⟩:=ry;exact Xty (Out.flat q ⟨rfl,rfl⟩);split at e;rename_i hz;cases e;obtain ⟨rfl,h1,_⟩:=rx;obtain ⟨rfl,h2,_⟩:=ry;exact .inr (.inl ⟨_,_,rfl,rfl,Zbu hz,Out.flat q ⟨rfl,Zyj h1 h2,rfl⟩⟩);cases e;split at e;rename_i hz;cases e;obtain ⟨a,xs,B,rfl,e2,e3,_⟩:=rx;obtain ⟨a',xs',B',rfl,e2',e3',_⟩:=ry;obtain ⟨hz,f1,f2⟩:=hz;refine Xtw e2 e2' (by rw [e3.len,e3'.len];exact Zbu hz) fun p hp=>?_;exact Out.lst q ((e3.flat' f1).app (e3'.flat' f2)) hp;cases e;cases e
theorem Zoc {g:Int->Int->D}{f:D->D->Option D}(hf:∀x y d,f x y=some d->∃i j,x=.int i/\y=.int j/\d=g i j)(hr:∀H i j,Rp K C H (g i j) (gv i j) []):GOk K C (rI0 gv) f:=by intro H x y d vx vy Bx By Q rx ry e q;obtain ⟨i,j,rfl,rfl,rfl⟩:=hf x y d e;obtain ⟨rfl,_⟩:=rx;obtain ⟨rfl,_⟩:=ry;exact rd_I0 (Out.flat q (hr H i j))
theorem Xoq {g:Int->Int->D}{f:D->D->Option D}(hf:∀x y d,f x y=some d->∃i j,x=.int i/\y=.int j/\d=g i j/\Cd i j)(hr:∀H i j,Rp K C H (g i j) (gv i j) []):GOk K C (rI Cd gv) f:=by intro H x y d vx vy Bx By Q rx ry e q;obtain ⟨i,j,rfl,rfl,rfl,hc⟩:=hf x y d e;obtain ⟨rfl,_⟩:=rx;obtain ⟨rfl,_⟩:=ry;exact rd_I hc (Out.flat q (hr H i j))
theorem rpI {i:Int}:Rp K C H (.int i) (.int i) []:=⟨rfl,rfl⟩
theorem rpB {i:Bool}:Rp K C H (.bl i) (.bl i) []:=⟨rfl,rfl⟩
theorem Zce:GOk K C (rI0 fun i j=>.int (i - j)) Dl.Zgi:=Zoc (fun x y d e=>by unfold Dl.Zgi at e;split at e<;>cases e;exact ⟨_,_,rfl,rfl,rfl⟩) fun _ _ _=>rpI
theorem Zcp:GOk K C (rI0 fun i j=>.bl (decide (i<j))) Dl.gLt:=Zoc (fun x y d e=>by unfold Dl.gLt at e;split at e<;>cases e;exact ⟨_,_,rfl,rfl,rfl⟩) fun _ _ _=>rpB
theorem Xiz:GOk K C (rI0 fun i j=>.bl (decide (i<=j))) Dl.gLe:=Zoc (fun x y d e=>by unfold Dl.gLe at e;split at e<;>cases e;exact ⟨_,_,rfl,rfl,rfl⟩) fun _ _ _=>rpB
theorem Zej:GOk K C (rI0 fun i j=>.bl (decide (j<i))) Dl.gGt:=Zoc (fun x y d e=>by unfold Dl.gGt at e;split at e<;>cases e;exact ⟨_,_,rfl,rfl,rfl⟩) fun _ _ _=>rpB
theorem Xit:GOk K C (rI0 fun i j=>.bl (decide (j<=i))) Dl.gGe:=Zoc (fun x y d e=>by unfold Dl.gGe at e;split at e<;>cases e;exact ⟨_,_,rfl,rfl,rfl⟩) fun _ _ _=>rpB
theorem Jk:GOk K C (rI (fun _ j=>0<j) fun i j=>.int (i % j)) Dl.Zje:=Xoq (fun x y d e=>by
  unfold Dl.Zje at e;split at e;split at e;rename_i h;cases e;exact ⟨_,_,rfl,rfl,rfl,h⟩;cases e
  · cases e) fun _ _ _=>rpI
theorem Zxs:GOk K C (rI Xvh fun i j=>.int (i / j)) Dl.Xql:=Xoq (fun x y d e=>by
  unfold Dl.Xql at e;split at e;split at e;rename_i h;cases e;exact ⟨_,_,rfl,rfl,rfl,h⟩;cases e
  · cases e) fun _ _ _=>rpI
theorem Zbp:GOk K C (rI CPow fun i j=>.int (i ^ j.toNat)) Dl.Zkb:=Xoq (fun x y d e=>by
  unfold Dl.Zkb at e;split at e;split at e;rename_i h;cases e;exact ⟨_,_,rfl,rfl,rfl,h⟩;cases e
  · cases e) fun _ _ _=>rpI
theorem Zxw {i j:Int}(h:(Dl.short i||Dl.short j)=true):Xpy i j:=by unfold Dl.short at h;simp only [Bool.or_eq_true,A9,decide_eq_true_eq] at h;exact h
theorem Xt:GOk K C Xen Dl.Zal:=by intro H x y d vx vy Bx By Q rx ry e q;unfold Dl.Zal at e;split at e;split at e;rename_i h;cases e;obtain ⟨rfl,_⟩:=rx;obtain ⟨rfl,_⟩:=ry;exact Xtl (Zxw h) (Out.flat q rpI);cases e;split at e;rename_i h;cases e;obtain ⟨a,xs,B,rfl,e2,e3,_⟩:=rx;obtain ⟨rfl,_⟩:=ry;obtain ⟨h1,h2,h3,h4⟩:=h;refine Xqv e2 (by omega) (by omega) (by rw [e3.len];exact Zbu h2) fun p hp=>?_;exact Out.lst q ((e3.flat' h4).rep _) hp;cases e;cases e
theorem Zec {A:List Addr}(h:Dl.dep d<=20)(r:Rp K C H d v A):Dn K H v (toPy d)/\Ea (toPy d)=true:=by obtain ⟨q1,q2,q3⟩:=r.dn h (by decide);refine ⟨q1,?_⟩;unfold Ea;rw [q2,q3];simp only [Bool.true_and,decide_eq_true_eq];omega
theorem Zga:GOk K C (Xcj K) Dl.gEq:=by intro H x y d vx vy Bx By Q rx ry e q;unfold Dl.gEq at e;split at e;rename_i h;cases e;obtain ⟨a1,a2⟩:=Zec h.1 rx;obtain ⟨b1,b2⟩:=Zec h.2 ry;refine .inr ⟨_,_,a1,b1,a2,b2,?_⟩;rw [Zrx (by omega) (by omega)];exact Out.flat q rpB;cases e
theorem Xjh:GOk K C (rNeA K) Dl.gNe:=by intro H x y d vx vy Bx By Q rx ry e q;unfold Dl.gNe at e;split at e;rename_i h;cases e;obtain ⟨a1,a2⟩:=Zec h.1 rx;obtain ⟨b1,b2⟩:=Zec h.2 ry;refine .inr ⟨_,_,a1,b1,a2,b2,?_⟩;rw [Zrx (by omega) (by omega)];exact Out.flat q rpB;cases e
theorem Xji {x:D}(hx:Dl.dep x<100):∀{ys:List D},Dl.Zgt ys<100->((Zcs ys).any fun z=>DW z (toPy x))=ys.any fun y=>Dl.eqv y x
 | [],_=>rfl
 | y::ys,h=>by simp only [Dl.Zgt] at h;simp only [Zcs,FP];rw [Zrx (by omega) hx,Xji hx (by omega)]
theorem Zws:GOk K C (rInD K true) Dl.Zra:=by intro H x y d vx vy Bx By Q rx ry e q;unfold Dl.Zra at e;split at e;split at e;rename_i h;cases e;obtain ⟨a1,a2,a3⟩:=rx.dn h.1 (by decide);obtain ⟨b1,b2,b3⟩:=ry.dn (n:=21) (by simp only [Dl.dep];omega) (by decide);refine ⟨_,_,b1,a1,by simpa [toPy,E3] using b2,a2,by omega,?_⟩;simp only [if_true];rw [Xji (by omega) (by omega)];exact Out.flat q rpB;cases e;cases e
theorem Xow:AOk K C E Γ Δ 2 [] Zmw Dl.Zw:=fun _ _ H _ _ _ _ _ p=>p [] H (Xi.refl _) ⟨[],RpA.nil,(fun _ h=>nomatch h),fun _=>Be⟩
theorem InS.left (h:InS A S1 a):InS A (S1++S2) a:=h.mono fun _ hp=>AJ _ hp
theorem InS.right (h:InS A S2 a):InS A (S1++S2) a:=h.mono fun _ hp=>As _ hp
theorem Xff {t:TA}(he:EOk K C E Γ Δ m1 S1 te fe)(ha:AOk K C E Γ Δ m2 S2 t f):AOk K C E Γ Δ 0 (S1++S2) (Jz te t) (Dl.Zc fe f):=
  fun H0 Hb H σ ρ A Q I p=>he H0 Hb H σ ρ A _ I (p.bind.imp (fun x q vx H1 g1 r1=>ha H0 Hb H1 σ ρ A _ (I.mono g1) (q.bind.imp (fun ys q vs H2 g2 r2=>by
    obtain ⟨Bx,r1,r1',_⟩:=r1;obtain ⟨By,r2,r2',_⟩:=r2;exact q _ H2 (g1.trans g2) ⟨Bx++By,⟨vx,vs,Bx,By,rfl,r1.same g2,r2,rfl⟩,fun a h=>(Au.mp h).elim (fun h=>(r1' a h).imp id InS.left) (fun h=>(r2' a h).imp (fun h=>g1.free h) InS.right),(fun z=>nomatch z)⟩)
    fun c x q H' g'=>q H' (g1.trans g'))) fun c x q H' g'=>q H' g')
theorem Zog {t:TA}(he:EOk K C E Γ Δ 2 S1 te fe)(ha:AOk K C E Γ Δ 2 S2 t f)(h1:∀p∈S1,p.1∈Δ:=by decide)(h2:∀p∈S1,∀q∈S2,p.1≠q.1:=by decide):AOk K C E Γ Δ 2 (S1++S2) (Jz te t) (Dl.Zc fe f):=
  fun H0 Hb H σ ρ A Q I p=>he H0 Hb H σ ρ A _ I (p.bind.imp (fun x q vx H1 g1 r1=>ha H0 Hb H1 σ ρ A _ (I.mono g1) (q.bind.imp (fun ys q vs H2 g2 r2=>by
    obtain ⟨Bx,r1,r1',_,n1⟩:=r1;obtain ⟨By,r2,r2',n2⟩:=r2;refine q _ H2 (g1.trans g2) ⟨Bx++By,⟨vx,vs,Bx,By,rfl,r1.same g2,r2,rfl⟩,fun a h=>(Au.mp h).elim (fun h=>(r1' a h).imp id InS.left) (fun h=>(r2' a h).imp (fun h=>g1.free h) InS.right),fun _=>?_⟩;refine A3.mpr ⟨n1 rfl,n2 rfl,fun a ha b hb e=>?_⟩;subst e;rcases r2' a hb with z | z;obtain ⟨xs,w,_⟩:=r1.isl a ha;rw [w] at z;cases z
    · obtain ⟨p2,hp2,z⟩:=z.mem;rcases r1' a ha with w | w;exact I.ne z w
      · obtain ⟨p1,hp1,w⟩:=w.mem;exact (I.deep p1.1 (h1 p1 hp1)).2.1 p2.1 (fun e=>h2 p1 hp1 p2 hp2 e.symm) a w z)
    fun c x q H' g'=>q H' (g1.trans g'))) fun c x q H' g'=>q H' g')
theorem Xpv {t:TA}(ha:AOk K C E Γ Δ 2 S t f):EOk K C E Γ Δ 2 S (Xqd t) (Dl.fA Dl.Je f):=
  fun H0 Hb H σ ρ A Q I p=>ha H0 Hb H σ ρ A _ I (p.bind.imp (fun ds q vs H1 g1 r1=>by
    obtain ⟨d,e,q⟩:=Zdf q;unfold Dl.Je at e;split at e;rename_i hz;cases e;obtain ⟨B,r1,r1',n1⟩:=r1;refine ⟨by rw [r1.len];exact Zbu hz,fun p hp=>?_⟩;have g2:=sameNew hp (.lst vs);refine q _ _ (g1.trans g2) ⟨p::B,⟨p,vs,B,rfl,Xd,r1.same g2,rfl⟩,fun a ha=>?_,(fun z=>nomatch z),fun _=>AA.mpr ⟨fun h=>?_,n1 rfl⟩⟩;rcases An.mp ha with z | z;rw [z];exact .inl (g1.free hp);exact r1' a z;obtain ⟨xs,w,_⟩:=r1.isl p h;rw [w] at hp;cases hp
    · cases e) fun c x q H' g'=>q H' g')
theorem Xgq {t:TA}(ha:AOk K C E Γ Δ m S t f):EOk K C E Γ Δ 1 S (Xqd t) (Dl.fA Dl.Je f):=
  fun H0 Hb H σ ρ A Q I p=>ha H0 Hb H σ ρ A _ I (p.bind.imp (fun ds q vs H1 g1 r1=>by
    obtain ⟨d,e,q⟩:=Zdf q;unfold Dl.Je at e;split at e;rename_i hz;cases e;obtain ⟨B,r1,r1',n1⟩:=r1;refine ⟨by rw [r1.len];exact Zbu hz,fun p hp=>?_⟩;have g2:=sameNew hp (.lst vs);refine q _ _ (g1.trans g2) ⟨p::B,⟨p,vs,B,rfl,Xd,r1.same g2,rfl⟩,fun a ha=>?_,fun _ a r e=>?_,(fun z=>nomatch z)⟩;rcases An.mp ha with z | z;rw [z];exact .inl (g1.free hp);exact r1' a z;cases e;refine ⟨g1.free hp,fun h=>?_⟩;obtain ⟨xs,w,_⟩:=r1.isl p h;rw [w] at hp;cases hp
    · cases e) fun c x q H' g'=>q H' g')
theorem Xbb (hm:m=0\/m=2){t:TA}(ha:AOk K C E Γ Δ m S t f):EOk K C E Γ Δ m S (Xwd t) (Dl.fA Dl.Zfa f):=
  fun H0 Hb H σ ρ A Q I p=>ha H0 Hb H σ ρ A _ I (p.bind.imp (fun ds q vs H1 g1 r1=>by
    obtain ⟨d,e,q⟩:=Zdf q;unfold Dl.Zfa at e;split at e;rename_i hz;cases e;obtain ⟨B,r1,r1',n1⟩:=r1;refine ⟨by rw [r1.len];exact Zbu hz,fun p hp=>?_⟩;have g2:=sameNew hp (.tup vs);exact q _ _ (g1.trans g2) ⟨B,⟨p,vs,rfl,Xd,r1.same g2⟩,r1',(fun z=>by omega),n1⟩
    · cases e) fun c x q H' g'=>q H' g')
theorem Xiy {g:List D->Option D}{t:TA}(hg:GAk K C r g)(ha:AOk K C E Γ Δ m S t f):EOk K C E Γ Δ 2 [] (tCB r t) (Dl.fA g f):=
  fun H0 Hb H σ ρ A Q I p=>ha H0 Hb H σ ρ A _ I (p.bind.imp (fun ds q vs H1 g1 r1=>by
    obtain ⟨d,e,q⟩:=Zdf q;obtain ⟨B,r1,_⟩:=r1;exact hg H1 ds d vs B Q r1 e fun v H' B' g2 r2 h1 h2=>q v H' (g1.trans g2) (Res.new r2 h1 fun a ha=>g1.free (h2 a ha))) fun c x q H' g'=>q H' g')
theorem RpA.one' {A:List Addr}(r:RpA K C H [d] vs A):∃v,vs=[v]/\Rp K C H d v A:=by obtain ⟨x,l,B,B',e1,e2,e3,e4⟩:=r;obtain ⟨e5,e6⟩:=e3;subst e1 e4 e5 e6;rw [CK];exact ⟨x,rfl,e2⟩
theorem RpA.two' {e:D}{A:List Addr}(r:RpA K C H [d,e] vs A):∃v w B B',vs=[v,w]/\Rp K C H d v B/\Rp K C H e w B':=by obtain ⟨x,l,B,B',e1,e2,e3,e4⟩:=r;obtain ⟨w,e5,e6⟩:=e3.one';subst e1 e5;exact ⟨x,w,B,B',rfl,e2,e6⟩
theorem Ja:GAk K C (Zbj K) Dl.Zbr:=by
 intro H xs d vs B Q r e q;obtain ⟨x,rfl⟩:=Zsm (F:=Dl.Zbr) rfl (fun x _ _=>by cases x<;>rfl) e;obtain ⟨v,rfl,r1⟩:=r.one';cases x with
 | lst xs =>cases (show some (D.int xs.length)=some d from e);obtain ⟨a,ys,B,rfl,e2,e3,_⟩:=r1;refine Zxy (SqL.of e2) ?_;rw [e3.len];exact Out.flat q rpI
 | tup xs =>cases (show some (D.int xs.length)=some d from e);obtain ⟨a,ys,rfl,e2,e3⟩:=r1;refine Xjw (SqT.of e2) ?_;rw [e3.len];exact Out.flat q rpI
 | scr xs =>cases (show some (D.int xs.length)=some d from e);obtain ⟨a,rfl,e2,_⟩:=r1;refine Zxy e2.sq ?_;rw [Am];exact Out.flat q rpI
 | str z =>have e:(if z.length<=Dl.lim then some (D.int z.length) else none)=some d:=e;by_cases hz:z.length<=Dl.lim;rw [if_pos hz] at e;cases e;obtain ⟨rfl,_⟩:=r1;exact Xnz (Zbu hz) (Out.flat q rpI);rw [if_neg hz] at e;exact Yw e
 | _=>exact Yw e
theorem Xmf:GAk K C (rSum K) Dl.Xqp:=by
 intro H xs d vs B Q r e q;obtain ⟨x,rfl⟩:=Zsm (F:=Dl.Xqp) rfl (fun x _ _=>by cases x<;>rfl) e;obtain ⟨v,rfl,r1⟩:=r.one';cases x with
 | lst xs =>obtain ⟨ns,h1,h2⟩:=AK.mp e;cases h2;obtain ⟨a,ys,B,rfl,e2,e3,_⟩:=r1;have h:=e3.ofInts h1;subst h;exact Xwk (SqL.of e2) (Out.flat q rpI)
 | _=>exact Yw e
def Xaz:List V->Hp->VK->Prop:=fun xs H Q=>∃i j,xs=[.int i,.int j]/\Q (.int (if j<i then j else i)) H
theorem Zhj (hc:X.calm=true):Jy X (.builtin "min") Xaz:=Xav hc
theorem Zqf:GAk K C Xaz Dl.Xnm:=by intro H xs d vs B Q r e q;unfold Dl.Xnm at e;split at e;cases e;obtain ⟨v,w,B,B',rfl,r1,r2⟩:=r.two';obtain ⟨rfl,_⟩:=r1;obtain ⟨rfl,_⟩:=r2;exact ⟨_,_,rfl,Out.flat q rpI⟩;cases e
theorem Xpn:GAk K C (Xdm K) Dl.gAny:=by
 intro H xs d vs B Q r e q;obtain ⟨x,rfl⟩:=Zsm (F:=Dl.gAny) rfl (fun x _ _=>by cases x<;>rfl) e;obtain ⟨v,rfl,r1⟩:=r.one';cases x with
 | lst xs =>obtain ⟨ns,h1,h2⟩:=AK.mp e;cases h2;obtain ⟨a,ys,B,rfl,e2,e3,_⟩:=r1;have h:=e3.ofBools h1;subst h;exact Xob (SqL.of e2) (Out.flat q rpB)
 | _=>exact Yw e
theorem RpA.rng {lo:Int}:RpA K C H (Dl.Zgj lo n) (Zpc lo n) []:=by
 unfold Dl.Zgj Zpc;generalize AO n=l
 induction l with
 | nil=>exact RpA.nil
 | cons k l ih=>exact ⟨_,_,[],[],rfl,rpI,ih,rfl⟩
theorem Zeu:GAk K C (Zlc K) Dl.Zew:=by
 intro H xs d vs B Q r e q;obtain ⟨x,rfl⟩:=Zsm (F:=Dl.Zew) rfl (fun x _ _=>by cases x<;>rfl) e;obtain ⟨v,rfl,r1⟩:=r.one';cases x with
 | lst xs =>have e:(if Dl.Zx xs then some (D.lst xs) else none)=some d:=e;split at e;rename_i hf;cases e;obtain ⟨a,ys,B,rfl,e2,e3,_⟩:=r1;exact Xfp (SqL.of e2) fun l hl=>Out.lst q (e3.flat' hf) hl;exact Yw e
 | tup xs =>have e:(if Dl.Zx xs then some (D.lst xs) else none)=some d:=e;split at e;rename_i hf;cases e;obtain ⟨a,ys,rfl,e2,e3⟩:=r1;exact .inl ⟨a,ys,rfl,.inr (SqT.of e2),fun l hl=>Out.lst q (e3.flat' hf) hl⟩;exact Yw e
 | rng i j =>have e:(if -1000000000<=i/\i<=1000000000/\-1000000000<=j/\j<=1000000000/\(j - i).toNat<=Dl.lim then some (D.lst (Dl.Zgj i (j - i).toNat)) else none)=some d:=e;split at e;rename_i hf;cases e;obtain ⟨a,rfl,e2,_⟩:=r1;obtain ⟨h1,h2,h3,h4,h5⟩:=hf;exact Xdr e2 (by omega) (by omega) (by omega) (by omega) h5 fun l hl=>Out.lst q RpA.rng hl;exact Yw e
 | _=>exact Yw e
theorem Xdc:OOk K C E Γ Δ Zls Dl.Zhi:=fun _ _ H _ _ _ _ _ p=>p H (Xi.refl _)
theorem Xdz {t:TE}{f:FE}(h:EOk K C E Γ Δ m S t f):OOk K C E Γ Δ (Xcr t) (Dl.Zef f):=fun H0 Hb H σ ρ A Q I p=>h H0 Hb H σ ρ A _ I (p.bind.imp (fun d q v H' g r=>by
  obtain ⟨B,r,_⟩:=r;cases d with
  | int i =>obtain ⟨rfl,_⟩:=r;exact ⟨i,rfl,q H' g⟩
  | _=>exact q.elim) fun c x q H' g'=>q H' g')
theorem Zka (n d:Nat)(o:Option Int):Dl.Zpn n d o=HT.sIx n d o:=by
 cases o with
 | none=>rfl
 | some v =>have h:=HT.clip_eq v n d;show (if v<0 then (max (v+(n:Int)) 0).toNat else min v.toNat n)=_;by_cases hv:v<0;rw [if_pos hv] at h ⊢;omega;rw [if_neg hv] at h ⊢;omega
theorem RpA.cut {ds:List D}{vs:List V}{A:List Addr}(h:Dl.Zx ds=true)(r:RpA K C H ds vs A)(lo hi:Option Int):RpA K C H (Dl.cut ds lo hi) (Xbf vs lo hi) []:=by unfold Dl.cut Xbf;rw [Zka,Zka,r.len];exact (r.flatDrop h _).flatTake (Zvn h _) _
theorem Xcm (ns:List Int)(lo hi:Option Int):Xbf (ns.map V.int) lo hi=(Dl.cut ns lo hi).map V.int:=by unfold Dl.cut Xbf;rw [Zka,Zka,Am,GO,Hy]
theorem Xwt (ha:EOk K C E Γ Δ m S ta fa)(hl:OOk K C E Γ Δ tl fl)(hh:OOk K C E Γ Δ th fh):EOk K C E Γ Δ 2 [] (tSl (rSlL K) ta tl th) (Dl.fSl Dl.gSl fa fl fh):=
  fun H0 Hb H σ ρ A Q I p=>ha H0 Hb H σ ρ A _ I (p.bind.imp (fun x q vx H1 g1 r1=>hl H0 Hb H1 σ ρ A _ (I.mono g1) (q.bind.imp (fun lo q H2 g2=>hh H0 Hb H2 σ ρ A _ (I.mono (g1.trans g2)) (q.bind.imp (fun hi q H3 g3=>by
    obtain ⟨d,e,q⟩:=Zdf q;obtain ⟨B,r1,_⟩:=r1;have r1:=r1.same (g2.trans g3);have g13:=g1.trans (g2.trans g3);have out:Out K C H3 d Q:=fun v H' B g4 r h1 h2=>q v H' (g13.trans g4) (Res.new r h1 fun a ha=>g13.free (h2 a ha));unfold Dl.gSl at e;split at e;split at e;rename_i hf;cases e;obtain ⟨a,ys,B,rfl,e2,e3,_⟩:=r1;exact Xin (SqL.of e2) fun p hp=>Out.lst out (e3.cut hf _ _) hp;cases e;cases e;obtain ⟨a,rfl,e2,_⟩:=r1;refine Xin e2.sq fun p hp=>?_;rw [Xcm];exact Out.lst out RpA.ints hp
    · cases e) fun c x q H' g'=>q H' ((g1.trans g2).trans g'))) fun c x q H' g'=>q H' (g1.trans g'))) fun c x q H' g'=>q H' g')
theorem Xjd {t:TE}{f:FE}(h:EOk K C E Γ Δ m S t f):∀(H0 Hb H:Hp) (σ:St) (ρ:Xr) (A:Nat->List Addr) (Q:Bool->Hp->Prop),Zp K C H0 Hb H Γ Δ σ ρ A->
    Xh (Dl.cE f ρ) (fun b=>∀H',Xi H H'->Q b H') (fun c x=>∀H',Xi H H'->EC C E c x H')->t σ H fun x H'=>∃k,x=.bl k/\Q k H':=fun H0 Hb H σ ρ A Q I p=>h H0 Hb H σ ρ A _ I (p.bind.imp (fun d q v H' g r=>by
  obtain ⟨B,r,_⟩:=r;cases d with
  | bl b =>obtain ⟨rfl,_⟩:=r;exact ⟨b,rfl,q H' g⟩
  | _=>exact q.elim) fun c x q H' g'=>q H' g')
theorem Xdb {t:TE}{f:FE}(h:EOk K C E Γ Δ m S t f):TOk K C E Γ Δ (Xef t) (Dl.cE f):=Xjd h
theorem tok_B {t:TE}{f:FE}(h:EOk K C E Γ Δ m S t f):TOk K C E Γ Δ (tB t) (Dl.cE f):=Xjd h
theorem Xkw {t:TT}{f:FT}(h:TOk K C E Γ Δ t f):TOk K C E Γ Δ (tNot t) (Dl.Xcq f):=fun H0 Hb H σ ρ A Q I p=>h H0 Hb H σ ρ A _ I (p.bind.imp (fun b q H' g=>q H' g) fun c x q H' g'=>q H' g')
theorem Xpb {t u:TT}{f g:FT}(h:TOk K C E Γ Δ t f)(h':TOk K C E Γ Δ u g):TOk K C E Γ Δ (tAnd t u) (Dl.Xmz f g):=fun H0 Hb H σ ρ A Q I p=>h H0 Hb H σ ρ A _ I (p.bind.imp (fun b q H' g'=>by
  cases b with
  | true=>exact h' H0 Hb H' σ ρ A Q (I.mono g') (Xh.imp q (fun b q H2 g2=>q H2 (g'.trans g2)) fun c x q H2 g2=>q H2 (g'.trans g2))
  | false=>exact q H' g') fun c x q H' g'=>q H' g')
theorem Xup {t u:TT}{f g:FT}(h:TOk K C E Γ Δ t f)(h':TOk K C E Γ Δ u g):TOk K C E Γ Δ (tOr t u) (Dl.cOr f g):=fun H0 Hb H σ ρ A Q I p=>h H0 Hb H σ ρ A _ I (p.bind.imp (fun b q H' g'=>by
  cases b with
  | false=>exact h' H0 Hb H' σ ρ A Q (I.mono g') (Xh.imp q (fun b q H2 g2=>q H2 (g'.trans g2)) fun c x q H2 g2=>q H2 (g'.trans g2))
  | true=>exact q H' g') fun c x q H' g'=>q H' g')
theorem Xoy:TOk K C E Γ Δ tYes Dl.Zjc:=fun _ _ H _ _ _ _ _ p=>p H (Xi.refl _)
theorem EOk.run {t:TE}{f:FE}(h:EOk K C E Γ Δ m S t f)(I:Zp K C H0 Hb H Γ Δ σ ρ A)(g:Xi H H1)
  (p:Xh (f ρ) (fun d=>∀v H',Xi H H'->Res K C m S H A d v H'->Q v H') (fun c x=>∀H',Xi H H'->EC C E c x H')):t σ H1 Q:=
 h H0 Hb H1 σ ρ A Q (I.mono g) (p.imp (fun d q v H2 g2 r=>q v H2 (g.trans g2) (r.later g (Xi.refl _))) fun c x q H2 g2=>q H2 (g.trans g2))
theorem Xnh (ha:EOk K C E Γ Δ m1 S1 ta fa)(hb:EOk K C E Γ Δ m S tb fb):EOk K C E Γ Δ m S (Xfx ta tb) (Dl.fAnd fa fb):=fun H0 Hb H σ ρ A Q I p=>ha H0 Hb H σ ρ A _ I (p.bind.imp (fun d q v H' g r=>by
  obtain ⟨B,r,_⟩:=r;cases d with
  | bl b =>
    obtain ⟨rfl,_⟩:=r;refine ⟨b,rfl,?_⟩;cases b with
    | true=>exact hb.run I g q
    | false=>exact q _ H' g (Res.flat rpB)
  | _=>exact q.elim) fun c x q H' g'=>q H' g')
theorem Xnj (ha:EOk K C E Γ Δ m1 S1 ta fa):EOk K C E Γ Δ 2 [] (Xhm ta) (Dl.f1 Dl.gNot fa):=fun H0 Hb H σ ρ A Q I p=>ha H0 Hb H σ ρ A _ I (p.bind.imp (fun d q v H' g r=>by
  obtain ⟨B,r,_⟩:=r;cases d with
  | bl b =>obtain ⟨rfl,_⟩:=r;exact ⟨b,rfl,q _ H' g (Res.flat rpB)⟩
  | _=>exact q.elim) fun c x q H' g'=>q H' g')
theorem Xvm {fc:FT}(hc:TOk K C E Γ Δ tc fc)(ha:EOk K C E Γ Δ m S ta fa)(hb:EOk K C E Γ Δ m S tb fb):EOk K C E Γ Δ m S (tIf tc ta tb) (Dl.fIf fc fa fb):=
  fun H0 Hb H σ ρ A Q I p=>hc H0 Hb H σ ρ A _ I (p.bind.imp (fun b q H' g=>by
    cases b with
    | true=>exact ha.run I g q
    | false=>exact hb.run I g q) fun c x q H' g'=>q H' g')
def spD (K:Frag)(C:String->Addr)(n mr:Nat)(F:List D->R D):Sp:=fun vs H Q E=>∃ds B,ds.length=n/\RpA K C H ds vs B/\
 Xh (F ds) (fun d=>∀v H',Xi H H'->Res K C mr [] H (fun _=>[]) d v H'->Q v H') (fun c x=>∀H',Xi H H'->EC C E c x H')
theorem InS.none (h:InS A [] a):False:=by obtain ⟨p,hp,_⟩:=h;cases hp
theorem Res.reA {A':Nat->List Addr}(r:Res K C m [] H A d v H'):Res K C m S H A' d v H':=by obtain ⟨B,r1,r2,r3,r4⟩:=r;exact ⟨B,r1,fun a ha=>(r2 a ha).imp id fun h=>h.none.elim,r3,r4⟩
theorem Xhl {t:TA}(ha:AOk K C E Γ Δ m S t f)(hn:∀ρ ds,f ρ=.ok ds->ds.length=n):EOk K C E Γ Δ mr [] (Zmv (spD K C n mr F) [] E t) (Dl.Ye F f):=
  fun H0 Hb H σ ρ A Q I p=>Zwf (ha H0 Hb H σ ρ A _ I (by
    have p':=p.bind;cases e:f ρ with
    | bad=>rw [e] at p';exact p'
    | err c x=>rw [e] at p';exact p'
    | ok ds =>
      rw [e] at p';intro vs H1 g1 r1;obtain ⟨B,r1,_⟩:=r1;exact ⟨ds,B,hn ρ ds e,r1,Xh.imp p' (fun d q v H' g2 r=>q v H' (g1.trans g2) ((r.later g1 (Xi.refl _)).reA)) fun c x q H' g'=>q H' (g1.trans g')⟩))
theorem Xjx (ρ:Xr)(ds:List D)(h:Dl.Zw ρ=.ok ds):ds.length=0:=by cases h;rfl
theorem Zlz (hf:∀ρ ds,f ρ=.ok ds->ds.length=n)(ρ:Xr)(ds:List D)(h:Dl.Zc fe f ρ=.ok ds):ds.length=n+1:=by
 unfold Dl.Zc at h;cases e:fe ρ with
 | ok x =>
  rw [e] at h;cases e':f ρ with
  | ok xs =>rw [e'] at h;cases h;rw [AX,hf ρ xs e']
  | err c x=>rw [e'] at h;cases h
  | bad=>rw [e'] at h;cases h
 | err c x=>rw [e] at h;cases h
 | bad=>rw [e] at h;cases h
def Goes (K:Frag)(C:String->Addr)(J:It)(ds:List D)(Hb:Hp):Prop:=∀H2,Xi Hb H2->(∀i,i<ds.length->J.go i H2)/\(∀i,ds.length<=i->J.stop i H2)/\
 ∀i x H3,i<ds.length->J.yld i H2 x H3->Xi H2 H3/\∃d B,ds[i]?=some d/\Rp K C H3 d x B/\∀a∈B,Hb a≠none
def IOk (K:Frag)(C:String->Addr)(E:XK)(Γ Δ:List Nat)(S:List (Nat×Bool))(wi:TI)(f:FI):Prop:=∀(H0 Hb H:Hp) (σ:St) (ρ:Xr) (A:Nat->List Addr) (Rr:It->Hp->Prop),Zp K C H0 Hb H Γ Δ σ ρ A->
  Xh (f ρ) (fun ds=>∀J H' W,Xi H H'->(∀a∈W,(∃o,H' a=some o/\IsM o)/\(H a=none\/InS A S a))->ds.length<=Dl.lim->
    (∀Hc,Agree W H' Hc->Goes K C J ds Hc)->Rr J H') (fun c x=>∀H',Xi H H'->EC C E c x H')->wi σ H Rr
theorem Zzx (r:RpA K C Hc ds vs B)(h:∀H2,Xi Hc H2->(∀i,i<vs.length->J.go i H2)/\(∀i,vs.length<=i->J.stop i H2)/\∀i x H3,J.yld i H2 x H3->H3=H2/\(i<vs.length->vs[i]?=some x)):Goes K C J ds Hc:=fun H2 g=>by obtain ⟨h1,h2,h3⟩:=h H2 g;have hl:=r.len;refine ⟨fun i hi=>h1 i (by omega),fun i hi=>h2 i (by omega),fun i x H3 hi y=>?_⟩;obtain ⟨e,y2⟩:=h3 i x H3 y;subst e;obtain ⟨d,Bd,q1,q2,q3⟩:=r.get' (y2 (by omega));refine ⟨Xi.refl _,d,Bd,q1,q2.same g,fun a ha z=>?_⟩;obtain ⟨xs,e,_⟩:=q2.isl a ha;rw [e] at z;cases z
theorem Zon (r:RpA K C Hc ds vs B)(h:∀H2,Xi Hc H2->SqL K H2 a vs):Goes K C (Itl K a) ds Hc:=Zzx r fun H2 g=>by have q:=h H2 g;exact ⟨fun i hi=>⟨vs,vs[i],q,by simp [hi]⟩,fun i hi=>⟨vs,q,hi⟩,fun i x H3 y=>⟨y.1,fun _=>y.2 vs q⟩⟩
theorem Zta {lo:Int}:Goes K C (Itr lo n) (Dl.Zgj lo n) Hc:=Zzx (vs:=Zpc lo n) RpA.rng fun H2 _=>by
 have hl:(Zpc lo n).length=n:=by simp [Zpc]
 refine ⟨fun i hi=>by rw [hl] at hi;exact hi,fun i hi=>by rw [hl] at hi;exact hi,fun i x H3 y=>⟨y.1,fun hi=>?_⟩⟩;rw [hl] at hi;rw [y.2];simp [Zpc,hi]
theorem FzL.keep (h:FzL K H a xs)(hk:∀b o,H b=some o->¬IsM o->Hb b=some o):FzL K Hb a xs:=by rcases h with ⟨o,h⟩ | h;exact .inl ⟨o,hk a _ h (fun z=>by cases z)⟩;exact .inr h
theorem FzL.same (h:FzL K H a xs)(g:Xi H Hb):FzL K Hb a xs:=h.keep fun b o q _=>g b o q
theorem Xgn {t:TE}{f:FE}(h:EOk K C E Γ Δ m S t f):IOk K C E Γ Δ S (Xgi K t) (Dl.Zed f):=fun H0 Hb H σ ρ A Rr I p=>h H0 Hb H σ ρ A _ I (p.bind.imp (fun d q v H' g r=>by
  obtain ⟨B,r,r',_⟩:=r;cases d with
  | lst ds =>obtain ⟨a,xs,B',rfl,e2,e3,e4⟩:=r;subst e4;simp only at q;split at q;rename_i hl;refine ⟨a,rfl,⟨xs,SqL.of e2⟩,q _ H' (a::B') g (fun b hb=>?_) hl fun Hc h1=>Zon (e3.agree h1 fun b hb=>.tail _ hb) fun H2 g2=>SqL.of (g2 _ _ ((h1.1 a (.head _)).trans e2))⟩;rcases An.mp hb with z | z;rw [z];exact ⟨⟨_,e2,.lst⟩,r' a (.head _)⟩;exact ⟨e3.isl b z,r' b (.tail _ z)⟩;exact q.elim
  | scr ns =>obtain ⟨a,rfl,e2,_⟩:=r;simp only at q;split at q;rename_i hl;exact ⟨a,rfl,⟨_,e2.sq⟩,q _ H' [] g (fun b hb=>nomatch hb) (by rw [Am];exact hl) fun Hc h2=>Zon RpA.ints fun H2 g2=>((e2.keep h2.2).same g2).sq⟩;exact q.elim
  | _=>exact q.elim) fun c x q H' g'=>q H' g')
theorem Zry (lo:Int)(n:Nat):(Dl.Zgj lo n).length=n:=by simp [Dl.Zgj]
theorem Xfv {t:TA}(h:AOk K C E Γ Δ m S t f):IOk K C E Γ Δ [] (Xdx t) (Dl.Zgo f):=fun H0 Hb H σ ρ A Rr I p=>h H0 Hb H σ ρ A _ I (p.bind.imp (fun ds q vs H' g r=>by
  obtain ⟨B,r,_⟩:=r;split at q;split at q;rename_i hl;obtain ⟨v,rfl,r1⟩:=r.one';obtain ⟨rfl,_⟩:=r1;exact ⟨_,rfl,by omega,by omega,q _ H' [] g (fun b hb=>nomatch hb) (by rw [Zry];show _<=1000000;omega) fun Hc _=>Zta⟩;exact q.elim
  · exact q.elim) fun c x q H' g'=>q H' g')
theorem Xgh {t:TA}(h:AOk K C E Γ Δ m S t f):IOk K C E Γ Δ [] (Xcy t) (Dl.Zty f):=fun H0 Hb H σ ρ A Rr I p=>h H0 Hb H σ ρ A _ I (p.bind.imp (fun ds q vs H' g r=>by
  obtain ⟨B,r,_⟩:=r;split at q;split at q;rename_i hl;obtain ⟨v,w,B,B',rfl,r1,r2⟩:=r.two';obtain ⟨rfl,_⟩:=r1;obtain ⟨rfl,_⟩:=r2;obtain ⟨h1,h2,h3,h4,h5⟩:=hl;exact ⟨_,_,rfl,⟨by omega,by omega,by omega,by omega⟩,q _ H' [] g (fun b hb=>nomatch hb) (by rw [Zry];exact h5) fun Hc _=>Zta⟩;exact q.elim
  · exact q.elim) fun c x q H' g'=>q H' g')
theorem Xfz {g:TG}(go:Goes K C J ds Hc)(Pv:Nat->Hp->Prop)(h0:Pv 0 (upd H Dd (.lst [])))(hb:∀i H,Pv i H->Xi Hc H)
    (hs:∀i d x B H H3,ds[i]?=some d->Pv i H->Xi H H3->Rp K C H3 d x B->(∀a∈B,Hc a≠none)->∀os:St,os.length=k->g x (σ++os) H3 fun σ' Hg=>(∃os',os'.length=k/\σ'=σ++os')/\tc σ' Hg fun b H2=>if b=true then te σ' H2 fun v H3=>∃ys,H3 Dd=some (.lst ys)/\ys.length<Aw/\Pv (i+1) (upd H3 Dd (.lst (ys++[v]))) else Pv (i+1) H2)
    (hd:∀H,Pv ds.length H->Rr H) :
    ∃W:Nat->Nat->Hp->Prop,(∃m,W 0 m (upd H Dd (.lst [])))/\∀i m H,W i m H->
      (J.stop i H/\Rr H)\/(J.go i H/\∃N:Hp->Prop,(∀H',N H'->∃m',m'<m/\W (i+1) m' H')/\∀x H',J.yld i H x H'->∀os:St,os.length=k->g x (σ++os) H' fun σ' Hg=>(∃os',os'.length=k/\σ'=σ++os')/\tc σ' Hg fun b H2 =>
        if b=true then te σ' H2 fun v H3=>∃ys,H3 Dd=some (.lst ys)/\ys.length<Aw/\N (upd H3 Dd (.lst (ys++[v])))
        else N H2):=by
  refine ⟨fun i m H=>m=ds.length - i/\i<=ds.length/\Pv i H,⟨ds.length,by simp,Dt _,h0⟩,?_⟩;rintro i m H1 ⟨rfl,hi,p⟩;obtain ⟨g1,g2,g3⟩:=go H1 (hb i H1 p);by_cases hlt:i<ds.length;refine .inr ⟨g1 i hlt,Pv (i+1),fun H' p'=>⟨ds.length - (i+1),by omega,rfl,hlt,p'⟩,fun x H' y=>?_⟩;obtain ⟨e,d,B,y1,y2,y3⟩:=g3 i x H' hlt y;exact hs i d x B H1 H' y1 p e y2 y3;have e:i=ds.length:=by omega
  subst e;exact .inl ⟨g2 _ (Ax _),hd H1 p⟩
theorem Zxv {g:TG}{tb:TS}{Dd:Ends}(go:Goes K C J ds Hc)(Pv:Nat->St->Hp->Prop)(h0:Pv 0 σ H)(hb:∀i σ H,Pv i σ H->Xi Hc H)
  (hs:∀i d x B σ H H3,ds[i]?=some d->Pv i σ H->Xi H H3->Rp K C H3 d x B->(∀a∈B,Hc a≠none)->g x σ H3 fun σ2 H2=>tb {Dd with nx:=Pv (i+1),ct:=Pv (i+1),bk:=Dd.nx} σ2 H2) (hd:∀σ H,Pv ds.length σ H->Dd.nx σ H) :
  ∃W:Nat->Nat->St->Hp->Prop,(∃m,W 0 m σ H)/\∀i m σ H,W i m σ H->
   (J.stop i H/\Dd.nx σ H)\/(J.go i H/\∃N:St->Hp->Prop,(∀σ' H',N σ' H'->∃m',m'<m/\W (i+1) m' σ' H')/\∀x H',J.yld i H x H'->g x σ H' fun σ2 H2=>tb {Dd with nx:=N,ct:=N,bk:=Dd.nx} σ2 H2):=by
 refine ⟨fun i m σ H=>m=ds.length - i/\i<=ds.length/\Pv i σ H,⟨ds.length,by simp,Dt _,h0⟩,?_⟩;rintro i m σ H1 ⟨rfl,hi,p⟩;obtain ⟨g1,g2,g3⟩:=go H1 (hb i σ H1 p);by_cases hlt:i<ds.length;refine .inr ⟨g1 i hlt,Pv (i+1),fun σ' H' p'=>⟨ds.length - (i+1),by omega,rfl,hlt,p'⟩,fun x H' y=>?_⟩;obtain ⟨e,d,B,y1,y2,y3⟩:=g3 i x H' hlt y;exact hs i d x B σ H1 H' y1 p e y2 y3;have e:i=ds.length:=by omega
 subst e;exact .inl ⟨g2 _ (Ax _),hd σ H1 p⟩
theorem Zp.more (I:Zp K C H0 Hb H Γ Δ σ ρ A)(os:St):Zp K C H H H [] [] (σ++os) (ρ++Ab os.length none) A:=by refine ⟨Xi.refl _,Xi.refl _,by rw [Ai,Ai,I.len,Cg],fun i e h=>?_,fun i h=>?_,(fun _ h=>nomatch h),(fun _ h=>nomatch h),(fun _ h=>nomatch h)⟩;by_cases hi:i<ρ.length;rw [AH hi] at h;obtain ⟨w,q1,q2⟩:=I.rep i e h;refine ⟨w,?_,q2⟩;rw [AH (by rw [I.len];exact hi)];exact q1;rw [AR (by omega)] at h;have hm:=Al h;rw [EY] at hm;exact absurd hm.2 (by intro z;cases z);refine I.nil i fun e h'=>h e ?_;rw [AH (Ag.mp h').1];exact h'
def NOk (K:Frag)(C:String->Addr)(n k:Nat)(g:TG)(b:FB):Prop:=∀(H:Hp) (σ os:St) (ρ:Xr) (A:Nat->List Addr) (d:D) (v:V) (B:List Addr) (Rr:St->Hp->Prop),σ.length=n->os.length=k->Zp K C H H H [] [] (σ++os) ρ A->Rp K C H d v B->
 Xh (b d ρ) (fun ρ'=>∀os' A',os'.length=k->Zp K C H H H [] [] (σ++os') ρ' A'->Rr (σ++os') H) (fun _ _=>False)->g v (σ++os) H Rr
def Xtz (K:Frag)(C:String->Addr)(n k:Nat)(g:TGs)(b:List D->Xr->R Xr):Prop:=∀(H:Hp) (σ os:St) (ρ:Xr) (A:Nat->List Addr) (d:List D) (v:List V) (B:List Addr) (Rr:St->Hp->Prop),σ.length=n->os.length=k->Zp K C H H H [] [] (σ++os) ρ A->RpA K C H d v B->
 Xh (b d ρ) (fun ρ'=>∀os' A',os'.length=k->Zp K C H H H [] [] (σ++os') ρ' A'->Rr (σ++os') H) (fun _ _=>False)->g v (σ++os) H Rr
theorem Ztq (k:Nat)(b:FB)(c:FT)(e:FE)(ρ:Xr)(xs:List D){x:D}(h:xs[i]?=some x):Dl.Zbg k b c e ρ (xs.drop i)=(b x (ρ++Ab k none)).calm.bind fun ρ1=>(c ρ1).bind fun t=>if t then (e ρ1).bind fun y=>(Dl.Zbg k b c e ρ (xs.drop (i+1))).bind fun ys=>.ok (y::ys) else Dl.Zbg k b c e ρ (xs.drop (i+1)):=by obtain ⟨hi,rfl⟩:=Ag.mp h;rw [AY hi];rfl
theorem Zdo {r:R α}{ok:α->Prop}(h:Xh r.calm ok er):Xh r ok (fun _ _=>False):=by
 cases r with
 | ok a=>exact h
 | err c x=>exact h
 | bad=>exact h
theorem get_set {l:List α}{x y:α}(h:(l.set i x)[j]?=some y):(j=i/\i<l.length/\y=x)\/(j≠i/\l[j]?=some y):=by by_cases e:i=j;subst e;rw [List.getElem?_set_self'] at h;by_cases hi:i<l.length;rw [Ad hi] at h;simp at h;exact .inl ⟨rfl,hi,h.symm⟩;rw [HQ (by omega)] at h;cases h;rw [BL e] at h;exact .inr ⟨fun z=>e z.symm,h⟩
theorem Zp.put (I:Zp K C H0 Hb H Γ Δ σ ρ A)(r:Rp K C H d v B)
  (h1:∀j∈Γ',j≠i->j∈Γ/\∀a l,A j=a::l->a∉B)
  (h2:i∈Γ'->(∀a∈B,H0 a=none)/\∀a l,B=a::l->Hb a=none/\a∉l/\∀j,j≠i->a∉A j)
  (h3:∀j∈Δ',j≠i->j∈Δ/\∀a∈A j,a∉B)
  (h4:i∈Δ'->B.Nodup/\(∀j,j≠i->∀a∈B,a∉A j)/\∀a∈B,Hb a=none):∃A',Zp K C H0 Hb H Γ' Δ' (σ.set i (some v)) (ρ.set i (some d)) A'/\∀j a,a∈A' j->a∈B\/a∈A j:=by
 by_cases hi:i<ρ.length;refine ⟨fun j=>if j=i then B else A j,⟨I.s0,I.same,by rw [DC,DC,I.len],fun j e h=>?_,fun j h=>?_,fun j hj a ha=>?_,fun j hj a l e=>?_,fun j hj=>?_⟩,fun j a ha=>?_⟩;rcases get_set h with ⟨e1,_,e2⟩ | ⟨e1,e2⟩;subst e1;cases e2;refine ⟨v,?_,by rw [if_pos rfl];exact r⟩;rw [Cu (by rw [I.len];exact hi)];obtain ⟨w,q1,q2⟩:=I.rep j e e2;refine ⟨w,?_,by rw [if_neg e1];exact q2⟩;rw [BL (fun z=>e1 z.symm)];exact q1;by_cases e:j=i;subst e;exact absurd (Cu hi) (h d);rw [if_neg e];refine I.nil j fun x hx=>h x ?_;rw [BL (fun z=>e z.symm)];exact hx;by_cases e:j=i;subst e;rw [if_pos rfl] at ha;exact (h2 hj).1 a ha;rw [if_neg e] at ha;exact I.loc j (h1 j hj e).1 a ha;by_cases e':j=i;subst e';rw [if_pos rfl] at e;obtain ⟨q0,q1,q2⟩:=(h2 hj).2 a l e;refine ⟨q0,q1,fun k hk=>?_⟩;rw [if_neg hk];exact q2 k hk;rw [if_neg e'] at e;obtain ⟨q0,q⟩:=h1 j hj e';obtain ⟨q3,q1,q2⟩:=I.top j q0 a l e;refine ⟨q3,q1,fun k hk=>?_⟩;by_cases ek:k=i;rw [if_pos ek];exact q a l e;rw [if_neg ek];exact q2 k hk;by_cases e:j=i;subst e;rw [if_pos rfl];obtain ⟨q1,q2,q3⟩:=h4 hj;refine ⟨q1,fun k hk a ha=>?_,q3⟩;rw [if_neg hk];exact q2 k hk a ha;rw [if_neg e];obtain ⟨q0,q⟩:=h3 j hj e;obtain ⟨q1,q2,q3⟩:=I.deep j q0;refine ⟨q1,fun k hk a ha=>?_,q3⟩;by_cases ek:k=i;rw [if_pos ek];exact q a ha;rw [if_neg ek];exact q2 k hk a ha;have ha:a∈(if j=i then B else A j):=ha;by_cases e:j=i;rw [if_pos e] at ha;exact .inl ha;rw [if_neg e] at ha;exact .inr ha;have e1:ρ.set i (some d)=ρ:=Hf (by omega);have e2:σ.set i (some v)=σ:=Hf (by rw [I.len];omega);have e3:A i=[]:=I.nil i fun x h=>by have:=(Ag.mp h).1;omega
 refine ⟨A,?_,fun j a ha=>.inr ha⟩;rw [e1,e2];refine ⟨I.s0,I.same,I.len,I.rep,I.nil,fun j hj a ha=>?_,fun j hj a l e=>?_,fun j hj=>?_⟩;by_cases e:j=i;subst e;rw [e3] at ha;cases ha;exact I.loc j (h1 j hj e).1 a ha;by_cases e':j=i;subst e';rw [e3] at e;cases e;exact I.top j (h1 j hj e').1 a l e;by_cases e:j=i;subst e;rw [e3];exact ⟨Be,fun _ _ _ h=>(nomatch h),fun _ h=>(nomatch h)⟩;exact I.deep j (h3 j hj e).1
theorem Zp.writeA {es:List D}(I:Zp K C H0 Hb H Γ Δ σ ρ A)(hi:i∈Γ)(hA:A i=a::l)(hl:i<ρ.length)(hs:σ[i]?=some (some (.ref a)))
  (mk:∀H',H' a=some o'->RpA K C H' es ys B'->Rp K C H' d' (.ref a) (a::B')) (r:RpA K C H es ys B') (hn:∀b∈B',H0 b=none) (ha:a∉B')
  (h1:∀j∈Γ',j≠i->j∈Γ/\∀b l,A j=b::l->b∉B')
  (h2:∀j∈Δ',j≠i->j∈Δ/\∀b∈A j,b∉B')
  (h3:i∈Δ'->B'.Nodup/\(∀j,j≠i->∀b∈B',b∉A j)/\∀b∈B',Hb b=none):∃A',Zp K C H0 Hb (upd H a o') Γ' Δ' σ (ρ.set i (some d')) A'/\∀j b,b∈A' j->b∈a::B'\/b∈A j:=by
 obtain ⟨xs,hxs,hm⟩:=I.is (j:=i) (a:=a) (by rw [hA];exact .head _);have hne:∀j,j≠i->a∉A j:=(I.top i hi a l hA).2.2;have hb0:Hb a=none:=(I.top i hi a l hA).1;have h0:H0 a=none:=I.loc i hi a (by rw [hA];exact .head _);have ext:Ext (fun b=>b=a) H (upd H a o'):=fun b o h=>by by_cases e:b=a;subst e;rw [hxs] at h;cases h;exact .inr ⟨rfl,hm⟩;rw [Xa e];exact .inl h
 refine ⟨fun j=>if j=i then a::B' else A j,⟨I.s0,fun b o h=>?_,by rw [DC,I.len],fun j e h=>?_,fun j h=>?_,fun j hj b hb=>?_,fun j hj b l' e=>?_,fun j hj=>?_⟩,fun j b hb=>?_⟩;rw [Xa (Xl h hb0)];exact I.same b o h;rcases get_set h with ⟨e1,_,e2⟩ | ⟨e1,e2⟩;subst e1;cases e2;refine ⟨.ref a,hs,?_⟩;rw [if_pos rfl];exact mk _ Xd (r.ext ext (fun b hb h=>ha (by rw [h] at hb;exact hb)));obtain ⟨w,q1,q2⟩:=I.rep j e e2;refine ⟨w,q1,?_⟩;rw [if_neg e1];exact q2.ext ext fun b hb h=>hne j e1 (by rw [h] at hb;exact hb);by_cases e:j=i;subst e;exact absurd (Cu hl) (h _);rw [if_neg e];refine I.nil j fun x hx=>h x ?_;rw [BL (fun z=>e z.symm)];exact hx;by_cases e:j=i;subst e;rw [if_pos rfl] at hb;rcases An.mp hb with z | z;rw [z];exact h0;exact hn b z;rw [if_neg e] at hb;exact I.loc j (h1 j hj e).1 b hb;by_cases e':j=i;subst e';rw [if_pos rfl] at e;cases e;refine ⟨hb0,ha,fun k hk=>?_⟩;rw [if_neg hk];exact hne k hk;rw [if_neg e'] at e;obtain ⟨q0,q⟩:=h1 j hj e';obtain ⟨q3,q1,q2⟩:=I.top j q0 b l' e;refine ⟨q3,q1,fun k hk=>?_⟩;by_cases ek:k=i;rw [if_pos ek];intro z;rcases An.mp z with z | z;exact hne j e' (by rw [e,z];exact .head _);exact q b l' e z;rw [if_neg ek];exact q2 k hk;by_cases e:j=i;subst e;rw [if_pos rfl];obtain ⟨q1,q2,q3⟩:=h3 hj;refine ⟨AA.mpr ⟨ha,q1⟩,fun k hk b hb=>?_,fun b hb=>?_⟩;rw [if_neg hk];rcases An.mp hb with z | z;rw [z];exact hne k hk;exact q2 k hk b z;rcases An.mp hb with z | z;rw [z];exact hb0;exact q3 b z;rw [if_neg e];obtain ⟨q0,q⟩:=h2 j hj e;obtain ⟨q1,q2,q3⟩:=I.deep j q0;refine ⟨q1,fun k hk b hb=>?_,q3⟩;by_cases ek:k=i;rw [if_pos ek];intro z;rcases An.mp z with z | z;exact hne j e (by rw [<- z];exact hb);exact q b hb z;rw [if_neg ek];exact q2 k hk b hb;by_cases e:j=i;simp only [if_pos e] at hb;exact .inl hb;simp only [if_neg e] at hb;exact .inr hb
theorem Zp.writeO {es:List D}(I:Zp K C H0 Hb H Γ Δ σ ρ A)(hi:i∈Γ)(hA:A i=a::l)(hl:i<ρ.length)(hs:σ[i]?=some (some (.ref a)))
  (mk:∀H',H' a=some o'->RpA K C H' es ys B'->Rp K C H' d' (.ref a) (a::B')) (r:RpA K C H es ys B') (hn:∀b∈B',H0 b=none) (ha:a∉B')
  (h1:∀j∈Γ',j≠i->j∈Γ/\∀b l,A j=b::l->b∉B')
  (h2:∀j∈Δ',j≠i->j∈Δ/\∀b∈A j,b∉B')
  (h3:i∈Δ'->B'.Nodup/\(∀j,j≠i->∀b∈B',b∉A j)/\∀b∈B',Hb b=none):∃A',Zp K C H0 Hb (upd H a o') Γ' Δ' σ (ρ.set i (some d')) A':=
 let ⟨A',h,_⟩:=I.writeA hi hA hl hs mk r hn ha h1 h2 h3;⟨A',h⟩
theorem Zp.write {es:List D}(I:Zp K C H0 Hb H Γ Δ σ ρ A)(hi:i∈Γ)(hA:A i=a::l)(hl:i<ρ.length)(hs:σ[i]?=some (some (.ref a)))
  (r:RpA K C H es ys B') (hn:∀b∈B',H0 b=none) (ha:a∉B')
  (h1:∀j∈Γ',j≠i->j∈Γ/\∀b l,A j=b::l->b∉B')
  (h2:∀j∈Δ',j≠i->j∈Δ/\∀b∈A j,b∉B')
  (h3:i∈Δ'->B'.Nodup/\(∀j,j≠i->∀b∈B',b∉A j)/\∀b∈B',Hb b=none):∃A',Zp K C H0 Hb (upd H a (.lst ys)) Γ' Δ' σ (ρ.set i (some (.lst es))) A':=I.writeO hi hA hl hs (fun _ q1 q2=>⟨a,_,_,rfl,q1,q2,rfl⟩) r hn ha h1 h2 h3
theorem Xge (i:Nat)(h1:n<=i)(h2:i<n+k):NOk K C n k (Zas i) (Dl.Zu i):=fun H σ os ρ A d v B Rr hσ hos I r p=>by
 have e:(σ++os).set i (some v)=σ++os.set (i - n) (some v):=by rw [<- hσ,CF _ _ (by omega)]
 obtain ⟨A',I',_⟩:=I.put (Γ':=[]) (Δ':=[]) (i:=i) r (fun _ h=>nomatch h) (fun h=>nomatch h) (fun _ h=>nomatch h) (fun h=>nomatch h);show Rr ((σ++os).set i (some v)) H;rw [e] at I' ⊢;exact p _ A' (by rw [DC];exact hos) I'
theorem Xlg :Xtz K C n k Xci Dl.Zge:=fun H σ os ρ A d v B Rr hσ hos I r p=>by
 cases d with
 | nil=>exact ⟨r.1,p _ A hos I⟩
 | cons _ _=>exact p.elim
theorem Xfu {g:TG}{b:FB}{bs:List D->Xr->R Xr}(h1:NOk K C n k g b)(h2:Xtz K C n k gs bs):Xtz K C n k (Zji g gs) (Dl.Yf b bs):=fun H σ os ρ A d v B Rr hσ hos I r p=>by
 cases d with
 | nil=>exact p.elim
 | cons d ds =>obtain ⟨x,l,B1,B2,e1,e2,e3,e4⟩:=r;subst e1 e4;exact ⟨x,l,rfl,h1 H σ os ρ A d x B1 _ hσ hos I e2 (Xh.imp (Xh.bind p) (fun ρ1 q os1 A1 ho1 I1=>h2 H σ os1 ρ1 A1 ds l B2 Rr hσ ho1 I1 e3 q) fun _ _ z=>z)⟩
theorem Xkf {bs:List D->Xr->R Xr}{l:Nat}(hn:∀ds ρ ρ',bs ds ρ=.ok ρ'->ds.length=l)(h:Xtz K C n k gs bs):NOk K C n k (Zfa K l gs) (Dl.Zgn bs):=fun H σ os ρ A d v B Rr hσ hos I r p=>by
 cases d with
 | tup ds =>
  obtain ⟨a,xs,rfl,e2,e3⟩:=r;have p':Xh (bs ds ρ) (fun ρ'=>∀os' A',os'.length=k->Zp K C H H H [] [] (σ++os') ρ' A'->Rr (σ++os') H) (fun _ _=>False):=p;have hl:xs.length=l:=by
   rw [e3.len];cases e:bs ds ρ with
   | ok ρ'=>exact hn ds ρ ρ' e
   | err _ _=>rw [e] at p';exact p'.elim
   | bad=>rw [e] at p';exact p'.elim
  exact ⟨a,xs,rfl,SqT.of e2,hl,h H σ os ρ A ds xs B Rr hσ hos I e3 p'⟩
 | _=>exact p.elim
theorem Zrg {g:TG}{fb:FB}{fc:FT}(hi:IOk K C E Γ Δ S wi fi)(hg:NOk K C n k g fb)(hc:TOk K C E0 [] [] tc fc)(he:EOk K C E0 [] [] 2 [] te fe):EOk K C E Γ Δ 2 [] (Zen k g wi tc te) (Dl.Zcb n k fi fb fc fe):=fun H0 Hb H σ ρ A Q I p=>by
  unfold Dl.Zcb at p;split at p
  · rename_i hn;refine hi H0 Hb H σ ρ A _ I (p.bind.imp (fun ds q J H1 W g1 hW hlen hJ Dd hD=>?_) fun c x q H' g'=>q H' g');have I1:=I.mono g1;have go:Goes K C J ds H1:=hJ H1 ⟨fun _ _=>rfl,fun b o h _=>h⟩;have q':=Zdo q.bind;refine Xfz go (fun i H2=>Xi H1 H2/\∃(us:List D) (ys:List V) (B':List Addr),H2 Dd=some (.lst ys)/\us.length<=i/\RpA K C H2 us ys B'/\B'.Nodup/\Dd∉B'/\(∀a∈B',H1 a=none)/\
      Xh (Dl.Zbg k fb fc fe ρ (ds.drop i)) (fun zs=>∀v H',Xi H H'->Res K C 2 [] H A (.lst (us++zs)) v H'->Q v H') (fun _ _=>False)) ⟨sameNew hD _,[],[],[],Xd,Ax _,RpA.nil,Be,(fun h=>nomatch h),(fun _ h=>nomatch h),q'⟩ (fun _ _ h=>h.1) ?_ ?_
    · rintro i x v Bx H2a H2 hx ⟨g2a,us,ys,B',hD2,hul,ru,nd,hDB,hnew,pq⟩ g2b rx _ os hos;have g2:=g2a.trans g2b;have hil:=(Ag.mp hx).1;rw [Ztq _ _ _ _ _ _ hx] at pq;have I2:=(I1.mono g2).more os;have pq':=Zdo pq.bind;rw [<- hos] at pq';refine hg H2 σ os _ A x v Bx _ (by rw [I.len,hn]) hos I2 rx (pq'.imp (fun ρ1 pq os1 A1 ho1 I3=>⟨⟨os1,ho1,rfl⟩,?_⟩) fun _ _ z=>z);refine hc H2 H2 H2 _ _ _ _ I3 (pq.bind.imp (fun b pq H3 g3=>?_) fun _ _ z=>z.elim);have hD2':=g2b _ _ hD2;have ru':=ru.same g2b;cases b with
      | false =>simp only [Bb,if_false] at pq ⊢;rw [hos] at pq;exact ⟨g2.trans g3,us,ys,B',g3 _ _ hD2',by omega,ru'.same g3,nd,hDB,hnew,pq⟩
      | true =>
        simp only [if_true] at pq ⊢;refine he H2 H2 H3 _ _ _ _ (I3.mono g3) (pq.bind.imp (fun y pq w H4 g4 r4=>?_) fun _ _ z=>z.elim);rw [hos] at pq;obtain ⟨By,ry,hy1,_,hy2⟩:=r4;have g24:=g3.trans g4;have hD4:=g24 _ _ hD2';have hnewy:∀a∈By,H3 a=none:=fun a ha=>(hy1 a ha).elim id fun z=>z.none.elim;have hDy:Dd∉By:=fun h=>by have z:=hnewy Dd h;rw [g3 _ _ hD2'] at z;cases z
        have ext:Ext (fun a=>a=Dd) H4 (upd H4 Dd (.lst (ys++[w]))):=fun b o h=>by by_cases e:b=Dd;subst e;rw [hD4] at h;cases h;exact .inr ⟨rfl,.lst⟩;rw [Xa e];exact .inl h
        have hDB':Dd∉B'++By:=fun h=>(Au.mp h).elim hDB hDy;refine ⟨ys,hD4,?_,?_,us++[y],ys++[w],B'++By,Xd,by rw [Ai];simp;omega,?_,?_,hDB',?_,?_⟩;rw [ru.len];exact Zdb (by omega);intro b o h;have hb:b≠Dd:=Xl h hD;rw [Xa hb];exact (g2.trans g24) b o h;exact ((ru'.same g24).app (RpA.one ry)).ext ext fun a ha h=>hDB' (by rw [h] at ha;exact ha);refine A3.mpr ⟨nd,hy2 rfl,fun a ha b hb e=>?_⟩;subst e;obtain ⟨xs,z,_⟩:=(ru'.same g3).isl a ha;rw [hnewy a hb] at z;cases z;intro a ha;rcases Au.mp ha with h | h;exact hnew a h;exact (g2.trans g3).free (hnewy a h)
        · exact pq.bind.imp (fun zs pq v H' g' r=>by
            rw [AD] at r;exact pq v H' g' r) fun _ _ z=>z
    rintro H2 ⟨g2,us,ys,B',hD2,hul,ru,nd,hDB,hnew,pq⟩;rw [Gq] at pq;have pq:∀v H',Xi H H'->Res K C 2 [] H A (.lst (us++[])) v H'->Q v H':=pq;rw [CK] at pq;refine pq _ H2 (g1.trans g2) ⟨Dd::B',⟨Dd,ys,B',rfl,hD2,ru,rfl⟩,fun a ha=>.inl ?_,(fun z=>nomatch z),fun _=>AA.mpr ⟨hDB,nd⟩⟩;rcases An.mp ha with h | h;rw [h];exact g1.free hD;exact g1.free (hnew a h)
  exact p.elim
theorem Zum.weak {H0 Hb:Hp}{D:Ends}{r:R Fl}(h:Zum K C E mr Γl Δl Γ' Δ' H0 Hb D r)(h1:∀i∈Γ',i∈Γ1)(h2:∀i∈Δ',i∈Δ1):Zum K C E mr Γl Δl Γ1 Δ1 H0 Hb D r:=by
 unfold Zum at *;refine Xh.imp h (fun fl q=>?_) fun _ _ q=>q;cases fl with
 | nx ρ'=>exact fun σ' H' A' I=>q σ' H' A' (I.weak h1 h2)
 | ret d=>exact q
 | brk ρ'=>exact q
 | cnt ρ'=>exact q
theorem Xgu {t:TS}{f:FS}(h:SOk K C E mr Γl Δl Γ Δ Γ1 Δ1 t f)(h1:∀i∈Γ',i∈Γ1:=by decide)(h2:∀i∈Δ',i∈Δ1:=by decide):SOk K C E mr Γl Δl Γ Δ Γ' Δ' t f:=fun H0 Hb H σ ρ A D I p =>
 h H0 Hb H σ ρ A D I (p.weak h1 h2)
theorem Xus:SOk K C E mr Γl Δl Γ Δ Γ Δ Zva Dl.sNx:=fun _ _ H σ _ A _ I p=>p σ H A I
theorem Zwo:SOk K C E mr Γl Δl Γ Δ Γ' Δ' Ztm Dl.Zjz:=fun _ _ _ _ _ _ _ _ p=>p.elim
theorem Xpu {t u:TS}{f g:FS}(h1:SOk K C E mr Γl Δl Γ Δ Γ1 Δ1 t f)(h2:SOk K C E mr Γl Δl Γ1 Δ1 Γ' Δ' u g):SOk K C E mr Γl Δl Γ Δ Γ' Δ' (Xpz t u) (Dl.Xj f g):=fun H0 Hb H σ ρ A D I p =>
  h1 H0 Hb H σ ρ A _ I (Xh.imp (Xh.bind p) (fun fl q=>by
    cases fl with
    | nx ρ'=>exact fun σ' H' A' I'=>h2 H0 Hb H' σ' ρ' A' D I' q
    | ret d=>exact q
    | brk ρ'=>exact q
    | cnt ρ'=>exact q) fun _ _ q=>q)
theorem Xi.from0 (I:Zp K C H0 Hb H Γ Δ σ ρ A)(g:Xi H H'):Xi H0 H':=I.s0.trans (I.same.trans g)
theorem Zp.top_out (I:Zp K C H0 Hb H Γ Δ σ ρ A)(hj:j∈Γ)(hS:(j,false)∉S)(e:A j=a::l):¬InS A S a:=fun h=>by
 obtain ⟨q0,q1,q2⟩:=I.top j hj a l e;obtain ⟨p,hp,q⟩:=h;split at q;by_cases ep:p.1=j;rw [ep,e] at q;exact q1 q;exact q2 p.1 ep (HX q);rename_i hf;by_cases ep:p.1=j;refine hS ?_;have:p=(j,false):=by obtain ⟨p1,p2⟩:=p;simp at ep hf;rw [ep,hf]
 rw [<- this];exact hp;exact q2 p.1 ep q
theorem Zp.deep_out (I:Zp K C H0 Hb H Γ Δ σ ρ A)(hj:j∈Δ)(hS:∀p∈S,p.1≠j)(e:a∈A j):¬InS A S a:=fun h=>by obtain ⟨p,hp,q⟩:=h.mem;exact (I.deep j hj).2.1 p.1 (hS p hp) a e q
theorem Zsb (he:EOk K C E Γ Δ 2 [] te fe)(h1:∀j∈Γ',j=i\/j∈Γ:=by decide)(h2:∀j∈Δ',j=i\/j∈Δ:=by decide):SOk K C E mr Γl Δl Γ Δ Γ' Δ' (Zjr te (Zas i)) (Dl.Xw i fe):=fun H0 Hb H σ ρ A D I p =>
  he H0 Hb H σ ρ A _ I (Xh.imp (Xh.bind p) (fun d q v H1 g1 r=>by
    obtain ⟨B,r1,r2,r3,r4⟩:=r;have hn:∀a∈B,H a=none:=fun a ha=>(r2 a ha).elim id fun z=>z.none.elim;have nd:=r4 rfl;obtain ⟨A',I',_⟩:=(I.mono g1).put (Γ':=Γ') (Δ':=Δ') (i:=i) r1 (fun j hj e=>⟨(h1 j hj).elim (fun z=>absurd z e) id,fun a l e' ha=>I.ne (j:=j) (by rw [e'];exact .head _) (hn a ha)⟩)
      (fun _=>⟨fun a ha=>I.s0.free (I.same.free (hn a ha)),fun a l e=>by subst e;exact ⟨I.same.free (hn a (.head _)),(AA.mp nd).1,fun j _ h=>I.ne h (hn a (.head _))⟩⟩)
      (fun j hj e=>⟨(h2 j hj).elim (fun z=>absurd z e) id,fun a ha hB=>I.ne ha (hn a hB)⟩)
      (fun _=>⟨nd,fun j _ a ha h=>I.ne h (hn a ha),fun a ha=>I.same.free (hn a ha)⟩)
    exact q _ H1 A' I') fun c x q H' g'=>q H' (Xi.from0 I g'))
theorem Xgo (he:EOk K C E Γ Δ 2 S te fe)(h0:∀p∈S,p.1∈Δ:=by decide):SOk K C E 2 Γl Δl Γ Δ Γ' Δ' (Xpw te) (Dl.Zcn fe):=fun H0 Hb H σ ρ A D I p =>
  he H0 Hb H σ ρ A _ I (Xh.imp (Xh.bind p) (fun d q v H1 g1 r=>by
    obtain ⟨B,r1,r2,r3,r4⟩:=r;refine q v H1 (Xi.from0 I g1) ⟨B,r1,fun a ha=>.inl ((r2 a ha).elim (fun z=>I.s0.free (I.same.free z)) fun z=>?_),(fun z=>nomatch z),r4⟩;obtain ⟨p,hp,z⟩:=z.mem;exact I.s0.free ((I.deep p.1 (h0 p hp)).2.2 a z)) fun c x q H' g'=>q H' (Xi.from0 I g'))
theorem Xve {t u:TS}{fc:FT}{f g:FS}(hc:TOk K C E Γ Δ tc fc)(h1:SOk K C E mr Γl Δl Γ Δ Γ' Δ' t f)(h2:SOk K C E mr Γl Δl Γ Δ Γ' Δ' u g):SOk K C E mr Γl Δl Γ Δ Γ' Δ' (Xqc tc t u) (Dl.sIf fc f g):=fun H0 Hb H σ ρ A D I p =>
  hc H0 Hb H σ ρ A _ I (Xh.imp (Xh.bind p) (fun b q H1 g1=>by
    cases b with
    | true=>exact h1 H0 Hb H1 σ ρ A D (I.mono g1) q
    | false=>exact h2 H0 Hb H1 σ ρ A D (I.mono g1) q) fun c x q H' g'=>q H' (Xi.from0 I g'))
theorem Zqz (I:Zp K C H0 Hb H Γ Δ σ ρ A)(e:ρ[i]?=some (some (.lst ds))):∃a xs l,σ[i]?=some (some (.ref a))/\H a=some (.lst xs)/\RpA K C H ds xs l/\A i=a::l/\i<ρ.length:=by obtain ⟨v,q1,a,xs,l,rfl,q3,q4,q5⟩:=I.rep i _ e;exact ⟨a,xs,l,q1,q3,q4,q5,(Ag.mp e).1⟩
theorem Xfj (hi:i∈Γ:=by decide)(he:EOk K C E Γ Δ 2 [] te fe):SOk K C E mr Γl Δl Γ Δ Γ Δ (Zgl (tBM K "list" Zbn (Zgp i) (Jz te Zmw))) (Dl.Zpf i fe):=fun H0 Hb H σ ρ A D I p=>by
  unfold Dl.Zpf at p;split at p
  · rename_i ds e;obtain ⟨a,xs,l,s1,h1,r1,hA,hl⟩:=Zqz I e;refine ⟨.ref a,s1,.inl ⟨rfl,xs,SqL.of h1⟩,he H0 Hb H σ ρ A _ I (Xh.imp (Xh.bind p) (fun d q v H1 g1 r=>?_) fun c x q H' g'=>q H' (Xi.from0 I g'))⟩;split at q
    · rename_i hz;obtain ⟨B,r2,r3,_,r4⟩:=r;have hn:∀a∈B,H a=none:=fun a ha=>(r3 a ha).elim id fun z=>z.none.elim;have h1':=g1 _ _ h1;show Zbn (.ref a) [v] H1 fun _ H3=>D.nx σ H3;refine Xwi h1' (by rw [r1.len];exact Zdb hz) ?_;obtain ⟨tb,ta,tt⟩:=I.top i hi a l hA;have I1:=I.mono g1;have haB:a∉B:=fun z=>by have:=hn a z;rw [h1] at this;cases this
      have w1:∀b∈l++B,H0 b=none:=fun b hb=>by rcases Au.mp hb with z | z;exact I.loc i hi b (by rw [hA];exact .tail _ z);exact I.s0.free (I.same.free (hn b z))
      have w2:∀j∈Γ,j≠i->j∈Γ/\∀b l',A j=b::l'->b∉l++B:=fun j hj e=>⟨hj,fun b l' e' z=>by
        rcases Au.mp z with z | z;exact (I.top j hj b l' e').2.2 i (fun w=>e w.symm) (by rw [hA];exact .tail _ z)
        · exact I.ne (j:=j) (by rw [e'];exact .head _) (hn b z)⟩
      have w3:∀j∈Δ,j≠i->j∈Δ/\∀b∈A j,b∉l++B:=fun j hj e=>⟨hj,fun b hb z=>by
        rcases Au.mp z with z | z;exact (I.deep j hj).2.1 i (fun w=>e w.symm) b hb (by rw [hA];exact .tail _ z)
        · exact I.ne hb (hn b z)⟩
      have w4:i∈Δ->(l++B).Nodup/\(∀j,j≠i->∀b∈l++B,b∉A j)/\∀b∈l++B,Hb b=none:=fun hd=>by obtain ⟨d1,d2,d3⟩:=I.deep i hd;rw [hA] at d1 d2 d3;refine ⟨A3.mpr ⟨(AA.mp d1).2,r4 rfl,fun x hx y hy e=>?_⟩,fun j hj b hb=>?_,fun b hb=>?_⟩;subst e;exact I.ne (j:=i) (by rw [hA];exact .tail _ hx) (hn x hy);rcases Au.mp hb with z | z;exact d2 j hj b (.tail _ z);exact fun w=>I.ne w (hn b z);rcases Au.mp hb with z | z;exact d3 b (.tail _ z);exact I.same.free (hn b z)
      obtain ⟨A',I'⟩:=I1.write (Γ':=Γ) (Δ':=Δ) hi hA hl s1 ((r1.same g1).app (RpA.one r2)) w1 (fun z=>(Au.mp z).elim ta haB) w2 w3 w4;exact q _ _ A' I'
    exact q.elim
  exact p.elim
def BOk (K:Frag)(C:String->Addr)(Γ Δ:List Nat)(g:TG)(b:FB):Prop:=∀(H0 Hb H:Hp) (σ:St) (ρ:Xr) (A:Nat->List Addr) (d:D) (v:V) (B:List Addr) (Rr:St->Hp->Prop),Zp K C H0 Hb H Γ Δ σ ρ A->Rp K C H d v B->(∀a∈B,Hb a≠none)->
 Xh (b d ρ) (fun ρ'=>∀σ' A',Zp K C H0 Hb H Γ Δ σ' ρ' A'->Rr σ' H) (fun _ _=>False)->g v σ H Rr
def Xvl (K:Frag)(C:String->Addr)(Γ Δ:List Nat)(g:TGs)(b:List D->Xr->R Xr):Prop:=∀(H0 Hb H:Hp) (σ:St) (ρ:Xr) (A:Nat->List Addr) (d:List D) (v:List V) (B:List Addr) (Rr:St->Hp->Prop),Zp K C H0 Hb H Γ Δ σ ρ A->RpA K C H d v B->(∀a∈B,Hb a≠none)->
 Xh (b d ρ) (fun ρ'=>∀σ' A',Zp K C H0 Hb H Γ Δ σ' ρ' A'->Rr σ' H) (fun _ _=>False)->g v σ H Rr
theorem Xhh (h1:i∉Γ:=by decide)(h2:i∉Δ:=by decide):BOk K C Γ Δ (Zas i) (Dl.Zu i):=fun H0 Hb H σ ρ A d v B Rr I r hB p=>by obtain ⟨A',I',_⟩:=I.put (Γ':=Γ) (Δ':=Δ) (i:=i) r (fun j hj e=>⟨hj,fun a l e' ha=>hB a ha (I.top j hj a l e').1⟩) (fun hj=>absurd hj h1) (fun j hj e=>⟨hj,fun a ha hb=>hB a hb ((I.deep j hj).2.2 a ha)⟩) (fun hj=>absurd hj h2);exact p _ A' I'
theorem Xjt:Xvl K C Γ Δ Xci Dl.Zge:=fun H0 Hb H σ ρ A d v B Rr I r hB p=>by
 cases d with
 | nil=>exact ⟨r.1,p _ A I⟩
 | cons _ _=>exact p.elim
theorem Xhp {g:TG}{b:FB}{bs:List D->Xr->R Xr}(h1:BOk K C Γ Δ g b)(h2:Xvl K C Γ Δ gs bs):Xvl K C Γ Δ (Zji g gs) (Dl.Yf b bs):=fun H0 Hb H σ ρ A d v B Rr I r hB p=>by
 cases d with
 | nil=>exact p.elim
 | cons d ds =>obtain ⟨x,l,B1,B2,e1,e2,e3,e4⟩:=r;subst e1 e4;refine ⟨x,l,rfl,h1 H0 Hb H σ ρ A d x B1 _ I e2 (fun a ha=>hB a (AJ _ ha)) (Xh.imp (Xh.bind p) (fun ρ1 q σ1 A1 I1=>?_) fun _ _ z=>z)⟩;exact h2 H0 Hb H σ1 ρ1 A1 ds l B2 Rr I1 e3 (fun a ha=>hB a (As _ ha)) q
theorem Xoz {bs:List D->Xr->R Xr}(hn:∀ds ρ ρ',bs ds ρ=.ok ρ'->ds.length=n)(h:Xvl K C Γ Δ gs bs):BOk K C Γ Δ (Zfa K n gs) (Dl.Zgn bs):=fun H0 Hb H σ ρ A d v B Rr I r hB p=>by
 cases d with
 | tup ds =>
  obtain ⟨a,xs,rfl,e2,e3⟩:=r;have hl:xs.length=n:=by
   rw [e3.len];have p':Xh (bs ds ρ) (fun ρ'=>∀σ' A',Zp K C H0 Hb H Γ Δ σ' ρ' A'->Rr σ' H) (fun _ _=>False):=p;cases e:bs ds ρ with
   | ok ρ'=>exact hn ds ρ ρ' e
   | err _ _=>rw [e] at p';exact p'.elim
   | bad=>rw [e] at p';exact p'.elim
  exact ⟨a,xs,rfl,SqT.of e2,hl,h H0 Hb H σ ρ A ds xs B Rr I e3 hB p⟩
 | _=>exact p.elim
theorem Zrw (ds:List D)(ρ ρ':Xr)(h:Dl.Zge ds ρ=.ok ρ'):ds.length=0:=by
 cases ds with
 | nil=>rfl
 | cons _ _=>cases h
theorem Zlu {b:FB}{bs:List D->Xr->R Xr}(hb:∀ds ρ ρ',bs ds ρ=.ok ρ'->ds.length=n)(ds:List D)(ρ ρ':Xr)(h:Dl.Yf b bs ds ρ=.ok ρ'):ds.length=n+1:=by
 cases ds with
 | nil=>cases h
 | cons d ds =>
  have h:((b d ρ).bind fun ρ'=>bs ds ρ')=.ok ρ':=h;cases e:b d ρ with
  | ok ρ1 =>rw [e] at h;rw [AX,hb ds ρ1 ρ' h]
  | err _ _=>rw [e] at h;cases h
  | bad=>rw [e] at h;cases h
def ownAt (A:Nat->List Addr)(Γ Δ:List Nat):List Addr:=Γ.flatMap (fun i=>(A i).take 1)++Δ.flatMap A
theorem Zch (h:a∈ownAt A Γ Δ):(∃i∈Γ,∃l,A i=a::l)\/∃i∈Δ,a∈A i:=by
 rcases Au.mp h with h | h;obtain ⟨i,hi,h⟩:=DY.mp h;left;refine ⟨i,hi,?_⟩;cases e:A i with
 | nil=>rw [e] at h;cases h
 | cons b l =>rw [e] at h;simp only [Ik,E7,Ao] at h;rw [h];exact ⟨l,rfl⟩
 obtain ⟨i,hi,h⟩:=DY.mp h;exact .inr ⟨i,hi,h⟩
theorem Xbq (hi:i∈Γ)(e:A i=a::l):a∈ownAt A Γ Δ:=AJ _ (DY.mpr ⟨i,hi,by rw [e];simp⟩)
theorem Zss (hi:i∈Δ)(h:a∈A i):a∈ownAt A Γ Δ:=As _ (DY.mpr ⟨i,hi,h⟩)
theorem Zjn (b:FB)(s:FS)(xs:List D){x:D}(h:xs[i]?=some x)(ρ:Xr):Dl.Zhy b s (xs.drop i) ρ=(b x ρ).calm.bind fun ρ1=>(s ρ1).bind fun fl=>match fl with
  | .nx ρ2=>Dl.Zhy b s (xs.drop (i+1)) ρ2
  | .cnt ρ2=>Dl.Zhy b s (xs.drop (i+1)) ρ2
  | .brk ρ2=>.ok (.nx ρ2)
  | .ret d=>.ok (.ret d):=by
 obtain ⟨hi,rfl⟩:=Ag.mp h;rw [AY hi];rfl
theorem Xlc {g:TG}{tb:TS}{fb:FB}{fs:FS}(hi:IOk K C E Γ Δ S wi fi)(hb:BOk K C Γl Δl g fb)(hs:SOk K C E mr Γl Δl Γl Δl Γl Δl tb fs)
    (h1:∀i∈Γl,i∈Γ:=by decide) (h2:∀i∈Δl,i∈Δ:=by decide) (h3:∀p∈S,p.1∉Γl/\p.1∉Δl:=by decide):SOk K C E mr Γk Δk Γ Δ Γl Δl (Xqg wi g tb) (Dl.Zfe fi fb fs):=fun H0 Hb H σ ρ A D I p=>by
  refine hi H0 Hb H σ ρ A _ I (Xh.imp (Xh.bind p) (fun ds q J H1 W g1 hW hlen hJ=>?_) fun c x q H' g'=>q H' (Xi.from0 I g'));have I1:=(I.mono g1).weak h1 h2;have hlst:∀a∈ownAt A Γl Δl,∃o,H1 a=some o/\IsM o:=fun a ha=>by rcases Zch ha with ⟨i,_,l,e⟩ | ⟨i,_,e⟩;exact I1.is (j:=i) (by rw [e];exact .head _);exact I1.is e
  have hbn:∀a∈ownAt A Γl Δl,Hb a=none:=fun a ha=>by rcases Zch ha with ⟨i,hi,l,e⟩ | ⟨i,hi,e⟩;exact (I1.top i hi a l e).1;exact (I1.deep i hi).2.2 a e
  have hout:∀a∈W,a∉ownAt A Γl Δl:=fun a ha ho=>by rcases (hW a ha).2 with z | z;rcases Zch ho with ⟨i,hi,l,e⟩ | ⟨i,hi,e⟩;exact I.ne (j:=i) (by rw [e];exact .head _) z;exact I.ne e z;rcases Zch ho with ⟨i,hi,l,e⟩ | ⟨i,hi,e⟩;exact I1.top_out hi (fun h=>(h3 _ h).1 hi) e z;exact I1.deep_out hi (fun p hp e'=>(h3 p hp).2 (by rw [e'];exact hi)) e z
  let Hc:Hp:=fun b=>if b∈ownAt A Γl Δl then none else H1 b
  have c1:Xi Hc H1:=fun b o h=>by show H1 b=some o;have h:(if b∈ownAt A Γl Δl then none else H1 b)=some o:=h;split at h;cases h;exact h
  have c2:Xi Hb Hc:=fun b o h=>by show (if b∈ownAt A Γl Δl then none else H1 b)=some o;rw [if_neg fun ho=>by rw [hbn b ho] at h;cases h];exact I1.same b o h
  have c3:∀a,a∉ownAt A Γl Δl->Hc a=H1 a:=fun a ha=>if_neg ha;have c4:∀a∈ownAt A Γl Δl,Hc a=none:=fun a ha=>if_pos ha;have I2:Zp K C H0 Hc H1 Γl Δl σ ρ A:=⟨I1.s0.trans c2,c1,I1.len,I1.rep,I1.nil,I1.loc,fun i hi a l e=>⟨c4 a (Xbq hi e),(I1.top i hi a l e).2⟩,fun i hi=>⟨(I1.deep i hi).1,(I1.deep i hi).2.1,fun a ha=>c4 a (Zss hi ha)⟩⟩;have back:∀{σ':St} {ρ':Xr} {H':Hp} {A':Nat->List Addr},Zp K C H0 Hc H' Γl Δl σ' ρ' A'->Zp K C H0 Hb H' Γl Δl σ' ρ' A':=fun I' =>
    ⟨I1.s0,c2.trans I'.same,I'.len,I'.rep,I'.nil,I'.loc,fun i hi a l e=>⟨c2.free (I'.top i hi a l e).1,(I'.top i hi a l e).2⟩,fun i hi=>⟨(I'.deep i hi).1,(I'.deep i hi).2.1,fun a ha=>c2.free ((I'.deep i hi).2.2 a ha)⟩⟩
  have go:Goes K C J ds Hc:=hJ Hc ⟨fun a ha=>c3 a (hout a ha),fun b o h hn=>(c3 b fun ho=>by
    obtain ⟨xs,e,hm⟩:=hlst b ho;rw [e] at h;cases h;exact hn hm).trans h⟩
  refine Zxv go (fun k σ' H'=>∃ρ' A',Zp K C H0 Hc H' Γl Δl σ' ρ' A'/\Zum K C E mr Γk Δk Γl Δl H0 Hb D (Dl.Zhy fb fs (ds.drop k) ρ')) ⟨ρ,A,I2,q⟩ (fun _ _ _ ⟨_,_,I',_⟩=>I'.same) ?_ ?_;rintro k d x Bx σ' Ha H' hd ⟨ρ',A',Ia,pq⟩ ga rx hBx;have I':=Ia.mono ga;rw [Zjn _ _ _ hd] at pq;have pq':=Zdo (Xh.bind pq);refine hb H0 Hc H' σ' ρ' A' d x Bx _ I' rx hBx (Xh.imp pq' (fun ρ1 pq σ1 A1 I1'=>?_) fun _ _ z=>z);refine hs H0 Hc H' σ1 ρ1 A1 _ I1' (Xh.imp (Xh.bind pq) (fun fl pq=>?_) fun _ _ z=>z);cases fl with
  | nx ρ2=>exact fun σ2 H2 A2 I2'=>⟨ρ2,A2,I2',pq⟩
  | cnt ρ2=>exact fun σ2 H2 A2 I2'=>⟨ρ2,A2,I2',pq⟩
  | brk ρ2=>exact fun σ2 H2 A2 I2'=>pq σ2 H2 A2 (back I2')
  | ret d=>exact pq
  rintro σ' H' ⟨ρ',A',I',pq⟩;rw [Gq] at pq;exact pq σ' H' A' (back I')
theorem Zzz (r:RpA K C H ds vs B):∃A,Zp K C H H H [] [] (vs.map some++Ab (N - vs.length) none) (ds.map some++Ab (N - ds.length) none) A:=by
 have hl:=r.len;have key:∀{ds:List D} {vs:List V} {B:List Addr},RpA K C H ds vs B->∃A:Nat->List Addr,(∀(i:Nat) d,ds[i]?=some d->∃v,vs[i]?=some v/\Rp K C H d v (A i))/\∀i,ds.length<=i->A i=[]:=by
  intro ds
  induction ds with
  | nil=>intro vs B r;exact ⟨fun _=>[],fun i d h=>by simp at h,fun _ _=>rfl⟩
  | cons d ds ih =>
   intro vs B r;obtain ⟨x,l,B1,B2,e1,e2,e3,e4⟩:=r;obtain ⟨A,h1,h2⟩:=ih e3;subst e1;refine ⟨fun i=>match i with | 0=>B1 | i+1=>A i,fun i d' h=>?_,fun i h=>?_⟩;cases i with
   | zero=>simp at h;subst h;exact ⟨x,rfl,e2⟩
   | succ i=>simp at h;obtain ⟨v,q1,q2⟩:=h1 i d' h;exact ⟨v,by simpa using q1,q2⟩
   cases i with
   | zero=>simp at h
   | succ i=>exact h2 i (by simpa using h)
 obtain ⟨A,h1,h2⟩:=key r;refine ⟨A,Xi.refl _,Xi.refl _,by simp [hl],fun i d h=>?_,fun i h=>?_,(fun _ h=>nomatch h),(fun _ h=>nomatch h),(fun _ h=>nomatch h)⟩;by_cases hi:i<ds.length;rw [AH (by simpa using hi),Bk] at h;obtain ⟨d',hd,e⟩:=AB.mp h;cases e;obtain ⟨v,q1,q2⟩:=h1 i d hd;refine ⟨v,?_,q2⟩;rw [AH (by simp [hl,hi]),Bk,q1];rfl;rw [AR (by simpa using hi)] at h;have:=Al h;rw [EY] at this;exact absurd this.2 (by intro z;cases z);by_cases hi:i<ds.length;exact absurd (by rw [AH (by simpa using hi),Bk,Ad hi];rfl) (h ds[i]);exact h2 i (by omega)
theorem Xhw {t:TS}{f:FS}(h:SOk K C E mr [] [] [] [] Γ' Δ' t f)(r:RpA K C H ds vs B)
  (p:Xh (Dl.run N f ds) (fun d=>∀v H',Xi H H'->Res K C mr [] H (fun _=>[]) d v H'->Q v H') (fun c x=>∀H',Xi H H'->EC C E c x H')) :
  t {nx:=fun _ H'=>Q .non H',rt:=Q} (vs.map some++Ab (N - vs.length) none) H:=by
 obtain ⟨A,I⟩:=Zzz (N:=N) r;refine h H H H _ _ A _ I (Xh.imp (Xh.bind p) (fun fl q=>?_) fun _ _ q=>q);cases fl with
 | nx ρ'=>exact fun σ' H' A' I'=>q _ H' I'.same (Res.flat ⟨rfl,rfl⟩)
 | ret d=>exact q
 | brk _=>exact q.elim
 | cnt _=>exact q.elim
end
structure JE (X:Cx)(C:String->Addr)(E:XK)(Γ Δ:List Nat)(m:Nat)(S:List (Nat×Bool))(e:Expr)(t:TE)(f:FE):Prop where
 q:QE X e t
 o:EOk X.K C E Γ Δ m S t f
structure JT (X:Cx)(C:String->Addr)(E:XK)(Γ Δ:List Nat)(e:Expr)(t:TT)(f:FT):Prop where
 q:QT X e t
 o:TOk X.K C E Γ Δ t f
structure JW (X:Cx)(C:String->Addr)(E:XK)(Γ Δ:List Nat)(e:Expr)(t:TT)(f:FT):Prop where
 q:QW X e t
 o:TOk X.K C E Γ Δ t f
structure JA (X:Cx)(C:String->Addr)(E:XK)(Γ Δ:List Nat)(m:Nat)(S:List (Nat×Bool))(e:List Expr)(n:Nat)(t:TA)(f:FA):Prop where
 q:QA X e t
 o:AOk X.K C E Γ Δ m S t f
 n:∀ρ ds,f ρ=.ok ds->ds.length=n
structure JO (X:Cx)(C:String->Addr)(E:XK)(Γ Δ:List Nat)(e:Option Expr)(t:TO)(f:FO):Prop where
 q:QO X e t
 o:OOk X.K C E Γ Δ t f
structure JI (X:Cx)(C:String->Addr)(E:XK)(Γ Δ:List Nat)(S:List (Nat×Bool))(tg e:Expr)(t:TI)(f:FI):Prop where
 q:QI X tg e t
 o:IOk X.K C E Γ Δ S t f
structure JG (X:Cx)(C:String->Addr)(Γ Δ:List Nat)(e:Expr)(t:TG)(f:FB):Prop where
 q:QG X e t
 o:BOk X.K C Γ Δ t f
structure JGs (X:Cx)(C:String->Addr)(Γ Δ:List Nat)(es:List Expr)(n:Nat)(t:TGs)(f:List D->Xr->R Xr):Prop where
 q:QGs X es t
 o:Xvl X.K C Γ Δ t f
 n:∀ds ρ ρ',f ds ρ=.ok ρ'->ds.length=n
structure JS (X:Cx)(C:String->Addr)(E:XK)(mr:Nat)(Γl Δl Γ Δ Γ' Δ':List Nat)(s:Stmt)(t:TS)(f:FS):Prop where
 q:QS X s t
 o:SOk X.K C E mr Γl Δl Γ Δ Γ' Δ' t f
structure JSs (X:Cx)(C:String->Addr)(E:XK)(mr:Nat)(Γl Δl Γ Δ Γ' Δ':List Nat)(s:List Stmt)(t:TS)(f:FS):Prop where
 q:QSs X s t
 o:SOk X.K C E mr Γl Δl Γ Δ Γ' Δ' t f
structure JIf (X:Cx)(C:String->Addr)(E:XK)(Γ Δ:List Nat)(e:List Expr)(t:TT)(f:FT):Prop where
 q:QIf X e t
 o:TOk X.K C E Γ Δ t f
section
variable {S:List (Nat×Bool)}{a:Expr}{rest:List Expr}{tc:TE}{fs:FE}{t:TA}
theorem Ze {i:Int}:JE X C E Γ Δ 2 [] (.Constant (.int i) j pos) (tC (.int i)) (Dl.fC (.int i)):=⟨Xts,Xdq fun _=>rpI⟩
theorem Zgh {i:Bool}:JE X C E Γ Δ 2 [] (.Constant (.bool i) j pos) (tC (.bl i)) (Dl.fC (.bl i)):=⟨qe_bl,Xdq fun _=>rpB⟩
theorem Zag (h:Dr x=true:=by decide +kernel):JE X C E Γ Δ 2 [] (.Constant (.str x) j pos) (tC (.str x)) (Dl.fC (.str x)):=⟨Xvk,Xdq fun _=>⟨rfl,h,rfl⟩⟩
theorem Zj (i:Nat)(hN:X.N[i]?=some x:=by rfl)(hv:autoParam (Vis X.env.scope x) aT3._auto_1)(hd:(x==("__debug__":Str))=false:=by decide)
  (hcd:(x==("__classdict__":Str))=false:=by decide):JE X C E Γ Δ 0 [(i,false)] (.Name x pos) (Zgp i) (Dl.fV i):=⟨qv i hN hv hd hcd,eok_v⟩
theorem Zjg (i:Nat)(hi:i∈Δ:=by decide)(hN:X.N[i]?=some x:=by rfl)(hv:autoParam (Vis X.env.scope x) aT3._auto_1)(hd:(x==("__debug__":Str))=false:=by decide)
  (hcd:(x==("__classdict__":Str))=false:=by decide):JE X C E Γ Δ 2 [(i,false)] (.Name x pos) (Zgp i) (Dl.fV i):=⟨qv i hN hv hd hcd,Xur hi⟩
theorem Yj (h:JE X C E Γ Δ m S e te fe):JE X C E Γ Δ 2 [] e te (Dl.f1 Dl.Yv fe):=⟨h.q,Xfk h.o⟩
theorem Zq {op:HI}{r:R2}(ho:OpR X (CA op) r)(hg:GOk X.K C r g)(ha:JE X C E Γ Δ m1 S1 a ta fa)(hb:JE X C E Γ Δ m2 S2 b tb fb):JE X C E Γ Δ 2 [] (.BinOp a op b pos) (tOp r ta tb) (Dl.f2 g fa fb):=⟨qe_op ho ha.q hb.q,Zza hg ha.o hb.o⟩
theorem Zjt (ha:JE X C E Γ Δ m1 S1 a ta fa):JE X C E Γ Δ 2 [] (.UnaryOp .USub a pos) (tUn (rU fun i=>.int (-i)) ta) (Dl.f1 Dl.Xcx fa):=⟨qe_un Xrq ha.q,Xtt (fun H x d vx Bx Q r e q=>by
  unfold Dl.Xcx at e;split at e;cases e;obtain ⟨rfl,_⟩:=r;exact rd_U (Out.flat q rpI)
  · cases e) ha.o⟩
theorem Zni {r:R2}(ho:OpR X (BX op) r)(hg:GOk X.K C r g)(ha:JE X C E Γ Δ m1 S1 a ta fa)(hb:JE X C E Γ Δ m2 S2 b tb fb)(hm:Dq op b=false):JE X C E Γ Δ 2 [] (.Compare a [op] [b] pos) (tOp r ta tb) (Dl.f2 g fa fb):=⟨Xln ho ha.q hb.q hm,Zza hg ha.o hb.o⟩
theorem Xv {r:R2}(ho:OpR X (BX op) r)(hg:GOk X.K C r g)(ha:JE X C E Γ Δ m1 S1 a ta fa)(hb:JE X C E Γ Δ m2 S2 b tb fb)(hm:Dq op b=false):JT X C E Γ Δ (.Compare a [op] [b] pos) (Xef (tOp r ta tb)) (Dl.cE (Dl.f2 g fa fb)):=⟨Xlx ho ha.q hb.q hm,Xdb (Zza hg ha.o hb.o)⟩
theorem Xsf {op:BoolOp}(h:JE X C E Γ Δ m S a ta fa):JE X C E Γ Δ m S (.BoolOp op [a] pos) ta fa:=⟨Xuz h.q,h.o⟩
theorem Xqu (ha:JE X C E Γ Δ m1 S1 a ta fa)(hb:JE X C E Γ Δ m S (.BoolOp .And (b::rest) pos) tb fb):JE X C E Γ Δ m S (.BoolOp .And (a::b::rest) pos) (Xfx ta tb) (Dl.fAnd fa fb):=⟨Xtj ha.q hb.q,Xnh ha.o hb.o⟩
theorem Xrx (ha:JE X C E Γ Δ m1 S1 a ta fa):JE X C E Γ Δ 2 [] (.UnaryOp .Not a pos) (Xhm ta) (Dl.f1 Dl.gNot fa):=⟨Xru ha.q,Xnj ha.o⟩
theorem ce_if {fA:FT}(hc:JT X C E Γ Δ c tA fA)(ha:JE X C E Γ Δ m S a ta fa)(hb:JE X C E Γ Δ m S b tb fb):JE X C E Γ Δ m S (.IfExp c a b pos) (tIf tA ta tb) (Dl.fIf fA fa fb):=⟨Xez hc.q ha.q hb.q,Xvm hc.o ha.o hb.o⟩
theorem Zfz (h:JE X C E Γ Δ m S e te fe)(he:∀whole,isTrue e X.env whole=(do let v <- whole;Fi e.pos;CZ [v] (II v)):=by intro _;rfl):JT X C E Γ Δ e (tB te) (Dl.cE fe):=⟨Xuo h.q he,tok_B h.o⟩
theorem Zmz {fA:FT}(ha:JT X C E Γ Δ a tA fA):JT X C E Γ Δ (.UnaryOp .Not a pos) (tNot tA) (Dl.Xcq fA):=⟨Xri ha.q,Xkw ha.o⟩
theorem Xpg {fA:FT}(ha:JT X C E Γ Δ a tA fA):JW X C E Γ Δ (.BoolOp .And [a] pos) tA fA:=⟨Xma ha.q,ha.o⟩
theorem Zht {fA:FT}(ha:JT X C E Γ Δ a tA fA):JW X C E Γ Δ (.BoolOp .Or [a] pos) tA fA:=⟨Xsz ha.q,ha.o⟩
theorem Xtn {fA:FT}(ha:JT X C E Γ Δ a tA fA)(hb:JW X C E Γ Δ (.BoolOp .And (b::rest) pos) tB' fB):JW X C E Γ Δ (.BoolOp .And (a::b::rest) pos) (tAnd tA tB') (Dl.Xmz fA fB):=⟨Xua ha.q hb.q,Xpb ha.o hb.o⟩
theorem Zlq {fA:FT}(ha:JT X C E Γ Δ a tA fA)(hb:JW X C E Γ Δ (.BoolOp .Or (b::rest) pos) tB' fB):JW X C E Γ Δ (.BoolOp .Or (a::b::rest) pos) (tOr tA tB') (Dl.cOr fA fB):=⟨qw_or ha.q hb.q,Xup ha.o hb.o⟩
theorem Xio {fA:FT}(h:JW X C E Γ Δ a tA fA):JT X C E Γ Δ a tA fA:=⟨qt_w h.q,h.o⟩
theorem Zi:JA X C E Γ Δ 2 [] [] 0 Zmw Dl.Zw:=⟨Zjw,Xow,Xjx⟩
theorem Zb (ha:JE X C E Γ Δ m1 S1 e te fe)(hr:JA X C E Γ Δ m2 S2 es n t f)(hs:Af (e::es) X.env=(false,eval e X.env)::Af es X.env):JA X C E Γ Δ 0 (S1++S2) (e::es) (n+1) (Jz te t) (Dl.Zc fe f):=⟨Zbb ha.q hr.q hs,Xff ha.o hr.o,Zlz hr.n⟩
theorem Zsq (S:List (Nat×Bool))(ha:JE X C E Γ Δ 2 S1 e te fe)(hr:JA X C E Γ Δ 2 S2 es n t f)(hs:Af (e::es) X.env=(false,eval e X.env)::Af es X.env)(h1:∀p∈S1,p.1∈Δ:=by decide)(h2:∀p∈S1,∀q∈S2,p.1≠q.1:=by decide)(hS:S1++S2=S:=by rfl):JA X C E Γ Δ 2 S (e::es) (n+1) (Jz te t) (Dl.Zc fe f):=by subst hS;exact ⟨Zbb ha.q hr.q hs,Zog ha.o hr.o h1 h2,Zlz hr.n⟩
theorem Zh (ha:JE X C E Γ Δ 2 [] e te fe)(hr:JA X C E Γ Δ 2 [] es n t f)(hs:Af (e::es) X.env=(false,eval e X.env)::Af es X.env):JA X C E Γ Δ 2 [] (e::es) (n+1) (Jz te t) (Dl.Zc fe f):=⟨Zbb ha.q hr.q hs,Zog (S1:=[]) (S2:=[]) ha.o hr.o (fun _ h=>nomatch h) (fun _ h=>nomatch h),Zlz hr.n⟩
theorem Znp (h:JA X C E Γ Δ 2 S es n t f):JE X C E Γ Δ 2 S (.Tuple es x1 pos) (Xwd t) (Dl.fA Dl.Zfa f):=⟨Xim h.q,Xbb (.inr rfl) h.o⟩
theorem Zyg (h:JA X C E Γ Δ 0 S es n t f):JE X C E Γ Δ 0 S (.Tuple es x1 pos) (Xwd t) (Dl.fA Dl.Zfa f):=⟨Xim h.q,Xbb (.inl rfl) h.o⟩
theorem Ya (h:JA X C E Γ Δ 2 S es n t f):JE X C E Γ Δ 2 S (.List es pos) (Xqd t) (Dl.fA Dl.Je f):=⟨Xif h.q,Xpv h.o⟩
theorem Zip (h:JA X C E Γ Δ m S es n t f):JE X C E Γ Δ 1 S (.List es pos) (Xqd t) (Dl.fA Dl.Je f):=⟨Xif h.q,Xgq h.o⟩
theorem Zz (K:Frag)(ha:JE X C E Γ Δ m1 S1 a ta fa)(hb:JE X C E Γ Δ m2 S2 b tb fb)(hs:Zbo b)(hK:X.K=K:=by rfl):JE X C E Γ Δ 0 S1 (.Subscript a b pos) (tOp (rIx K) ta tb) (Dl.f2 Dl.gIx fa fb):=by subst hK;exact ⟨Xwa Xir ha.q hb.q hs,Xwg ha.o hb.o⟩
theorem Zie:JO X C E Γ Δ none Zls Dl.Zhi:=⟨Xjp,Xdc⟩
theorem Zdp (h:JE X C E Γ Δ m S e te fe):JO X C E Γ Δ (some e) (Xcr te) (Dl.Zef fe):=⟨Xjv h.q,Xdz h.o⟩
theorem Xuq (K:Frag)(he:JE X C E Γ Δ m S e te fe)(hl:JO X C E Γ Δ lo tl fl)(hu:JO X C E Γ Δ hi th fh)(hK:X.K=K:=by rfl):JE X C E Γ Δ 2 [] (.Subscript e (.Slice lo hi none p2) pos) (tSl (rSlL K) te tl th) (Dl.fSl Dl.gSl fe fl fh):=by subst hK;exact ⟨Zrz Xkp he.q hl.q hu.q,Xwt he.o hl.o hu.o⟩
theorem Xf (Df:Def X.prog X.w X.K X.mg X.base CX k x ps (spD K C n mr F))(hr:Zgr k X.A)(hg:Gl X x)(hx:Zih CX X E)
  (ha:JA X C E Γ Δ m S (e::es) n t f) (hdb:(x==("__debug__":Str))=false:=by decide) (he:Af (e::es) X.env=(false,eval e X.env)::Af es X.env:=by rfl) (hpl:(BU pos (Af es X.env)).any (·.1)=false:=by rfl) (hK:X.K=K:=by rfl) :
  JE X C E Γ Δ mr [] (.Call (.Name x p) (e::es) [] pos) (Zmv (spD K C n mr F) [] E t) (Dl.Ye F f):=by
 subst hK;exact ⟨Zsp Df hr hg hx ha.q hdb he hpl,Xhl ha.o ha.n⟩
theorem Xp {id:String}{g:List D->Option D}(hc:Jy X (.builtin id) r)(hgk:GAk X.K C r g)(hg:Gl X x)(hm:X.mg x=none)(hv:Ck x=some (.builtin id))(ha:JA X C E Γ Δ m S (e::es) n t f)(hn:x≠"__name__":=by decide)(hdb:(x==("__debug__":Str))=false:=by decide)
  (he:Af (e::es) X.env=(false,eval e X.env)::Af es X.env:=by rfl) (hpl:(BU pos (Af es X.env)).any (·.1)=false:=by rfl):JE X C E Γ Δ 2 [] (.Call (.Name x p) (e::es) [] pos) (tCB r t) (Dl.fA g f):=⟨Zkn hc hg hm hv ha.q hn hdb he hpl,Xiy hgk ha.o⟩
theorem Xy {g:List D->Option D}(hc:Jy X (.type T) r)(hgk:GAk X.K C r g)(hg:Gl X x)(hm:X.mg x=none)(hv:Ck x=some (.type T))(ha:JA X C E Γ Δ m S (e::es) n t f)(hn:x≠"__name__":=by decide)(hdb:(x==("__debug__":Str))=false:=by decide)
  (he:Af (e::es) X.env=(false,eval e X.env)::Af es X.env:=by rfl) (hpl:(BU pos (Af es X.env)).any (·.1)=false:=by rfl):JE X C E Γ Δ 2 [] (.Call (.Name x p) (e::es) [] pos) (tCB r t) (Dl.fA g f):=⟨Xcg hc hg hm hv ha.q hn hdb he hpl,Xiy hgk ha.o⟩
theorem Zbq (h:JE X C E Γ Δ m S e te fe):JI X C E Γ Δ S tg e (Xgi X.K te) (Dl.Zed fe):=⟨Xon h.q,Xgn h.o⟩
theorem Zfn (hg:Gl X "range")(hm:X.mg "range"=none)(ha:JA X C E Γ Δ m S [a] n t f)(hs:Af [a] X.env=[(false,eval a X.env)]:=by rfl):JI X C E Γ Δ [] tg (.Call (.Name "range" p) [a] [] pos) (Xdx t) (Dl.Zgo f):=⟨Xai hg hm ha.q hs,Xfv ha.o⟩
theorem Xbs (hg:Gl X "range")(hm:X.mg "range"=none)(ha:JA X C E Γ Δ m S [a,b] n t f)(hs:Af [a,b] X.env=[(false,eval a X.env),(false,eval b X.env)]:=by rfl)(hs2:Af [b] X.env=[(false,eval b X.env)]:=by rfl):JI X C E Γ Δ [] tg (.Call (.Name "range" p) [a,b] [] pos) (Xcy t) (Dl.Zty f):=⟨Zxn hg hm ha.q hs hs2,Xgh ha.o⟩
theorem Xx (h1:i∉Γ:=by decide)(h2:i∉Δ:=by decide)(hN:X.N.Nodup)(hi:X.N[i]?=some x)(hx:Loc X.env.scope x)(hf:autoParam (X.fn x=true\/X.env.scope.names.lookup x=some .local) aT0._auto_1):JG X C Γ Δ (.Name x pos) (Zas i) (Dl.Zu i):=⟨Zlx hN hi hx hf,Xhh h1 h2⟩
theorem Zpk:JGs X C Γ Δ [] 0 Xci Dl.Zge:=⟨Zle,Xjt,Zrw⟩
theorem Zde {fb:FB}(h1:JG X C Γ Δ e tt fb)(h2:JGs X C Γ Δ es n u fu)(hs:(AV (e::es) X.env).map (·.2)=Dg e X.env::(AV es X.env).map (·.2):=by rfl):JGs X C Γ Δ (e::es) (n+1) (Zji tt u) (Dl.Yf fb fu):=⟨Zgz h1.q h2.q hs,Xhp h1.o h2.o,Zlu h2.n⟩
theorem Xbu (hc:X.calm=true)(h:JGs X C Γ Δ es n u fu)(hn:(AV es X.env).length=n:=by rfl)(hst:(AV es X.env).findIdx? (·.1)=none:=by rfl):JG X C Γ Δ (.Tuple es k pos) (Zfa X.K n u) (Dl.Zgn fu):=⟨Zqx hc h.q hn hst,Xoz h.n h.o⟩
theorem Zdx:JIf X C E Γ Δ [] tYes Dl.Zjc:=⟨Xmc,Xoy⟩
structure JB (X:Cx)(C:String->Addr)(n k:Nat)(e:Expr)(t:TG)(f:FB):Prop where
 q:QG X e t
 o:NOk X.K C n k t f
structure JBs (X:Cx)(C:String->Addr)(n k:Nat)(es:List Expr)(l:Nat)(t:TGs)(f:List D->Xr->R Xr):Prop where
 q:QGs X es t
 o:Xtz X.K C n k t f
 n:∀ds ρ ρ',f ds ρ=.ok ρ'->ds.length=l
theorem Zbs (i:Nat)(hN:X.N.Nodup:=by decide +kernel)(hi:X.N[i]?=some x:=by rfl)(hx:Loc X.env.scope x:=by exact .inl rfl)(hf:X.fn x=true\/X.env.scope.names.lookup x=some .local:=by exact .inr rfl)(h1:n<=i:=by decide)(h2:i<n+k:=by decide):JB X C n k (.Name x pos) (Zas i) (Dl.Zu i):=⟨Zlx hN hi hx hf,Xge i h1 h2⟩
theorem Xbt :JBs X C n k [] 0 Xci Dl.Zge:=⟨Zle,Xlg,Zrw⟩
theorem Zgw {l:Nat}{fb:FB}(h1:JB X C n k e tt fb)(h2:JBs X C n k es l u fu)(hs:(AV (e::es) X.env).map (·.2)=Dg e X.env::(AV es X.env).map (·.2):=by rfl):JBs X C n k (e::es) (l+1) (Zji tt u) (Dl.Yf fb fu):=⟨Zgz h1.q h2.q hs,Xfu h1.o h2.o,Zlu h2.n⟩
theorem Xie (K:Frag){l kk:Nat}(h:JBs X C n k es l u fu)(hc:X.calm=true:=by rfl)(hn:(AV es X.env).length=l:=by rfl)(hst:(AV es X.env).findIdx? (·.1)=none:=by rfl)(hK:X.K=K:=by rfl):JB X C n k (.Tuple es kk pos) (Zfa K l u) (Dl.Zgn fu):=by subst hK;exact ⟨Zqx hc h.q hn hst,Xkf h.n h.o⟩
theorem Zfd {sc:Scope}{tc:TT}{fc:FT}(esc:Scope)(N N2 xs:List Str)(B:Xch sc esc xs N N2)(hi:JI X C E Γ Δ S tg iter wi fi)(hg:∀cl C' s0 H0 fp,JB (X.blkN N2 xs sc cl C' s0 H0 fp) C n xs.length tg gg fg)(ht:∀cl C' s0 H0 fp,JIf (X.blkN N2 xs sc cl C' s0 H0 fp) C E0 [] [] ifs tc fc)(he:∀cl C' s0 H0 fp,JE (X.blkN N2 xs sc cl C' s0 H0 fp) C E0 [] [] 2 [] elt te fe)
  (hesc:X.env.scope=esc:=by rfl) (hN:X.N=N:=by rfl) (hc:X.calm=true:=by rfl) (hs:∀v,Bt iter X.env v=pure v:=by intro _;rfl):JE X C E Γ Δ 2 [] (.ListComp elt [⟨tg,iter,ifs,0⟩] sc pos) (Zen xs.length gg wi tc te) (Dl.Zcb n xs.length fi fg fc fe):=
 ⟨Xet esc N N2 xs B hi.q (fun cl C' s0 H0 fp=>(hg cl C' s0 H0 fp).q) (fun cl C' s0 H0 fp=>(ht cl C' s0 H0 fp).q) (fun cl C' s0 H0 fp=>(he cl C' s0 H0 fp).q) hesc hN hc hs,Zrg hi.o (hg [] 0 X.s₀ X.H₀ []).o (ht [] 0 X.s₀ X.H₀ []).o (he [] 0 X.s₀ X.H₀ []).o⟩
variable {other:List Stmt}{u v:TS}{g h:FS}
theorem Xq:JSs X C E mr Γl Δl Γ Δ Γ Δ [] Zva Dl.sNx:=⟨Zxi,Xus⟩
theorem Zg (Γ1 Δ1:List Nat)(h1:JS X C E mr Γl Δl Γ Δ Γ1 Δ1 s1 u g)(h2:JSs X C E mr Γl Δl Γ1 Δ1 Γ' Δ' ss v h):JSs X C E mr Γl Δl Γ Δ Γ' Δ' (s1::ss) (Xpz u v) (Dl.Xj g h):=⟨Zqv h1.q h2.q,Xpu h1.o h2.o⟩
theorem Zl (h1:JS X C E mr Γl Δl Γ Δ Γ' Δ' s1 u g):JSs X C E mr Γl Δl Γ Δ Γ' Δ' [s1] u g:=⟨Zqo h1.q,h1.o⟩
theorem Yy (Γ1 Δ1:List Nat)(h:JSs X C E mr Γl Δl Γ Δ Γ1 Δ1 ss u g)(h1:∀i∈Γ',i∈Γ1:=by decide)(h2:∀i∈Δ',i∈Δ1:=by decide):JSs X C E mr Γl Δl Γ Δ Γ' Δ' ss u g:=⟨h.q,Xgu h.o h1 h2⟩
theorem Zks:JS X C E mr Γl Δl Γ Δ Γ' Δ' s1 Ztm Dl.Zjz:=⟨Xei,Zwo⟩
theorem Yb (he:JE X C E Γ Δ 2 S e te fe)(h0:∀p∈S,p.1∈Δ:=by decide):JS X C E 2 Γl Δl Γ Δ Γ' Δ' (.Return (some e) pos) (Xpw te) (Dl.Zcn fe):=⟨Xic he.q,Xgo he.o h0⟩
theorem Jm {fA:FT}(hc:JT X C E Γ Δ c tA fA)(ha:JSs X C E mr Γl Δl Γ Δ Γ' Δ' body u g)(hb:JSs X C E mr Γl Δl Γ Δ Γ' Δ' other v h):JS X C E mr Γl Δl Γ Δ Γ' Δ' (.If c body other pos) (Xqc tA u v) (Dl.sIf fA g h):=⟨Xrt hc.q ha.q hb.q,Xve hc.o ha.o hb.o⟩
theorem Zr (hN:X.N.Nodup)(hi:X.N[i]?=some x)(hx:Loc X.env.scope x)(he:JE X C E Γ Δ 2 [] e te fe)(hs:Cs e (some (.Name x pos')) pos.line X.env=pure false:=by rfl)(hf:autoParam (X.fn x=true\/X.env.scope.names.lookup x=some .local) aT0._auto_1)
  (h1:∀j∈Γ',j=i\/j∈Γ:=by decide) (h2:∀j∈Δ',j=i\/j∈Δ:=by decide):JS X C E mr Γl Δl Γ Δ Γ' Δ' (.Assign [.Name x pos'] e pos) (Zjr te (Zas i)) (Dl.Xw i fe):=⟨Zzp hN hi hx he.q hs hf,Zsb he.o h1 h2⟩
theorem Xnk {py spos:Pos}{sc:Scope}{tc:TT}{fc:FT}(esc:Scope)(N N2 xs:List Str)(B:Xch sc esc xs N N2)(hy:N[i]?=some y)(hl:esc.names.lookup y=some .local)(hi:JI X C E Γ Δ S tg iter wi fi)(hg:∀cl C' s0 H0 fp,JB (X.blkN N2 xs sc cl C' s0 H0 fp) C n xs.length tg gg fg)(ht:∀cl C' s0 H0 fp,JIf (X.blkN N2 xs sc cl C' s0 H0 fp) C E0 [] [] ifs tc fc)(he:∀cl C' s0 H0 fp,JE (X.blkN N2 xs sc cl C' s0 H0 fp) C E0 [] [] 2 [] elt te fe)
  (hesc:X.env.scope=esc:=by rfl) (hN:X.N=N:=by rfl) (hc:X.calm=true:=by rfl) (hsw:Cs (.ListComp elt [⟨tg,iter,ifs,0⟩] sc pos) (some (.Name y py)) spos.line X.env=pure true:=by rfl) (hs:∀v,Bt iter X.env v=pure v:=by intro _;rfl)
  (h1:∀j∈Γ',j=i\/j∈Γ:=by decide) (h2:∀j∈Δ',j=i\/j∈Δ:=by decide):JS X C E mr Γl Δl Γ Δ Γ' Δ' (.Assign [.Name y py] (.ListComp elt [⟨tg,iter,ifs,0⟩] sc pos) spos) (Zjr (Zen xs.length gg wi tc te) (Zas i)) (Dl.Xw i (Dl.Zcb n xs.length fi fg fc fe)):=
 ⟨Xfh esc N N2 xs B hy hl hi.q (fun cl C' s0 H0 fp=>(hg cl C' s0 H0 fp).q) (fun cl C' s0 H0 fp=>(ht cl C' s0 H0 fp).q) (fun cl C' s0 H0 fp=>(he cl C' s0 H0 fp).q) hesc hN hc hsw hs,Zsb (Zrg hi.o (hg [] 0 X.s₀ X.H₀ []).o (ht [] 0 X.s₀ X.H₀ []).o (he [] 0 X.s₀ X.H₀ []).o) h1 h2⟩
theorem Zft (hi:i∈Γ:=by decide)(hN:X.N[i]?=some x:=by rfl)(hv:autoParam (Vis X.env.scope x) aT3._auto_1)(hd:(x==("__debug__":Str))=false:=by decide)(hcd:(x==("__classdict__":Str))=false:=by decide)
  (he:JE X C E Γ Δ 2 [] e te fe) (hse:Af [e] X.env=(false,eval e X.env)::Af [] X.env)
  (hbase:CW (.Name x p) "append" X.env (eval (.Name x p) X.env)=eval (.Name x p) X.env:=by rfl)
  (hfew:((BU cpos (Af [e] X.env)).all (fun x=>!x.1)&&(EL cpos (DD [] X.env)).all (fun x=>x.1.isSome)&&decide (([e]:List Expr).length+([]:List CM).length+(if ([]:List CM).isEmpty then 0 else 1)<30))=true:=by rfl)
  (hline:(apos.endLine==cpos.line)=true:=by rfl) (hplain:(BU cpos (Af ([]:List Expr) X.env)).any (·.1)=false:=by rfl) (hsw:Cs (.Call (.Attribute (.Name x p) "append" apos) [e] [] cpos) none pos.line X.env=pure false:=by rfl) :
  JS X C E mr Γl Δl Γ Δ Γ Δ (.Expr (.Call (.Attribute (.Name x p) "append" apos) [e] [] cpos) pos) (Zgl (tBM X.K "list" Zbn (Zgp i) (Jz te Zmw))) (Dl.Zpf i fe):=
 ⟨Zja (Xlf PySem.F.plainAttrs_list PySem.F.slot_list_append PySem.F.type_list_append Zeo (qv i hN hv hd hcd) (Zbb he.q Zjw hse) hbase hfew hline hse hplain) hsw,Xfj hi he.o⟩
theorem Jc {fb:FB}(Γl Δl:List Nat)(hp:IB (model X.prog X.w) X.A X.env X.xe)(hc:X.calm=true)(hi:JI X C E Γ Δ S tg iter wi fi)(hg:JG X C Γl Δl tg tt fb)(hb:JSs X C E mr Γl Δl Γl Δl Γl Δl body u g)(hs:∀x,Bt iter X.env x=pure x:=by intro _;rfl)
  (h1:∀i∈Γl,i∈Γ:=by decide) (h2:∀i∈Δl,i∈Δ:=by decide) (h3:∀p∈S,p.1∉Γl/\p.1∉Δl:=by decide):JS X C E mr Γk Δk Γ Δ Γl Δl (.For tg iter body [] pos) (Xqg wi tt u) (Dl.Zfe fi fb g):=⟨Xje hp hc hi.q hg.q hb.q hs,Xlc hi.o hg.o hb.o h1 h2 h3⟩
end
theorem Fun.okC {P:AZ}{st:Stmt}{f:Addr}{N:List Str}{g:FS}(F:Fun K x qual st f fd)(S:Xg N ps (Zn st))(hn:ps.length=n)
    (hbody:∀(cdv:Value) (A:BE) (outer:List Env) (s:Ah) (H:Hp) (E:XK),Zgr k (A.deeper (EZ qual (Zn st) s.heap.objs.size f cdv))->
      ∃t,JSs (Xga CX0 P w K mg base N qual (Zn st) f cdv A outer s H E).nox C E0 mr [] [] [] [] Γ' Δ' (Zab st) t g):Zbe P w K mg base CX0 (k+1) f fd ps (spD K C n mr fun ds=>(Dl.run N.length g ds).calm):=
  F.okQ S (fun vs H Q E h=>by
    obtain ⟨ds,B,h1,h2,_⟩:=h;rw [h2.len,h1,hn]) fun cdv A outer s H vs Q E hr h=>by
    obtain ⟨ds,B,h1,h2,h3⟩:=h;obtain ⟨t,ht⟩:=hbody cdv A outer s H E hr;exact ⟨t,ht.q,Xhw (K:=K) ht.o h2 (Xh.imp (Zdo h3) (fun _ q=>q) fun _ _ z=>z.elim)⟩
section
variable {S:List (Nat×Bool)}
def Kit (c:String):Prop:=∀(K:Frag) (d:D) (b:Bool),Dl.Zvi c d=some (.bl b)->Kq K (.type (Dl.Xiu d)) (.type c)=some b
theorem Xmu:Kit "int":=fun K d b h=>by cases d<;>cases h<;>rfl
theorem Xcw:Kit "bool":=fun K d b h=>by cases d<;>cases h<;>rfl
theorem Zqu:Kit "list":=fun K d b h=>by cases d<;>cases h<;>rfl
theorem Xpt {c:String}(hk:Kit c)(ha:EOk K C E Γ Δ m S ta fa):EOk K C E Γ Δ 2 [] (tCB (Xqa K) (Jz ta (Jz (tC (.ty c)) Zmw))) (Dl.f1 (Dl.Zvi c) fa):=fun H0 Hb H σ ρ A Q I p =>
  ha H0 Hb H σ ρ A _ I (p.bind.imp (fun x q v H1 g1 r=>by
    obtain ⟨d,e,q⟩:=Zdf q;obtain ⟨B,r,_⟩:=r;have out:∀b t,d=.bl b->TyOf K H1 v t->t=.type (Dl.Xiu x)->Xqa K [v,.ty c] H1 Q:=fun b t ed ty et=>by subst ed et;exact Xug ty (hk K x b e) (q _ H1 g1 (Res.flat rpB))
    show Xqa K [v,.ty c] H1 Q;cases x with
    | non=>cases e;exact out _ _ rfl (by rw [r.1];exact .non) rfl
    | bl b=>cases e;exact out _ _ rfl (by rw [r.1];exact .bl _) rfl
    | int i=>cases e;exact out _ _ rfl (by rw [r.1];exact .int _) rfl
    | str z=>cases e;exact out _ _ rfl (by rw [r.1];exact .str _) rfl
    | lst ds =>cases e;obtain ⟨a,xs,B,rfl,e2,_⟩:=r;exact out _ _ rfl (.lst e2) rfl
    | tup ds =>cases e;obtain ⟨a,xs,rfl,e2,_⟩:=r;exact out _ _ rfl (.tup e2) rfl
    | scr _=>cases e
    | rng _ _=>cases e
    | exc _ _=>cases e
    | obj _ _ _=>cases e
    | dct _ _=>cases e
    | dtt _ _=>cases e
    | flst _=>cases e
    | fdt _ _=>cases e) fun c x q H' g'=>q H' g')
theorem Zp.rewrite {es:List D}(I:Zp K C H0 Hb H Γ Δ σ ρ A)(g1:Xi H H1)(hi:i∈Γ)(hA:A i=a::l)(hl:i<ρ.length)(s1:σ[i]?=some (some (.ref a)))(r:RpA K C H1 es ys B')
    (hB:∀b∈B',b∈l\/H b=none) (hD:i∈Δ->B'.Nodup):∃A',Zp K C H0 Hb (upd H1 a (.lst ys)) Γ Δ σ (ρ.set i (some (.lst es))) A':=by
  obtain ⟨tb,ta,tt⟩:=I.top i hi a l hA;have ha:a∈A i:=by rw [hA];exact .head _
  have w1:∀b∈B',H0 b=none:=fun b hb=>(hB b hb).elim (fun z=>I.loc i hi b (by rw [hA];exact .tail _ z)) fun z=>I.s0.free (I.same.free z);have w0:a∉B':=fun z=>(hB a z).elim ta fun z=>I.ne ha z;have w2:∀j∈Γ,j≠i->j∈Γ/\∀b l',A j=b::l'->b∉B':=fun j hj e=>⟨hj,fun b l' e' z=>(hB b z).elim
    (fun z=>(I.top j hj b l' e').2.2 i (fun w=>e w.symm) (by rw [hA];exact .tail _ z)) fun z=>I.ne (j:=j) (by rw [e'];exact .head _) z⟩
  have w3:∀j∈Δ,j≠i->j∈Δ/\∀b∈A j,b∉B':=fun j hj e=>⟨hj,fun b hb z=>(hB b z).elim
    (fun z=>(I.deep j hj).2.1 i (fun w=>e w.symm) b hb (by rw [hA];exact .tail _ z)) fun z=>I.ne hb z⟩
  have w4:i∈Δ->B'.Nodup/\(∀j,j≠i->∀b∈B',b∉A j)/\∀b∈B',Hb b=none:=fun hd=>by obtain ⟨d1,d2,d3⟩:=I.deep i hd;rw [hA] at d2 d3;exact ⟨hD hd,fun j hj b hb=>(hB b hb).elim (fun z=>d2 j hj b (.tail _ z)) fun z w=>I.ne w z,fun b hb=>(hB b hb).elim (fun z=>d3 b (.tail _ z)) fun z=>I.same.free z⟩
  exact (I.mono g1).write (Γ':=Γ) (Δ':=Δ) hi hA hl s1 r w1 w0 w2 w3 w4
def BsN (K:Frag)(C:String->Addr)(Γ Δ Γ' Δ':List Nat)(g:TGs)(b:List D->Xr->R Xr):Prop:=∀(H0 Hb H:Hp) (σ:St) (ρ:Xr) (A:Nat->List Addr) (d:List D) (v:List V) (B:List Addr) (Rr:St->Hp->Prop),Zp K C H0 Hb H Γ Δ σ ρ A->RpA K C H d v B->B.Nodup->(∀a∈B,Hb a=none/\∀j,a∉A j)->
 Xh (b d ρ) (fun ρ'=>∀σ' A',Zp K C H0 Hb H Γ' Δ' σ' ρ' A'->Rr σ' H) (fun _ _=>False)->g v σ H Rr
theorem Xkk (h1:∀i∈Γ',i∈Γ)(h2:∀i∈Δ',i∈Δ):BsN K C Γ Δ Γ' Δ' Xci Dl.Zge:=fun H0 Hb H σ ρ A d v B Rr I r _ _ p=>by
 cases d with
 | nil=>exact ⟨r.1,p _ A (I.weak h1 h2)⟩
 | cons _ _=>exact p.elim
theorem Xco {bs:List D->Xr->R Xr}(h2:BsN K C (i::Γ) (i::Δ) Γ' Δ' gs bs):BsN K C Γ Δ Γ' Δ' (Zji (Zas i) gs) (Dl.Yf (Dl.Zu i) bs):=fun H0 Hb H σ ρ A d v B Rr I r nd hB p=>by
  cases d with
  | nil=>exact p.elim
  | cons d ds =>
    obtain ⟨x,l,B1,B2,e1,e2,e3,e4⟩:=r;subst e1 e4;obtain ⟨n1,n2,n3⟩:=A3.mp nd;have hB1:∀a∈B1,Hb a=none/\∀j,a∉A j:=fun a ha=>hB a (AJ _ ha);obtain ⟨A',I',hA'⟩:=I.put (Γ':=i::Γ) (Δ':=i::Δ) (i:=i) e2
      (fun j hj e=>⟨(An.mp hj).elim (fun z=>absurd z e) id,fun a l' e' ha=>(hB1 a ha).2 j (by rw [e'];exact .head _)⟩)
      (fun _=>⟨fun a ha=>I.s0.free (hB1 a ha).1,fun a l' e=>by
        subst e;exact ⟨(hB1 a (.head _)).1,(AA.mp n1).1,fun j _=>(hB1 a (.head _)).2 j⟩⟩)
      (fun j hj e=>⟨(An.mp hj).elim (fun z=>absurd z e) id,fun a ha hb=>(hB1 a hb).2 j ha⟩)
      (fun _=>⟨n1,fun j _ a ha=>(hB1 a ha).2 j,fun a ha=>(hB1 a ha).1⟩)
    exact ⟨x,l,rfl,h2 H0 Hb H _ _ A' ds l B2 Rr I' e3 n2 (fun a ha=>⟨(hB a (As _ ha)).1,fun j h=>(hA' j a h).elim (fun z=>n3 a z a ha rfl) fun z=>(hB a (As _ ha)).2 j z⟩) p⟩
theorem Zuy {bs:List D->Xr->R Xr}(hn:∀ds ρ ρ',bs ds ρ=.ok ρ'->ds.length=n)(he:EOk K C E Γ Δ 2 [] te fe)(hb:BsN K C Γ Δ Γ' Δ' gs bs):SOk K C E mr Γl Δl Γ Δ Γ' Δ' (Zjr te (Zfa K n gs)) (Dl.Xqn fe (Dl.Zgn bs)):=fun H0 Hb H σ ρ A D I p=>by
 refine he H0 Hb H σ ρ A _ I (Xh.imp (Xh.bind p) (fun d q v H1 g1 r=>?_) fun c x q H' g'=>q H' (Xi.from0 I g'));obtain ⟨B,r1,r2,_,r4⟩:=r;have hn':∀a∈B,H a=none:=fun a ha=>(r2 a ha).elim id fun z=>z.none.elim;have q':=Zdo (Xh.bind q);cases d with
 | tup ds =>
  obtain ⟨a,xs,rfl,e2,e3⟩:=r1;have q'':Xh (bs ds ρ) (fun ρ'=>∀σ' H' A',Zp K C H0 Hb H' Γ' Δ' σ' ρ' A'->D.nx σ' H') (fun _ _=>False):=q';have hl:xs.length=n:=by
   rw [e3.len];cases e:bs ds ρ with
   | ok ρ'=>exact hn ds ρ ρ' e
   | err _ _=>rw [e] at q'';exact q''.elim
   | bad=>rw [e] at q'';exact q''.elim
  exact ⟨a,xs,rfl,SqT.of e2,hl,hb H0 Hb H1 σ ρ A ds xs B D.nx (I.mono g1) e3 (r4 rfl) (fun a ha=>⟨I.same.free (hn' a ha),fun j z=>I.ne z (hn' a ha)⟩) (Xh.imp q'' (fun ρ' q σ' A' I'=>q σ' H1 A' I') fun _ _ z=>z)⟩
 | _=>exact q'.elim
variable {a:Expr}{rest:List Expr}{tc:TE}{fs:FE}{t:TA}
theorem Zrn (K:Frag)(hk:Kit T)(hg:Gl X "isinstance")(hm:X.mg "isinstance"=none)(hgt:Gl X ty)(hmt:X.mg ty=none)(hvt:Ck ty=some (.type T))(ha:JE X C E Γ Δ m S e te fe)(hse:Af (e::[.Name ty p2]) X.env=(false,eval e X.env)::Af [.Name ty p2] X.env)
  (hn:ty≠"__name__":=by decide) (hd:(ty==("__debug__":Str))=false:=by decide) (hpl:(BU pos (Af [.Name ty p2] X.env)).any (·.1)=false:=by rfl) (hK:X.K=K:=by rfl) :
  JE X C E Γ Δ 2 [] (.Call (.Name "isinstance" p) [e,.Name ty p2] [] pos) (tCB (Xqa K) (Jz te (Jz (tC (.ty T)) Zmw))) (Dl.f1 (Dl.Zvi T) fe):=by
 subst hK;exact ⟨Zkn Zqe hg hm Li (Zbb ha.q (Zbb (Xmb (v:=.ty T) hgt hmt hvt rfl hn hd) Zjw Za) hse) (by decide) (by decide) hse hpl,Xpt hk ha.o⟩
structure JN (X:Cx)(C:String->Addr)(Γ Δ Γ' Δ':List Nat)(es:List Expr)(n:Nat)(t:TGs)(f:List D->Xr->R Xr):Prop where
 q:QGs X es t
 o:BsN X.K C Γ Δ Γ' Δ' t f
 n:∀ds ρ ρ',f ds ρ=.ok ρ'->ds.length=n
theorem Xuj (h1:∀i∈Γ',i∈Γ:=by decide)(h2:∀i∈Δ',i∈Δ:=by decide):JN X C Γ Δ Γ' Δ' [] 0 Xci Dl.Zge:=⟨Zle,Xkk h1 h2,Zrw⟩
theorem Zyx (hN:X.N.Nodup)(hi:X.N[i]?=some x)(hx:Loc X.env.scope x)(h2:JN X C (i::Γ) (i::Δ) Γ' Δ' es n u fu)(hf:autoParam (X.fn x=true\/X.env.scope.names.lookup x=some .local) aT0._auto_1)
  (hs:(AV (.Name x p::es) X.env).map (·.2)=Dg (.Name x p) X.env::(AV es X.env).map (·.2):=by rfl):JN X C Γ Δ Γ' Δ' (.Name x p::es) (n+1) (Zji (Zas i) u) (Dl.Yf (Dl.Zu i) fu):=⟨Zgz (Zlx hN hi hx hf) h2.q hs,Xco h2.o,Zlu h2.n⟩
theorem Zzf (hc:X.calm=true)(he:JE X C E Γ Δ 2 [] e te fe)(hb:JN X C Γ Δ Γ' Δ' es n u fu)(hn:(AV es X.env).length=n:=by rfl)(hst:(AV es X.env).findIdx? (·.1)=none:=by rfl)
  (hs:EW [.Tuple es k p] e pos.line X.env=pure false:=by rfl) (hw:EX [.Tuple es k p] e X.env=pure none:=by rfl) (h1:(AV [.Tuple es k p] X.env).map (·.2)=[Dg (.Tuple es k p) X.env]:=by rfl) :
  JS X C E mr Γl Δl Γ Δ Γ' Δ' (.Assign [.Tuple es k p] e pos) (Zjr te (Zfa X.K n u)) (Dl.Xqn fe (Dl.Zgn fu)):=⟨Xan he.q (Zqx hc hb.q hn hst) hs hw h1,Zuy hb.n he.o hb.o⟩
theorem Zwy {i:Int}{u:Value}(hg:Gl X x)(hm:X.mg x=some u)(r:RelV (.int i) u)(hd:(x==("__debug__":Str))=false:=by decide):JE X C E Γ Δ 2 [] (.Name x pos) (tC (.int i)) (Dl.fC (.int i)):=⟨Xnv hg hm r hd,Xdq fun _=>rpI⟩
end
section
variable {S:List (Nat×Bool)}
def JOk (K:Frag)(C:String->Addr)(E:XK)(Γ Δ:List Nat)(t:TJ)(f:FA):Prop:=∀(H0 Hb H:Hp) (σ:St) (ρ:Xr) (A:Nat->List Addr) (Q:Hp->Prop),Zp K C H0 Hb H Γ Δ σ ρ A->
 Xh (f ρ) (fun _=>∀H',Xi H H'->Q H') (fun c x=>∀H',Xi H H'->EC C E c x H')->t σ H Q
variable {t:TA}
theorem Res.newTop {p:Addr}(g1:Xi H H')(r:RpA K C H' ds vs B)(hB:∀a∈B,H a=none\/InS A S a)(hp:H' p=none):Res K C 1 S H A (.lst ds) (.ref p) (upd H' p (.lst vs)):=by have g2:=sameNew hp (.lst vs);refine ⟨p::B,⟨p,vs,B,rfl,Xd,r.same g2,rfl⟩,fun b hb=>?_,fun _ b l e=>?_,(fun z=>nomatch z)⟩;rcases An.mp hb with z | z;rw [z];exact .inl (g1.free hp);exact hB b z;cases e;refine ⟨g1.free hp,fun h=>?_⟩;obtain ⟨ys,w,_⟩:=r.isl p h;rw [w] at hp;cases hp
end
section
variable {S:List (Nat×Bool)}{a:Expr}{rest:List Expr}{tc:TE}{fs:FE}{t:TA}{u:TS}{g:FS}
end
structure ClsIn (K:Frag)(C:Addr):Prop where
 ty:Kp K (.ref C)=some (.type "type")
 cl:∃c,clsIn K C=some c
 se:Ir K (.ref C) (.ref C)=some true
theorem all_cons {P:α->Prop}{a:α}{l:List α}(h:P a)(hl:∀c∈l,P c):∀c∈a::l,P c:=fun c hc=>(An.mp hc).elim (fun e=>by rw [e];exact h) fun hc=>hl c hc
section
variable {S:List (Nat×Bool)}
theorem RpA.rev {A:List Addr}(r:RpA K C H ds vs A):∃B,RpA K C H ds.reverse vs.reverse B/\∀a∈B,a∈A:=by
 induction ds generalizing vs A with
 | nil =>obtain ⟨e1,e2⟩:=r;subst e1 e2;exact ⟨[],⟨rfl,rfl⟩,fun _ h=>h⟩
 | cons d ds ih =>obtain ⟨x,l,B,B',e1,e2,e3,e4⟩:=r;subst e1 e4;obtain ⟨B2,q1,q2⟩:=ih e3;refine ⟨B2++B,?_,fun a ha=>(Au.mp ha).elim (fun h=>As _ (q2 a h)) fun h=>AJ _ h⟩;rw [EA,EA];exact q1.app (RpA.one e2)
theorem Xgg {fs:FE}(ha:EOk K C E Γ Δ m1 S1 ta fa)(hs:EOk K C E Γ Δ m2 S2 ts fs):EOk K C E Γ Δ 1 S1 (tRev K ta ts) (Dl.f2 Dl.Xbd fa fs):=
  fun H0 Hb H σ ρ A Q I p=>ha H0 Hb H σ ρ A _ I (p.bind.imp (fun x q vx H1 g1 r1=>hs H0 Hb H1 σ ρ A _ (I.mono g1) (q.bind.imp (fun y q vy H2 g2 r2=>by
    obtain ⟨d,e,q⟩:=Zdf q;obtain ⟨Bx,r1,rB,_⟩:=r1;obtain ⟨By,r2,_⟩:=r2;have r1:=r1.same g2;have g13:=g1.trans g2;unfold Dl.Xbd at e;split at e;split at e;rename_i hf;cases e;obtain ⟨a,ys,B,rfl,e2,e3,e4⟩:=r1;subst e4;obtain ⟨rfl,_⟩:=r2;obtain ⟨B2,q1,q2⟩:=e3.rev;refine ⟨a,ys,rfl,by rw [hf],SqL.of e2,fun p hp=>q _ _ (g13.trans (sameNew hp _)) (Res.newTop g13 q1 (fun b hb=>rB b (.tail _ (q2 b hb))) hp)⟩;cases e
    · cases e) fun c x q H' g'=>q H' (g1.trans g'))) fun c x q H' g'=>q H' g')
end
structure JJ (X:Cx)(C:String->Addr)(E:XK)(Γ Δ:List Nat)(es:List Expr)(t:TJ)(f:FA):Prop where
 q:QJ X es t
 o:JOk X.K C E Γ Δ t f
section
variable {S:List (Nat×Bool)}{a:Expr}{rest:List Expr}{tc:TE}{fs:FE}{t:TA}{s:Stmt}{u:TS}{g:FS}
theorem Xks (K:Frag)(he:JE X C E Γ Δ m S e te fe)(hst:JE X C E Γ Δ m2 S2 st ts fs)(hK:X.K=K:=by rfl):JE X C E Γ Δ 1 S (.Subscript e (.Slice none none (some st) p2) pos) (tRev K te ts) (Dl.f2 Dl.Xbd fe fs):=by subst hK;exact ⟨Xsr he.q hst.q,Xgg he.o hst.o⟩
end
section
variable {S:List (Nat×Bool)}
theorem Xmo (ha:EOk K C E Γ Δ m S ta fa)(hl:OOk K C E Γ Δ tl fl)(hh:OOk K C E Γ Δ th fh):EOk K C E Γ Δ 2 [] (tSl (rSlT K) ta tl th) (Dl.fSl Dl.Xcb fa fl fh):=
  fun H0 Hb H σ ρ A Q I p=>ha H0 Hb H σ ρ A _ I (p.bind.imp (fun x q vx H1 g1 r1=>hl H0 Hb H1 σ ρ A _ (I.mono g1) (q.bind.imp (fun lo q H2 g2=>hh H0 Hb H2 σ ρ A _ (I.mono (g1.trans g2)) (q.bind.imp (fun hi q H3 g3=>by
    obtain ⟨d,e,q⟩:=Zdf q;obtain ⟨B,r1,_⟩:=r1;have r1:=r1.same (g2.trans g3);have g13:=g1.trans (g2.trans g3);have out:Out K C H3 d Q:=fun v H' B g4 r h1 h2=>q v H' (g13.trans g4) (Res.new r h1 fun a ha=>g13.free (h2 a ha));unfold Dl.Xcb at e;split at e;split at e;rename_i hf;cases e;obtain ⟨a,ys,rfl,e2,e3⟩:=r1;refine ⟨a,ys,rfl,SqT.of e2,?_⟩;refine ⟨?_,fun p hp=>Out.tup out (e3.cut hf.1 _ _) hp⟩;rw [e3.len,<- Zka,<- Zka];exact hf.2;cases e
    · cases e) fun c x q H' g'=>q H' ((g1.trans g2).trans g'))) fun c x q H' g'=>q H' (g1.trans g'))) fun c x q H' g'=>q H' g')
variable {a:Expr}{rest:List Expr}{tc:TE}{fs:FE}{t:TA}
theorem Zrl (K:Frag)(he:JE X C E Γ Δ m S e te fe)(hl:JO X C E Γ Δ lo tl fl)(hu:JO X C E Γ Δ hi th fh)(hK:X.K=K:=by rfl):JE X C E Γ Δ 2 [] (.Subscript e (.Slice lo hi none p2) pos) (tSl (rSlT K) te tl th) (Dl.fSl Dl.Xcb fe fl fh):=by subst hK;exact ⟨Zrz Xud he.q hl.q hu.q,Xmo he.o hl.o hu.o⟩
end
theorem Inv.turnTup {p:Addr}(I:Inv X pins σ H s)(k:∀b o,b∉ch->s.heap.get? b=some o->h'.get? b=some o)(hf:∀b∈ch,Zuv X pins H b)
  (hp:s.heap.objs.size<=p) (hz:xs.length<=Aw) (hv:Yl xs its) (ho:IG h' p its.toArray):Inv X pins σ (upd H p (.tup xs)) {s with heap:=h',toks:=t'}:=by
 have hn:H p=none:=I.hok.fresh hp;have nch:∀b u,H b=some u->b∉ch:=fun b u e z=>by rw [(hf b z).1] at e;cases e
 refine I.step (g':=s.gens) (d':=s.drawn) (ch:=ch) (fun b hb=>⟨(hf b hb).2.2.2.1,(hf b hb).2.1,(hf b hb).2.2.2.2.1,(hf b hb).2.2.2.2.2⟩) (fun b o _ _ hc e _=>k b o hc e) (fun b o _ _ hc e _=>⟨o.slots,k b o hc e⟩) (fun b o _ e n=>?_)
  (fun b o hc e=>⟨o,k b o hc e⟩) (fun b ys e=>by rw [Xa (Xl e hn)];exact e) (fun b o u e=>by rw [Xa (Xl e hn)];exact e) (fun b p n e=>by rw [Xa (Xl e hn)];exact e) (fun m hm=>?_) (fun b u e=>?_) I.bare
 rw [Xa];exact n;exact BD (AF (AW e) hp);obtain ⟨o,es,ep,ho,r⟩:=hm;exact ⟨o,es,ep,k _ o (fun z=>(hf _ z).2.1 rfl) ho,r⟩;by_cases hb:b=p;subst hb;rw [Xd] at e;cases e;exact ⟨hz,its,hv,ho⟩;rw [Xa hb] at e;refine (I.hok b u e).stay (fun c v hc q=>k c v ?_ q) (fun c q=>by rw [Xa (Xl q hn)];exact q) (fun c ys q=>by rw [Xa (Xl q hn)];exact q) fun c ob u q=>by rw [Xa (Xl q hn)];exact q
 rcases hc with z | z;rw [z];exact nch b u e;exact nch c _ z
theorem Inv.turneds (I:Inv X pins σ H s)(k:∀b o,b∉ch->s.heap.get? b=some o->h'.get? b=some o)(hf:∀b∈ch,Zuv X pins H b):Inv X pins σ H {s with heap:=h',toks:=t'}:=by
 have nch:∀b u,H b=some u->b∉ch:=fun b u e z=>by rw [(hf b z).1] at e;cases e
 refine I.step (g':=s.gens) (d':=s.drawn) (ch:=ch) (fun b hb=>⟨(hf b hb).2.2.2.1,(hf b hb).2.1,(hf b hb).2.2.2.2.1,(hf b hb).2.2.2.2.2⟩) (fun b o _ _ hc e _=>k b o hc e) (fun b o _ _ hc e _=>⟨o.slots,k b o hc e⟩) (fun _ _ _ _ n=>n)
  (fun b o hc e=>⟨o,k b o hc e⟩) (fun _ _ e=>e) (fun _ _ _ e=>e) (fun _ _ _ e=>e) (fun m hm=>?_) (fun b u e=>?_) I.bare
 obtain ⟨o,es,ep,ho,r⟩:=hm;exact ⟨o,es,ep,k _ o (fun z=>(hf _ z).2.1 rfl) ho,r⟩;refine (I.hok b u e).stay (fun c v hc q=>k c v ?_ q) (fun _ q=>q) (fun _ _ q=>q) fun _ _ _ q=>q;rcases hc with z | z;rw [z];exact nch b u e;exact nch c _ z
def Ite (K:Frag)(a:Addr):It:=
  ⟨fun i H=>∃xs x,SqL K H a xs/\xs[i]?=some x,
   fun i H v H'=>∃p,v=.ref p/\H p=none/\∀xs,SqL K H a xs->∃x,xs[i]?=some x/\H'=upd H p (.tup [.int i,x]),
   fun i H=>∃xs,SqL K H a xs/\xs.length<=i⟩
theorem Zlb {x y:V}{u v:Value}(h1:RelV x u)(h2:RelV y v):Yl [x,y] [u,v]:=.cons h1 (.cons h2 .nil)
theorem Xag {P:AZ}{e it:Addr}(hne:e≠it) :
    Turn P w K (.Tuple elts x1 pos) (Ite K a) [e,it] e (fun i h=>(∃old,IsEnum h e it i old)/\h.IsListIter it a i) where
  mem:=by simp
  obj:=fun i h st c hc=>by obtain ⟨⟨old,h1⟩,⟨o5,e5,_,d5⟩⟩:=st;simp only [An,Co,or_false] at hc;rcases hc with rfl | rfl;exact ⟨_,h1,fun v z=>by cases z⟩;exact ⟨_,e5,fun v z=>by rw [d5] at z;cases z⟩
  keep:=fun i h h' st k=>by obtain ⟨⟨old,h1⟩,h5⟩:=st;exact ⟨⟨old,k e (by simp) _ h1⟩,h5.at fun o q=>k it (by simp) o q⟩
  item:=by
    intro X hP hw hK hc i pins s σ H E I hf st hg;subst hP hw hK;obtain ⟨xs,x,hq1,hx⟩:=hg;obtain ⟨⟨old,h1⟩,h4⟩:=st;obtain ⟨its1,rv1,p1,hz1⟩:=I.list hq1;obtain ⟨u,hu,ru⟩:=rv1.get hx;refine wpAny_pyNext_enum_item h1 h4 p1.isList (x:=u) (by simpa using hu) hne fun h' a1 a2 a3 a4 a5=>?_;refine ⟨_,rfl,wpAny_letOwnedTupleGo_enum a1 fun h'' b1 b2=>?_⟩;have hne1:s.heap.objs.size≠e:=fun q=>absurd (AW h1) (by rw [<- q];exact Bh _);have ht:h''.get? s.heap.objs.size=some {cls:=.type "tuple",data:=.seq #[.int i s.toks,u]}:=b2.extBut _ _ hne1 a3;have I2:=I.turnTup (t':=s.toks+1) (h':=h'') (ch:=[e,it]) (p:=s.heap.objs.size) (xs:=[.int i,x]) (its:=[.int i s.toks,u]) (fun c o hc q=>by
        simp only [An,Co,or_false,not_or] at hc;exact b2.extBut _ _ hc.1 (a5 c o hc.1 hc.2 q)) (fun c hc=>hf c hc) (Ax _) (by show 2<=Aw;decide) (Zlb ⟨_,rfl⟩ ru) ⟨_,ht,rfl,_,rfl⟩
    refine ⟨.ref s.heap.objs.size,_,I2,rfl,⟨_,rfl,I.hok.fresh (Ax _),fun xs' e1=>⟨x,by rw [I.list_inj e1 hq1];exact hx,rfl⟩⟩,⟨⟨_,b1⟩,a2.extBut b2.extBut hne.symm⟩,fun c hc=>?_⟩;rw [Xa];exact (hf c hc).1;rintro rfl;have:∃o,s.heap.get? s.heap.objs.size=some o:=by simp only [An,Co,or_false] at hc;rcases hc with q | q;exact ⟨_,by rw [q];exact h1⟩;obtain ⟨o,q',_⟩:=h4;exact ⟨o,by rw [q];exact q'⟩
    obtain ⟨o,q⟩:=this;exact absurd (AW q) (Bh _)
  done:=by
    intro X hP hw hK hc i pins s σ H E I hf st hg;subst hP hw hK;obtain ⟨xs,hq1,hl⟩:=hg;obtain ⟨⟨old,h1⟩,h4⟩:=st;obtain ⟨its1,rv1,p1,hz1⟩:=I.list hq1;have l1:=rv1.length;refine wpAny_pyNext_enum_end (I.ok.hd hc) h1 h4 p1.isList (by simp;omega) fun h' k=>⟨rfl,I.turneds (t':=s.toks) (ch:=[e,it]) (fun c o hc q=>by
        simp only [An,Co,or_false,not_or] at hc;exact k c o hc.2 q) (fun c hc=>hf c hc)⟩
  self:=fun _ _ _ _ _ st h=>by obtain ⟨⟨old,h1⟩,_⟩:=st;exact KE h1 h
section
variable {a:Expr}
def Xlb (K:Frag)(ta:TE):TI:=fun σ H R=>Jz ta Zmw σ H fun vs H1=>∃p,vs=[.ref p]/\(∃xs,SqL K H1 p xs)/\R (Ite K p) H1
theorem Xnl (hg:Gl X "enumerate")(hm:X.mg "enumerate"=none)(ha:PE X a ta)(hs:Af [a] X.env=(false,eval a X.env)::Af [] X.env)(hs3:Af ([]:List Expr) X.env=[]:=by rfl) :
  PI X (.Tuple elts x1 tpos) (.Call (.Name "enumerate" p) [a] [] pos) (Xlb X.K ta):=by
 intro pins s σ H R I h;refine Call_ (Zgf I hg hm boot_enumerate (Ce (thn (Zir ha Zrp hs pos pins s σ H _ I h) fun us s1 ⟨vs,H1,I1,r1,q1⟩=>?_) (by rw [hs]) (by rw [hs3];rfl)));obtain ⟨l1,rfl,⟨xs,hq1⟩,q⟩:=q1;obtain ⟨u,rfl,rx⟩:=vals1 r1;cases rx;obtain ⟨its1,rv1,p1,hz1⟩:=I1.list hq1;refine call_enumerate_list p1.isList fun h' z1 z4 z6 z7=>?_;refine KE z1 ?_;have I2:Inv X pins σ H1 {s1 with heap:=h'}:=I1.kept (t':=s1.toks) z7;refine ⟨_,[s1.heap.objs.size+1,s1.heap.objs.size],_,_,H1,rfl,I2,Xag (a:=l1) (FN (GA _)),⟨⟨_,z1⟩,z4⟩,fun c hc=>?_,q⟩;have hc':s1.heap.objs.size<=c:=by simp only [An,Co,or_false] at hc;rcases hc with rfl | rfl<;>first | exact Ax _ | exact CB _ _
 exact I1.fpOk hc' (I1.hok.fresh hc')
end
section
variable {S:List (Nat×Bool)}
theorem RpA.two {e:D}{w:V}{A:List Addr}(r:Rp K C H d v A)(q:Rp K C H e w B):RpA K C H [d,e] [v,w] (A++B):=(RpA.one r).app (RpA.one q)
theorem Zxu (r:RpA K C Hc ds vs B)(h:∀H2,Xi Hc H2->SqL K H2 a vs):Goes K C (Ite K a) (Dl.Zlm ds) Hc:=fun H2 g=>by
 have q:=h H2 g;have hl:=r.len;have he:(Dl.Zlm ds).length=ds.length:=by simp [Dl.Zlm]
 refine ⟨fun i hi=>⟨vs,vs[i]'(by omega),q,Ad (by omega)⟩,fun i hi=>⟨vs,q,by omega⟩,fun i x H3 hi y=>?_⟩;obtain ⟨p,rfl,hp,y⟩:=y;obtain ⟨x,hx,rfl⟩:=y vs q;obtain ⟨d,Bd,q1,q2,q3⟩:=r.get' hx;have sm:=sameNew hp (.tup [.int i,x]);refine ⟨sm,.tup [.int i,d],Bd,by simp [Dl.Zlm,List.getElem?_mapIdx,q1],⟨p,[.int i,x],rfl,Xd,?_⟩,fun a ha z=>?_⟩;exact ⟨.int i,[x],[],Bd,rfl,⟨rfl,rfl⟩,RpA.one ((q2.same g).same sm),rfl⟩;obtain ⟨xs,e,_⟩:=q2.isl a ha;rw [e] at z;cases z
theorem Xhu {t:TE}{f:FE}(h:EOk K C E Γ Δ m S t f):IOk K C E Γ Δ S (Xlb K t) (Dl.Xkv f):=fun H0 Hb H σ ρ A Rr I p=>h H0 Hb H σ ρ A _ I (p.bind.imp (fun d q v H' g r=>by
  obtain ⟨B,r,r',_⟩:=r;cases d with
  | lst ds =>obtain ⟨a,xs,B',rfl,e2,e3,e4⟩:=r;subst e4;simp only at q;split at q;rename_i hl;refine ⟨a,rfl,⟨xs,SqL.of e2⟩,q _ H' (a::B') g (fun b hb=>?_) (by simpa [Dl.Zlm] using hl) fun Hc h1=>Zxu (e3.agree h1 fun b hb=>.tail _ hb) fun H2 g2=>SqL.of (g2 _ _ ((h1.1 a (.head _)).trans e2))⟩;rcases An.mp hb with z | z;rw [z];exact ⟨⟨_,e2,.lst⟩,r' a (.head _)⟩;exact ⟨e3.isl b z,r' b (.tail _ z)⟩;exact q.elim
  | _=>exact q.elim) fun c x q H' g'=>q H' g')
variable {a:Expr}
theorem Xoj (hg:Gl X "enumerate")(hm:X.mg "enumerate"=none)(ha:JE X C E Γ Δ m1 S1 a ta fa)(hs:Af [a] X.env=(false,eval a X.env)::Af [] X.env) :
  JI X C E Γ Δ S1 (.Tuple elts x1 tpos) (.Call (.Name "enumerate" p) [a] [] pos) (Xlb X.K ta) (Dl.Xkv fa):=⟨⟨Xnl hg hm ha.q.out hs⟩,Xhu ha.o⟩
end
section
def Xvq:List V->Hp->VK->Prop:=fun vs H Q=>∃b,vs=[.bl b]/\Q (.int (if b=true then 1 else 0)) H
theorem Zoq:Jy X (.type "int") Xvq:=by intro pins s σ H xs us Q I r h;obtain ⟨b,rfl,q⟩:=h;obtain ⟨u,rfl,rx⟩:=vals1 r;cases rx;exact call_int_bool ⟨.int (if b=true then 1 else 0),H,I.tok _,⟨_,rfl⟩,q⟩
variable {S:List (Nat×Bool)}
theorem Zzj:GAk K C Xvq Dl.Xkb:=by intro H xs d vs Bx Q r e q;unfold Dl.Xkb at e;split at e;rename_i b;cases e;obtain ⟨v,rfl,r1⟩:=r.one';obtain ⟨rfl,_⟩:=r1;exact ⟨b,rfl,Out.flat q rpI⟩;cases e
theorem Xer (he:EOk K C E Γ Δ m S te fe):SOk K C E mr Γl Δl Γ Δ Γ Δ (Zgl te) (Dl.Zvg fe):=fun H0 Hb H σ ρ A D I p =>
 he H0 Hb H σ ρ A _ I (Xh.imp (Xh.bind p) (fun d q v H1 g1 r=>q σ H1 A (I.mono g1)) fun c x q H' g'=>q H' (Xi.from0 I g'))
variable {S:List (Nat×Bool)}{a:Expr}{rest:List Expr}{tc:TE}{fs:FE}{t:TA}{bpos:Pos}
theorem Xpf (he:JE X C E Γ Δ m S e te fe)(hs:Cs e none pos.line X.env=pure false:=by rfl):JS X C E mr Γl Δl Γ Δ Γ Δ (.Expr e pos) (Zgl te) (Dl.Zvg fe):=⟨Zja he.q hs,Xer he.o⟩
end
section
variable {kp:Pos}
variable {S:List (Nat×Bool)}
end
section
variable {S:List (Nat×Bool)}{a:Expr}{rest:List Expr}{tc:TE}{fs:FE}{kp:Pos}
variable {u:TS}{g:FS}
variable {t:TA}{pt2:Pos}{k2:Nat}
end
section
variable {S:List (Nat×Bool)}
theorem RpA.one_of:∀{ds:List D} {vs:List V} {B:List Addr} {j:Nat} {d:D},RpA K C H ds vs B->ds[j]?=some d->∃B1 Bj B2 v,B=B1++(Bj++B2)/\vs[j]?=some v/\Rp K C H d v Bj/\
    ∀(W:Addr->Prop) H2 d' Bj',Ext W H H2->(∀a∈B1++B2,¬W a)->Rp K C H2 d' v Bj'->RpA K C H2 (ds.set j d') vs (B1++(Bj'++B2))
  | [],_,_,_,_,_,h=>by simp at h
  | d0::ds,_,_,0,d,r,h=>by obtain ⟨x,l,B,B',e1,e2,e3,e4⟩:=r;simp only [Hn,D6] at h;subst h e1 e4;exact ⟨[],B,B',x,rfl,rfl,e2,fun W H2 d' Bj' he hn r'=>⟨x,l,Bj',B',rfl,r',e3.ext he fun a ha=>hn a ha,rfl⟩⟩
  | d0::ds,_,_,j+1,d,r,h=>by
    obtain ⟨x,l,B,B',e1,e2,e3,e4⟩:=r;simp only [De] at h;obtain ⟨B1,Bj,B2,v,q1,q2,q3,q4⟩:=RpA.one_of e3 h;subst e1 e4 q1;refine ⟨B++B1,Bj,B2,v,by rw [AD],by simpa using q2,q3,fun W H2 d' Bj' he hn r'=>?_⟩;exact ⟨x,l,B,B1++(Bj'++B2),rfl,e2.ext he fun a ha=>hn a (by simp [ha]),q4 W H2 d' Bj' he (fun a ha=>hn a (by
      rcases Au.mp ha with z | z;simp [z]
      · simp [z])) r',by rw [AD]⟩
def AtP (K:Frag)(H:Hp):V->List Int->Addr->Prop
 | v,[],b=>v=.ref b
 | v,n::r,b=>∃p xs u,v=.ref p/\(H p=some (.lst xs)\/H p=some (.tup xs))/\atI xs n=some u/\AtP K H u r b
theorem Xhz {xs:List α}{n:Int}{u:α}(hj:Dl.ixD xs.length n=some j)(hu:xs[j]?=some u):atI xs n=some u:=by show Dl.atD xs n=some u;unfold Dl.atD;rw [hj];exact hu
theorem Rp.path {f:List D->Option (List D)}:∀{path:List Int} {d d':D} {v:V} {A:List Addr},Rp K C H d v A->A.Nodup->Dl.Zvr f path d=some d'->
    ∃b ys ds es l A1 A2,AtP K H v path b/\H b=some (.lst ys)/\RpA K C H ds ys l/\f ds=some es/\A=A1++(b::l++A2)/\
      ∀H2 zs l',(∀a o,a≠b->H a=some o->H2 a=some o)->H2 b=some (.lst zs)->RpA K C H2 es zs l'->Rp K C H2 d' v (A1++(b::l'++A2))
  | [],d,d',v,A,r,nd,h=>by
    cases d with
    | lst ds =>obtain ⟨es,h1,h2⟩:=AB.mp (show (f ds).map D.lst=some d' from h);subst h2;obtain ⟨a,xs,B,rfl,e2,e3,rfl⟩:=r;exact ⟨a,xs,ds,es,B,[],[],rfl,e2,e3,h1,by simp,fun H2 zs l' hk hb r'=>⟨a,zs,l',rfl,hb,r',by simp⟩⟩
    | _=>cases h
  | n::path,d,d',v,A,r,nd,h=>by
    cases d with
    | lst xs =>
      obtain ⟨j,hj,h⟩:=AK.mp (show (Dl.ixD xs.length n).bind (fun j=>xs[j]?.bind fun d=>(Dl.Zvr f path d).map fun d'=>D.lst (xs.set j d'))=some d' from h);obtain ⟨d0,hd,h⟩:=AK.mp h;obtain ⟨d1,hu,h2⟩:=AB.mp h;subst h2;obtain ⟨a,vs,B,rfl,e2,e3,rfl⟩:=r;have hl:=e3.len;obtain ⟨nda,ndB⟩:=AA.mp nd;obtain ⟨B1,Bj,B2,w,rfl,hw,rw,up⟩:=e3.one_of hd;have ndj:Bj.Nodup:=(A3.mp (A3.mp ndB).2.1).1;obtain ⟨b,ys,ds,es,l,A1,A2,p1,p2,p3,p4,rfl,p6⟩:=Rp.path rw ndj hu;refine ⟨b,ys,ds,es,l,a::(B1++A1),A2++B2,⟨a,vs,w,rfl,.inl e2,Xhz (by rw [hl];exact hj) hw,p1⟩,p2,p3,p4,by simp,fun H2 zs l' hk hb r'=>?_⟩;have hba:a≠b:=by rintro rfl;exact nda (by simp)
      have r2:=up (fun c=>c=b) H2 d1 _ (fun c o ho=>by
        by_cases e:c=b;subst e;rw [p2] at ho;cases ho;exact .inr ⟨rfl,.lst⟩
        · exact .inl (hk c o e ho)) (fun c hc e=>by
          subst e;have q1:=(A3.mp ndB);have q2:=(A3.mp q1.2.1);rcases Au.mp hc with z | z;exact q1.2.2 c z c (by simp) rfl
          · exact q2.2.2 c (by simp) c z rfl) (p6 H2 zs l' hk hb r')
      exact ⟨a,vs,_,rfl,hk a _ hba e2,r2,by simp⟩
    | tup xs =>
      obtain ⟨j,hj,h⟩:=AK.mp (show (Dl.ixD xs.length n).bind (fun j=>xs[j]?.bind fun d=>(Dl.Zvr f path d).map fun d'=>D.tup (xs.set j d'))=some d' from h);obtain ⟨d0,hd,h⟩:=AK.mp h;obtain ⟨d1,hu,h2⟩:=AB.mp h;subst h2;obtain ⟨a,vs,rfl,e2,e3⟩:=r;have hl:=e3.len;obtain ⟨B1,Bj,B2,w,rfl,hw,rw,up⟩:=e3.one_of hd;have ndj:Bj.Nodup:=(A3.mp (A3.mp nd).2.1).1;obtain ⟨b,ys,ds,es,l,A1,A2,p1,p2,p3,p4,rfl,p6⟩:=Rp.path rw ndj hu;refine ⟨b,ys,ds,es,l,B1++A1,A2++B2,⟨a,vs,w,rfl,.inr e2,Xhz (by rw [hl];exact hj) hw,p1⟩,p2,p3,p4,by simp,fun H2 zs l' hk hb r'=>?_⟩;have hba:a≠b:=by rintro rfl;rw [e2] at p2;cases p2
      have r2:=up (fun c=>c=b) H2 d1 _ (fun c o ho=>by
        by_cases e:c=b;subst e;rw [p2] at ho;cases ho;exact .inr ⟨rfl,.lst⟩
        · exact .inl (hk c o e ho)) (fun c hc e=>by
          subst e;have q1:=(A3.mp nd);have q2:=(A3.mp q1.2.1);rcases Au.mp hc with z | z;exact q1.2.2 c z c (by simp) rfl
          · exact q2.2.2 c (by simp) c z rfl) (p6 H2 zs l' hk hb r')
      exact ⟨a,vs,rfl,hk a _ hba e2,by simpa using r2⟩
    | _=>cases h
theorem AtP.same {H H':Hp}(g:Xi H H'):∀{path:List Int} {v:V} {b:Addr},AtP K H v path b->AtP K H' v path b
 | [],_,_,h=>h
 | n::r,v,b,h=>by obtain ⟨p,xs,u,e,hq,ha,h⟩:=h;exact ⟨p,xs,u,e,hq.imp (fun q=>g _ _ q) (fun q=>g _ _ q),ha,AtP.same g h⟩
theorem Zp.deepWrite {b:Addr}(I:Zp K C H0 Hb H Γ Δ σ ρ A)(hi:i∈Δ)(hl:i<ρ.length)(hs:σ[i]?=some (some v))(hb:b∈A i)
  (r:Rp K C (upd H b (.lst zs)) d' v A') (nd:A'.Nodup) (hA:∀a∈A',a∈A i\/(Hb a=Ca/\∀j,a∉A j)) :
  Zp K C H0 Hb (upd H b (.lst zs)) Γ Δ σ (ρ.set i (some d')) (fun j=>if j=i then A' else A j):=by
 obtain ⟨d1,d2,d3⟩:=I.deep i hi;obtain ⟨xs,hxs,hm⟩:=I.is hb;have hA2:∀a∈A',Hb a=Ca/\∀j,j≠i->a∉A j:=fun a ha=>(hA a ha).elim (fun z=>⟨d3 a z,fun j hj=>d2 j hj a z⟩) fun z=>⟨z.1,fun j _=>z.2 j⟩;have ext:Ext (fun c=>c=b) H (upd H b (.lst zs)):=fun c o h=>by by_cases e:c=b;subst e;rw [hxs] at h;cases h;exact .inr ⟨rfl,hm⟩;rw [Xa e];exact .inl h
 refine ⟨I.s0,fun c o h=>?_,by rw [DC,I.len],fun j e h=>?_,fun j h=>?_,fun j hj c hc=>?_,fun j hj c l' e=>?_,fun j hj=>?_⟩;rw [Xa (Xl h (d3 b hb))];exact I.same c o h;rcases get_set h with ⟨e1,_,e2⟩ | ⟨e1,e2⟩;subst e1;cases e2;exact ⟨v,hs,by rw [if_pos rfl];exact r⟩;obtain ⟨w,q1,q2⟩:=I.rep j e e2;refine ⟨w,q1,?_⟩;rw [if_neg e1];exact q2.ext ext fun c hc z=>by subst z;exact d2 j e1 c hb hc
 by_cases e:j=i;subst e;exact absurd (Cu hl) (h d');rw [if_neg e];exact I.nil j fun x hx=>h x (by rw [BL (fun z=>e z.symm)];exact hx);by_cases e:j=i;subst e;rw [if_pos rfl] at hc;exact I.s0.free (hA2 c hc).1;rw [if_neg e] at hc;exact I.loc j hj c hc;by_cases e':j=i;subst e';rw [if_pos rfl] at e;subst e;refine ⟨(hA2 c (.head _)).1,(AA.mp nd).1,fun k hk=>?_⟩;rw [if_neg hk];exact (hA2 c (.head _)).2 k hk;rw [if_neg e'] at e;obtain ⟨t1,t2,t3⟩:=I.top j hj c l' e;refine ⟨t1,t2,fun k hk=>?_⟩;by_cases ek:k=i;subst ek;rw [if_pos rfl];exact fun z=>(hA2 c z).2 j (fun w=>hk w.symm) (by rw [e];exact .head _);rw [if_neg ek];exact t3 k hk;by_cases e':j=i;subst e';simp only [if_true];refine ⟨nd,fun k hk a ha=>?_,fun a ha=>(hA2 a ha).1⟩;rw [if_neg hk];exact (hA2 a ha).2 k hk;simp only [if_neg e'];obtain ⟨t1,t2,t3⟩:=I.deep j hj;refine ⟨t1,fun k hk a ha=>?_,t3⟩;by_cases ek:k=i;subst ek;rw [if_pos rfl];exact fun z=>(hA2 a z).2 j (fun w=>hk w.symm) ha;rw [if_neg ek];exact t2 k hk a ha
theorem Zp.pathApp {e:D}{path:List Int}(I:Zp K C H0 Hb H Γ Δ σ ρ A)(hi:i∈Δ)(hd:ρ[i]?=some (some d))(hu:Dl.Zvr (Dl.Xck e) path d=some d') :
  ∃v b ys,σ[i]?=some (some v)/\AtP K H v path b/\H b=some (.lst ys)/\ys.length<Aw/\∀H2 w B,Xi H H2->Rp K C H2 e w B->B.Nodup->(∀a∈B,Hb a=Ca/\∀j,a∉A j)->
   ∃A',Zp K C H0 Hb (upd H2 b (.lst (ys++[w]))) Γ Δ σ (ρ.set i (some d')) A'/\∀j,j≠i->A' j=A j:=by
 obtain ⟨v,hs,r⟩:=I.rep i d hd;obtain ⟨d1,d2,d3⟩:=I.deep i hi;obtain ⟨b,ys,ds,es,l,A1,A2,p1,p2,p3,p4,p5,p6⟩:=r.path d1 hu;unfold Dl.Xck at p4;split at p4;rename_i hz;cases p4;have hbA:b∈A i:=by rw [p5];simp
 refine ⟨v,b,ys,hs,p1,p2,by rw [p3.len];exact Zdb hz,fun H2 w B g re nB hB=>?_⟩;have hbB:b∉B:=fun z=>(hB b z).2 i hbA;have I2:=I.mono g;have p2':=g _ _ p2;have r3:RpA K C (upd H2 b (.lst (ys++[w]))) (ds++[e]) (ys++[w]) (l++B):=by
  have ext:Ext (fun c=>c=b) H2 (upd H2 b (.lst (ys++[w]))):=fun c o h=>by by_cases e:c=b;subst e;rw [p2'] at h;cases h;exact .inr ⟨rfl,.lst⟩;rw [Xa e];exact .inl h
  have hbl:b∉l:=by rw [p5] at d1;have:=(A3.mp d1).2.1;rw [ER] at this;exact fun z=>(AA.mp this).1 (AJ _ z)
  exact ((p3.same g).ext ext fun a ha z=>hbl (by rw [<- z];exact ha)).app (RpA.one (re.ext ext fun a ha z=>hbB (by rw [<- z];exact ha)))
 have r4:=p6 (upd H2 b (.lst (ys++[w]))) (ys++[w]) (l++B) (fun a o ha h=>by rw [Xa ha];exact g _ _ h) Xd r3;have hsub:∀a∈A1++(b::(l++B)++A2),a∈A i\/(Hb a=Ca/\∀j,a∉A j):=fun a ha=>by rw [p5];simp only [Au,An] at ha ⊢;rcases ha with z | (z | z | z) | z;exact .inl (.inl z);exact .inl (.inr (.inl (.inl z)));exact .inl (.inr (.inl (.inr z)));exact .inr (hB a z);exact .inl (.inr (.inr z))
 have nd:(A1++(b::(l++B)++A2)).Nodup:=by
  have pm:(A1++(b::(l++B)++A2)).Perm (A i++B):=by rw [p5];simp only [ER,AD];refine Cv _ (LW _ (Cv _ ?_));exact CG
  refine pm.nodup_iff.mpr (A3.mpr ⟨d1,nB,fun x hx y hy e=>?_⟩);subst e;exact (hB x hy).2 i hx
 exact ⟨_,I2.deepWrite hi (Ag.mp hd).1 hs hbA r4 nd hsub,fun j hj=>if_neg hj⟩;cases p4
theorem Xwh {n:Int}{path:List Int}{b:Addr}(h:AtP K H v (n::path) b)(q:∀u,AtP K H u path b->Q u H):rIx K v (.int n) H Q:=by obtain ⟨p,xs,u,rfl,hq,ha,h⟩:=h;rcases hq with hq | hq;exact .inl ⟨p,xs,n,u,rfl,rfl,SqL.of hq,ha,q u h⟩;exact .inr (.inl ⟨p,xs,n,u,rfl,rfl,SqT.of hq,ha,q u h⟩)
theorem Res.new' {e:D}{w:V}(I:Zp K C H0 Hb H Γ Δ σ ρ A)(g:Xi H H1)(r:Res K C 2 [] H1 A2 e w H2):∃B,Rp K C H2 e w B/\B.Nodup/\∀a∈B,Hb a=Ca/\∀j,a∉A j:=by obtain ⟨B,r1,r2,_,r4⟩:=r;have hn:∀a∈B,H a=Ca:=fun a ha=>g.free ((r2 a ha).elim id fun z=>z.none.elim);exact ⟨B,r1,r4 rfl,fun a ha=>⟨I.same.free (hn a ha),fun j z=>I.ne z (hn a ha)⟩⟩
theorem Xfm {ks:FA}{ok:Fl->Prop}(p:Xh (Dl.Zvo i ks fe ρ) ok er):∃d zs path e d',ρ[i]?=some (some d)/\ks ρ=.ok zs/\Dl.intsOf zs=some path/\fe ρ=.ok e/\Dl.Zvr (Dl.Xck e) path d=some d'/\ok (.nx (ρ.set i (some d'))):=by
  unfold Dl.Zvo at p;split at p
  · rename_i d ed;cases ek:ks ρ with
    | bad=>rw [ek] at p;exact p.elim
    | err c x=>rw [ek] at p;exact p.elim
    | ok zs =>
      rw [ek] at p;have p:Xh (match Dl.intsOf zs with
        | some path=>(fe ρ).calm.bind fun v=>match Dl.Zvr (Dl.Xck v) path d with
          | some d'=>.ok (Fl.nx (ρ.set i (some d')))
          | none=>.bad
        | none=>.bad) _ _:=p
      split at p
      · rename_i path ep;cases ef:fe ρ with
        | bad=>rw [ef] at p;exact p.elim
        | err c x=>rw [ef] at p;exact p.elim
        | ok e =>
          rw [ef] at p;have p:Xh (match Dl.Zvr (Dl.Xck e) path d with
            | some d'=>.ok (Fl.nx (ρ.set i (some d')))
            | none=>.bad) _ _:=p
          split at p;rename_i d' eu;exact ⟨d,zs,path,e,d',ed,rfl,ep,rfl,eu,p⟩;exact p.elim
      exact p.elim
  exact p.elim
theorem Xfg {a:FE}{r:FA}{zs:List D}(h:Dl.Zc a r ρ=.ok zs):∃x xs,zs=x::xs/\a ρ=.ok x/\r ρ=.ok xs:=by
 unfold Dl.Zc at h;cases e:a ρ with
 | bad=>rw [e] at h;cases h
 | err c x=>rw [e] at h;cases h
 | ok x =>
  rw [e] at h;cases e2:r ρ with
  | bad=>rw [e2] at h;cases h
  | err c x=>rw [e2] at h;cases h
  | ok xs =>rw [e2] at h;cases h;exact ⟨x,xs,rfl,rfl,rfl⟩
theorem Zzb (hi:i∈Δ:=by decide)(hk:EOk K C E Γ Δ m1 S1 tk fk)(he:EOk K C E Γ Δ 2 [] te fe) :
  SOk K C E mr Γl Δl Γ Δ Γ Δ (Zgl (tBM K "list" Zbn (tOp (rIx K) (Zgp i) tk) (Jz te Zmw))) (Dl.Zvo i (Dl.Zc fk Dl.Zw) fe):=fun H0 Hb H σ ρ A D I p=>by
 obtain ⟨d,zs,path,e,d',ed,ek0,ep,ef,eu,q⟩:=Xfm p;obtain ⟨y,r,rfl,ek,er⟩:=Xfg ek0;cases er;have en:∃n,y=.int n/\path=[n]:=by
  cases y<;>simp only [Dl.intsOf] at ep<;>try cases ep
  exact ⟨_,rfl,rfl⟩
 obtain ⟨n,rfl,rfl⟩:=en;obtain ⟨v,b,ys,hs,hat,hb,hz,up⟩:=I.pathApp hi ed eu;refine ⟨v,hs,hk H0 Hb H σ ρ A _ I ?_⟩;rw [ek];intro w H1 g1 ry;obtain ⟨By,ry,_⟩:=ry;obtain ⟨rfl,_⟩:=ry;refine Xwh (hat.same g1) fun u hu=>?_;have hu:u=.ref b:=hu;subst hu;refine ⟨.inl ⟨rfl,ys,SqL.of (g1 _ _ hb)⟩,he H0 Hb H1 σ ρ A _ (I.mono g1) ?_⟩;rw [ef];intro w2 H2 g2 re;obtain ⟨B,re,nB,hB⟩:=Res.new' I g1 re;obtain ⟨A',I',_⟩:=up H2 w2 B (g1.trans g2) re nB hB;exact ⟨b,ys,w2,rfl,rfl,g2 _ _ (g1 _ _ hb),hz,q σ _ A' I'⟩
theorem Zp.dead {σ':St}(I:Zp K C H0 Hb H Γ Δ σ ρ A)(hσ:σ'.length=σ.length)(hk:∀k,k≠j->σ'[k]?=σ[k]?)(h1:j∉Γ)(h2:j∉Δ):Zp K C H0 Hb H Γ Δ σ' (ρ.set j Ca) (fun k=>if k=j then [] else A k):=by refine ⟨I.s0,I.same,by rw [DC,hσ,I.len],fun k e h=>?_,fun k h=>?_,fun k hk a ha=>?_,fun k hk a l e=>?_,fun k hk=>?_⟩;rcases get_set h with ⟨e1,_,e2⟩ | ⟨e1,e2⟩;cases e2;obtain ⟨w,q1,q2⟩:=I.rep k e e2;exact ⟨w,(hk k e1).trans q1,by rw [if_neg e1];exact q2⟩;by_cases e:k=j;rw [if_pos e];rw [if_neg e];exact I.nil k fun x hx=>h x (by rw [BL (fun z=>e z.symm)];exact hx);have e:k≠j:=fun z=>h1 (by rw [<- z];exact hk);rw [if_neg e] at ha;exact I.loc k hk a ha;have e':k≠j:=fun z=>h1 (by rw [<- z];exact hk);rw [if_neg e'] at e;obtain ⟨t1,t2,t3⟩:=I.top k hk a l e;refine ⟨t1,t2,fun i hi=>?_⟩;by_cases ei:i=j;rw [if_pos ei];exact fun z=>nomatch z;rw [if_neg ei];exact t3 i hi;have e':k≠j:=fun z=>h2 (by rw [<- z];exact hk);simp only [if_neg e'];obtain ⟨t1,t2,t3⟩:=I.deep k hk;refine ⟨t1,fun i hi a ha=>?_,t3⟩;by_cases ei:i=j;rw [if_pos ei];exact fun z=>nomatch z;rw [if_neg ei];exact t2 i hi a ha
variable {a lx:Expr}{rest:List Expr}{tc tl:TE}{fs fl:FE}
theorem Xdv (hk:JE X C E Γ Δ m1 S1 kx tk fk)(hs:Zbo kx)(he:JE X C E Γ Δ 2 [] e te fe)(hse:Af [e] X.env=(false,eval e X.env)::Af [] X.env)(hi:i∈Δ:=by decide)(hN:X.N[i]?=some x:=by rfl)(hv:autoParam (Vis X.env.scope x) aT3._auto_1)(hd:(x==("__debug__":Str))=false:=by decide)(hcd:(x==("__classdict__":Str))=false:=by decide)
  (hbase:CW (.Subscript (.Name x p) kx p1) "append" X.env (eval (.Subscript (.Name x p) kx p1) X.env)=eval (.Subscript (.Name x p) kx p1) X.env:=by rfl)
  (hfew:((BU cpos (Af [e] X.env)).all (fun x=>!x.1)&&(EL cpos (DD [] X.env)).all (fun x=>x.1.isSome)&&decide (([e]:List Expr).length+([]:List CM).length+(if ([]:List CM).isEmpty then 0 else 1)<30))=true:=by rfl)
  (hline:(apos.endLine==cpos.line)=true:=by rfl) (hplain:(BU cpos (Af ([]:List Expr) X.env)).any (·.1)=false:=by rfl) (hsw:Cs (.Call (.Attribute (.Subscript (.Name x p) kx p1) "append" apos) [e] [] cpos) none pos.line X.env=pure false:=by rfl) :
  JS X C E mr Γl Δl Γ Δ Γ Δ (.Expr (.Call (.Attribute (.Subscript (.Name x p) kx p1) "append" apos) [e] [] cpos) pos) (Zgl (tBM X.K "list" Zbn (tOp (rIx X.K) (Zgp i) tk) (Jz te Zmw))) (Dl.Zvo i (Dl.Zc fk Dl.Zw) fe):=
 ⟨Zja (Xlf PySem.F.plainAttrs_list PySem.F.slot_list_append PySem.F.type_list_append Zeo (Xwa Xir (qv i hN hv hd hcd) hk.q hs) (Zbb he.q Zjw hse) hbase hfew hline hse hplain) hsw,Zzb hi hk.o he.o⟩
variable {A:BE}{E:Value->Ah->Prop}
variable {t:TA}
end
theorem Zme (val:Nat->Int):∀k j,j<=k->val (Du (fun i j=>decide (val i<val j)) k)<=val j
 | 0,j,h=>by
  have e:j=0:=by omega
  subst e;exact Fp _
 | k+1,j,h=>by have ih:=Zme val k;rw [Du];by_cases c:val (k+1)<val (Du (fun i j=>decide (val i<val j)) k);rw [if_pos (by simpa using c)];by_cases e:j=k+1;subst e;exact Fp _;have:=ih j (by omega);omega;rw [if_neg (by simpa using c)];by_cases e:j=k+1;subst e;omega;exact ih j (by omega)
theorem Zmo (h:ns≠[]):Dl.Zvs ns∈ns/\∀n∈ns,Dl.Zvs ns<=n:=by
 cases ns with
 | nil=>exact absurd rfl h
 | cons x r =>
  show r.foldl min x∈_/\_;have key:∀(r:List Int) (x:Int),r.foldl min x∈x::r/\∀n∈x::r,r.foldl min x<=n:=by
   intro r
   induction r with
   | nil=>intro x;exact ⟨.head _,fun n hn=>by rw [Ao.mp hn];exact Fp _⟩
   | cons y r ih =>intro x;obtain ⟨h1,h2⟩:=ih (min x y);refine ⟨?_,fun n hn=>?_⟩;rcases An.mp h1 with e | e;rw [DT,e];by_cases c:x<=y;rw [Int.min_eq_left c];exact .head _;rw [Int.min_eq_right (by omega)];exact .tail _ (.head _);exact .tail _ (.tail _ e);have h3:=h2 (min x y) (.head _);rw [DT];rcases An.mp hn with rfl | hn;omega;rcases An.mp hn with rfl | hn;omega;exact h2 n (.tail _ hn)
  exact key r x
open Dl (FM FMT)
section
variable {S:List (Nat×Bool)}
def spM (K:Frag)(C:String->Addr)(n:Nat)(G:List D->R (D×D)):Sp:=fun vs H Q E=>∃d0 ds v0 vs' A0 B,vs=v0::vs'/\ds.length=n/\Rp K C H d0 v0 A0/\A0.Nodup/\RpA K C H ds vs' B/\(∀a∈B,a∉A0)/\
 Xh (G (d0::ds)) (fun p=>∀v H' A1 Br,(∀b o,b∉A0->H b=some o->H' b=some o)->Rp K C H' p.2 v0 A1->A1.Nodup->(∀a∈A1,a∈A0\/H a=none)->Rp K C H' p.1 v Br->Br.Nodup->(∀a∈Br,(a∈A0\/H a=none)/\a∉A1)->Q v H')
  (fun c x=>∀H',(∀b o,b∉A0->H b=some o->H' b=some o)->EC C E c x H')
theorem Zp.deepTo (I:Zp K C H0 Hb H Γ Δ σ ρ A)(hi:i∈Δ)(hl:i<ρ.length)(hs:σ[i]?=some (some v))
  (hk:∀c o,c∉A i->H c=some o->H' c=some o) (r:Rp K C H' d' v A') (nd:A'.Nodup) (hA:∀a∈A',a∈A i\/(Hb a=Ca/\∀j,a∉A j)) :
  Zp K C H0 Hb H' Γ Δ σ (ρ.set i (some d')) (fun j=>if j=i then A' else A j):=by
 obtain ⟨d1,d2,d3⟩:=I.deep i hi;have hA2:∀a∈A',Hb a=Ca/\∀j,j≠i->a∉A j:=fun a ha=>(hA a ha).elim (fun z=>⟨d3 a z,fun j hj=>d2 j hj a z⟩) fun z=>⟨z.1,fun j _=>z.2 j⟩;have ext:Ext (fun c=>c∈A i) H H':=fun c o h=>by by_cases e:c∈A i;obtain ⟨o',ho,hm⟩:=I.is e;rw [ho] at h;cases h;exact .inr ⟨e,hm⟩;exact .inl (hk c o e h)
 refine ⟨I.s0,fun c o h=>?_,by rw [DC,I.len],fun j e h=>?_,fun j h=>?_,fun j hj c hc=>?_,fun j hj c l' e=>?_,fun j hj=>?_⟩;exact hk c o (fun z=>by rw [d3 c z] at h;cases h) (I.same c o h);rcases get_set h with ⟨e1,_,e2⟩ | ⟨e1,e2⟩;subst e1;cases e2;exact ⟨v,hs,by rw [if_pos rfl];exact r⟩;obtain ⟨w,q1,q2⟩:=I.rep j e e2;refine ⟨w,q1,?_⟩;rw [if_neg e1];exact q2.ext ext fun c hc z=>d2 j e1 c z hc;by_cases e:j=i;subst e;exact absurd (Cu hl) (h d');rw [if_neg e];exact I.nil j fun x hx=>h x (by rw [BL (fun z=>e z.symm)];exact hx);by_cases e:j=i;subst e;rw [if_pos rfl] at hc;exact I.s0.free (hA2 c hc).1;rw [if_neg e] at hc;exact I.loc j hj c hc;by_cases e':j=i;subst e';rw [if_pos rfl] at e;subst e;refine ⟨(hA2 c (.head _)).1,(AA.mp nd).1,fun k hk=>?_⟩;rw [if_neg hk];exact (hA2 c (.head _)).2 k hk;rw [if_neg e'] at e;obtain ⟨q1,q2,q3⟩:=I.top j hj c l' e;refine ⟨q1,q2,fun k hk=>?_⟩;by_cases e2:k=i;subst e2;rw [if_pos rfl];exact fun z=>(hA2 c z).2 j e' (by rw [e];exact .head _);rw [if_neg e2];exact q3 k hk;by_cases e:j=i;subst e;rw [if_pos rfl];refine ⟨nd,fun k hk a ha=>?_,fun a ha=>(hA2 a ha).1⟩;rw [if_neg hk];exact (hA2 a ha).2 k hk;rw [if_neg e];obtain ⟨q1,q2,q3⟩:=I.deep j hj;refine ⟨q1,fun k hk a ha=>?_,q3⟩;by_cases e2:k=i;subst e2;rw [if_pos rfl];exact fun z=>(hA2 a z).2 j e ha;rw [if_neg e2];exact q2 k hk a ha
def MOk (K:Frag)(C:String->Addr)(E:XK)(Γ Δ:List Nat)(t:TE)(f:FM):Prop:=∀(H0 Hb H:Hp) (σ:St) (ρ:Xr) (A:Nat->List Addr) (Q:VK),Zp K C H0 Hb H Γ Δ σ ρ A->
 Xh (f ρ) (fun p=>∀v H' A' B,Zp K C H0 Hb H' Γ Δ σ p.2 A'->Rp K C H' p.1 v B->B.Nodup->(∀a∈B,Hb a=none/\∀j,a∉A' j)->Q v H') (fun c x=>∀H',Xi H0 H'->EC C E c x H')->t σ H Q
def MTOk (K:Frag)(C:String->Addr)(E:XK)(Γ Δ:List Nat)(t:TT)(f:FMT):Prop:=∀(H0 Hb H:Hp) (σ:St) (ρ:Xr) (A:Nat->List Addr) (Q:Bool->Hp->Prop),Zp K C H0 Hb H Γ Δ σ ρ A->
 Xh (f ρ) (fun p=>∀H' A',Zp K C H0 Hb H' Γ Δ σ p.2 A'->Q p.1 H') (fun c x=>∀H',Xi H0 H'->EC C E c x H')->t σ H Q
theorem Xcc (h:MOk K C E Γ Δ te fm):SOk K C E mr Γl Δl Γ Δ Γ Δ (Zgl te) (Dl.Zmg fm):=fun H0 Hb H σ ρ A D I p =>
 h H0 Hb H σ ρ A _ I (Xh.imp (Xh.bind p) (fun q pq v H1 A1 B I1 r nd hB=>pq σ H1 A1 I1) fun c x q=>q)
def Zos (K:Frag)(C:String->Addr)(E:XK)(Γ Δ Γ' Δ':List Nat)(t:TS)(f:FS):Prop:=∀(H0 Hb H:Hp) (σ:St) (ρ:Xr) (A:Nat->List Addr) (D:Ends),Zp K C H0 Hb H Γ Δ σ ρ A->
  Xh (f ρ) (fun fl=>match fl with
    | .nx ρ'=>∀σ' H' A',σ'[0]?=σ[0]?->Zp K C H0 Hb H' Γ' Δ' σ' ρ' A'->D.nx σ' H'
    | _=>False) (fun c x=>∀H',Xi H0 H'->EC C E c x H')->t D σ H
theorem Zyy (he:EOk K C E Γ Δ 2 [] te fe)(h0:i≠0:=by decide)(h1:∀j∈Γ',j=i\/j∈Γ:=by decide)(h2:∀j∈Δ',j=i\/j∈Δ:=by decide):Zos K C E Γ Δ Γ' Δ' (Zjr te (Zas i)) (Dl.Xw i fe):=fun H0 Hb H σ ρ A D I p =>
  he H0 Hb H σ ρ A _ I (Xh.imp (Xh.bind p) (fun d q v H1 g1 r=>by
    obtain ⟨B,r1,r2,r3,r4⟩:=r;have hn:∀a∈B,H a=none:=fun a ha=>(r2 a ha).elim id fun z=>z.none.elim;have nd:=r4 rfl;obtain ⟨A',I',_⟩:=(I.mono g1).put (Γ':=Γ') (Δ':=Δ') (i:=i) r1 (fun j hj e=>⟨(h1 j hj).elim (fun z=>absurd z e) id,fun a l e' ha=>I.ne (j:=j) (by rw [e'];exact .head _) (hn a ha)⟩)
      (fun _=>⟨fun a ha=>I.s0.free (I.same.free (hn a ha)),fun a l e=>by subst e;exact ⟨I.same.free (hn a (.head _)),(AA.mp nd).1,fun j _ h=>I.ne h (hn a (.head _))⟩⟩)
      (fun j hj e=>⟨(h2 j hj).elim (fun z=>absurd z e) id,fun a ha hB=>I.ne ha (hn a hB)⟩)
      (fun _=>⟨nd,fun j _ a ha h=>I.ne h (hn a ha),fun a ha=>I.same.free (hn a ha)⟩)
    exact q _ H1 A' (BL h0) I') fun c x q H' g'=>q H' (Xi.from0 I g'))
def MBOk (K:Frag)(C:String->Addr)(E:XK)(Γ Δ:List Nat)(t:TS)(G:FM):Prop:=∀(H0 Hb H:Hp) (σ:St) (ρ:Xr) (A:Nat->List Addr) (D:Ends) (Q:VK),Zp K C H0 Hb H Γ Δ σ ρ A->D.rt=Q->(D.nx=fun _ H'=>Q .non H')->
 Xh (G ρ) (fun p=>∀v H' σ' A' B,σ'[0]?=σ[0]?->Zp K C H0 Hb H' [0] [0] σ' p.2 A'->Rp K C H' p.1 v B->B.Nodup->(∀a∈B,Hb a=none/\∀j,a∉A' j)->Q v H') (fun c x=>∀H',Xi H0 H'->EC C E c x H')->t D σ H
theorem Xrf {t:TS}{g:FS}(h:Zos K C E Γ Δ Γ1 Δ1 t g)(h1:∀i∈[0],i∈Γ1:=by decide)(h2:∀i∈[0],i∈Δ1:=by decide):MBOk K C E Γ Δ t (Dl.Xpk g):=fun H0 Hb H σ ρ A D Q I e1 e2 p =>
  h H0 Hb H σ ρ A _ I (Xh.imp (Xh.bind p) (fun fl q=>by
    cases fl with
    | nx ρ'=>exact fun σ' H' A' hσ I'=>by rw [e2];exact q .non H' σ' A' [] hσ (I'.weak h1 h2) ⟨rfl,rfl⟩ Be (fun _ h=>nomatch h)
    | _=>exact q.elim) fun c x q=>q)
theorem Xof (r:RpA K C H ds vs B):∃A:Nat->List Addr,(∀(i:Nat) d,ds[i]?=some d->∃v,vs[i]?=some v/\Rp K C H d v (A i))/\(∀i,ds.length<=i->A i=[])/\∀i,∀a∈A i,a∈B:=by
 induction ds generalizing vs B with
 | nil=>exact ⟨fun _=>[],fun i d h=>by simp at h,fun _ _=>rfl,fun _ _ h=>nomatch h⟩
 | cons d ds ih =>
  obtain ⟨x,l,B1,B2,e1,e2,e3,e4⟩:=r;obtain ⟨A,h1,h2,h3⟩:=ih e3;subst e1 e4;refine ⟨fun i=>match i with | 0=>B1 | i+1=>A i,fun i d' h=>?_,fun i h=>?_,fun i a ha=>?_⟩;cases i with
  | zero=>simp at h;subst h;exact ⟨x,rfl,e2⟩
  | succ i=>simp at h;obtain ⟨v,q1,q2⟩:=h1 i d' h;exact ⟨v,by simpa using q1,q2⟩
  cases i with
  | zero=>simp at h
  | succ i=>exact h2 i (by simpa using h)
  cases i with
  | zero=>exact AJ _ ha
  | succ i=>exact As _ (h3 i a ha)
theorem Ztw (r0:Rp K C H d0 v0 A0)(nd:A0.Nodup)(r:RpA K C H ds vs B)(hd:∀a∈B,a∉A0) :
  ∃A,Zp K C (fun b=>if b∈A0 then none else H b) (fun b=>if b∈A0 then none else H b) H [0] [0] ((v0::vs).map some++Ab (N - (v0::vs).length) none) ((d0::ds).map some++Ab (N - (d0::ds).length) none) A/\A 0=A0:=by
 obtain ⟨A,h1,h2,h3⟩:=Xof r;have hl:=r.len;have hne:∀j,j≠0->∀a∈A0,a∉(match j with | 0=>A0 | i+1=>A i):=fun j hj a ha h=>by
  cases j with
  | zero=>exact hj rfl
  | succ j=>exact hd a (h3 j a h) ha
 have h0:∀a∈A0,(if a∈A0 then none else H a)=none:=fun a ha=>if_pos ha;refine ⟨fun i=>match i with | 0=>A0 | i+1=>A i,⟨Xi.refl _,fun b o h=>?_,by simp [hl],fun i d h=>?_,fun i h=>?_,fun i hi a ha=>?_,fun i hi a l e=>?_,fun i hi=>?_⟩,rfl⟩;have h:(if b∈A0 then none else H b)=some o:=h;split at h;cases h;exact h;cases i with
 | zero=>simp at h;subst h;exact ⟨v0,by simp,r0⟩
 | succ i =>by_cases hi:i<ds.length;rw [AH (by simpa using hi),Bk,De] at h;obtain ⟨d',hd',e⟩:=AB.mp h;cases e;obtain ⟨v,q1,q2⟩:=h1 i d hd';refine ⟨v,?_,q2⟩;rw [AH (by simp [hl,hi]),Bk,De,q1];rfl;rw [AR (by simpa using hi)] at h;have:=Al h;rw [EY] at this;exact absurd this.2 (by intro z;cases z)
 cases i with
 | zero=>exact absurd (by simp) (h d0)
 | succ i =>by_cases hi:i<ds.length;refine absurd ?_ (h ds[i]);rw [AH (by simpa using hi),Bk,De,Ad hi];rfl;exact h2 i (by omega)
 rw [Ao.mp hi] at ha;exact h0 a ha;obtain rfl:=Ao.mp hi;have e:A0=a::l:=e;subst e;exact ⟨h0 a (.head _),(AA.mp nd).1,fun j hj=>hne j hj a (.head _)⟩;obtain rfl:=Ao.mp hi;exact ⟨nd,hne,h0⟩
theorem Zwc {t:TS}{E':XK}(h:MBOk K C E [0] [0] t G)(r0:Rp K C H d0 v0 A0)(nd:A0.Nodup)(r:RpA K C H ds vs B)(hd:∀a∈B,a∉A0)
    (p:Xh (Dl.Xsk N G (d0::ds)) (fun p=>∀v H' A1 Br,(∀b o,b∉A0->H b=some o->H' b=some o)->Rp K C H' p.2 v0 A1->A1.Nodup->(∀a∈A1,a∈A0\/H a=none)->Rp K C H' p.1 v Br->Br.Nodup->(∀a∈Br,(a∈A0\/H a=none)/\a∉A1)->Q v H')
      (fun c x=>∀H',(∀b o,b∉A0->H b=some o->H' b=some o)->EC C E c x H')) :
    t {nx:=fun _ H'=>Q .non H',rt:=Q} ((v0::vs).map some++Ab (N - (v0::vs).length) none) H:=by
  obtain ⟨A,I,hA⟩:=Ztw (N:=N) r0 nd r hd;have bk:∀{H'},Xi (fun b=>if b∈A0 then none else H b) H'->∀b o,b∉A0->H b=some o->H' b=some o:=fun g b o hb h=>g b o ((if_neg hb).trans h);have fr:∀{a},(if a∈A0 then none else H a)=none->a∈A0\/H a=none:=fun {a} h=>by split at h;exact .inl (by assumption);exact .inr h
  refine h _ _ H _ _ A _ Q I rfl rfl (Xh.imp (Xh.bind p) (fun q pq v H' σ' A' B' hσ I' rr ndr hB=>?_) fun c x q H' g=>q H' (bk g));split at pq;rename_i d e;obtain ⟨w,hw,rw'⟩:=I'.rep 0 d e;have hw2:some (some w)=some (some v0):=by rw [<- hw,hσ];simp
  cases hw2;obtain ⟨q1,q2,q3⟩:=I'.deep 0 (by simp);refine pq v H' (A' 0) B' (bk I'.same) rw' q1 (fun a ha=>fr (q3 a ha)) rr ndr fun a ha=>⟨fr (hB a ha).1,(hB a ha).2 0⟩;exact pq.elim
end
structure JM (X:Cx)(C:String->Addr)(E:XK)(Γ Δ:List Nat)(e:Expr)(t:TE)(f:FM):Prop where
 q:QE X e t
 o:MOk X.K C E Γ Δ t f
structure JMT (X:Cx)(C:String->Addr)(E:XK)(Γ Δ:List Nat)(e:Expr)(t:TT)(f:FMT):Prop where
 q:QT X e t
 o:MTOk X.K C E Γ Δ t f
structure JMW (X:Cx)(C:String->Addr)(E:XK)(Γ Δ:List Nat)(e:Expr)(t:TT)(f:FMT):Prop where
 q:QW X e t
 o:MTOk X.K C E Γ Δ t f
structure JP (X:Cx)(C:String->Addr)(E:XK)(Γ Δ Γ' Δ':List Nat)(s:Stmt)(t:TS)(f:FS):Prop where
 q:QS X s t
 o:Zos X.K C E Γ Δ Γ' Δ' t f
structure JMB (X:Cx)(C:String->Addr)(E:XK)(Γ Δ:List Nat)(s:List Stmt)(t:TS)(f:FM):Prop where
 q:QSs X s t
 o:MBOk X.K C E Γ Δ t f
structure MDef (P:AZ)(w:BC)(K:Frag)(mg:Str->Option Value)(base:Heap)(CX:CXT)(k:Nat)(C:Addr)(x:Str)(ps:List Str)(sp:Sp):Prop where
 ex:∃f fd,Meth K C x f/\Binds K fd ps []/\Zbe P w K mg base CX k f fd ps sp
structure MkDef (P:AZ)(w:BC)(K:Frag)(mg:Str->Option Value)(base:Heap)(CX:CXT)(k:Nat)(C:Addr)(ps:List Str)(sp:Sp):Prop where
 ex:∃f fd,Mk K C f/\Binds K fd ps []/\Zbe P w K mg base CX k f fd ps sp
section
variable {S:List (Nat×Bool)}{a:Expr}{rest:List Expr}{t:TA}{fa:FA}{c:String}{f md:Str}{s:Stmt}{tm:TE}{u:TS}{g:FS}
theorem Xde (he:JM X C E Γ Δ e tm fm)(hs:Cs e none pos.line X.env=pure false:=by rfl):JS X C E mr Γl Δl Γ Δ Γ Δ (.Expr e pos) (Zgl tm) (Dl.Zmg fm):=⟨Zja he.q hs,Xcc he.o⟩
theorem Xwe (h:JP X C E Γ Δ Γ1 Δ1 s u g)(h1:∀i∈[0],i∈Γ1:=by decide)(h2:∀i∈[0],i∈Δ1:=by decide):JMB X C E Γ Δ [s] u (Dl.Xpk g):=⟨Zqo h.q,Xrf h.o h1 h2⟩
theorem Xub (hN:X.N.Nodup)(hi:X.N[i]?=some x)(hx:Loc X.env.scope x)(he:JE X C E Γ Δ 2 [] e te fe)(h0:i≠0:=by decide)(hs:Cs e (some (.Name x p')) pos.line X.env=pure false:=by rfl)(hf:autoParam (X.fn x=true\/X.env.scope.names.lookup x=some .local) aT0._auto_1)
  (h1:∀j∈Γ',j=i\/j∈Γ:=by decide) (h2:∀j∈Δ',j=i\/j∈Δ:=by decide):JP X C E Γ Δ Γ' Δ' (.Assign [.Name x p'] e pos) (Zjr te (Zas i)) (Dl.Xw i fe):=⟨Zzp hN hi hx he.q hs hf,Zyy he.o h0 h1 h2⟩
end
theorem Fun.okM {P:AZ}{st:Stmt}{f:Addr}{N:List Str}(F:Fun K x qual st f fd)(S:Xg N ps (Zn st))(hn:ps.length=n+1)
    (hbody:∀(cdv:Value) (A:BE) (outer:List Env) (s:Ah) (H:Hp) (E:XK),Zgr k (A.deeper (EZ qual (Zn st) s.heap.objs.size f cdv))->
      ∃t,JMB (Xga CX0 P w K mg base N qual (Zn st) f cdv A outer s H E).nox C E0 [0] [0] (Zab st) t G):Zbe P w K mg base CX0 (k+1) f fd ps (spM K C n fun ds=>(Dl.Xsk N.length G ds).calm):=
  F.okQ S (fun vs H Q E h=>by
    obtain ⟨d0,ds,v0,vs',A0,B,rfl,h1,_,_,h2,_⟩:=h;rw [AX,h2.len,h1,hn]) fun cdv A outer s H vs Q E hr h=>by
    obtain ⟨d0,ds,v0,vs',A0,B,rfl,h1,r0,nd,r,hd,p⟩:=h;obtain ⟨t,ht⟩:=hbody cdv A outer s H E hr;exact ⟨t,ht.q,Zwc (K:=K) (E':=E) ht.o r0 nd r hd (Xh.imp (Zdo p) (fun _ q=>q) fun _ _ z=>z.elim)⟩
section
variable {S:List (Nat×Bool)}
variable {a:Expr}{t:TA}
end
theorem allN0 (h:P []):∀us:List Value,us.length=0->P us
 | [],_=>h
theorem Xfy (h:∀a0,P [a0])(us:List Value)(hl:us.length=1):P us:=by
 cases us with
 | nil=>exact absurd hl (by decide)
 | cons a us=>exact allN0 (P:=fun z=>P (a::z)) (h a) us (BW hl)
theorem Zvc (h:∀a0 a1,P [a0,a1])(us:List Value)(hl:us.length=2):P us:=by
 cases us with
 | nil=>exact absurd hl (by decide)
 | cons a us=>exact Xfy (P:=fun z=>P (a::z)) (h a) us (BW hl)
theorem Zfl (h:∀a0 a1 a2,P [a0,a1,a2])(us:List Value)(hl:us.length=3):P us:=by
 cases us with
 | nil=>exact absurd hl (by decide)
 | cons a us=>exact Zvc (P:=fun z=>P (a::z)) (h a) us (BW hl)
theorem Xxb (h:∀a0 a1 a2 a3,P [a0,a1,a2,a3])(us:List Value)(hl:us.length=4):P us:=by
 cases us with
 | nil=>exact absurd hl (by decide)
 | cons a us=>exact Zfl (P:=fun z=>P (a::z)) (h a) us (BW hl)
theorem Xfq (h:∀a0 a1 a2 a3 a4,P [a0,a1,a2,a3,a4])(us:List Value)(hl:us.length=5):P us:=by
 cases us with
 | nil=>exact absurd hl (by decide)
 | cons a us=>exact Xxb (P:=fun z=>P (a::z)) (h a) us (BW hl)
theorem Xfr {K:Params->Frag}{t:Nat}{r:PySem.W.RowW}{d:DefRec}{run:Value->List Value->Sem Value}
  (e:∀P,as=(K P).map (·.1)) (W:PySem.W.WalkO q loose XP (PySem.W.InK K) r d kwd run):PySem.W.WalkX q loose XP (PySem.W.X.obsZ as) (PySem.W.X.valZ K n t) r d kwd run:=
 fun w s₀ s₁ mg mb G y a o pm cd doc dV kV ho hd hcd hD hmg hg args vals as' L hpre hlay hrd hwl hlo =>
  W w s₀ s₁ mg mb G (PySem.W.InK.keeps w _ _ (PySem.W.X.z_facts e y).2.1 (PySem.W.Laid.keeps L)) a o pm cd doc dV kV ho hd hcd hD hmg hg args vals as' hpre hlay hrd hwl hlo
section
variable {t:TA}{p3:Pos}
end
def Xtv (K:Frag)(C:Addr)(bmB:List Value)(newId:String)(fI:Addr):Bool:=match K.lookup C with
  | some ⟨.type "type",_,.cls cd,sl⟩=>(match cd.mro,sl.toList with
    | .ref C'::bm,[_,_,_,_,some (.builtin n),_]=>C'==C&&n==newId&&!cd.hasDel&&cd.hasDict&&PySem.W.tailIn K bmB bm&&PySem.W.nsOkIn K cd.ns&&nsIn K cd.ns "__init__"==some (some (.ref fI))
    | _,_=>false)
  | _=>false
section
variable {A:BE}{E:Value->Ah->Prop}{g:Array HS}{d:Drawn}{t:Nat}
variable {q:Str}{C N:Addr}{bs:List Value}{B:String}
end
end L2
namespace L2
open PySem PySem.Spec PyProof.Rows
open PySem.W (Looks)
open Builtin Builtin.ObjectAttr
variable {prog:AZ}{w:BC}{A:BE}{E:Value->Ah->Prop}{h:Heap}{g:Array HS}{d:Drawn}{os:KQ}{sn:List Str}{sub:List Value}{ab:Bool}{col:Option Bool}{dd:Option Addr}
section
variable {t:Nat}
variable {nm q:Str}{C N x:Addr}{bs bm bmB:List Value}{k0 k1 k2 k3 k5:Option Value}{B newId sa owner:String}
 {name:Str} {v:Value} {fs:Array Value} {sl:Array (Option Value)}
end
end L2
namespace L2
open PySem PySem.Spec PyProof.Rows
open PySem.W (Looks)
variable {prog P:AZ}{w:BC}{A:BE}{E:XK}{h base:Heap}{g:Array HS}{d:Drawn}{os:KQ}{C:String->Addr}{hdct ab:Bool}{sn:List Str}{sub:List Value}{col:Option Bool}{dd:Option Addr}{o e b a c kx:Expr}{vs:Array Value}{mA mg:Str->Option Value}{v:V}{name x:Str}{X:Cx}{pins:List (Addr×Obj)}{σ:St}{H:Hp}{s:Ah}{es:List Expr}{ta te tb tk:TE}{pos pos' apos np cpos p p2:Pos}{B:List Addr}{K:Frag}{Γ Δ Γ' Δ' Γl Δl Γk Δk Γ1 Δ1:List Nat}{m mr i m1 m2 m3 n:Nat}{fe fa fb fk:FE}{y:D}{S1 S2 S3:List (Nat×Bool)}{ret suite:List Stmt}{k:List (Int ⊕ Str)}{hs:List Ei}{zs:List Clz}{ds:List (List (String×Bool)×Option Nat×FS)}{b₀:Stmt}{ρ:Dl.Env}{ks:List (List (Int ⊕ Str))}
section
variable {E:Value->Ah->Prop}{t:Nat}
variable {nm q:Str}{C N x:Addr}{bs bm bmB:List Value}{k0 k1 k2 k3 k5:Option Value}{B newId initId:String}
end
section
variable {E:Value->Ah->Prop}{t:Nat}{a C dx:Addr}{o:Obj}{v:Value}
end
open Dl (D R FE FT FA FO FS FI FB Fl)
structure ErrF (K:Frag)(C:Addr)(nm:Str)(fI:Addr):Prop where
 exc:Xtv K C bmV "ValueError.__new__" fI=true
 sa:Er K (.ref C) "__setattr__"=some (some (.builtin "object.__setattr__"))
 nf:Er K (.ref C) nm=some none
 hd:PySem.W.hasDictIn K C=true
def exA (e C:Addr)(dx:Option Addr):HO:=.ext fun h=>∃t sl,h.get? e=some {cls:=.ref C,dict:=dx,data:=.fields #[.ref t,.none,.none,.none,.bool false,.none],slots:=sl}
structure BaseI (K:Frag)(B:Addr):Prop where
 sp:Iu K (.ref B) "__getattribute__"=some (some (.builtin "type.__getattribute__"))
 rd:PySem.W.readsIn K B (.type "type")=true
 fc:PySem.W.findCls K (.ref B) (.type "type") "__init__"=some (.val (.builtin "ValueError.__init__"))
section
variable {value:Expr}{t:TA}{tv:TE}{b f:Str}{B:Addr}
end
def Xtx (K:Frag)(nm:Str):Sp:=fun vs H Q _=>∃e C i fI,vs=[.ref e,.int i]/\H e=some (exA e C none)/\ErrF K C nm fI/\i.natAbs.log2<1920/\∀d,H d=none->Q .non (upd (upd H d (.xd [(nm,.int i)])) e (exA e C (some d)))
section
structure IDef (P:AZ)(w:BC)(K:Frag)(mg:Str->Option Value)(base:Heap)(C:Addr)(nm:Str):Prop where
 ex:∃fI fd ps,ErrF K C nm fI/\Kp K (.ref fI)=some (.type "function")/\ps.length=2/\Binds K fd ps []/\Zbe P w K mg base CX0 1 fI fd ps (Xtx K nm)
variable {S:List (Nat×Bool)}
variable {S:List (Nat×Bool)}
end
def Xfi (i j:Int):Prop:=i.natAbs<2 ^ 4000/\j.natAbs<2 ^ 4000
theorem Xfi.ok {i j:Int}(h:Xfi i j):IntMulOk i j:=PySem.IntMulOk.of_le (PySem.intBits_le_iff.mpr h.1) (PySem.intBits_le_iff.mpr h.2) (by decide)
def ipM:TIp:=fun x y H Q=>∃i j,x=.int i/\y=.int j/\Xfi i j/\Q (.int (i*j)) H
theorem Xll:PIp X .Mult ipM:=by intro pins s σ H x y v u Q I r1 r2 h;obtain ⟨i,j,e1,e2,hc,q⟩:=h;subst e1;subst e2;obtain ⟨t,rfl⟩:=r1;obtain ⟨t',rfl⟩:=r2;exact imul_int ⟨.int _,H,I.tok _,⟨_,rfl⟩,q⟩ hc.ok
theorem Xld {x d:D}(e:Dl.Zup x y=some d):∃i j,x=.int i/\y=.int j/\Xfi i j/\d=.int (i*j):=by unfold Dl.Zup at e;split at e;split at e;rename_i h;cases e;exact ⟨_,_,rfl,rfl,h,rfl⟩;cases e;cases e
section
variable {S:List (Nat×Bool)}
theorem Xhj (he:EOk K C E Γ Δ m S te fe)(h1:∀j∈Γ',j=i\/j∈Γ:=by decide)(h2:∀j∈Δ',j=i\/j∈Δ:=by decide) :
  SOk K C E mr Γl Δl Γ Δ Γ' Δ' (tAug i te ipM) (Dl.Xnc i Dl.Zup fe):=fun H0 Hb H σ ρ A D I p=>by
 unfold Dl.Xnc at p;split at p;rename_i x e;obtain ⟨v,e1,r⟩:=I.rep i x e;refine ⟨v,e1,he H0 Hb H σ ρ A _ I (Xh.imp (Xh.bind p) (fun y q w H1 g1 r1=>?_) fun c x q H' g'=>q H' (Xi.from0 I g'))⟩;obtain ⟨z,ez,q⟩:=Zdf (Xh.bind q);obtain ⟨B,r1,_⟩:=r1;obtain ⟨k,l,rfl,rfl,hc,rfl⟩:=Xld ez;obtain ⟨rfl,_⟩:=r;obtain ⟨rfl,_⟩:=r1;obtain ⟨A',I',_⟩:=(I.mono g1).put (Γ':=Γ') (Δ':=Δ') (i:=i) (d:=.int (k*l)) (v:=.int (k*l)) (B:=[]) rpI (fun j hj e=>⟨(h1 j hj).elim (fun z=>absurd z e) id,fun _ _ _ z=>nomatch z⟩)
  (fun _=>⟨(fun _ z=>nomatch z),(fun _ _ z=>nomatch z)⟩) (fun j hj e=>⟨(h2 j hj).elim (fun z=>absurd z e) id,fun _ _ z=>nomatch z⟩) (fun _=>⟨Be,(fun _ _ _ z=>nomatch z),(fun _ z=>nomatch z)⟩)
 exact ⟨k,l,rfl,rfl,hc,q _ H1 A' I'⟩;exact p.elim
theorem Xos (hN:X.N.Nodup)(hi:X.N[i]?=some x)(hx:Loc X.env.scope x)(he:JE X C E Γ Δ m S e te fe)
  (hf:autoParam (X.fn x=true\/X.env.scope.names.lookup x=some .local) aT0._auto_1) (h1:∀j∈Γ',j=i\/j∈Γ:=by decide) (h2:∀j∈Δ',j=i\/j∈Δ:=by decide):JS X C E mr Γl Δl Γ Δ Γ' Δ' (.AugAssign (.Name x pos') .Mult e pos) (tAug i te ipM) (Dl.Xnc i Dl.Zup fe):=⟨Xvp hN hi hx he.q Xll hf,Xhj he.o h1 h2⟩
variable {iter:Expr}{u:TS}{g:FS}{ip:Pos}{k:Nat}
end
structure Clz where
 c:Value
 i:Option Nat
 th:TS
inductive PClz (X:Cx):List Ei->List Clz->Prop
 | nil:PClz X [] []
 | named {c n:Str} {np hpos:Pos} {C:Addr} {b₀:Stmt} {suite:List Stmt} {i:Nat} {th:TS} {hs:List Ei} {zs:List Clz} (hm:X.mg c=some (.ref C)) (hg:Gl X c) (hdb:(c==("__debug__":Str))=false) (hi:X.N[i]?=some n) (hl:X.env.scope.names.lookup n=some .local)
   (hh:∀e:Addr,PSs (X.hand e) (b₀::suite) th) (hr:PClz X hs zs):PClz X (.ExceptHandler (some (.Name c np)) (some n) (b₀::suite) hpos::hs) (⟨.ref C,some i,th⟩::zs)
 | plain {c:Str} {np hpos:Pos} {C:Addr} {b₀:Stmt} {suite:List Stmt} {th:TS} {hs:List Ei} {zs:List Clz} (hm:X.mg c=some (.ref C)) (hg:Gl X c) (hdb:(c==("__debug__":Str))=false)
   (hh:∀e:Addr,PSs (X.hand e) (b₀::suite) th) (hr:PClz X hs zs):PClz X (.ExceptHandler (some (.Name c np)) none (b₀::suite) hpos::hs) (⟨.ref C,none,th⟩::zs)
inductive OClz (K:Frag)(C:String->Addr)(N mr:Nat)(Γl Δl Γ1 Δ1:List Nat):List Clz->List (List (String×Bool)×Option Nat×FS)->Prop
 | nil:OClz K C N mr Γl Δl Γ1 Δ1 [] []
 | named {c:Addr} {i:Nat} {th:TS} {fh:FS} {tb:List (String×Bool)} {Γ2 Δ2:List Nat} {Eh:XK} {zs:List Clz} {ds:List (List (String×Bool)×Option Nat×FS)} (ht:∀p∈tb,exmOne K (.ref (C p.1)) (.ref c)=some p.2) (hi:i<N) (hh:SOk K C Eh mr [] [] [] [] Γ2 Δ2 th fh)
   (hr:OClz K C N mr Γl Δl Γ1 Δ1 zs ds):OClz K C N mr Γl Δl Γ1 Δ1 (⟨.ref c,some i,th⟩::zs) ((tb,some i,fh)::ds)
 | plain {c:Addr} {th:TS} {fh:FS} {tb:List (String×Bool)} {Eh:XK} {zs:List Clz} {ds:List (List (String×Bool)×Option Nat×FS)} (ht:∀p∈tb,exmOne K (.ref (C p.1)) (.ref c)=some p.2) (hh:SOk K C Eh mr Γl Δl [] [] Γ1 Δ1 th fh)
   (hr:OClz K C N mr Γl Δl Γ1 Δ1 zs ds):OClz K C N mr Γl Δl Γ1 Δ1 (⟨.ref c,none,th⟩::zs) ((tb,none,fh)::ds)
inductive JClz (X:Cx)(C:String->Addr)(mr:Nat)(Γl Δl Γ1 Δ1:List Nat):List Ei->List Clz->List (List (String×Bool)×Option Nat×FS)->Prop
 | mk {hs:List Ei} {zs:List Clz} {ds:List (List (String×Bool)×Option Nat×FS)} (p:PClz X hs zs) (o:OClz X.K C X.N.length mr Γl Δl Γ1 Δ1 zs ds):JClz X C mr Γl Δl Γ1 Δ1 hs zs ds
section
variable {hpos:Pos}{th:TS}{fh:FS}
end
def Zyr:V->V->V->Hp->(Hp->Prop)->Prop:=fun o i v H Q=>∃a H4,o=.ref a/\Xqm H a i v H4/\Q H4
theorem set_dict (hu:X.A.units+64<Bw):PSet X Zyr:=by intro pins s σ H o i v ov iv u Q I ro ri rv h;obtain ⟨a,H4,rfl,g,q⟩:=h;cases (show ov=AL a from ro);exact Zyd (by omega) I g ri rv fun s4 I4=>⟨H4,I4,q⟩
section
variable {S:List (Nat×Bool)}
theorem Xmr {x:D}{k:Int ⊕ Str}(e:Dl.keyD x=some k)(r:Rp K C H x v B):v=kV k:=by
 cases x with
 | int i=>cases e;exact r.1
 | str z=>cases e;exact r.1
 | _=>cases e
theorem RpA.snoc0 {d:D}{v:V}(r:Rp K C H d v []):∀{ds:List D} {xs:List V},RpA K C H ds xs []->RpA K C H (ds++[d]) (xs++[v]) []
 | [],xs,q=>by rw [q.1];exact ⟨v,[],[],[],rfl,r,RpA.nil,rfl⟩
 | x::ds,xs,q=>by obtain ⟨y,l,B,B',e1,e2,e3,e4⟩:=q;obtain ⟨rfl,rfl⟩:=Hv.mp e4.symm;subst e1;exact ⟨y,_,[],[],rfl,e2,RpA.snoc0 r e3,rfl⟩
variable {tg:Expr}
abbrev TX:=Str->St->Hp->VK->Prop
def PX (X:Cx)(es:List Expr)(t:TX):Prop:=
 ∀(out:Str) (pins:List (Addr×Obj)) (s:Ah) (σ:St) (H:Hp) (Q:VK),Inv X pins σ H s->out.length+2000*es.length<=Aw->t out σ H Q->
  wpAny (model X.prog X.w) X.A (joinParts out (evalEach es X.env)) (EP X pins σ Q) X.xe s
end
theorem Xmm {a b:Str}(h:a.cps.toList=b.cps.toList):a=b:=by cases a;cases b;congr 1;exact Array.toList_inj.mp h
section
variable {S:List (Nat×Bool)}
theorem one_of {y:Str}{c:Nat}(h:y.cps.toList=[c]):y=⟨#[c]⟩:=Xmm (by rw [h])
def XOk (K:Frag)(C:String->Addr)(E:XK)(Γ Δ:List Nat)(t:TX)(f:FA):Prop:=∀(H0 Hb H:Hp) (σ:St) (ρ:Dl.Env) (A:Nat->List Addr) (Q:VK) (out:Str),Dr out=true->Zp K C H0 Hb H Γ Δ σ ρ A->
 Xh ((f ρ).bind fun xs=>Dl.oR (Dl.catO out xs)) (fun d=>∀v H',Xi H H'->Res K C 2 [] H A d v H'->Q v H') (fun c x=>∀H',Xi H H'->EC C E c x H')->t out σ H Q
end
structure JX (X:Cx)(C:String->Addr)(E:XK)(Γ Δ:List Nat)(es:List Expr)(t:TX)(f:FA):Prop where
 q:PX X es t
 o:XOk X.K C E Γ Δ t f
section
variable {S:List (Nat×Bool)}{tx:TX}{f:FA}
theorem Zsc:∀{ds:List D} {k:List (Int ⊕ Str)} {vs:List V} {B:List Addr},Dl.Zvj ds=some k->RpA K C H ds vs B->vs=k.map kV
 | [],k,vs,B,e,r=>by cases e;exact r.1
 | d::ds,k,vs,B,e,r=>by obtain ⟨j,e1,e⟩:=AK.mp (show ((Dl.keyD d).bind fun k=>(Dl.Zvj ds).bind fun ks=>some (k::ks))=some k from e);obtain ⟨js,e2,e⟩:=AK.mp e;cases e;obtain ⟨x,l,B1,B2,rfl,h1,h2,_⟩:=r;rw [Xmr e1 h1,Zsc e2 h2];rfl
theorem Zhr (e:Dl.Xej y=some k)(r:Rp K C H y v B):∃b,v=.ref b/\H b=some (.tup (k.map kV)):=by
 cases y with
 | tup ds =>obtain ⟨a,xs,rfl,h1,h2⟩:=r;refine ⟨a,rfl,?_⟩;rw [h1,Zsc e h2]
 | _=>cases e
theorem Zgx {k:List (Int ⊕ Str)}:∀{ks:List (List (Int ⊕ Str))} {xs:List V},ks.length=xs.length->((ks.zip xs).any fun kv=>decide (kv.1=k))=Dl.Xmh ks k
 | [],_,_=>rfl
 | j::ks,[],h=>by cases h
 | j::ks,x::xs,h=>by have:=Zgx (k:=k) (ks:=ks) (xs:=xs) (by simpa using h);unfold Dl.Xmh at *;rw [CU,FP,FP,this]
theorem Xaa {k:List (Int ⊕ Str)}:∀{ks:List (List (Int ⊕ Str))} {ds:List D} {xs:List V},RpA K C H ds xs []->Dl.Zx ds=true->match Dl.tAt ks ds k with
  | some d=>∃v,Zuc (ks.zip xs) k=some v/\Rp K C H d v []/\Dl.flat d=true
  | none=>Zuc (ks.zip xs) k=none
 | [],ds,xs,_,_=>by cases ds<;>rfl
 | j::ks,[],xs,q,_=>by rw [q.1];rfl
 | j::ks,x::ds,xs,q,h=>by obtain ⟨y,l,B,B',e1,e2,e3,e4⟩:=q;simp only [Dl.Zx,A9] at h;subst e1;have z:=e2.flat h.1;subst z;rw [Dl.tAt];by_cases e:j=k;rw [if_pos e];exact ⟨y,Zhb e,e2,h.1⟩;rw [if_neg e,CU,Zhd e];exact Xaa (e3.flat' h.2) h.2
theorem Xeg:EOk K C E Γ Δ 2 [] Zxj (Dl.fC (.dtt [] [])):=fun H0 Hb H σ ρ A Q I p q hp=>by
 refine p _ _ (sameNew hp _) ⟨[q],⟨q,[],[],rfl,Xd,rfl,RpA.nil,rfl⟩,fun a ha=>?_,fun z=>by omega,fun _=>AA.mpr ⟨(fun z=>nomatch z),Be⟩⟩;have:a=q:=by simpa using ha
 subst this;exact .inl hp
theorem Zkq {k:List (Int ⊕ Str)}{v:V}:∀{ks:List (List (Int ⊕ Str))} {xs:List V},ks.length=xs.length->(ks.zip xs).map (fun kv=>if kv.1=k then (kv.1,v) else kv)=ks.zip (Bf (fun j x=>if j=k then v else x) ks xs)
 | [],_,_=>rfl
 | j::ks,[],h=>by cases h
 | j::ks,x::xs,h=>by have:=Zkq (k:=k) (v:=v) (ks:=ks) (xs:=xs) (by simpa using h);rw [CU,Bn,this,DR,CU];congr 1;by_cases e:j=k;simp [e];simp [e]
theorem RpA.replT {k:List (Int ⊕ Str)}{d:D}{v:V}(r:Rp K C H d v []):∀{ks:List (List (Int ⊕ Str))} {ds:List D} {xs:List V},RpA K C H ds xs []->Dl.Zx ds=true->RpA K C H (Bf (fun j x=>if j=k then d else x) ks ds) (Bf (fun j x=>if j=k then v else x) ks xs) []
 | [],ds,xs,_,_=>by cases ds<;>cases xs<;>exact RpA.nil
 | j::ks,[],xs,q,_=>by rw [q.1];exact RpA.nil
 | j::ks,x::ds,xs,q,h=>by obtain ⟨y,l,B,B',e1,e2,e3,e4⟩:=q;simp only [Dl.Zx,A9] at h;subst e1;have z:=e2.flat h.1;subst z;refine ⟨_,_,[],[],rfl,?_,RpA.replT r (e3.flat' h.2) h.2,rfl⟩;show Rp K C H (if j=k then d else x) (if j=k then v else y) [];by_cases e:j=k;rw [if_pos e,if_pos e];exact r;rw [if_neg e,if_neg e];exact e2
theorem Zgv {H0 Hb:Hp}{A:Nat->List Addr}{ds:List D}(I:Zp K C H0 Hb H Γ Δ σ ρ A)(e:ρ[i]?=some (some (.dtt ks ds))):∃a xs l,σ[i]?=some (some (.ref a))/\H a=some (.dT (ks.zip xs))/\ks.length=ds.length/\RpA K C H ds xs l/\A i=a::l/\i<ρ.length:=by obtain ⟨v,h1,h2⟩:=I.rep i _ e;obtain ⟨a,xs,B,rfl,h3,h4,h5,h6⟩:=h2;exact ⟨a,xs,B,h1,h3,h4,h5,h6,(Ag.mp e).1⟩
theorem Xgz (hi:i∈Γ:=by decide)(he:EOk K C E Γ Δ m1 S1 te fe)(hk:EOk K C E Γ Δ m2 S2 tk fk):SOk K C E mr Γl Δl Γ Δ Γ Δ (Zjr te (Zgi (Zgp i) tk Zyr)) (Dl.Zjd i fk fe):=fun H0 Hb H σ ρ A D I p=>by
 refine he H0 Hb H σ ρ A _ I (Xh.imp (Xh.bind p) (fun d q v H1 g1 r=>?_) fun c x q H' g'=>q H' (Xi.from0 I g'));have I1:=I.mono g1;split at q;rename_i ks ds e;obtain ⟨a,xs,l,s1,h1,h2,r1,hA,hl⟩:=Zgv I1 e;refine ⟨.ref a,s1,hk H0 Hb H1 σ ρ A _ I1 (Xh.imp (Xh.bind q) (fun z q w H2 g2 rz=>?_) fun c x q H' g'=>q H' (Xi.from0 I1 g'))⟩;obtain ⟨Bz,rz,_⟩:=rz;obtain ⟨B,rd,_⟩:=r;split at q;rename_i k hk;split at q;rename_i hf;obtain ⟨b,rfl,hb⟩:=Zhr hk rz;have zB:=rd.flat hf.1;subst zB;have hx:ks.length=xs.length:=by rw [h2,r1.len]
 have r2:=(r1.same g2).flat' hf.2.1;have rd2:=rd.same g2;have I2:=I1.mono g2;refine ⟨a,_,rfl,Xqm.t (g2 _ _ h1) hb (DB (by rw [Gw];exact E4 _ _) (Zdb hf.2.2)),?_⟩;unfold Dl.Xpx at q;unfold putK;rw [Zgx hx];split at q;rename_i hh;rw [if_pos hh,Zkq hx];obtain ⟨A',I'⟩:=I2.writeO (Γ':=Γ) (Δ':=Δ) (o':=.dT (ks.zip (Bf (fun j x=>if j=k then v else x) ks xs))) (d':=.dtt ks (Bf (fun j x=>if j=k then d else x) ks ds)) hi hA hl s1 (fun H' q1 q2=>⟨a,_,_,rfl,q1,by rw [CJ,h2,HK],q2,rfl⟩) (RpA.replT rd2 r2 hf.2.1) (fun _ z=>nomatch z) (fun z=>nomatch z) (fun j hj _=>⟨hj,fun _ _ _ z=>nomatch z⟩) (fun j hj _=>⟨hj,fun _ _ z=>nomatch z⟩) (fun _=>⟨Be,(fun _ _ _ z=>nomatch z),(fun _ z=>nomatch z)⟩);exact q _ _ A' I';rename_i hh;rw [if_neg hh,show ks.zip xs++[(k,v)]=(ks++[k]).zip (xs++[v]) by rw [GD hx];rfl];obtain ⟨A',I'⟩:=I2.writeO (Γ':=Γ) (Δ':=Δ) (o':=.dT ((ks++[k]).zip (xs++[v]))) (d':=.dtt (ks++[k]) (ds++[d])) hi hA hl s1 (fun H' q1 q2=>⟨a,_,_,rfl,q1,by simp [h2],q2,rfl⟩) (RpA.snoc0 rd2 r2) (fun _ z=>nomatch z) (fun z=>nomatch z) (fun j hj _=>⟨hj,fun _ _ _ z=>nomatch z⟩) (fun j hj _=>⟨hj,fun _ _ z=>nomatch z⟩) (fun _=>⟨Be,(fun _ _ _ z=>nomatch z),(fun _ z=>nomatch z)⟩);exact q _ _ A' I';exact q.elim;exact q.elim;exact q.elim
theorem Xlv {td ty:TE}{fd fy:FE}(hd:EOk K C E Γ Δ m1 S1 td fd)(hy:EOk K C E Γ Δ m2 S2 ty fy):EOk K C E Γ Δ 2 [] (Xnw td ty) (Dl.f2 Dl.Xqe fd fy):=
  fun H0 Hb H σ ρ A Q I p=>hd H0 Hb H σ ρ A _ I (p.bind.imp (fun d q vd H1 g1 r1=>hy H0 Hb H1 σ ρ A _ (I.mono g1) (q.bind.imp (fun y q vy H2 g2 r2=>by
    obtain ⟨z,e,q2⟩:=Zdf q;obtain ⟨Bd,r1,_⟩:=r1;obtain ⟨By,r2,_⟩:=r2;cases d with
    | dtt ks ds =>have e:(if Dl.Zx ds then (Dl.Xej y).bind fun k=>Dl.tAt ks ds k else none)=some z:=e;split at e;rename_i hf;obtain ⟨k,hk,e⟩:=AK.mp e;obtain ⟨a,xs,B,rfl,h1,h2,h3,_⟩:=r1;obtain ⟨b,rfl,hb⟩:=Zhr hk r2;have hv:=Xaa (ks:=ks) (k:=k) ((h3.same g2).flat' hf) hf;rw [e] at hv;obtain ⟨v,v1,v2,_⟩:=hv;refine ⟨a,v,rfl,?_,q2 v H2 (g1.trans g2) (Res.flat v2)⟩;rw [<- v1];exact Xhg.t (g2 _ _ h1) hb;cases e
    | _=>cases e) fun c x q H' g'=>q H' (g1.trans g'))) fun c x q H' g'=>q H' g')
variable {tc:TE}{fc:FE}
theorem Zxb:JE X C E Γ Δ 2 [] (.Dict [] [] pos) Zxj (Dl.fC (.dtt [] [])):=⟨⟨Xdi⟩,Xeg⟩
theorem Xwf (ha:JE X C E Γ Δ m1 S1 a ta fa)(hb:JE X C E Γ Δ m2 S2 b tb fb)(hu:X.A.units+64<Bw)(hs:NoSl b:=by intro _ _;rfl):JE X C E Γ Δ 2 [] (.Subscript a b pos) (Xnw ta tb) (Dl.f2 Dl.Xqe fa fb):=⟨⟨Xpj (by omega) ha.q.out hb.q.out hs⟩,Xlv ha.o hb.o⟩
theorem Zqg (hi:i∈Γ:=by decide)(hN:X.N[i]?=some x:=by rfl)(hv:autoParam (Vis X.env.scope x) aT3._auto_1)(hd:(x==("__debug__":Str))=false:=by decide)(hcd:(x==("__classdict__":Str))=false:=by decide)
    (he:JE X C E Γ Δ m1 S1 e te fe) (hk:JE X C E Γ Δ m2 S2 kx tk fk) (hs:EW [.Subscript (.Name x p) kx p2] e pos.line X.env=pure false:=by rfl) (hw:EX [.Subscript (.Name x p) kx p2] e X.env=pure none:=by rfl) (h1:(AV [.Subscript (.Name x p) kx p2] X.env).map (·.2)=[Dg (.Subscript (.Name x p) kx p2) X.env]:=by rfl)
    (hq:∀v,Dg (.Subscript (.Name x p) kx p2) X.env v=(do
      let ov <- CZ [v] (eval (.Name x p) X.env)
      let iv <- CZ [v,ov] (eval kx X.env)
      Fi p2
      CZ [v,ov,iv] (Ht ov iv v)
      KG [v,ov,iv] []):=by intro _;rfl) (hu:X.A.units+64<Bw) :
    JS X C E mr Γl Δl Γ Δ Γ Δ (.Assign [.Subscript (.Name x p) kx p2] e pos) (Zjr te (Zgi (Zgp i) tk Zyr)) (Dl.Zjd i fk fe):=⟨Xan he.q (Xjf (qv i hN hv hd hcd) hk.q (set_dict hu) hq) hs hw h1,Xgz hi he.o hk.o⟩
end
end L2
namespace L2
open PySem PyProof.Rows
variable {prog:AZ}{w:BC}{A:BE}{E:Value->Ah->Prop}{s:Ah}{κ:FQ}{P:Ay->Prop}{r:Ay->Ay->Bool}{lat:Ay->Ay->Prop}{st st' st1:BB}{x y key b0 d0:Ay}{Q:Option Bool->BB->Prop}{arr a b a':Array Ay}{i base n hint na nb j k lo nrem i' j':Nat}{l X Y a0 Z:List Ay}{g g':Nat->Ay}{α:Type}{c:Prop}{Rs R1:List (List Ay)}
def Xao:Bool->Ay->Array Ay->Nat->Nat->Nat->StateT BB Sem (Option Nat):=sortPriv% PySem.Builtin.gallop
def Xec:Array Ay->Array Ay->StateT BB Sem (Array Ay):=sortPriv% PySem.Builtin.mergeLo
def Xfl:Array Ay->Array Ay->StateT BB Sem (Array Ay):=sortPriv% PySem.Builtin.mergeHi
def Xnx:Nat->StateT BB Sem Unit:=sortPriv% PySem.Builtin.setMinGallop
structure Ask (prog:AZ)(w:BC)(A:BE)(s:Ah)(κ:FQ)(P:Ay->Prop)(r:Ay->Ay->Bool)(lat:Ay->Ay->Prop:=fun _ _=>True):Prop where
 run:∀{x y:Ay} {Q:Bool->Ah->Prop} {E:Value->Ah->Prop},P x->P y->lat x y->Q (r x y) s->wpAny (model prog w) A (keyLt' κ x.1 y.1) Q E s
 tr:∀{x y z:Ay},P x->P y->P z->r y x=false->r z y=false->r z x=false
 as:∀{x y:Ay},P x->P y->r x y=true->r y x=false
def bey (r:Ay->Ay->Bool)(left:Bool)(key x:Ay):Bool:=if left=true then r x key else !r key x
theorem Zmk (K:Ask prog w A s κ P r lat)(hk:B6 st=κ)(hx:P x)(hy:P y)(h:Q (some (r x y)) st)(hl:lat x y:=by trivial):wpS (model prog w) A E s (lt' x y) Q st:=by rw [lt'_eq];refine Ak (EO ?_);rw [hk];exact Ak (FG (DP (K.run hx hy hl ⟨rfl,Ap h⟩)))
theorem Xk {Q:Ay->BB->Prop}(e:arr[i]?=some x)(h:Q x st):wpS (model prog w) A E s (elem' arr i) Q st:=by rw [elem'_eq,e];exact Ap h
theorem Zho {left:Bool}(K:Ask prog w A s κ P r lat)(hk:B6 st=κ)(e:arr[i]?=some x)(hx:P x)(hy:P key)(h:Q (some (bey r left key x)) st)(hl:if left=true then lat x key else lat key x:=by intros;first | trivial | (split<;>trivial)) :
    wpS (model prog w) A E s (do
      let z <- elem' arr i
      if left=true then lt' z key else do
        let b <- lt' key z
        pure (KR (fun b=>!b) b)) Q st:=by
  refine Ak (Xk e ?_);unfold bey at h;cases left with
  | true=>exact Zmk K hk hx hy h (by simpa using hl)
  | false=>exact Ak (Zmk K hk hy hx (Ap h) (by simpa using hl))
theorem Xeh {left:Bool}(K:Ask prog w A s κ P r lat)(hk:P key)(hx:P x)(hy:P y)(hxy:r y x=false)(h:bey r left key y=true):bey r left key x=true:=by
 unfold bey at *;cases left with
 | true =>
  simp only [if_true] at *;cases e:r x key with
  | true=>rfl
  | false=>rw [K.tr hk hx hy e hxy] at h;cases h
 | false =>simp only [Bb,if_false,Bool.not_eq_true'] at *;exact K.tr hx hy hk hxy h
theorem Zuq {left:Bool}{at_:Nat->Ay}{Q:Option Nat->BB->Prop}(K:Ask prog w A s κ P r lat)(hk:B6 st=κ)(hkey:P key)(ha:∀i,i<n->arr[base+i]?=some (at_ i)/\P (at_ i))
    (hs:∀i j,i<=j->j<n->r (at_ j) (at_ i)=false) (hh:hint<n) (h:∀k,k<=n->(∀i,i<k->bey r left key (at_ i)=true)->(∀i,k<=i->i<n->bey r left key (at_ i)=false)->Q (some k) st) (hla:∀i,i<n->if left=true then lat (at_ i) key else lat key (at_ i):=by intros;first | trivial | (split<;>trivial)) :
    wpS (model prog w) A E s (Xao left key arr base n hint) Q st:=by
  have up:∀{i j},i<=j->j<n->bey r left key (at_ j)=true->bey r left key (at_ i)=true:=fun {i j} hij hj hb=>Xeh K hkey (ha i (by omega)).2 (ha j hj).2 (hs i j hij hj) hb;have dn:∀{i j},i<=j->j<n->bey r left key (at_ i)=false->bey r left key (at_ j)=false:=fun {i j} hij hj hb=>by
    cases e:bey r left key (at_ j) with
    | false=>rfl
    | true=>rw [up hij hj e] at hb;cases hb
  have fin:∀{f:Nat->Option (Option Nat)×Nat×Nat->StateT BB Sem (ForInStep (Option (Option Nat)×Nat×Nat))} {g:Option (Option Nat)×Nat×Nat->StateT BB Sem (Option Nat)},
      (∀(x lo hi:Nat) (Q':ForInStep (Option (Option Nat)×Nat×Nat)->BB->Prop),hi<=n->(lo>=hi->Q' (.done (none,lo,hi)) st)->(lo<hi->bey r left key (at_ (lo+(hi - lo) / 2))=true->Q' (.yield (none,lo+(hi - lo) / 2+1,hi)) st)->
        (lo<hi->bey r left key (at_ (lo+(hi - lo) / 2))=false->Q' (.yield (none,lo,lo+(hi - lo) / 2)) st)->wpS (model prog w) A E s (f x (none,lo,hi)) Q' st)->
      (∀lo hi,Q (some hi) st->wpS (model prog w) A E s (g (none,lo,hi)) Q st)->
      ∀lo hi,lo<=hi->hi<=n->(∀i,i<lo->bey r left key (at_ i)=true)->(∀i,hi<=i->i<n->bey r left key (at_ i)=false)->
      wpS (model prog w) A E s (forIn [:n] ((none,lo,hi):Option (Option Nat)×Nat×Nat) f >>= g) Q st:=fun {f g} hf hg lo hi hlh hhn hlo hhi=>by
    refine Ak (B0 (BG
      (I:=fun x c st'=>st'=st/\∃lo hi,c=(none,lo,hi)/\lo<=hi/\hi<=n/\hi - lo<=n - x/\(∀i,i<lo->bey r left key (at_ i)=true)/\(∀i,hi<=i->i<n->bey r left key (at_ i)=false))
      (Q:=fun c st'=>st'=st/\∃lo hi,c=(none,lo,hi)/\hi<=lo/\hi<=n/\(∀i,i<lo->bey r left key (at_ i)=true)/\(∀i,hi<=i->i<n->bey r left key (at_ i)=false)) ?step ?fin ⟨rfl,lo,hi,rfl,hlh,hhn,by omega,hlo,hhi⟩) ?post)
    case post =>rintro c st' ⟨rfl,lo,hi,rfl,h1,h2,h3,h4⟩;exact hg _ _ (h hi h2 (fun i hi'=>h3 i (by omega)) h4)
    case fin =>rintro c st' ⟨rfl,lo,hi,rfl,h1,h2,h3,h4,h5⟩;exact ⟨rfl,lo,hi,rfl,by omega,h2,h4,h5⟩
    case step =>
      rintro x c st' _ hx ⟨rfl,lo,hi,rfl,h1,h2,h3,h4,h5⟩;exact hf x lo hi _ h2 (fun hge=>⟨rfl,lo,hi,rfl,hge,h2,h4,h5⟩) (fun hl e=>⟨rfl,_,_,rfl,by omega,h2,by omega,fun i hi'=>up (j:=lo+(hi - lo) / 2) (by omega) (by omega) e,h5⟩)
        (fun hl e=>⟨rfl,_,_,rfl,by omega,by omega,by omega,h4,fun i h6 h7=>dn (i:=lo+(hi - lo) / 2) h6 h7 e⟩)
  obtain ⟨e1,e2⟩:=ha hint hh;refine Ak (Zho (left:=left) K hk e1 e2 hkey ?_ (hla hint hh));dsimp only;cases e:bey r left key (at_ hint) with
  | true =>
    rw [if_pos rfl];refine Ak (B0 (BG
      (I:=fun x c st'=>st'=st/\∃la o,c=(none,la,o)/\x+1<=o/\la<o/\hint+la<n/\bey r left key (at_ (hint+la))=true)
      (Q:=fun c st'=>st'=st/\∃la o,c=(none,la,o)/\la<o/\hint+la<n/\bey r left key (at_ (hint+la))=true/\(n - hint<=o\/(hint+o<n/\bey r left key (at_ (hint+o))=false))) ?step ?fin ⟨rfl,0,1,rfl,by omega,by omega,by omega,e⟩) ?post)
    case post =>
      rintro c st' ⟨rfl,la,o,rfl,h1,h2,h3,h4⟩;refine fin (fun x lo hi Q' hn q1 q2 q3=>by
        dsimp only;by_cases hge:lo>=hi
        · rw [if_pos hge];exact Ap (q1 hge)
        · rw [if_neg hge];obtain ⟨e3,e4⟩:=ha (lo+(hi - lo) / 2) (by omega);refine Ak (Zho K hk e3 e4 hkey ?_ (hla (lo+(hi - lo) / 2) (by omega)));dsimp only;cases e5:bey r left key (at_ (lo+(hi - lo) / 2)) with
          | true =>rw [if_pos rfl];exact Ap (q2 (by omega) e5)
          | false =>
            rw [if_neg Aj];exact Ap (q3 (by omega) e5)) (fun lo hi q=>Ap q) (hint+la+1) (hint+min o (n - hint)) (by omega) (by omega) (fun i hi'=>up (j:=hint+la) (by omega) h2 h3) (fun i h6 h7=>?_)
      rcases h4 with h4 | ⟨h4,h5⟩
      · omega
      · exact dn (i:=hint+o) (by omega) h7 h5
    case fin =>rintro c st' ⟨rfl,la,o,rfl,h1,h2,h3,h4⟩;exact ⟨rfl,la,o,rfl,h2,h3,h4,.inl (by omega)⟩
    case step =>
      rintro x c st' _ hx ⟨rfl,la,o,rfl,h1,h2,h3,h4⟩;dsimp only;by_cases hge:o>=n - hint
      · rw [if_pos hge];exact Ap ⟨rfl,la,o,rfl,h2,h3,h4,.inl hge⟩
      · rw [if_neg hge];obtain ⟨e3,e4⟩:=ha (hint+o) (by omega);refine Ak (Zho K hk e3 e4 hkey ?_ (hla (hint+o) (by omega)));dsimp only;cases e5:bey r left key (at_ (hint+o)) with
        | true =>rw [if_neg (by decide)];exact Ap ⟨rfl,_,_,rfl,by omega,by omega,by omega,e5⟩
        | false =>rw [if_pos (by decide)];exact Ap ⟨rfl,la,o,rfl,h2,h3,h4,.inr ⟨by omega,e5⟩⟩
  | false =>
    rw [if_neg Aj];refine Ak (B0 (BG
      (I:=fun x c st'=>st'=st/\∃la o,c=(none,la,o)/\x+1<=o/\la<o/\la<=hint/\bey r left key (at_ (hint - la))=false)
      (Q:=fun c st'=>st'=st/\∃la o,c=(none,la,o)/\la<o/\la<=hint/\bey r left key (at_ (hint - la))=false/\(hint+1<=o\/(o<=hint/\bey r left key (at_ (hint - o))=true))) ?step ?fin ⟨rfl,0,1,rfl,by omega,by omega,by omega,e⟩) ?post)
    case post =>
      rintro c st' ⟨rfl,la,o,rfl,h1,h2,h3,h4⟩;refine fin (fun x lo hi Q' hn q1 q2 q3=>by
        dsimp only;by_cases hge:lo>=hi
        · rw [if_pos hge];exact Ap (q1 hge)
        · rw [if_neg hge];obtain ⟨e3,e4⟩:=ha (lo+(hi - lo) / 2) (by omega);refine Ak (Zho K hk e3 e4 hkey ?_ (hla (lo+(hi - lo) / 2) (by omega)));dsimp only;cases e5:bey r left key (at_ (lo+(hi - lo) / 2)) with
          | true =>rw [if_pos rfl];exact Ap (q2 (by omega) e5)
          | false =>
            rw [if_neg Aj];exact Ap (q3 (by omega) e5)) (fun lo hi q=>Ap q) (hint+1 - min o (hint+1)) (hint - la) (by omega) (by omega) (fun i hi'=>?_) (fun i h6 h7=>dn (i:=hint - la) (by omega) h7 h3)
      rcases h4 with h4 | ⟨h4,h5⟩
      · omega
      · exact up (j:=hint - o) (by omega) (by omega) h5
    case fin =>rintro c st' ⟨rfl,la,o,rfl,h1,h2,h3,h4⟩;exact ⟨rfl,la,o,rfl,h2,h3,h4,.inl (by omega)⟩
    case step =>
      rintro x c st' _ hx ⟨rfl,la,o,rfl,h1,h2,h3,h4⟩;dsimp only;by_cases hge:o>=hint+1
      · rw [if_pos hge];exact Ap ⟨rfl,la,o,rfl,h2,h3,h4,.inl hge⟩
      · rw [if_neg hge];obtain ⟨e3,e4⟩:=ha (hint - o) (by omega);refine Ak (Zho K hk e3 e4 hkey ?_ (hla (hint - o) (by omega)));dsimp only;cases e5:bey r left key (at_ (hint - o)) with
        | true =>rw [if_pos rfl];exact Ap ⟨rfl,la,o,rfl,h2,h3,h4,.inr ⟨by omega,e5⟩⟩
        | false =>rw [if_neg Aj];exact Ap ⟨rfl,_,_,rfl,by omega,by omega,by omega,e5⟩
section
def Up (r:Ay->Ay->Bool)(l:List Ay):Prop:=l.Pairwise fun x y=>r y x=false
structure MI (r:Ay->Ay->Bool)(a b out:List Ay)(ia ib:Nat):Prop where
 pm:out.Perm (a.take ia++b.take ib)
 so:Up r out
 le:∀x∈out,∀y,(y∈a.drop ia\/y∈b.drop ib)->r y x=false
variable {a b out:List Ay}{ia ib:Nat}
theorem take_snoc (e:l[i]?=some x):l.take (i+1)=l.take i++[x]:=by rw [FX,e];rfl
theorem Zeb (e:l[i]?=some x):l.drop i=x::l.drop (i+1):=by obtain ⟨h,rfl⟩:=Ag.mp e;exact AY h
theorem Up.drop {l:List Ay}(h:Up r l)(i:Nat):Up r (l.drop i):=h.sublist (List.drop_sublist i l)
theorem MI.a1 (m:MI r a b out ia ib)(sa:Up r a)(e:a[ia]?=some x)(h:∀y∈b.drop ib,r y x=false):MI r a b (out++[x]) (ia+1) ib:=by have ed:=Zeb e;have sd:=sa.drop ia;rw [ed] at sd;refine ⟨?_,A7.mpr ⟨m.so,DM _ _,fun z hz y hy=>?_⟩,fun z hz y hy=>?_⟩;rw [take_snoc e];refine (m.pm.append_right [x]).trans ?_;rw [AD,AD];exact Cv _ CG;rw [Ao.mp hy];exact m.le z hz x (.inl (by rw [ed];exact .head _));rcases Au.mp hz with hz | hz;exact m.le z hz y (hy.imp (fun q=>by rw [ed];exact .tail _ q) id);rw [Ao.mp hz];rcases hy with hy | hy;exact (DK.mp sd).1 y hy;exact h y hy
theorem MI.swap (m:MI r a b out ia ib):MI r b a out ib ia:=⟨m.pm.trans CG,m.so,fun x hx y hy=>m.le x hx y hy.symm⟩
theorem MI.b1 (m:MI r a b out ia ib)(sb:Up r b)(e:b[ib]?=some x)(h:∀y∈a.drop ia,r y x=false):MI r a b (out++[x]) ia (ib+1):=(m.swap.a1 sb e h).swap
theorem MI.ak (m:MI r a b out ia ib)(sa:Up r a):∀(k:Nat),ia+k<=a.length->(∀i,i<k->∀z,a[ia+i]?=some z->∀y∈b.drop ib,r y z=false)->MI r a b (out++(a.drop ia).take k) (ia+k) ib
 | 0,_,_=>by rw [E7,CK];exact m
 | k+1,hl,h=>by
  have ih:=m.ak sa k (by omega) fun i hi=>h i (by omega);have e:a[ia+k]?=some a[ia+k]:=Ad (by omega);have e2:(a.drop ia)[k]?=some a[ia+k]:=by rw [Cj];exact e
  rw [take_snoc e2,<- AD];exact ih.a1 sa e (h k (by omega) _ e)
theorem MI.bk (m:MI r a b out ia ib)(sb:Up r b)(k:Nat)(hl:ib+k<=b.length)(h:∀i,i<k->∀z,b[ib+i]?=some z->∀y∈a.drop ia,r y z=false):MI r a b (out++(b.drop ib).take k) ia (ib+k):=(m.swap.ak sb k hl h).swap
theorem MI.endA (m:MI r a b out ia ib)(sa:Up r a)(sb:Up r b)(h:∀x∈b.drop ib,∀y∈a.drop ia,r y x=false):(out++b.drop ib++a.drop ia).Perm (a++b)/\Up r (out++b.drop ib++a.drop ia):=by constructor;have h1:(out++b.drop ib++a.drop ia).Perm (a.take ia++b.take ib++b.drop ib++a.drop ia):=(m.pm.append_right _).append_right _;refine h1.trans ?_;rw [AD (a.take ia),BM,AD];refine (Cv _ CG).trans ?_;rw [<- AD,BM];refine A7.mpr ⟨A7.mpr ⟨m.so,sb.drop ib,fun x hx y hy=>m.le x hx y (.inr hy)⟩,sa.drop ia,fun x hx y hy=>?_⟩;rcases Au.mp hx with hx | hx;exact m.le x hx y (.inl hy);exact h x hx y hy
theorem MI.endB (m:MI r a b out ia ib)(sa:Up r a)(sb:Up r b)(h:∀x∈a.drop ia,∀y∈b.drop ib,r y x=false):(out++a.drop ia++b.drop ib).Perm (a++b)/\Up r (out++a.drop ia++b.drop ib):=(m.swap.endA sb sa h).imp (fun q=>q.trans CG) id
structure MJ (r:Ay->Ay->Bool)(a b out:List Ay)(na nb:Nat):Prop where
 pm:out.Perm (a.drop na++b.drop nb)
 so:Up r out
 le:∀x∈out,∀y,(y∈a.take na\/y∈b.take nb)->r x y=false
theorem Up.take {l:List Ay}(h:Up r l)(i:Nat):Up r (l.take i):=h.sublist (IU i l)
theorem MJ.swap (m:MJ r a b out na nb):MJ r b a out nb na:=⟨m.pm.trans CG,m.so,fun x hx y hy=>m.le x hx y hy.symm⟩
theorem MJ.a1 (m:MJ r a b out (na+1) nb)(sa:Up r a)(e:a[na]?=some x)(h:∀y∈b.take nb,r x y=false):MJ r a b (x::out) na nb:=by have et:=take_snoc e;have st:=sa.take (na+1);rw [et] at st;refine ⟨?_,DK.mpr ⟨fun y hy=>m.le y hy x (.inl (by rw [et];exact As _ (.head _))),m.so⟩,fun z hz y hy=>?_⟩;rw [Zeb e];exact m.pm.cons x;rcases An.mp hz with rfl | hz;rcases hy with hy | hy;exact (A7.mp st).2.2 y hy z (.head _);exact h y hy;exact m.le z hz y (hy.imp (fun q=>by rw [et];exact AJ _ q) id)
theorem MJ.b1 (m:MJ r a b out na (nb+1))(sb:Up r b)(e:b[nb]?=some x)(h:∀y∈a.take na,r x y=false):MJ r a b (x::out) na nb:=(m.swap.a1 sb e h).swap
theorem MJ.ak {na nb:Nat}(m:MJ r a b out na nb)(sa:Up r a)(hna:na<=a.length):∀(k:Nat),k<=na->(∀i,na - k<=i->i<na->∀z,a[i]?=some z->∀y∈b.take nb,r z y=false)->MJ r a b ((a.drop (na - k)).take k++out) (na - k) nb
 | 0,_,_=>by rw [E7];exact m
 | k+1,hl,h=>by have ih:=m.ak sa hna k (by omega) fun i hi=>h i (by omega);have e:a[na - (k+1)]?=some a[na - (k+1)]:=Ad (by omega);rw [Zeb e,Ik,ER,show na - (k+1)+1=na - k by omega];rw [show na - k=na - (k+1)+1 by omega] at ih;have:=ih.a1 sa e (h _ (Ax _) (by omega) _ e);rw [show na - (k+1)+1=na - k by omega] at this;exact this
theorem MJ.bk (m:MJ r a b out na nb)(sb:Up r b)(hnb:nb<=b.length)(k:Nat)(hl:k<=nb)(h:∀i,nb - k<=i->i<nb->∀z,b[i]?=some z->∀y∈a.take na,r z y=false):MJ r a b ((b.drop (nb - k)).take k++out) na (nb - k):=(m.swap.ak sb hnb k hl h).swap
theorem MJ.endA (m:MJ r a b out na nb)(sa:Up r a)(sb:Up r b)(h:∀x∈a.take na,∀y∈b.take nb,r y x=false):(a.take na++b.take nb++out).Perm (a++b)/\Up r (a.take na++b.take nb++out):=by constructor;refine (m.pm.append_left _).trans ?_;rw [AD];refine (Cv _ (List.perm_append_comm_assoc _ _ _)).trans ?_;rw [BM,<- AD,BM];refine A7.mpr ⟨A7.mpr ⟨sa.take na,sb.take nb,h⟩,m.so,fun x hx y hy=>?_⟩;rcases Au.mp hx with hx | hx;exact m.le y hy x (.inl hx);exact m.le y hy x (.inr hx)
theorem MJ.endB (m:MJ r a b out na nb)(sa:Up r a)(sb:Up r b)(h:∀x∈b.take nb,∀y∈a.take na,r y x=false):(b.take nb++a.take na++out).Perm (a++b)/\Up r (b.take nb++a.take na++out):=(m.swap.endA sb sa h).imp (fun q=>q.trans CG) id
end
structure SG (st st':BB):Prop where
 k:B6 st'=B6 st
 a:Aq st'=Aq st
 p:A6 st'=A6 st
 f:CS st'=CS st
theorem SG.refl (st:BB):SG st st:=⟨rfl,rfl,rfl,rfl⟩
theorem SG.trans {st st1 st2:BB}(g:SG st st1)(h:SG st1 st2):SG st st2:=⟨h.k.trans g.k,h.a.trans g.a,h.p.trans g.p,h.f.trans g.f⟩
theorem Zhc (a:Array Ay)(i:Nat):(a.extract i a.size).toList=a.toList.drop i:=by rw [Array.toList_extract,Dv];exact B5 (by simp)
theorem Zqs (a:Array Ay)(i k:Nat):(a.extract i (i+k)).toList=(a.toList.drop i).take k:=by simp [Dv]
theorem Ask.ir (K:Ask prog w A s κ P r lat)(hx:P x):r x x=false:=by
 cases e:r x x with
 | false=>rfl
 | true=>rw [K.as hx hx e] at e;cases e
theorem Zcx {g:Nat}{Q:Unit->BB->Prop}(h:∀st',SG st st'->Q () st'):wpS (model prog w) A E s (Xnx g) Q st:=Gs (h _ ⟨rfl,rfl,rfl,rfl⟩)
theorem Zkv (K:Ask prog w A s κ P r lat)(hl:∀x∈l,P x)(h:Up r l)(hij:i<=j)(e1:l[i]?=some x)(e2:l[j]?=some y):r y x=false:=by obtain ⟨h1,rfl⟩:=Ag.mp e1;obtain ⟨h2,rfl⟩:=Ag.mp e2;rcases Nat.eq_or_lt_of_le hij with e | hlt;subst e;exact K.ir (hl _ (CD h1));exact G4.mp h i j h1 h2 hlt
theorem Zfb {left:Bool}{Q:Option Nat->BB->Prop}(K:Ask prog w A s κ P r lat)(hk:B6 st=κ)(hP:∀x∈a.toList,P x)(hkey:P key)(hb:base+n<=a.size)
  (hs:∀i j x y,i<=j->j<n->a.toList[base+i]?=some x->a.toList[base+j]?=some y->r y x=false) (hh:hint<n)
  (h:∀k,k<=n->(∀i x,i<k->a.toList[base+i]?=some x->bey r left key x=true)->(∀i x,k<=i->i<n->a.toList[base+i]?=some x->bey r left key x=false)->Q (some k) st) (hla:∀i x,i<n->a.toList[base+i]?=some x->if left=true then lat x key else lat key x:=by intros;first | trivial | (split<;>trivial)):wpS (model prog w) A E s (Xao left key a base n hint) Q st:=by
 have at_:∀i,i<n->a.toList[base+i]?=some (a.toList.getD (base+i) key):=fun i hi=>by
  have hl:base+i<a.toList.length:=by rw [AN];omega
  rw [AI,Ad hl];rfl
 refine Zuq (at_:=fun i=>a.toList.getD (base+i) key) K hk hkey (fun i hi=>⟨by rw [<- AT];exact at_ i hi,hP _ (Al (at_ i hi))⟩) (fun i j hij hj=>hs i j _ _ hij hj (at_ i (by omega)) (at_ j hj)) hh (hla:=fun i hi=>hla i _ hi (at_ i hi)) fun k h1 h2 h3=>?_;refine h k h1 (fun i x hi e=>?_) (fun i x h4 h5 e=>?_);have:=h2 i hi;rw [at_ i (by omega)] at e;cases e;exact this;have:=h3 i h4 h5;rw [at_ i h5] at e;cases e;exact this
theorem Xaf (K:Ask prog w A s κ P r lat)(hl:∀x∈l,P x)(h:Up r l)(e:l[i]?=some x)(hy:y∈l.drop i):r y x=false:=by obtain ⟨j,hj⟩:=BN.mp hy;rw [Cj] at hj;exact Zkv K hl h (CB _ _) e hj
theorem Xe [Decidable c]{x y:StateT BB Sem α}{Q:α->BB->Prop}(h1:c->wpS (model prog w) A E s x Q st)(h2:¬c->wpS (model prog w) A E s y Q st):wpS (model prog w) A E s (if c then x else y) Q st:=by by_cases h:c;rw [if_pos h];exact h1 h;rw [if_neg h];exact h2 h
theorem Zor {m:Nat}(h:¬(m==n)=true):m≠n:=fun z=>h (by rw [z];exact beq_self_eq_true _)
def StQ {β:Type}(good:Array Ay->Prop)(inv:Array Ay->Nat->Nat->Prop):ForInStep (Option (Array Ay)×Array Ay×Nat×Nat×β)->Prop
 | .done (some res,_)=>good res
 | .done (none,out,ia,ib,_)=>inv out ia ib
 | .yield (some _,_)=>False
 | .yield (none,out,ia,ib,_)=>inv out ia ib
def EndQ {β:Type}(good:Array Ay->Prop)(inv:Array Ay->Nat->Nat->Prop):Option (Array Ay)×Array Ay×Nat×Nat×β->Prop
 | (some res,_)=>good res
 | (none,out,ia,ib,_)=>inv out ia ib
theorem Zpt {Q:Array Ay->BB->Prop}(K:Ask prog w A s κ P r lat)(hk:B6 st=κ)(pa:∀x∈a.toList,P x)(pb:∀x∈b.toList,P x)(sa:Up r a.toList)(sb:Up r b.toList)(na:1<=a.size)(eb0:b[0]?=some b0)
  (h0:∀x∈a.toList,r x b0=false) (hl:∀x,a.toList[a.size - 1]?=some x->∀y∈b.toList,r x y=false)
  (h:∀out st',out.toList.Perm (a.toList++b.toList)->Up r out.toList->SG st st'->Q out st') (hab:∀x∈a.toList,∀y∈b.toList,lat y x:=by intros;first | trivial | (split<;>trivial)):wpS (model prog w) A E s (Xec a b) Q st:=by
 have la:=a.length_toList;have lb:=b.length_toList;have eb0':b.toList[0]?=some b0:=by rw [AT];exact eb0
 have nb:1<=b.size:=(GW.mp eb0).1
 let good:Array Ay->Prop:=fun out=>out.toList.Perm (a.toList++b.toList)/\Up r out.toList
 let mi:Array Ay->Nat->Nat->Prop:=fun out ia ib=>MI r a.toList b.toList out.toList ia ib
 have gB:∀{out ia ib},mi out ia ib->(a.size<=ia\/b.size<=ib)->good (out++a.extract ia a.size++b.extract ib b.size):=fun {out ia ib} m q=>by
  show (out++a.extract ia a.size++b.extract ib b.size).toList.Perm _/\Up r (out++a.extract ia a.size++b.extract ib b.size).toList;rw [BS,BS,Zhc,Zhc];refine MI.endB m sa sb fun x hx y hy=>?_;rcases q with q | q
  ·rw [BP (by omega)] at hx;cases hx
  ·rw [BP (by omega)] at hy;cases hy
 have gA:∀{out ia ib},mi out ia ib->ia+1=a.size->good (out++b.extract ib b.size++a.extract ia a.size):=fun {out ia ib} m q=>by show (out++b.extract ib b.size++a.extract ia a.size).toList.Perm _/\Up r (out++b.extract ib b.size++a.extract ia a.size).toList;rw [BS,BS,Zhc,Zhc];have e:a.toList[ia]?=some a.toList[ia]:=Ad (by omega);refine MI.endA m sa sb fun x hx y hy=>?_;rw [Zeb e,BP (by omega)] at hy;rw [Ao.mp hy];exact hl _ (by rw [show a.size - 1=ia by omega];exact e) x (BK hx)
 have m0:mi #[b0] 0 1:=by
  refine ⟨?_,DM _ _,fun x hx y hy=>?_⟩
  ·rw [E7,J9,take_snoc eb0',E7];exact CN _
  ·have e:x=b0:=Ao.mp hx;subst e;rcases hy with hy | hy
   ·exact h0 y hy
   ·obtain ⟨i,hi⟩:=BN.mp hy;rw [Cj] at hi;exact Zkv K pb sb (Dt _) eb0' hi
 have pushA:∀{out ia ib x},mi out ia ib->a.toList[ia]?=some x->(∀y∈b.toList.drop ib,r y x=false)->mi (out.push x) (ia+1) ib:=fun {out ia ib x} m e q=>by show MI r a.toList b.toList (out.push x).toList (ia+1) ib;rw [EQ];exact MI.a1 m sa e q
 have pushB:∀{out ia ib x},mi out ia ib->b.toList[ib]?=some x->(∀y∈a.toList.drop ia,r y x=false)->mi (out.push x) ia (ib+1):=fun {out ia ib x} m e q=>by show MI r a.toList b.toList (out.push x).toList ia (ib+1);rw [EQ];exact MI.b1 m sb e q
 have atA:∀i,i<a.size->∃x,a.toList[i]?=some x/\a[i]?=some x/\P x:=fun i hi=>⟨a[i],by rw [AT];exact AQ hi,AQ hi,pa _ (by simp)⟩;have atB:∀i,i<b.size->∃x,b.toList[i]?=some x/\b[i]?=some x/\P x:=fun i hi=>⟨b[i],by rw [AT];exact AQ hi,AQ hi,pb _ (by simp)⟩;refine Ak (FG (Dy ⟨rfl,?_⟩));refine Ak (Xk eb0 ?_)
 extract_lets o0 i0 j0
 by_cases c1:(j0==b.size)=true
 ·rw [if_pos c1];have q:=gB m0 (.inr (by have:1=b.size:=BA c1;omega));exact Ap (h _ _ q.1 q.2 (SG.refl _))
 rw [if_neg c1];by_cases c2:(i0+1==a.size)=true
 ·rw [if_pos c2];have q:=gA m0 (show 0+1=a.size from BA c2);exact Ap (h _ _ q.1 q.2 (SG.refl _))
 rw [if_neg c2];have c1':¬1=b.size:=fun z=>c1 (by show (1==b.size)=true;rw [<- z];rfl);have c2':¬1=a.size:=fun z=>c2 (by show (0+1==a.size)=true;rw [<- z];rfl);refine Ak (EO ?_)
 let inv:Nat->Array Ay->Nat->Nat->Prop:=fun n out ia ib=>mi out ia ib/\ia+1<a.size/\ib<b.size/\n<=ia+ib
 refine Ak (B0 (BG (I:=fun x c st'=>SG st st'/\c.1=none/\inv (x+1) c.2.1 c.2.2.1 c.2.2.2.1) (Q:=fun c st'=>SG st st'/\EndQ good (fun _ _ _=>False) c) ?step ?fin ⟨SG.refl _,rfl,m0,by show 0+1<_;omega,by show 1<_;omega,by show 0+1<=0+1;omega⟩) ?post)
 case post =>
  rintro ⟨rr,out,ia,ib,g⟩ st' ⟨sg,q⟩;cases rr with
  | none=>exact q.elim
  | some res=>exact Ap (h _ _ q.1 q.2 sg)
 case fin =>rintro ⟨rr,out,ia,ib,g⟩ st' ⟨sg,e,m,q1,q2,q3⟩;have e:rr=none:=e;subst e;exfalso;have q1:ia+1<a.size:=q1;have q2:ib<b.size:=q2;have q3:max 0 (a.size+b.size)+1<=ia+ib:=q3;omega
 case step =>
  rintro x ⟨rr,out,ia,ib,g⟩ st' _ hx ⟨sg,e,m,q1,q2,q3⟩;have e:rr=none:=e;subst e;have m:mi out ia ib:=m;have q1:ia+1<a.size:=q1;have q2:ib<b.size:=q2;have q3:x+1<=ia+ib:=q3;refine Ak (B0 (BG (I:=fun y c st''=>st''=st'/\c.1=none/\inv (x+1+y) c.2.1 c.2.2.1 c.2.2.2.1) (Q:=fun c st''=>st''=st'/\EndQ good (inv (x+2)) c) ?s1 ?f1 ⟨rfl,rfl,m,q1,q2,q3⟩) ?p1)
  case f1 =>rintro ⟨rr,out,ia,ib,g⟩ st'' ⟨e1,e,m,q1,q2,q3⟩;have e:rr=none:=e;subst e;exact ⟨e1,m,q1,q2,AC (by omega) q3⟩
  case s1 =>
   rintro y ⟨rr,out,ia,ib,ac,bc⟩ st'' _ hy ⟨e1,e,m,q1,q2,q3⟩;have e:rr=none:=e;subst e e1;have m:mi out ia ib:=m;have q1:ia+1<a.size:=q1;have q2:ib<b.size:=q2;have q3:x+1+y<=ia+ib:=q3;obtain ⟨xa,ea',ea,ha⟩:=atA ia (by omega);obtain ⟨xb,eb',eb,hb⟩:=atB ib q2;refine Ak (Xk eb ?_);refine Ak (Xk ea ?_);refine Ak (Zmk K (sg.k.trans hk) hb ha ?_ (hab xa (Al ea') xb (Al eb')));dsimp only;cases er:r xb xa with
   | true =>
    have m':=pushB m eb' (fun z hz=>K.tr hb ha (pa z (BK hz)) (K.as hb ha er) (Xaf K pa sa ea' hz));rw [if_pos rfl];refine Ak (Xk eb ?_);by_cases c3:(ib+1==b.size)=true
    ·rw [if_pos c3];exact Ap ⟨rfl,gB m' (.inr (Fb (BA c3).symm))⟩
    ·rw [if_neg c3];have c3':ib+1<b.size:=by have:¬ib+1=b.size:=fun z=>c3 (by rw [z];exact beq_self_eq_true _);omega
     by_cases c4:bc+1>=g
     ·rw [if_pos c4];exact Ap ⟨rfl,m',q1,c3',by show x+2<=ia+(ib+1);omega⟩
     ·rw [if_neg c4];exact Ap ⟨rfl,rfl,m',q1,c3',by show x+1+(y+1)<=ia+(ib+1);omega⟩
   | false =>
    have m':=pushA m ea' (fun z hz=>K.tr ha hb (pb z (BK hz)) er (Xaf K pb sb eb' hz));rw [if_neg Aj];refine Ak (Xk ea ?_);by_cases c3:(ia+1+1==a.size)=true
    ·rw [if_pos c3];exact Ap ⟨rfl,gA m' (BA c3)⟩
    ·rw [if_neg c3];have c3':ia+1+1<a.size:=by have:¬ia+1+1=a.size:=fun z=>c3 (by rw [z];exact beq_self_eq_true _);omega
     by_cases c4:ac+1>=g
     ·rw [if_pos c4];exact Ap ⟨rfl,m',c3',q2,by show x+2<=ia+1+ib;omega⟩
     ·rw [if_neg c4];exact Ap ⟨rfl,rfl,m',c3',q2,by show x+1+(y+1)<=ia+1+ib;omega⟩
  case p1 =>
   rintro ⟨rr,out,ia,ib,ac,bc⟩ st'' ⟨e1,q⟩;subst e1;cases rr with
   | some res=>exact Ap ⟨sg,q⟩
   | none =>
    obtain ⟨m,q1,q2,q3⟩:=(show inv (x+2) out ia ib from q);refine Ak (FG (Dy ⟨rfl,?_⟩));refine Ak (B0 (BG (I:=fun y c st3=>SG st st3/\c.1=none/\inv (x+2) c.2.1 c.2.2.1 c.2.2.2.1) (Q:=fun c st3=>SG st st3/\EndQ good (inv (x+2)) c) ?s2 ?f2 ⟨sg,rfl,m,q1,q2,q3⟩) ?p2)
    case f2 =>rintro ⟨rr,out,ia,ib,g⟩ st3 ⟨sg3,e,q⟩;have e:rr=none:=e;subst e;exact ⟨sg3,q⟩
    case p2 =>
     rintro ⟨rr,out,ia,ib,g,ac,bc⟩ st3 ⟨sg3,q⟩;cases rr with
     | some res=>exact Ap ⟨sg3,q⟩
     | none=>exact Ak (Zcx fun st4 sg4=>Ap ⟨sg3.trans sg4,rfl,q⟩)
    case s2 =>
     rintro y ⟨rr,out,ia,ib,g,ac,bc⟩ st3 _ hy ⟨sg3,e,m,q1,q2,q3⟩;have e:rr=none:=e;subst e;have m:mi out ia ib:=m;have q1:ia+1<a.size:=q1;have q2:ib<b.size:=q2;have q3:x+2<=ia+ib:=q3;obtain ⟨xb,eb',eb,hb⟩:=atB ib q2;refine B0 (Q:=fun rr st4=>SG st st4/\StQ good (inv (x+2)) rr) ?_ (fun rr st4 q=>?_)
     rotate_left
     ·cases rr with
      | done c =>obtain ⟨r0,c⟩:=c;cases r0<;>exact q
      | yield c =>
       obtain ⟨r0,c⟩:=c;cases r0 with
       | some _=>exact q.2.elim
       | none=>exact ⟨q.1,rfl,q.2⟩
     extract_lets v1 v2 v3 v4 v5 v6 v7 v8 v9 v10 v11 jb jp
     have hj:∀g',wpS (model prog w) A E s (jp () g') (fun rr st4=>SG st st4/\StQ good (inv (x+2)) rr) st3:=fun g'=>by
      refine Ak (Zcx fun st4 sg4=>?_);refine Ak (Xk eb ?_);refine Ak (Zfb K ((sg3.trans sg4).k.trans hk) pa hb (base:=ia) (n:=a.size - ia) (by omega) (fun i j x y hij _ e1 e2=>Zkv K pa sa (by omega) e1 e2) (by omega) (hla:=fun i x _ e=>by simpa using hab x (Al e) xb (Al eb')) fun k k1 k2 k3=>?_);dsimp -zeta -zetaHave only
      extract_lets ac2 jp2 o2 i2
      have hj2:∀out' ia',mi out' ia' ib->ia'+1<a.size->ia<=ia'->(∀y∈a.toList.drop ia',r y xb=false)->wpS (model prog w) A E s (jp2 () out' ia') (fun rr st4=>SG st st4/\StQ good (inv (x+2)) rr) st4:=fun out' ia' m' g1 g2 g3=>by
       have m2:=pushB m' eb' g3;refine Ak (Xk eb ?_);refine Xe (fun c5=>?_) (fun c5=>?_)
       ·exact Ap ⟨sg3.trans sg4,gB m2 (.inr (Fb (BA c5).symm))⟩
       ·have c5':ib+1≠b.size:=Zor c5;obtain ⟨xa,ea',ea,ha⟩:=atA ia' (by omega);refine Ak (Xk ea ?_);refine Ak (Zfb K ((sg3.trans sg4).k.trans hk) pb ha (base:=ib+1) (n:=b.size - (ib+1)) (by omega) (fun i j x y hij _ e1 e2=>Zkv K pb sb (by omega) e1 e2) (by omega) (hla:=fun i x _ e=>by simpa using hab xa (Al ea') x (Al e)) fun k' k1' k2' k3'=>?_);dsimp -zeta -zetaHave only
        extract_lets bc2 i4 jp3 o3 i3
        have hj3:∀out'' ib'',mi out'' ia' ib''->ib''<b.size->ib+1<=ib''->(∀y∈b.toList.drop ib'',r y xa=false)->wpS (model prog w) A E s (jp3 () out'' ib'') (fun rr st4=>SG st st4/\StQ good (inv (x+2)) rr) st4:=fun out'' ib'' m'' f1 f2 f3=>by
         have m3:=pushA m'' ea' f3;refine Ak (Xk ea ?_);refine Xe (fun c6=>?_) (fun c6=>?_)
         ·exact Ap ⟨sg3.trans sg4,gA m3 (BA c6)⟩
         ·have c6':ia'+1+1≠a.size:=Zor c6;have iv:inv (x+2) (out''.push xa) (ia'+1) ib'':=⟨m3,by omega,f1,by omega⟩;exact Xe (fun _=>Ap ⟨sg3.trans sg4,iv⟩) (fun _=>Ap ⟨sg3.trans sg4,iv⟩)
        have rest:∀k0,k'<=k0->∀y∈b.toList.drop (ib+1+k0),r y xa=false:=fun k0 hk0 y hy=>by obtain ⟨j,hj⟩:=BN.mp hy;rw [Cj] at hj;have hjl:=(Ag.mp hj).1;have:=k3' (k0+j) y (by omega) (by omega) (by rw [<- FW];exact hj);exact this
        refine Xe (fun c6=>?_) (fun c6=>?_)
        ·have m3:mi (out'.push xb++b.extract (ib+1) (ib+1+k')) ia' (ib+1+k'):=by show MI r _ _ (out'.push xb++b.extract (ib+1) (ib+1+k')).toList ia' (ib+1+k');rw [BS,Zqs];refine MI.bk m2 sb k' (by omega) fun i hi z hz y hy=>?_;have hb1:r z xa=true:=k2' i z hi hz;have pz:=pb z (Al hz);exact K.tr pz ha (pa y (BK hy)) (K.as pz ha hb1) (Xaf K pa sa ea' hy)
         refine Xe (fun c7=>?_) (fun c7=>?_)
         ·exact Ap ⟨sg3.trans sg4,gB m3 (.inr (Fb (BA c7).symm))⟩
         ·have c7':ib+1+k'≠b.size:=Zor c7;exact hj3 (out'.push xb++b.extract (ib+1) (ib+1+k')) (ib+1+k') m3 (by omega) (by omega) (rest k' (Ax _))
        ·have:k'=0:=by omega
         exact hj3 (out'.push xb) (ib+1) m2 (by omega) (Ax _) (fun y hy=>rest 0 (by omega) y hy)
      have rest:∀k0,k<=k0->∀y∈a.toList.drop (ia+k0),r y xb=false:=fun k0 hk0 y hy=>by
       obtain ⟨j,hj⟩:=BN.mp hy;rw [Cj] at hj;have hjl:=(Ag.mp hj).1;have q:bey r false xb y=false:=k3 (k0+j) y (by omega) (by omega) (by rw [<- FW];exact hj);have q:r xb y=true:=by simpa [bey] using q
       exact K.as hb (pa y (Al hj)) q
      refine Xe (fun c6=>?_) (fun c6=>?_)
      ·have m3:mi (out++a.extract ia (ia+k)) (ia+k) ib:=by
        show MI r _ _ (out++a.extract ia (ia+k)).toList (ia+k) ib;rw [BS,Zqs];refine MI.ak m sa k (by omega) fun i hi z hz y hy=>?_;have q:bey r false xb z=true:=k2 i z hi hz;have q:r xb z=false:=by simpa [bey] using q
        exact K.tr (pa z (Al hz)) hb (pb y (BK hy)) q (Xaf K pb sb eb' hy)
       refine Xe (fun c7=>?_) (fun c7=>?_)
       ·exact Ap ⟨sg3.trans sg4,gA m3 (BA c7)⟩
       ·refine Xe (fun c8=>?_) (fun c8=>?_)
        ·exact Ap ⟨sg3.trans sg4,gB m3 (.inl (Fb (BA c8).symm))⟩
        ·have c7':ia+k+1≠a.size:=Zor c7;have c8':ia+k≠a.size:=Zor c8;exact hj2 (out++a.extract ia (ia+k)) (ia+k) m3 (by omega) (by omega) (rest k (Ax _))
      ·exact hj2 out ia m q1 (Ax _) (fun y hy=>rest 0 (by omega) y hy)
     exact Xe (fun _=>hj _) (fun _=>hj _)
theorem Zgs (a:Array Ay)(i:Nat):(a.extract 0 i).toList=a.toList.take i:=by simp [Dv]
theorem Zyw (a:Array Ay)(i j:Nat):(a.extract i j).toList=(a.toList.drop i).take (j - i):=by simp [Dv]
theorem Xbl (K:Ask prog w A s κ P r lat)(hl:∀x∈l,P x)(h:Up r l)(e:l[i]?=some x)(hy:y∈l.take (i+1)):r x y=false:=by obtain ⟨j,hj⟩:=BN.mp hy;have hlt:=(Ag.mp hj).1;rw [B9] at hlt;rw [Eg,if_pos (by omega)] at hj;exact Zkv K hl h (show j<=i by omega) hj e
theorem Zbv (hy:y∈l.take k):∃j,j<k/\l[j]?=some y:=by obtain ⟨j,hj⟩:=BN.mp hy;have hlt:=(Ag.mp hj).1;rw [B9] at hlt;rw [Eg,if_pos (by omega)] at hj;exact ⟨j,by omega,hj⟩
def StR {β:Type}(good:Array Ay->Prop)(inv:Array Ay->Nat->Nat->Prop):ForInStep (Option (Array Ay)×Nat×Nat×Array Ay×β)->Prop
 | .done (some res,_)=>good res
 | .done (none,na,nb,out,_)=>inv out na nb
 | .yield (some _,_)=>False
 | .yield (none,na,nb,out,_)=>inv out na nb
def EndR {β:Type}(good:Array Ay->Prop)(inv:Array Ay->Nat->Nat->Prop):Option (Array Ay)×Nat×Nat×Array Ay×β->Prop
 | (some res,_)=>good res
 | (none,na,nb,out,_)=>inv out na nb
theorem Zqr {al:Ay}{Q:Array Ay->BB->Prop}(K:Ask prog w A s κ P r lat)(hk:B6 st=κ)(pa:∀x∈a.toList,P x)(pb:∀x∈b.toList,P x)(sa:Up r a.toList)(sb:Up r b.toList)(na0:1<=a.size)(eb0:b[0]?=some b0)
  (h0:∀x∈a.toList,r x b0=false) (el:a[a.size - 1]?=some al) (hl:∀y∈b.toList,r al y=false)
  (h:∀out st',out.toList.Perm (a.toList++b.toList)->Up r out.toList->SG st st'->Q out st') (hab:∀x∈a.toList,∀y∈b.toList,lat y x:=by intros;first | trivial | (split<;>trivial)):wpS (model prog w) A E s (Xfl a b) Q st:=by
 have la:=a.length_toList;have lb:=b.length_toList;have eb0':b.toList[0]?=some b0:=by rw [AT];exact eb0
 have el':a.toList[a.size - 1]?=some al:=by rw [AT];exact el
 have nb0:1<=b.size:=(GW.mp eb0).1
 let good:Array Ay->Prop:=fun out=>out.toList.Perm (a.toList++b.toList)/\Up r out.toList
 let mj:Array Ay->Nat->Nat->Prop:=fun out na nb=>MJ r a.toList b.toList out.toList.reverse na nb
 have gA:∀{out na nb},mj out na nb->(na=0\/nb=0)->good (a.extract 0 na++b.extract 0 nb++out.reverse):=fun {out na nb} m q=>by
  show (a.extract 0 na++b.extract 0 nb++out.reverse).toList.Perm _/\Up r (a.extract 0 na++b.extract 0 nb++out.reverse).toList;rw [BS,BS,Zgs,Zgs,EJ];refine MJ.endA m sa sb fun x hx y hy=>?_;rcases q with q | q
  ·rw [q] at hx;cases hx
  ·rw [q] at hy;cases hy
 have gB:∀{out na nb},mj out na nb->nb=1->good (b.extract 0 nb++a.extract 0 na++out.reverse):=fun {out na nb} m q=>by show (b.extract 0 nb++a.extract 0 na++out.reverse).toList.Perm _/\Up r (b.extract 0 nb++a.extract 0 na++out.reverse).toList;rw [BS,BS,Zgs,Zgs,EJ];refine MJ.endB m sa sb fun x hx y hy=>?_;rw [q,take_snoc eb0',E7] at hx;rw [Ao.mp hx];exact h0 y (Bq hy)
 have pushA:∀{out na nb x},mj out (na+1) nb->a.toList[na]?=some x->(∀y∈b.toList.take nb,r x y=false)->mj (out.push x) na nb:=fun {out na nb x} m e q=>by show MJ r a.toList b.toList (out.push x).toList.reverse na nb;rw [EQ,Eb];exact MJ.a1 m sa e q
 have pushB:∀{out na nb x},mj out na (nb+1)->b.toList[nb]?=some x->(∀y∈a.toList.take na,r x y=false)->mj (out.push x) na nb:=fun {out na nb x} m e q=>by show MJ r a.toList b.toList (out.push x).toList.reverse na nb;rw [EQ,Eb];exact MJ.b1 m sb e q
 have atA:∀i,i<a.size->∃x,a.toList[i]?=some x/\a[i]?=some x/\P x:=fun i hi=>⟨a[i],by rw [AT];exact AQ hi,AQ hi,pa _ (by simp)⟩;have atB:∀i,i<b.size->∃x,b.toList[i]?=some x/\b[i]?=some x/\P x:=fun i hi=>⟨b[i],by rw [AT];exact AQ hi,AQ hi,pb _ (by simp)⟩;have m0:mj #[al] (a.size - 1) b.size:=by have m:MJ r a.toList b.toList [] (a.size - 1+1) b.size:=⟨by rw [BP (by omega),BP (by omega)];exact CN _,Dw,fun _ hx=>nomatch hx⟩;exact pushA (out:=#[]) m el' fun y hy=>hl y (Bq hy)
 refine Ak (FG (Dy ⟨rfl,?_⟩));refine Ak (Xk el ?_)
 extract_lets o0
 refine Xe (fun c1=>?_) (fun c1=>?_)
 ·have q:=gA m0 (.inl (BA c1));exact Ap (h _ _ q.1 q.2 (SG.refl _))
 have c1':a.size - 1≠0:=Zor c1;refine Xe (fun c2=>?_) (fun c2=>?_)
 ·have q:=gB m0 (BA c2);exact Ap (h _ _ q.1 q.2 (SG.refl _))
 have c2':b.size≠1:=Zor c2;refine Ak (EO ?_)
 let inv:Nat->Array Ay->Nat->Nat->Prop:=fun n out na nb=>mj out na nb/\1<=na/\2<=nb/\na+nb+n<=a.size+b.size/\na<=a.size/\nb<=b.size
 refine Ak (B0 (BG (I:=fun x c st'=>SG st st'/\c.1=none/\inv (x+1) c.2.2.2.1 c.2.1 c.2.2.1) (Q:=fun c st'=>SG st st'/\EndR good (fun _ _ _=>False) c) ?step ?fin ⟨SG.refl _,rfl,m0,by show 1<=a.size - 1;omega,by show 2<=b.size;omega,by show a.size - 1+b.size+(0+1)<=a.size+b.size;omega,Nat.sub_le _ _,Ax _⟩) ?post)
 case post =>
  rintro ⟨rr,na,nb,out,g⟩ st' ⟨sg,q⟩;cases rr with
  | none=>exact q.elim
  | some res=>exact Ap (h _ _ q.1 q.2 sg)
 case fin =>rintro ⟨rr,na,nb,out,g⟩ st' ⟨sg,e,m,q1,q2,q3,_⟩;exfalso;have q1:1<=na:=q1;have q2:2<=nb:=q2;have q3:na+nb+(max 0 (a.size+b.size)+1)<=a.size+b.size:=q3;omega
 case step =>
  rintro x ⟨rr,na,nb,out,g⟩ st' _ hx ⟨sg,e,iv⟩;have e:rr=none:=e;subst e;have iv:inv (x+1) out na nb:=iv;refine Ak (B0 (BG (I:=fun y c st''=>st''=st'/\c.1=none/\inv (x+1+y) c.2.2.2.1 c.2.1 c.2.2.1) (Q:=fun c st''=>st''=st'/\EndR good (inv (x+2)) c) ?s1 ?f1 ⟨rfl,rfl,iv⟩) ?p1)
  case f1 =>rintro ⟨rr,na,nb,out,g⟩ st'' ⟨e1,e,m,q1,q2,q3,q4,q5⟩;have e:rr=none:=e;subst e;exact ⟨e1,m,q1,q2,AC (by have hx':x<a.size+b.size:=hx;show na+nb+(x+2)<=na+nb+(x+1+max 0 (a.size+b.size));omega) q3,q4,q5⟩
  case s1 =>
   rintro y ⟨rr,na,nb,out,ac,bc⟩ st'' _ hy ⟨e1,e,m,q1,q2,q3,q4,q5⟩;have e:rr=none:=e;subst e e1;have m:mj out na nb:=m;have q1:1<=na:=q1;have q2:2<=nb:=q2;have q3:na+nb+(x+1+y)<=a.size+b.size:=q3;have q4:na<=a.size:=q4;have q5:nb<=b.size:=q5;obtain ⟨n1,rfl⟩:∃n1,na=n1+1:=⟨na - 1,by omega⟩;obtain ⟨n2,rfl⟩:∃n2,nb=n2+1:=⟨nb - 1,by omega⟩;obtain ⟨xa,ea',ea,ha⟩:=atA n1 (by omega);obtain ⟨xb,eb',eb,hb⟩:=atB n2 (by omega);refine Ak (Xk eb ?_);refine Ak (Xk ea ?_);refine Ak (Zmk K (sg.k.trans hk) hb ha ?_ (hab xa (Al ea') xb (Al eb')));dsimp only;cases er:r xb xa with
   | true =>
    have m':=pushA m ea' (fun z hz=>K.tr (pb z (Bq hz)) hb ha (Xbl K pb sb eb' hz) (K.as hb ha er));rw [if_pos rfl];refine Ak (Xk ea ?_);refine Xe (fun c3=>?_) (fun c3=>?_)
    ·exact Ap ⟨rfl,gA m' (.inl (BA c3))⟩
    ·have c3':n1≠0:=Zor c3;refine Xe (fun c4=>?_) (fun c4=>?_)
     ·exact Ap ⟨rfl,m',by show 1<=n1;omega,q2,by show n1+(n2+1)+(x+2)<=_;omega,by show n1<=_;omega,q5⟩
     ·exact Ap ⟨rfl,rfl,m',by show 1<=n1;omega,q2,by show n1+(n2+1)+(x+1+(y+1))<=_;omega,by show n1<=_;omega,q5⟩
   | false =>
    have m':=pushB m eb' (fun z hz=>K.tr (pa z (Bq hz)) ha hb (Xbl K pa sa ea' hz) er);rw [if_neg Aj];refine Ak (Xk eb ?_);refine Xe (fun c3=>?_) (fun c3=>?_)
    ·exact Ap ⟨rfl,gB m' (BA c3)⟩
    ·have c3':n2≠1:=Zor c3;refine Xe (fun c4=>?_) (fun c4=>?_)
     ·exact Ap ⟨rfl,m',q1,by show 2<=n2;omega,by show n1+1+n2+(x+2)<=_;omega,q4,by show n2<=_;omega⟩
     ·exact Ap ⟨rfl,rfl,m',q1,by show 2<=n2;omega,by show n1+1+n2+(x+1+(y+1))<=_;omega,q4,by show n2<=_;omega⟩
  case p1 =>
   rintro ⟨rr,na,nb,out,ac,bc⟩ st'' ⟨e1,q⟩;subst e1;cases rr with
   | some res=>exact Ap ⟨sg,q⟩
   | none =>
    have iv:=(show inv (x+2) out na nb from q);refine Ak (FG (Dy ⟨rfl,?_⟩));refine Ak (B0 (BG (I:=fun y c st3=>SG st st3/\c.1=none/\inv (x+2) c.2.2.2.1 c.2.1 c.2.2.1) (Q:=fun c st3=>SG st st3/\EndR good (inv (x+2)) c) ?s2 ?f2 ⟨sg,rfl,iv⟩) ?p2)
    case f2 =>rintro ⟨rr,na,nb,out,g⟩ st3 ⟨sg3,e,q⟩;have e:rr=none:=e;subst e;exact ⟨sg3,q⟩
    case p2 =>
     rintro ⟨rr,na,nb,out,g,ac,bc⟩ st3 ⟨sg3,q⟩;cases rr with
     | some res=>exact Ap ⟨sg3,q⟩
     | none=>exact Ak (Zcx fun st4 sg4=>Ap ⟨sg3.trans sg4,rfl,q⟩)
    case s2 =>
     rintro y ⟨rr,na,nb,out,g,ac,bc⟩ st3 _ hy ⟨sg3,e,m,q1,q2,q3,q4,q5⟩;have e:rr=none:=e;subst e;have m:mj out na nb:=m;have q1:1<=na:=q1;have q2:2<=nb:=q2;have q3:na+nb+(x+2)<=a.size+b.size:=q3;have q4:na<=a.size:=q4;have q5:nb<=b.size:=q5;obtain ⟨n2,rfl⟩:∃n2,nb=n2+1:=⟨nb - 1,by omega⟩;obtain ⟨xb,eb',eb,hb⟩:=atB n2 (by omega);refine B0 (Q:=fun rr st4=>SG st st4/\StR good (inv (x+2)) rr) ?_ (fun rr st4 q=>?_)
     rotate_left
     ·cases rr with
      | done c =>obtain ⟨r0,c⟩:=c;cases r0<;>exact q
      | yield c =>
       obtain ⟨r0,c⟩:=c;cases r0 with
       | some _=>exact q.2.elim
       | none=>exact ⟨q.1,rfl,q.2⟩
     extract_lets v1 v2 v3 v4 v5 v6 v7 v8 v9 v10 v11 jb jp
     have hj:∀g',wpS (model prog w) A E s (jp () g') (fun rr st4=>SG st st4/\StR good (inv (x+2)) rr) st3:=fun g'=>by
      refine Ak (Zcx fun st4 sg4=>?_);have sg5:=sg3.trans sg4;refine Ak (Xk eb ?_);refine Ak (Zfb K (sg5.k.trans hk) pa hb (base:=0) (n:=na) (by omega) (fun i j x y hij _ e1 e2=>Zkv K pa sa (by omega) e1 e2) (by show na - 1<na;omega) (hla:=fun i x _ e=>by simpa using hab x (Al e) xb (Al eb')) fun k k1 k2 k3=>?_);dsimp -zeta -zetaHave only
      extract_lets kk ac2 jp2 o2 i2
      have lo:∀y∈a.toList.take k,r xb y=false:=fun y hy=>by obtain ⟨j,hj,e⟩:=Zbv hy;have q:bey r false xb y=true:=k2 j y hj (by rw [EG];exact e);simpa [bey] using q
      have hj2:∀na' out',mj out' na' (n2+1)->1<=na'->na'<=na->(∀y∈a.toList.take na',r xb y=false)->wpS (model prog w) A E s (jp2 () na' out') (fun rr st4=>SG st st4/\StR good (inv (x+2)) rr) st4:=fun na' out' m' g1 g2 g3=>by
       have m2:=pushB m' eb' g3;refine Ak (Xk eb ?_);refine Xe (fun c5=>?_) (fun c5=>?_)
       ·exact Ap ⟨sg5,gB m2 (BA c5)⟩
       ·have c5':n2≠1:=Zor c5;obtain ⟨n1,rfl⟩:∃n1,na'=n1+1:=⟨na' - 1,by omega⟩;obtain ⟨xa,ea',ea,ha⟩:=atA n1 (by omega);refine Ak (Xk ea ?_);refine Ak (Zfb K (sg5.k.trans hk) pb ha (base:=0) (n:=n2) (by omega) (fun i j x y hij _ e1 e2=>Zkv K pb sb (by omega) e1 e2) (by show n2 - 1<n2;omega) (hla:=fun i x _ e=>by simpa using hab xa (Al ea') x (Al e)) fun k' k1' k2' k3'=>?_);dsimp -zeta -zetaHave only
        extract_lets kk2 bc2 n4 jp3 o3 i3
        have lo':∀y∈b.toList.take k',r xa y=false:=fun y hy=>by obtain ⟨j,hj,e⟩:=Zbv hy;have q:r y xa=true:=k2' j y hj (by rw [EG];exact e);exact K.as (pb y (Al e)) ha q
        have hj3:∀nb'' out'',mj out'' (n1+1) nb''->2<=nb''->nb''<=n2->(∀y∈b.toList.take nb'',r xa y=false)->wpS (model prog w) A E s (jp3 () nb'' out'') (fun rr st4=>SG st st4/\StR good (inv (x+2)) rr) st4:=fun nb'' out'' m'' f1 f2 f3=>by
         have m3:=pushA m'' ea' f3;refine Ak (Xk ea ?_);refine Xe (fun c6=>?_) (fun c6=>?_)
         ·exact Ap ⟨sg5,gA m3 (.inl (BA c6))⟩
         ·have c6':n1≠0:=Zor c6;have iv:inv (x+2) (out''.push xa) n1 nb'':=⟨m3,by omega,f1,by omega,by omega,by omega⟩;exact Xe (fun _=>Ap ⟨sg5,iv⟩) (fun _=>Ap ⟨sg5,iv⟩)
        refine Xe (fun c6=>?_) (fun c6=>?_)
        ·have m3:mj (out'.push xb++(b.extract k' n2).reverse) (n1+1) k':=by
          show MJ r _ _ (out'.push xb++(b.extract k' n2).reverse).toList.reverse (n1+1) k';rw [BS,Eb,EJ,Ff,Zyw];have:=MJ.bk m2 sb (by omega) (n2 - k') (by omega) fun i hi1 hi2 z hz y hy=>by have q:r z xa=false:=k3' i z (by omega) hi2 (by rw [EG];exact hz);exact K.tr (pa y (Bq hy)) ha (pb z (Al hz)) (Xbl K pa sa ea' hy) q
          rw [show n2 - (n2 - k')=k' by omega] at this;exact this
         refine Xe (fun c7=>?_) (fun c7=>?_)
         ·exact Ap ⟨sg5,gB m3 (BA c7)⟩
         ·refine Xe (fun c8=>?_) (fun c8=>?_)
          ·exact Ap ⟨sg5,gA m3 (.inr (BA c8))⟩
          ·have c7':k'≠1:=Zor c7;have c8':k'≠0:=Zor c8;exact hj3 k' (out'.push xb++(b.extract k' n2).reverse) m3 (by omega) k1' lo'
        ·have c6':¬n2 - k' > 0:=c6;have e:k'=n2:=by omega
         subst e;exact hj3 k' (out'.push xb) m2 (by omega) (Ax _) lo'
      refine Xe (fun c6=>?_) (fun c6=>?_)
      ·have m3:mj (out++(a.extract k na).reverse) k (n2+1):=by
        show MJ r _ _ (out++(a.extract k na).reverse).toList.reverse k (n2+1);rw [BS,Eb,EJ,Ff,Zyw];have:=MJ.ak m sa (by omega) (na - k) (by omega) fun i hi1 hi2 z hz y hy=>by
         have q:bey r false xb z=false:=k3 i z (by omega) hi2 (by rw [EG];exact hz);have q:r xb z=true:=by simpa [bey] using q
         have pz:=pa z (Al hz);exact K.tr (pb y (Bq hy)) hb pz (Xbl K pb sb eb' hy) (K.as hb pz q)
        rw [show na - (na - k)=k by omega] at this;exact this
       refine Xe (fun c7=>?_) (fun c7=>?_)
       ·exact Ap ⟨sg5,gA m3 (.inl (BA c7))⟩
       ·have c7':k≠0:=Zor c7;exact hj2 k (out++(a.extract k na).reverse) m3 (by omega) k1 lo
      ·have c6':¬na - k > 0:=c6;have e:k=na:=by omega
       subst e;exact hj2 k out m q1 (Ax _) lo
     exact Xe (fun _=>hj _) (fun _=>hj _)
theorem seg_at {A X B:List α}(hi:i<X.length):(A++X++B)[A.length+i]?=X[i]?:=by rw [AD,AR (CB _ _),Hu,AH hi]
theorem Zro:∀(M:List α) (a:Array α) (base k:Nat),base+k+M.length<=a.size->((M.zipIdx k).foldl (fun a p=>a.setIfInBounds (base+p.2) p.1) a).toList=a.toList.take (base+k)++M++a.toList.drop (base+k+M.length)
 | [],a,base,k,h=>by simp
 | x::M,a,base,k,h=>by
  rw [AX] at h;have ih:=Zro M (a.setIfInBounds (base+k) x) base (k+1) (by rw [Array.size_setIfInBounds];omega);have hl:base+k<a.toList.length:=by rw [AN];omega
  rw [Gm,DT,ih,GV,AX];rw [List.take_set,List.drop_set_of_lt (by omega),show base+(k+1)=base+k+1 by omega,FX,Ad hl,show base+k+1+M.length=base+k+(M.length+1) by omega];have ht:(a.toList.take (base+k)).length=base+k:=ES (HA hl);rw [CF _ _ (Fb ht),ht,Ek];simp
theorem Xpa {x:BB}{Q:PUnit->BB->Prop}(h:Q ⟨⟩ x):wpS (model prog w) A E s (set x:StateT BB Sem PUnit) Q st:=by unfold wpS;rw [StateT.run_set];exact Ac ⟨rfl,h⟩
theorem Zqj {sa pw q:Nat}{L B:List Ay}{Q:Bool->BB->Prop}(K:Ask prog w A s κ P r lat)(hk:B6 st=κ)(hf:CS st=none)(hp1:(A6 st)[i]?=some (sa,na,pw))(hp2:(A6 st)[i+1]?=some (sa+na,nb,q))
    (hl:(Aq st).toList=L++X++Y++B) (lA:L.length=sa) (lX:X.length=na) (lY:Y.length=nb) (nX:1<=na) (nY:1<=nb) (hP:∀x∈(Aq st).toList,P x) (uX:Up r X) (uY:Up r Y)
    (h:∀M st',M.Perm (X++Y)->Up r M->(Aq st').toList=L++M++B->B6 st'=κ->CS st'=none->A6 st'=((A6 st).setIfInBounds i (sa,na+nb,pw)).eraseIdxIfInBounds (i+1)->Q true st') (hab:∀x∈X,∀y∈Y,lat y x:=by intros;first | trivial | (split<;>trivial)) :
    wpS (model prog w) A E s (LD i) Q st:=by
  have hsz:(Aq st).size=sa+na+nb+B.length:=by rw [<- AN,hl];simp only [Ai];omega
  have pX:∀x∈X,P x:=fun x hx=>hP x (by rw [hl];simp [hx]);have pY:∀x∈Y,P x:=fun x hx=>hP x (by rw [hl];simp [hx]);have eX:∀j,j<na->(Aq st).toList[sa+j]?=X[j]?:=fun j hj=>by rw [hl,<- lA,AD];exact seg_at (by omega)
  have eY:∀j,j<nb->(Aq st).toList[sa+na+j]?=Y[j]?:=fun j hj=>by have:=seg_at (A:=L++X) (X:=Y) (B:=B) (i:=j) (by omega);rw [Ai,lA,lX] at this;rw [hl];exact this
  obtain ⟨y0,ey0⟩:∃y,Y[0]?=some y:=⟨Y[0],Ad (by omega)⟩;obtain ⟨xl,exl⟩:∃x,X[na - 1]?=some x:=⟨X[na - 1],Ad (by omega)⟩;have hy0:=pY _ (Al ey0);have hxl:=pX _ (Al exl);have ey0':(Aq st)[sa+na]?=some y0:=by rw [<- AT];exact (eY 0 (by omega)).trans ey0
  refine Ak (EO ?_);simp only [hp1,hp2];refine Ak (Xpa ?_);refine Ak (Xk ey0' ?_);have hb1:sa+na<=(Aq st).size:=by omega
  have hb2:sa+na+nb<=(Aq st).size:=by omega
  refine Ak (Zfb K hk hP hy0 (base:=sa) (n:=na) hb1 (fun i j x y hij hj e1 e2=>?_) (by omega) (hla:=fun i x hi e=>by rw [eX i hi] at e;simpa using hab x (Al e) y0 (Al ey0)) fun k k1 k2 k3=>?_);rw [eX i (by omega)] at e1;rw [eX j hj] at e2;exact Zkv K pX uX hij e1 e2;have lo1:∀x∈X.take k,r y0 x=false:=fun x hx=>by obtain ⟨j,hj,e⟩:=Zbv hx;have q:bey r false y0 x=true:=k2 j x hj (by rw [eX j (by omega)];exact e);simpa [bey] using q
  have hi1:∀x∈X.drop k,r x y0=false:=fun x hx=>by
    obtain ⟨j,hj⟩:=BN.mp hx;rw [Cj] at hj;have hjl:=(Ag.mp hj).1;have q:bey r false y0 x=false:=k3 (k+j) x (by omega) (by omega) (by rw [eX (k+j) (by omega)];exact hj);have q:r y0 x=true:=by simpa [bey] using q
    exact K.as hy0 (pX x (Al hj)) q
  have geY:∀y∈Y,r y y0=false:=fun y hy=>Xaf K pY uY ey0 (by rw [Fc];exact hy);have leX:∀x∈X,r xl x=false:=fun x hx=>Xbl K pX uX exl (by rw [show na - 1+1=X.length by omega,JF];exact hx);dsimp only;refine Xe (fun c1=>?_) (fun c1=>?_)
  ·
    have c1':na - k=0:=BA c1;refine Ap (h (X++Y) _ (CN _) (A7.mpr ⟨uX,uY,fun x hx y hy=>?_⟩) (by rw [<- AD];exact hl) hk hf rfl);exact K.tr (pX x hx) hy0 (pY y hy) (lo1 x (by rw [B5 (by omega)];exact hx)) (geY y hy)
  have c1':na - k≠0:=Zor c1;have exl':(Aq st)[sa+k+(na - k) - 1]?=some xl:=by rw [<- AT,show sa+k+(na - k) - 1=sa+(na - 1) by omega,eX (na - 1) (by omega)];exact exl
  refine Ak (Xk exl' ?_);refine Ak (Zfb K hk hP hxl (base:=sa+na) (n:=nb) hb2 (fun i j x y hij hj e1 e2=>?_) (by omega) (hla:=fun i x hi e=>by rw [eY i hi] at e;simpa using hab xl (Al exl) x (Al e)) fun m m1 m2 m3=>?_);rw [eY i (by omega)] at e1;rw [eY j hj] at e2;exact Zkv K pY uY hij e1 e2;have lo2:∀y∈Y.take m,r xl y=false:=fun y hy=>by obtain ⟨j,hj,e⟩:=Zbv hy;have q:r y xl=true:=m2 j y hj (by rw [eY j (by omega)];exact e);exact K.as (pY y (Al e)) hxl q
  have hi2:∀y∈Y.drop m,r y xl=false:=fun y hy=>by obtain ⟨j,hj⟩:=BN.mp hy;rw [Cj] at hj;have hjl:=(Ag.mp hj).1;exact m3 (m+j) y (by omega) (by omega) (by rw [eY (m+j) (by omega)];exact hj)
  dsimp only;refine Xe (fun c2=>?_) (fun c2=>?_);have c2':m=0:=BA c2;refine Ap (h (X++Y) _ (CN _) (A7.mpr ⟨uX,uY,fun x hx y hy=>?_⟩) (by rw [<- AD];exact hl) hk hf rfl);exact K.tr (pX x hx) hxl (pY y hy) (leX x hx) (hi2 y (by rw [c2',Fc];exact hy));have c2':m≠0:=Zor c2;have tX:((Aq st).extract (sa+k) (sa+na)).toList=X.drop k:=by rw [Zyw,hl,AD,AD,<- lA,<- Kg,GZ,GB (by omega),D5 (by rw [DV];omega),B5 (by rw [DV];omega)]
  have tY:((Aq st).extract (sa+na) (sa+na+m)).toList=Y.take m:=by rw [Zqs,hl,AD (L++X),show sa+na=(L++X).length by rw [Ai];omega,GZ,D5 (by omega)]
  have fin:∀(out:Array Ay) (st':BB),out.toList.Perm (X.drop k++Y.take m)->Up r out.toList->B6 st'=κ->CS st'=none->Aq st'=Aq st->A6 st'=((A6 st).setIfInBounds i (sa,na+nb,pw)).eraseIdxIfInBounds (i+1)->
      wpS (model prog w) A E s (do
        modify fun s=>IK s (out.toList.zipIdx.foldl (fun a p=>a.setIfInBounds (sa+k+p.2) p.1) (Aq s))
        pure (CS (<- get)).isNone) Q st':=fun out st' hpm hup hk' hf' ha' hp'=>by
    have hol:out.toList.length=na - k+m:=by rw [hpm.length_eq,Ai,DV,B9];omega
    refine Ak (Gs (Ak (EO (Ap ?_))));show Q (CS st').isNone _;rw [hf'];refine h (X.take k++out.toList++Y.drop m) _ ?_ ?_ ?_ hk' hf' hp';have h1:(X.take k++out.toList++Y.drop m).Perm (X.take k++(X.drop k++Y.take m)++Y.drop m):=(hpm.append_left _).append_right _;refine h1.trans ?_;rw [<- AD,BM,AD,BM];have mem:∀z∈out.toList,z∈X.drop k\/z∈Y.take m:=fun z hz=>Au.mp (hpm.mem_iff.mp hz);refine A7.mpr ⟨A7.mpr ⟨uX.take k,hup,fun x hx z hz=>?_⟩,uY.drop m,fun x hx y hy=>?_⟩;rcases mem z hz with q | q;exact (A7.mp (by rw [BM];exact uX:Up r (X.take k++X.drop k))).2.2 x hx z q;exact K.tr (pX x (Bq hx)) hy0 (pY z (Bq q)) (lo1 x hx) (geY z (Bq q));rcases Au.mp hx with hx | hx;exact K.tr (pX x (Bq hx)) hxl (pY y (BK hy)) (leX x (Bq hx)) (hi2 y hy);rcases mem x hx with q | q;exact K.tr (pX x (BK q)) hxl (pY y (BK hy)) (leX x (BK q)) (hi2 y hy);exact (A7.mp (by rw [BM];exact uY:Up r (Y.take m++Y.drop m))).2.2 x q y hy;show ((out.toList.zipIdx 0).foldl (fun a p=>a.setIfInBounds (sa+k+p.2) p.1) (Aq st')).toList=_;rw [ha',Zro _ _ _ _ (by rw [hol];omega),hol,Nat.add_zero,hl];have e1:(L++X++Y++B).take (sa+k)=L++X.take k:=by rw [AD,AD,<- lA,List.take_append,B5 (CB _ _),Hu,D5 (by omega)]
    have e2:(L++X++Y++B).drop (sa+k+(na - k+m))=Y.drop m++B:=by rw [AD (L++X),show sa+k+(na - k+m)=(L++X).length+m by rw [Ai];omega,<- Kg,GZ,GB (by omega)]
    rw [e1,e2];simp only [AD]
  have p2:∀x∈((Aq st).extract (sa+k) (sa+na)).toList,P x:=fun x hx=>pX x (BK (tX▸hx));have p3:∀x∈((Aq st).extract (sa+na) (sa+na+m)).toList,P x:=fun x hx=>pY x (Bq (tY▸hx));have sz2:((Aq st).extract (sa+k) (sa+na)).size=na - k:=by rw [<- AN,tX,DV];omega
  have u2:Up r ((Aq st).extract (sa+k) (sa+na)).toList:=by rw [tX];exact uX.drop k
  have u3:Up r ((Aq st).extract (sa+na) (sa+na+m)).toList:=by rw [tY];exact uY.take m
  have g0:((Aq st).extract (sa+na) (sa+na+m))[0]?=some y0:=by rw [<- AT,tY,Eg,if_pos (by omega)];exact ey0
  have g1:∀x∈((Aq st).extract (sa+k) (sa+na)).toList,r x y0=false:=fun x hx=>hi1 x (tX▸hx);have g2:((Aq st).extract (sa+k) (sa+na)).toList[((Aq st).extract (sa+k) (sa+na)).size - 1]?=some xl:=by rw [sz2,tX,Cj,show k+(na - k - 1)=na - 1 by omega];exact exl
  have g3:∀y∈((Aq st).extract (sa+na) (sa+na+m)).toList,r xl y=false:=fun y hy=>lo2 y (tY▸hy);have fin':∀(out:Array Ay) (st':BB),out.toList.Perm (((Aq st).extract (sa+k) (sa+na)).toList++((Aq st).extract (sa+na) (sa+na+m)).toList)->Up r out.toList->B6 st'=κ->CS st'=none->Aq st'=Aq st->A6 st'=((A6 st).setIfInBounds i (sa,na+nb,pw)).eraseIdxIfInBounds (i+1)->_:=fun out st' q=>fin out st' (by rw [tX,tY] at q;exact q);have hab2:∀x∈((Aq st).extract (sa+k) (sa+na)).toList,∀y∈((Aq st).extract (sa+na) (sa+na+m)).toList,lat y x:=fun x hx y hy=>hab x (BK (tX▸hx)) y (Bq (tY▸hy));refine Xe (fun c3=>?_) (fun c3=>?_);exact Ak (Zpt K hk p2 p3 u2 u3 (by rw [sz2];omega) g0 g1 (fun x hx=>by rw [g2] at hx;cases hx;exact g3) (fun out st' h1 h2 sg=>fin' out st' h1 h2 (sg.k.trans hk) (sg.f.trans hf) sg.a sg.p) (hab:=hab2));exact Ak (Zqr K hk p2 p3 u2 u3 (by rw [sz2];omega) g0 g1 (by rw [<- AT];exact g2) g3 (fun out st' h1 h2 sg=>fin' out st' h1 h2 (sg.k.trans hk) (sg.f.trans hf) sg.a sg.p) (hab:=hab2))
theorem Xfb (K:Ask prog w A s κ P r)(hk:B6 st=κ)(hi:(Aq st)[i]?=some x)(hj:(Aq st)[j]?=some y)(hx:P x)(hy:P y)(h:Q (some (r x y)) st):wpS (model prog w) A E s (ltAt' i j) Q st:=by rw [ltAt'_eq];exact Ak (EO (Ak (Xk hi (Ak (Xk hj (Zmk K hk hx hy h))))))
structure SC (κ:FQ)(lo:Nat)(st st':BB):Prop where
 k:B6 st'=κ
 f:CS st'=none
 p:A6 st'=A6 st
 m:(Aq st').Perm (Aq st)
 o:∀i,i<lo->(Aq st')[i]?=(Aq st)[i]?
theorem SC.size {lo:Nat}{st st':BB}(c:SC κ lo st st'):(Aq st').size=(Aq st).size:=c.m.size_eq
theorem SC.put (c:SC κ lo st st')(hm:a.Perm (Aq st'))(ho:∀i,i<lo->a[i]?=(Aq st')[i]?):SC κ lo st (IK st' a):=⟨c.k,c.f,c.p,hm.trans c.m,fun i hi=>(ho i hi).trans (c.o i hi)⟩
def gx (d0:Ay)(lo:Nat)(a:Array Ay)(i:Nat):Ay:=(a[lo+i]?).getD d0
theorem Xkz (h:lo+i<a.size):a[lo+i]?=some (gx d0 lo a i):=by unfold gx;rw [AQ h];rfl
theorem Zer (h:a[lo+i]?=b[lo+j]?):gx d0 lo a i=gx d0 lo b j:=by unfold gx;rw [h]
theorem Zvt (hP:∀x∈(Aq st).toList,P x)(c:SC κ lo st st')(hn:lo+nrem<=(Aq st).size)(hi:i<nrem):P (gx d0 lo (Aq st') i):=by have e:=Xkz (d0:=d0) (a:=Aq st') (lo:=lo) (i:=i) (by rw [c.size];omega);have hm:gx d0 lo (Aq st') i∈(Aq st').toList:=Al (by rw [AT];exact e);exact hP _ (c.m.toList.mem_iff.mp hm)
theorem Zob (K:Ask prog w A s κ P r)(hP:∀x∈(Aq st).toList,P x)(hn:lo+nrem<=(Aq st).size)(c:SC κ lo st st')(hi:i<nrem)(hj:j<nrem)(ei:i'=lo+i)(ej:j'=lo+j)(h:Q (some (r (gx d0 lo (Aq st') i) (gx d0 lo (Aq st') j))) st'):wpS (model prog w) A E s (ltAt' i' j') Q st':=by subst ei ej;exact Xfb K c.k (Xkz (by rw [c.size];omega)) (Xkz (by rw [c.size];omega)) (Zvt hP c hn hi) (Zvt hP c hn hj) h
theorem Zzw (hj:lo+j<=a.size)(k:Nat):gx d0 lo (G3 a (lo+i) (lo+j) ((lo+j - (lo+i)) / 2)) k=if i<=k/\k<j then gx d0 lo a (i+j - 1 - k) else gx d0 lo a k:=by have e:=Kc (i:=lo+i) hj (lo+k);by_cases c:i<=k/\k<j;rw [if_pos c];rw [if_pos (by omega)] at e;exact Zer (e.trans (by congr 1;omega));rw [if_neg c];rw [if_neg (by omega)] at e;exact Zer e
theorem Zwd (hj:lo+j<=a.size)(k:Nat)(hk:k<lo):(G3 a (lo+i) (lo+j) ((lo+j - (lo+i)) / 2))[k]?=a[k]?:=by rw [Kc (i:=lo+i) hj k,if_neg (by omega)]
def Zsy (r:Ay->Ay->Bool)(g:Nat->Ay)(n:Nat):Prop:=∀i j,i<=j->j<n->r (g j) (g i)=false
def Zjb (r:Ay->Ay->Bool)(g:Nat->Ay)(n:Nat):Prop:=∀i j,i<=j->j<n->r (g i) (g j)=false
def Eqv (r:Ay->Ay->Bool)(x y:Ay):Prop:=r x y=false/\r y x=false
theorem Zsy.snoc (K:Ask prog w A s κ P r)(hp:∀i,i<n+1->P (g i))(h1:1<=n)(h:Zsy r g n)(q:r (g n) (g (n - 1))=false):Zsy r g (n+1):=fun i j hij hj=>by
 by_cases e:j<n;exact h i j hij e;have ej:j=n:=by omega
 subst ej;by_cases ei:i=j;subst ei;exact K.ir (hp i hj);exact K.tr (hp i (by omega)) (hp (j - 1) (by omega)) (hp j hj) (h i (j - 1) (by omega) (by omega)) q
theorem Zjb.snoc (K:Ask prog w A s κ P r)(hp:∀i,i<n+1->P (g i))(h1:1<=n)(h:Zjb r g n)(q:r (g (n - 1)) (g n)=false):Zjb r g (n+1):=fun i j hij hj=>by
 by_cases e:j<n;exact h i j hij e;have ej:j=n:=by omega
 subst ej;by_cases ei:i=j;subst ei;exact K.ir (hp i hj);exact K.tr (hp j hj) (hp (j - 1) (by omega)) (hp i (by omega)) q (h i (j - 1) (by omega) (by omega))
theorem Zjb.eqv (K:Ask prog w A s κ P r)(hp:∀i,i<n->P (g i))(hp':∀i,i<n->P (g' i))(h:Zjb r g n)(q:∀i,i<n->Eqv r (g' i) (g i)):Zjb r g' n:=fun i j hij hj =>
 K.tr (hp' j hj) (hp j hj) (hp' i (by omega)) (q j hj).2 (K.tr (hp j hj) (hp i (by omega)) (hp' i (by omega)) (h i j hij hj) (q i (by omega)).1)
theorem Zxr (K:Ask prog w A s κ P r)(hP:∀x∈(Aq st).toList,P x)(hn:lo+nrem<=(Aq st).size)(c:SC κ lo st st'){a:Nat}(ha:1<=a)(han:a<=nrem)(hs:Zsy r (gx d0 lo (Aq st')) a)
  {f:Nat->Option (Option Nat)×Nat->StateT BB Sem (ForInStep (Option (Option Nat)×Nat))} {Q:Option (Option Nat)×Nat->BB->Prop}
  (hf:∀x n (Q':ForInStep (Option (Option Nat)×Nat)->BB->Prop),wpS (model prog w) A E s (ltAt' (lo+n) (lo+n - 1)) (fun b st''=>st''=st'/\∃b',b=some b'/\(b'=true->Q' (.done (none,n)) st')/\(b'=false->Q' (.yield (none,n+1)) st')) st'->wpS (model prog w) A E s (f x (none,n)) Q' st')
  (h:∀n,a<=n->n<=nrem->Zsy r (gx d0 lo (Aq st')) n->(n=nrem\/r (gx d0 lo (Aq st') n) (gx d0 lo (Aq st') (n - 1))=true)->Q (none,n) st') :
  wpS (model prog w) A E s (forIn [a:nrem] ((none,a):Option (Option Nat)×Nat) f) Q st':=by
 refine BG (I:=fun x c st''=>st''=st'/\c=(none,x)/\Zsy r (gx d0 lo (Aq st')) x) ?step ?fin ⟨rfl,rfl,hs⟩
 case fin =>rintro c st'' ⟨rfl,rfl,hs'⟩;rw [show max a nrem=nrem by omega] at hs' ⊢;exact h nrem han (Ax _) hs' (.inl rfl)
 case step =>
  rintro x c st'' hax hxn ⟨rfl,rfl,hs'⟩;have hp:∀i,i<x+1->P (gx d0 lo (Aq st'') i):=fun i hi=>Zvt hP c hn (by omega);refine hf x x _ (Zob (d0:=d0) K hP hn c (i:=x) (j:=x - 1) (by omega) (by omega) rfl (by omega) ⟨rfl,_,rfl,fun e=>?_,fun e=>?_⟩)
  ·exact h x hax (by omega) hs' (.inr e)
  ·exact ⟨rfl,rfl,Zsy.snoc K hp (by omega) hs' e⟩
theorem Eqv.same (K:Ask prog w A s κ P r)(hx:P x):Eqv r x x:=⟨K.ir hx,K.ir hx⟩
theorem Eqv.via (K:Ask prog w A s κ P r){z:Ay}(hx:P x)(hy:P y)(hz:P z)(h1:Eqv r x y)(h2:Eqv r z y):Eqv r x z:=⟨K.tr hz hy hx h2.2 h1.1,K.tr hx hy hz h1.2 h2.1⟩
theorem Zjb.mir (K:Ask prog w A s κ P r)(hP:∀x∈(Aq st).toList,P x)(hn:lo+nrem<=(Aq st).size)(c:SC κ lo st st')(hj:j<=n)(hnn:n<=nrem)(h:Zjb r (gx d0 lo (Aq st')) n)(he:∀k,i<=k->k<j->Eqv r (gx d0 lo (Aq st') k) (gx d0 lo (Aq st') (j - 1)))
  (ea:a'=G3 (Aq st') (lo+i) (lo+j) ((lo+j - (lo+i)) / 2)):SC κ lo st (IK st' a')/\Zjb r (gx d0 lo a') n:=by
 subst ea;have hsz:lo+j<=(Aq st').size:=by rw [c.size];omega
 have c':SC κ lo st (IK st' (G3 (Aq st') (lo+i) (lo+j) ((lo+j - (lo+i)) / 2))):=c.put (mirror_perm _ _ _ _) (fun k hk=>Zwd hsz k hk);have hp:∀k,k<n->P (gx d0 lo (Aq st') k):=fun k hk=>Zvt hP c hn (by omega);refine ⟨c',Zjb.eqv K hp (fun k hk=>Zvt (d0:=d0) hP c' hn (by omega)) h fun k hk=>?_⟩;rw [Zzw hsz];split;rename_i q;exact Eqv.via K (hp _ (by omega)) (hp (j - 1) (by omega)) (hp k hk) (he _ (by omega) (by omega)) (he k q.1 q.2);exact Eqv.same K (hp k hk)
theorem Zlp {Q:Unit->BB->Prop}(ei:i'=lo+i)(ej:j'=lo+j)(h:Q () (IK st' (G3 (Aq st') (lo+i) (lo+j) ((lo+j - (lo+i)) / 2)))):wpS (model prog w) A E s (reverseSlice' i' j') Q st':=by subst ei ej;exact wpS_reverse h
theorem Zyt {Q:Option Nat->BB->Prop}(d0:Ay)(K:Ask prog w A s κ P r)(hP:∀x∈(Aq st).toList,P x)(hk:B6 st=κ)(hf:CS st=none)(hn:lo+nrem<=(Aq st).size)(h1:1<=nrem)
    (h:∀m st',SC κ lo st st'->1<=m->m<=nrem->Zsy r (gx d0 lo (Aq st')) m->Q (some m) st'):wpS (model prog w) A E s (countRun' lo nrem) Q st:=by
  have c0:SC κ lo st st:=⟨hk,hf,rfl,LR _,fun _ _=>rfl⟩;refine Ak (Zxr (d0:=d0) K hP hn c0 (Ax 1) h1 (fun i j hij hj=>by rw [show i=0 by omega,show j=0 by omega];exact K.ir (Zvt hP c0 hn (by omega))) (fun x n Q' q=>?_) fun n n1 n2 n3 n4=>?_)
  · refine Ak (B0 q ?_);rintro b st'' ⟨rfl,b',rfl,q1,q2⟩;dsimp only;cases b' with
    | true =>rw [if_pos rfl];exact Ap (q1 rfl)
    | false =>rw [if_neg Aj];exact Ap (q2 rfl)
  refine Xe (fun c1=>?_) (fun c1=>?_)
  · exact Ap (h n st c0 n1 n2 n3)
  have c1':n≠nrem:=Zor c1;have n4':r (gx d0 lo (Aq st) n) (gx d0 lo (Aq st) (n - 1))=true:=n4.resolve_left c1';have hp0:∀i,i<nrem->P (gx d0 lo (Aq st) i):=fun i hi=>Zvt hP c0 hn hi;have n5:r (gx d0 lo (Aq st) (n - 1)) (gx d0 lo (Aq st) n)=false:=K.as (hp0 _ (by omega)) (hp0 _ (by omega)) n4'
  extract_lets -underBinder jp
  have hd:∀st1,SC κ lo st st1->Zjb r (gx d0 lo (Aq st1)) (n+1)->wpS (model prog w) A E s (jp ()) Q st1:=fun st1 sc1 dn1=>by
    refine Ak (FG (Dy ⟨rfl,?_⟩));refine Ak (B0 (BG (I:=fun x c st2=>∃q,c=(none,x,q)/\SC κ lo st st2/\Zjb r (gx d0 lo (Aq st2)) x/\q+1<=x/\∀i,x - (q+1)<=i->i<x->Eqv r (gx d0 lo (Aq st2) i) (gx d0 lo (Aq st2) (x - 1)))
      (Q:=fun c st2=>∃m q,c=(none,m,q)/\n+1<=m/\m<=nrem/\SC κ lo st st2/\Zjb r (gx d0 lo (Aq st2)) m/\q+1<=m/\∀i,m - (q+1)<=i->i<m->Eqv r (gx d0 lo (Aq st2) i) (gx d0 lo (Aq st2) (m - 1))) ?step ?fin
      ⟨0,rfl,sc1,dn1,by omega,fun i i1 i2=>by rw [show i=n+1 - 1 by omega];exact Eqv.same K (Zvt hP sc1 hn (by omega))⟩) ?post)
    case fin =>rintro c st2 ⟨q,rfl,sc,dn,hq,he⟩;rw [show max (n+1) nrem=nrem by omega] at dn hq he ⊢;exact ⟨nrem,q,rfl,by omega,Ax _,sc,dn,hq,he⟩
    case step =>
      rintro x c st2 hx1 hx2 ⟨q,rfl,sc,dn,hq,he⟩;have hp:∀i,i<nrem->P (gx d0 lo (Aq st2) i):=fun i hi=>Zvt hP sc hn hi;refine Ak (Zob (d0:=d0) K hP hn sc (i:=x) (j:=x - 1) hx2 (by omega) rfl (by show lo+x - 1=_;omega) ?_);cases e:r (gx d0 lo (Aq st2) x) (gx d0 lo (Aq st2) (x - 1)) with
      | true =>
        have dn':=Zjb.snoc K (fun i hi=>hp i (by omega)) (by omega) dn (K.as (hp x hx2) (hp (x - 1) (by omega)) e);refine Xe (fun _=>?_) (fun z=>absurd rfl z);refine Xe (fun q0=>?_) (fun q0=>?_)
        · obtain ⟨c2,d2⟩:=Zjb.mir K hP hn sc (i:=x - (q+1)) (j:=x) (n:=x+1) (by omega) hx2 dn' he rfl;refine Ak (Zlp (i:=x - (q+1)) (j:=x) (by show lo+x - (q+1)=_;omega) rfl ?_);exact Ap ⟨0,rfl,c2,d2,by omega,fun i i1 i2=>by rw [show i=x+1 - 1 by omega];exact Eqv.same K (Zvt hP c2 hn hx2)⟩
        · exact Ap ⟨0,rfl,sc,dn',by omega,fun i i1 i2=>by rw [show i=x+1 - 1 by omega];exact Eqv.same K (hp x hx2)⟩
      | false =>
        refine Xe (fun z=>absurd z Aj) (fun _=>?_);refine Ak (Zob (d0:=d0) K hP hn sc (i:=x - 1) (j:=x) (by omega) hx2 (by show lo+x - 1=_;omega) rfl ?_);cases e2:r (gx d0 lo (Aq st2) (x - 1)) (gx d0 lo (Aq st2) x) with
        | true =>refine Xe (fun _=>?_) (fun z=>absurd rfl z);exact Ap ⟨x,q,rfl,hx1,by omega,sc,dn,hq,he⟩
        | false =>
          refine Xe (fun z=>absurd z Aj) (fun _=>?_);refine Ap ⟨q+1,rfl,sc,Zjb.snoc K (fun i hi=>hp i (by omega)) (by omega) dn e2,by omega,fun i i1 i2=>?_⟩;rw [show x+1 - 1=x by omega];by_cases ix:i=x
          · rw [ix];exact Eqv.same K (hp x hx2)
          · exact Eqv.via K (hp i (by omega)) (hp (x - 1) (by omega)) (hp x hx2) (he i (by omega) (by omega)) ⟨e,e2⟩
    case post =>
      rintro c st2 ⟨m,q,rfl,m1,m2,sc,dn,hq,he⟩;dsimp -zeta -zetaHave only
      extract_lets -underBinder u1 u2 u3 u4
      dsimp -zeta -zetaHave only [u1]
      extract_lets -underBinder jp4
      have hd3:∀st3,SC κ lo st st3->Zjb r (gx d0 lo (Aq st3)) m->wpS (model prog w) A E s (jp4 ()) Q st3:=fun st3 sc3 dn3=>by
        refine Ak (Zlp (lo:=lo) (i:=0) (j:=m) rfl rfl ?_);have hsz:lo+m<=(Aq st3).size:=by rw [sc3.size];omega
        have c4:SC κ lo st (IK st3 (G3 (Aq st3) (lo+0) (lo+m) ((lo+m - (lo+0)) / 2))):=sc3.put (mirror_perm _ _ _ _) (fun k hk=>Zwd hsz k hk);refine Ak (Zxr (d0:=d0) K hP hn c4 (by omega) m2 (fun i j hij hj=>?_) (fun x n Q' q=>?_) fun n g1 g2 g3 _=>Ap (h n _ c4 (by omega) g2 g3))
        · show r (gx d0 lo (G3 (Aq st3) (lo+0) (lo+m) ((lo+m - (lo+0)) / 2)) j) (gx d0 lo (G3 (Aq st3) (lo+0) (lo+m) ((lo+m - (lo+0)) / 2)) i)=false;rw [Zzw hsz,Zzw hsz,if_pos (by omega),if_pos (by omega)];exact dn3 _ _ (by omega) (by omega)
        · refine Ak (B0 q ?_);rintro b st'' ⟨rfl,b',rfl,q1,q2⟩;dsimp only;cases b' with
          | true =>rw [if_pos rfl];exact Ap (q1 rfl)
          | false =>rw [if_neg Aj];exact Ap (q2 rfl)
      refine Xe (fun q0=>?_) (fun q0=>?_)
      · obtain ⟨c2,d2⟩:=Zjb.mir K hP hn sc (i:=m - (q+1)) (j:=m) (n:=m) (Ax _) m2 dn he rfl;refine Ak (Zlp (i:=m - (q+1)) (j:=m) (by show lo+m - (q+1)=_;omega) rfl ?_);exact hd3 _ c2 d2
      · exact hd3 _ sc dn
  refine Xe (fun c2=>?_) (fun c2=>?_)
  · refine Ak (Zob (d0:=d0) K hP hn c0 (i:=0) (j:=n - 1) (by omega) (by omega) rfl (by show lo+n - 1=_;omega) ?_);cases e:r (gx d0 lo (Aq st) 0) (gx d0 lo (Aq st) (n - 1)) with
    | true =>refine Xe (fun _=>?_) (fun z=>absurd rfl z);exact Ap (h n st c0 n1 n2 n3)
    | false =>
      refine Xe (fun z=>absurd z Aj) (fun _=>?_);have all:∀k,k<n->Eqv r (gx d0 lo (Aq st) k) (gx d0 lo (Aq st) (n - 1)):=fun k hk =>
        ⟨K.tr (hp0 (n - 1) (by omega)) (hp0 0 (by omega)) (hp0 k (by omega)) e (n3 0 k (Dt _) hk),n3 k (n - 1) (by omega) (by omega)⟩
      have dn:Zjb r (gx d0 lo (Aq st)) n:=fun i j hij hj=>(Eqv.via K (hp0 i (by omega)) (hp0 (n - 1) (by omega)) (hp0 j (by omega)) (all i (by omega)) (all j hj)).1;obtain ⟨c3,d3⟩:=Zjb.mir K hP hn c0 (i:=0) (j:=n) (n:=n+1) (by omega) (by omega) (Zjb.snoc K (fun i hi=>hp0 i (by omega)) n1 dn n5) (fun k _ hk=>all k hk) rfl;refine Ak (Zlp (lo:=lo) (i:=0) (j:=n) rfl rfl ?_);exact hd _ c3 d3
  · have e1:n=1:=by omega
    subst e1;refine hd _ c0 (Zjb.snoc K (fun i hi=>hp0 i (by omega)) (Ax 1) (fun i j hij hj=>?_) n5);rw [show i=0 by omega,show j=0 by omega];exact K.ir (hp0 0 (by omega))
theorem Xis {l:Nat}(hk:lo+k<a.size)(hl:l<=k)(i:Nat):gx d0 lo (bubble a (lo+k) (lo+k - (lo+l))) i=if i=l then gx d0 lo a k else if l<i/\i<=k then gx d0 lo a (i - 1) else gx d0 lo a i:=by have e:=Le hk (lo+k - (lo+l)) (by omega) (lo+i);rw [show lo+k - (lo+k - (lo+l))=lo+l by omega] at e;by_cases c:i=l;rw [if_pos c];rw [if_pos (by omega)] at e;exact Zer e;rw [if_neg c];rw [if_neg (by omega)] at e;by_cases c2:l<i/\i<=k;rw [if_pos c2];rw [if_pos (by omega)] at e;exact Zer (e.trans (by congr 1;omega));rw [if_neg c2];rw [if_neg (by omega)] at e;exact Zer e
theorem Xox {l:Nat}(hk:lo+k<a.size)(hl:l<=k)(i:Nat)(hi:i<lo):(bubble a (lo+k) (lo+k - (lo+l)))[i]?=a[i]?:=by rw [Le hk (lo+k - (lo+l)) (by omega) i,if_neg (by omega),if_neg (by omega)]
theorem Xkt {Q:Bool->BB->Prop}(d0:Ay)(K:Ask prog w A s κ P r)(hP:∀x∈(Aq st).toList,P x)(hn:lo+nrem<=(Aq st).size)(c1:SC κ lo st st1){ok:Nat}(hnn:n<=nrem)(hok:ok<=n)(h1:1<=n)(hs:Zsy r (gx d0 lo (Aq st1)) ok)
    (h:∀st',SC κ lo st st'->Zsy r (gx d0 lo (Aq st')) n->Q true st'):wpS (model prog w) A E s (binarySort' lo n ok) Q st1:=by
  refine Ak (B0 (BG (I:=fun k c st'=>c.1=none/\SC κ lo st st'/\Zsy r (gx d0 lo (Aq st')) (min k n)) (Q:=fun c st'=>c.1=none/\SC κ lo st st'/\Zsy r (gx d0 lo (Aq st')) n) ?step ?fin ?init) ?post)
  case post =>rintro ⟨c,_⟩ st' ⟨e,sc,u⟩;have e:c=none:=e;subst e;exact Ap (h st' sc u)
  case init =>
    refine ⟨rfl,c1,fun i j hij hj=>?_⟩;by_cases z:ok=0
    · rw [show i=0 by omega,show j=0 by omega];exact K.ir (Zvt hP c1 hn (by omega))
    · exact hs i j hij (by omega)
  case fin =>rintro c st' ⟨e,sc,u⟩;rw [show min (max (max ok 1) n) n=n by omega] at u;exact ⟨e,sc,u⟩
  case step =>
    rintro k ⟨c,_⟩ st' hk1 hk2 ⟨e,sc,u⟩;have e:c=none:=e;subst e;rw [show min k n=k by omega] at u;have hp:∀i,i<nrem->P (gx d0 lo (Aq st') i):=fun i hi=>Zvt hP sc hn hi;refine Ak (B0 (BG (I:=fun x c st2=>st2=st'/\∃l m,c=(none,l,m)/\l<=m/\m<=k/\m - l<=k - x/\(∀i,i<l->r (gx d0 lo (Aq st') k) (gx d0 lo (Aq st') i)=false)/\(∀i,m<=i->i<k->r (gx d0 lo (Aq st') k) (gx d0 lo (Aq st') i)=true))
      (Q:=fun c st2=>st2=st'/\∃l m,c=(none,l,m)/\l<=k/\(∀i,i<l->r (gx d0 lo (Aq st') k) (gx d0 lo (Aq st') i)=false)/\(∀i,l<=i->i<k->r (gx d0 lo (Aq st') k) (gx d0 lo (Aq st') i)=true)) ?istep ?ifin ⟨rfl,0,k,rfl,Dt _,Ax _,by omega,fun i hi=>by omega,fun i q1 q2=>by omega⟩) ?ipost)
    case ifin =>
      rintro c st2 ⟨rfl,l,m,rfl,q1,q2,q3,q4,q5⟩;have:l=m:=by omega
      subst this;exact ⟨rfl,l,l,rfl,q2,q4,q5⟩
    case istep =>
      rintro x c st2 _ hx ⟨rfl,l,m,rfl,q1,q2,q3,q4,q5⟩;refine Xe (fun z=>?_) (fun z=>?_)
      · have z:l>=m:=z;have:l=m:=by omega
        subst this;exact Ap ⟨rfl,l,l,rfl,q2,q4,q5⟩
      · have z:¬l>=m:=z;refine Ak (Zob (d0:=d0) K hP hn sc (i:=k) (j:=(l+m) / 2) (by omega) (by omega) rfl rfl ?_);cases e:r (gx d0 lo (Aq st2) k) (gx d0 lo (Aq st2) ((l+m) / 2)) with
        | true =>
          refine Xe (fun _=>?_) (fun z=>absurd rfl z);refine Ap ⟨rfl,l,(l+m) / 2,rfl,by omega,by omega,by omega,q4,fun i i1 i2=>?_⟩;cases e2:r (gx d0 lo (Aq st2) k) (gx d0 lo (Aq st2) i) with
          | true=>rfl
          | false=>rw [K.tr (hp _ (by omega)) (hp i (by omega)) (hp k (by omega)) (u ((l+m) / 2) i i1 i2) e2] at e;cases e
        | false =>refine Xe (fun z=>absurd z Aj) (fun _=>?_);exact Ap ⟨rfl,(l+m) / 2+1,m,rfl,by omega,q2,by omega,fun i i1=>K.tr (hp i (by omega)) (hp _ (by omega)) (hp k (by omega)) (u i ((l+m) / 2) (by omega) (by omega)) e,q5⟩
    case ipost =>
      rintro c st2 ⟨rfl,l,m,rfl,q1,q2,q3⟩;refine Ak (Gs (Ap ⟨rfl,sc.put (bubble_perm _ _ _) (fun i hi=>Xox (by rw [sc.size];omega) q1 i hi),?_⟩));rw [show min (k+1) n=k+1 by omega];have hks:lo+k<(Aq st2).size:=by rw [sc.size];omega
      intro i j hij hj;show r (gx d0 lo (bubble (Aq st2) (lo+k) (lo+k - (lo+l))) j) (gx d0 lo (bubble (Aq st2) (lo+k) (lo+k - (lo+l))) i)=false;rw [Xis hks q1,Xis hks q1];by_cases ij:i=j
      · subst ij;refine K.ir ?_
        repeat' split
        all_goals exact hp _ (by omega)
      · repeat' split
        all_goals first
          | (exfalso;omega)
          | exact q2 _ (by omega)
          | exact K.as (hp _ (by omega)) (hp _ (by omega)) (q3 _ (by omega) (by omega))
          | exact u _ _ (by omega) (by omega)
abbrev Pn:=Nat×Nat×Nat
def Zic:Nat->List (List Ay)->List Pn->Prop
 | _,[],[]=>True
 | off,R::Rs,p::ps=>p.1=off/\p.2.1=R.length/\Zic (off+R.length) Rs ps
 | _,_,_=>False
theorem Zic.len:∀{Rs:List (List Ay)} {off:Nat} {ps:List Pn},Zic off Rs ps->ps.length=Rs.length
 | [],_,[],_=>rfl
 | [],_,_::_,h=>h.elim
 | _::_,_,[],h=>h.elim
 | R::Rs,off,p::ps,h=>by rw [AX,AX,Zic.len h.2.2]
theorem Zic.split:∀{R1 R2:List (List Ay)} {off:Nat} {ps:List Pn},Zic off (R1++R2) ps->∃p1 p2,ps=p1++p2/\Zic off R1 p1/\Zic (off+R1.flatten.length) R2 p2
 | [],R2,off,ps,h=>⟨[],ps,rfl,trivial,h⟩
 | R::R1,R2,off,[],h=>h.elim
 | R::R1,R2,off,p::ps,h=>by obtain ⟨p1,p2,e,h1,h2⟩:=Zic.split (R1:=R1) (R2:=R2) h.2.2;refine ⟨p::p1,p2,by rw [e];rfl,⟨h.1,h.2.1,h1⟩,?_⟩;rw [Ba,Ai,<- FW];exact h2
theorem Zic.join:∀{R1 R2:List (List Ay)} {off:Nat} {p1 p2:List Pn},Zic off R1 p1->Zic (off+R1.flatten.length) R2 p2->Zic off (R1++R2) (p1++p2)
 | [],R2,off,[],p2,_,h=>h
 | [],_,_,_::_,_,h,_=>h.elim
 | _::_,_,_,[],_,h,_=>h.elim
 | R::R1,R2,off,p::p1,p2,h1,h2=>by refine ⟨h1.1,h1.2.1,Zic.join h1.2.2 ?_⟩;rw [Ba,Ai,<- FW] at h2;exact h2
structure RI (κ:FQ)(r:Ay->Ay->Bool)(a0:List Ay)(st:BB)(Rs:List (List Ay))(Z:List Ay):Prop where
 k:B6 st=κ
 f:CS st=none
 m:(Aq st).toList.Perm a0
 l:(Aq st).toList=Rs.flatten++Z
 p:Zic 0 Rs (A6 st).toList
 u:∀R∈Rs,Up r R/\1<=R.length
theorem Zwn {l p1 p2:List α}{x y v:α}(e:l=p1++x::y::p2)(hi:p1.length=i):(l.set i v).eraseIdx (i+1)=p1++v::p2:=by subst e hi;rw [CF _ _ (Ax _),Ek,List.set_cons_zero,List.eraseIdx_append_of_length_le (IQ _),Nat.succ_sub (Ax _),Ek];rfl
theorem Zkd {R2:List (List Ay)}{Q:Bool->BB->Prop}(K:Ask prog w A s κ P r lat)(hP:∀x∈a0,P x)(ri:RI κ r a0 st (R1++X::Y::R2) Z)(hi:R1.length=i)(h:∀M st',M.Perm (X++Y)->RI κ r a0 st' (R1++M::R2) Z->Q true st')(hab:∀x∈X,∀y∈Y,lat y x:=by intros;trivial):wpS (model prog w) A E s (LD i) Q st:=by
 obtain ⟨p1,p2,e,h1,h2⟩:=Zic.split ri.p
 match p2,h2 with
 | (x1,x2,x3)::(y1,y2,y3)::p2,h2 =>
  obtain ⟨e1,e2,e3,e4,h3⟩:=h2;have l1:=h1.len;have e1:x1=0+R1.flatten.length:=e1;have e2:x2=X.length:=e2;have e3:y1=0+R1.flatten.length+X.length:=e3;have e4:y2=Y.length:=e4;rw [EG] at e1 e3;have uX:=ri.u X (As _ (.head _));have uY:=ri.u Y (As _ (.tail _ (.head _)));have hl:(Aq st).toList=R1.flatten++X++Y++(R2.flatten++Z):=by rw [ri.l];simp only [Ec,Ba,AD]
  have q1:(A6 st)[i]?=some (x1,x2,x3):=by rw [<- AT,e,AR (by omega),show i - p1.length=0 by omega];rfl
  have q2:(A6 st)[i+1]?=some (x1+x2,y2,y3):=by rw [<- AT,e,AR (by omega),show i+1 - p1.length=1 by omega,e1,e2,<- e3];rfl
  refine Zqj K ri.k ri.f q1 q2 hl e1.symm e2.symm e4.symm (by omega) (by omega) (fun x hx=>hP x (ri.m.mem_iff.mp hx)) uX.1 uY.1 (hab:=hab) fun M st' hm hu ha hk hf hp=>?_;have lm:=hm.length_eq;rw [Ai] at lm;refine h M st' hm ⟨hk,hf,?_,?_,?_,fun R hR=>?_⟩;rw [ha];refine List.Perm.trans ?_ ri.m;rw [hl];simp only [AD];refine Cv _ ?_;rw [<- AD X Y];exact hm.append_right _;rw [ha];simp only [Ec,Ba,AD];rw [hp];rw [Array.toList_eraseIdxIfInBounds,GV,Zwn e (by omega)];refine h1.join ⟨by show x1=_;rw [e1,EG],by show x2+y2=_;omega,?_⟩;rw [lm,<- FW];exact h3;rcases Au.mp hR with q | q;exact ri.u R (AJ _ q);rcases An.mp q with q | q;subst q;exact ⟨hu,by omega⟩;exact ri.u R (As _ (.tail _ (.tail _ q)))
theorem RI.sc (ri:RI κ r a0 st Rs Z)(c:SC κ Rs.flatten.length st st'):∃Z',RI κ r a0 st' Rs Z'/\Z'.length=Z.length/\∀i,Z'[i]?=(Aq st')[Rs.flatten.length+i]?:=by
 have hsz:=c.size;have h1:(Aq st).size=Rs.flatten.length+Z.length:=by rw [<- AN,ri.l,Ai]
 have e:(Aq st').toList=Rs.flatten++(Aq st').toList.drop Rs.flatten.length:=by refine List.ext_getElem? fun i=>?_;by_cases hi:i<Rs.flatten.length;rw [AH hi,AT,c.o i hi,<- AT,ri.l,AH hi];rw [AR (by omega),Cj,show Rs.flatten.length+(i - Rs.flatten.length)=i by omega]
 refine ⟨(Aq st').toList.drop Rs.flatten.length,⟨c.k,c.f,c.m.toList.trans ri.m,e,by rw [c.p];exact ri.p,ri.u⟩,?_,fun i=>?_⟩;rw [DV,AN];omega;rw [Cj,AT]
theorem Xju (h:Zsy r g n)(e:∀i x,i<n->l[i]?=some x->x=g i):Up r (l.take n):=by refine G4.mpr fun i j hi hj hij=>?_;rw [B9] at hi hj;rw [IV,IV,e i _ (by omega) (Ad (by omega)),e j _ (by omega) (Ad (by omega))];exact h i j (by omega) (by omega)
theorem Ztj:∀{Rs:List (List Ay)},(∀R∈Rs,1<=R.length)->Rs.length<=Rs.flatten.length
 | [],_=>Ax _
 | R::Rs,h=>by have h1:=h R (.head _);have h2:=Ztj fun R hR=>h R (.tail _ hR);rw [Ba,Ai,AX];omega
theorem Xia (h:i+1<Rs.length):∃R1 X Y R2,Rs=R1++X::Y::R2/\R1.length=i:=by refine ⟨Rs.take i,Rs[i],Rs[i+1],Rs.drop (i+2),?_,ES (by omega)⟩;rw [<- AY,<- AY,BM]
theorem RI.size (ri:RI κ r a0 st Rs Z):a0.length=Rs.flatten.length+Z.length:=by rw [<- ri.m.length_eq,ri.l,Ai]
theorem Zic.mod {f:Pn->Pn}(hf:∀p,(f p).1=p.1/\(f p).2.1=p.2.1):∀{Rs:List (List Ay)} {off:Nat} {ps:List Pn} (i:Nat),Zic off Rs ps->Zic off Rs (ps.modify i f)
 | [],_,[],i,h=>by rw [List.modify_nil];exact h
 | [],_,_::_,_,h=>h.elim
 | _::_,_,[],_,h=>h.elim
 | R::Rs,off,p::ps,0,h=>by rw [List.modify_zero_cons];exact ⟨(hf p).1.trans h.1,(hf p).2.trans h.2.1,h.2.2⟩
 | R::Rs,off,p::ps,i+1,h=>by rw [List.modify_succ_cons];exact ⟨h.1,h.2.1,Zic.mod hf i h.2.2⟩
def RunQ (κ:FQ)(r:Ay->Ay->Bool)(a0:List Ay)(size x:Nat):ForInStep (Option Unit×Nat)->BB->Prop
 | .done (c,_),st'=>c=none/\∃Rs,RI κ r a0 st' Rs []
 | .yield (c,lo),st'=>c=none/\x+1<=lo/\∃Rs Z,RI κ r a0 st' Rs Z/\Rs.flatten.length=lo/\lo<=size
theorem Xha {Q:Unit->BB->Prop}(d0:Ay)(K:Ask prog w A s κ P r)(hP:∀x∈(Aq st).toList,P x)(hk:B6 st=κ)(hf:CS st=none)(hp:A6 st=#[])(h2:1<=(Aq st).size)
  (h:∀st',(Aq st').toList.Perm (Aq st).toList->CS st'=none->Up r (Aq st').toList->Q () st'):wpS (model prog w) A E s sortRuns' Q st:=by
 have r0:RI κ r (Aq st).toList st [] (Aq st).toList:=⟨hk,hf,CN _,rfl,by rw [hp];trivial,fun _ z=>nomatch z⟩;refine Ak (EO ?_)
 extract_lets -underBinder size minrun l0
 have hsz:size=(Aq st).size:=rfl
 clear_value size minrun
 refine Ak (B0 (BG (I:=fun x c st'=>c.1=none/\x<=c.2/\∃Rs Z,RI κ r (Aq st).toList st' Rs Z/\Rs.flatten.length=c.2/\c.2<=size) (Q:=fun c st'=>c.1=none/\∃Rs,RI κ r (Aq st).toList st' Rs []) ?step ?fin ⟨rfl,Dt _,[],_,r0,rfl,Dt _⟩) ?post)
 case fin =>rintro ⟨c,lo⟩ st' ⟨e,h1,Rs,Z,ri,h3,h4⟩;have h1:max 0 size<=lo:=h1;have h3:Rs.flatten.length=lo:=h3;have h4:lo<=size:=h4;have hl:=congrArg EB ri.l;rw [AN,Ai,h3,<- AN,ri.m.length_eq,AN] at hl;have:Z=[]:=BF.mp (by omega);subst this;exact ⟨e,Rs,ri⟩
 case step =>
  rintro x ⟨c,lo⟩ st' _ hx ⟨e,h1,Rs,Z,ri,h3,h4⟩;have e:c=none:=e;subst e;have h1:x<=lo:=h1;have h3:Rs.flatten.length=lo:=h3;have h4:lo<=size:=h4;have hrs:=ri.size;rw [AN] at hrs;have hP':∀x∈(Aq st').toList,P x:=fun x hx=>hP x (ri.m.mem_iff.mp hx);have hs':(Aq st').size=size:=by rw [<- AN,ri.m.length_eq,AN];exact hsz.symm
  refine Xe (fun c1=>?_) (fun c1=>?_)
  ·have c1:lo>=size:=c1;have:Z=[]:=BF.mp (by omega);subst this;exact Ap ⟨rfl,Rs,ri⟩
  have c1:¬lo>=size:=c1;subst h3;refine Ak (Zyt (lo:=Rs.flatten.length) (nrem:=size - Rs.flatten.length) d0 K hP' ri.k ri.f (by omega) (by omega) fun m st1 sc1 m1 m2 u1=>?_);refine B0 (Q:=RunQ κ r (Aq st).toList size x) ?_ (fun rr st4 q=>by cases rr<;>exact q);dsimp -zeta -zetaHave only
  extract_lets -underBinder n0 jp
  have hj:∀n st2,SC κ Rs.flatten.length st' st2->1<=n->n<=size - Rs.flatten.length->Zsy r (gx d0 Rs.flatten.length (Aq st2)) n->wpS (model prog w) A E s (jp () n) (RunQ κ r (Aq st).toList size x) st2:=fun n st2 sc2 g1 g2 u2=>by
   obtain ⟨Z2,ri2,lz,ez⟩:=ri.sc sc2;have uz:Up r (Z2.take n):=Xju u2 fun i x hi e=>by rw [ez] at e;unfold gx;rw [e];rfl
   have lt:(Z2.take n).length=n:=ES (by omega);refine Ak (EO ?_)
   extract_lets -underBinder jp2
   have hj2:∀st3 Rs3,RI κ r (Aq st).toList st3 Rs3 Z2->Rs3.flatten.length=Rs.flatten.length->wpS (model prog w) A E s (jp2 ()) (RunQ κ r (Aq st).toList size x) st3:=fun st3 Rs3 ri3 hl3=>by
    refine Ak (Gs (Ap ⟨rfl,by omega,Rs3++[Z2.take n],Z2.drop n,⟨ri3.k,ri3.f,ri3.m,?_,?_,fun R hR=>?_⟩,?_,by omega⟩))
    ·show (Aq st3).toList=_;rw [ri3.l,Ec,Ba,Gn,CK,AD,BM]
    ·show Zic 0 _ ((A6 st3).push (Rs.flatten.length,n,0)).toList;rw [EQ];exact ri3.p.join ⟨by rw [EG];exact hl3.symm,lt.symm,trivial⟩
    ·rcases Au.mp hR with q | q
     ·exact ri3.u R q
     ·rw [Ao.mp q];exact ⟨uz,by omega⟩
    ·rw [Ec,Ba,Gn,CK,Ai,lt,hl3]
   cases eb:(A6 st2).back? with
   | none=>exact hj2 st2 Rs ri2 rfl
   | some t =>
    obtain ⟨s1,n1,w0⟩:=t;dsimp -zeta -zetaHave only
    extract_lets -underBinder pw
    refine Ak (B0 (BG (I:=fun y c st3=>c.1=none/\∃Rs3,RI κ r (Aq st).toList st3 Rs3 Z2/\Rs3.flatten.length=Rs.flatten.length) (Q:=fun c st3=>c.1=none/\∃Rs3,RI κ r (Aq st).toList st3 Rs3 Z2/\Rs3.flatten.length=Rs.flatten.length) ?s3 (fun _ _ q=>q) ⟨rfl,Rs,ri2,rfl⟩) ?p3)
    case p3 =>rintro ⟨c,u⟩ st3 ⟨e,Rs3,ri3,hl3⟩;have e:c=none:=e;subst e;refine Ak (Gs ?_);refine hj2 _ Rs3 ⟨ri3.k,ri3.f,ri3.m,ri3.l,?_,ri3.u⟩ hl3;show Zic 0 _ ((A6 st3).modify ((A6 st3).size - 1) fun x=>(x.1,x.2.1,pw)).toList;rw [Array.toList_modify];exact Zic.mod (f:=fun x=>(x.1,x.2.1,pw)) (fun p=>⟨rfl,rfl⟩) _ ri3.p
    case s3 =>
     rintro y ⟨c,u⟩ st3 _ _ ⟨e,Rs3,ri3,hl3⟩;have e:c=none:=e;subst e;have hpl:(A6 st3).size=Rs3.length:=by rw [<- AN];exact ri3.p.len
     refine Ak (EO ?_);dsimp only;by_cases c5:(A6 st3).size > 1
     ·rw [if_pos c5,AQ (show (A6 st3).size - 2<(A6 st3).size by omega)];dsimp only;refine Xe (fun _=>Ap ⟨rfl,Rs3,ri3,hl3⟩) (fun _=>?_);obtain ⟨R1,X,Y,R2,eR,l1⟩:=Xia (Rs:=Rs3) (i:=(A6 st3).size - 2) (by omega);subst eR;have q0:=ri3.size;refine Ak (Zkd K hP ri3 l1 fun M st4 _ ri4=>?_);refine Xe (fun z=>absurd z (by decide)) (fun _=>?_);have q1:=ri4.size;exact Ap ⟨rfl,_,ri4,by omega⟩
     ·rw [if_neg c5];exact Ap ⟨rfl,Rs3,ri3,hl3⟩
  refine Xe (fun c2=>?_) (fun c2=>?_)
  ·have c2:m<minrun:=c2;refine Ak (FG (Dy ⟨rfl,?_⟩));refine Ak (Xkt (lo:=Rs.flatten.length) (nrem:=size - Rs.flatten.length) d0 K hP' (by omega) sc1 (n:=min (size - Rs.flatten.length) minrun) (by omega) (by omega) (by omega) u1 fun st2 sc2 u2=>?_);refine Xe (fun z=>absurd z (by decide)) (fun _=>?_);exact hj _ st2 sc2 (by omega) (by omega) u2
  ·exact hj m st1 sc1 m1 m2 u1
 case post =>
  rintro ⟨c,lo⟩ st' ⟨e,Rs,ri⟩;have e:c=none:=e;subst e;refine Ak (B0 (BG (I:=fun x c st''=>c.1=none/\∃Rs,RI κ r (Aq st).toList st'' Rs []/\Rs.length+x<=size+1) (Q:=fun c st''=>c.1=none/\∃Rs,RI κ r (Aq st).toList st'' Rs []/\Rs.length<=1) ?st2 ?fi2 ?in2) ?po2)
  case po2 =>
   rintro ⟨c,u⟩ st'' ⟨e,Rs,ri,h1⟩;have e:c=none:=e;subst e;refine Ap (h st'' ri.m ri.f ?_);rw [ri.l,CK]
   match Rs,h1 with
   | [],_=>exact Dw
   | [R],_=>rw [Ba,Gn,CK];exact (ri.u R (.head _)).1
  case fi2 =>rintro c st'' ⟨e,Rs,ri,h1⟩;exact ⟨e,Rs,ri,by omega⟩
  case in2 =>refine ⟨rfl,Rs,ri,?_⟩;have h5:=Ztj fun R hR=>(ri.u R hR).2;have h6:=ri.size;rw [AN,GG] at h6;omega
  case st2 =>
   rintro x ⟨c,u⟩ st'' _ hx ⟨e,Rs,ri,h1⟩;have e:c=none:=e;subst e;have hpl:(A6 st'').size=Rs.length:=by rw [<- AN];exact ri.p.len
   refine Ak (EO ?_);refine Xe (fun c1=>?_) (fun c1=>?_)
   ·have c1:(A6 st'').size<=1:=c1;exact Ap ⟨rfl,Rs,ri,by omega⟩
   ·have c1:¬(A6 st'').size<=1:=c1;have go:∀i,i+1<Rs.length->wpS (model prog w) A E s (LD i) (fun b st3=>b=true/\∃Rs',RI κ r (Aq st).toList st3 Rs' []/\Rs'.length+(x+1)<=size+1) st'':=fun i hi=>by obtain ⟨R1,X,Y,R2,eR,l1⟩:=Xia hi;subst eR;refine Zkd K hP ri l1 fun M st3 _ ri3=>⟨rfl,_,ri3,?_⟩;rw [Ai,AX,AX] at h1;rw [Ai,AX];omega
    refine Ak (B0 (go _ ?_) ?_)
    ·have key:∀(c:Prop) [Decidable c],(if c then (A6 st'').size - 2 - 1 else (A6 st'').size - 2)+1<Rs.length:=fun c _=>by
      by_cases z:c
      ·rw [if_pos z];omega
      ·rw [if_neg z];omega
     exact key _
    ·rintro b st3 ⟨rfl,Rs',ri',h7⟩;refine Xe (fun z=>absurd z (by decide)) (fun _=>?_);exact Ap ⟨rfl,Rs',ri',h7⟩
end L2
namespace L2
open PySem PySem.SeqAt PySem.MeetsSeq PySem.MeetsSeq3
open AutoSeq1 (wpAny_loadPart')
def Xsa (A:BE)(s:Ah)(y x:Value)(b:Bool):Prop:=∀(prog:AZ) (w:BC) (E:Value->Ah->Prop) (Q:Value->Ah->Prop),Q (.bool b) s->wpAny (model prog w) A (richCompare .Lt y x) Q E s
def Xpe (e l:Nat->Bool)(m n:Nat):List Nat->Bool
 | []=>decide (m<n)
 | j::js=>if e j=true then Xpe e l m n js else l j
theorem Zxk (l b:Addr)(items items2:Array Value)(n n2:Nat)(dd dd2:Option Addr)(sl sl2:Array (Option Value))(e lt:Nat->Bool)(k:Nat) :
    ∀i:Nat,min items.size items2.size - i=k->Meets (D4.«list.__eq__.loop» ⟨[.ref l,.ref b,D1 i,D1 0],[]⟩)
      (fun A R s=>s.heap.get? l=some {cls:=.type "list",dict:=dd,data:=.seq items n,slots:=sl}/\s.heap.get? b=some {cls:=.type "list",dict:=dd2,data:=.seq items2 n2,slots:=sl2}/\
        (∀j (h1:j<items.size) (h2:j<items2.size),EqAt A.in1 s items[j] items2[j] (e j))/\(∀j (h1:j<items.size) (h2:j<items2.size),e j=false->Xsa A.in1 s items[j] items2[j] (lt j))/\
        R (.ok (.ret (.bool (Xpe e lt items.size items2.size ((AO (min items.size items2.size)).drop i))))) s):=by
  induction k with
  | zero =>
    intro i hk prog w A R s h;obtain ⟨hp,g,d,tk,os⟩:=s;obtain ⟨hl,hb,he,hlt,h⟩:=h
    wp_walk using Bp hl,Bp hb
    have hd:(AO (min items.size items2.size)).drop i=[]:=by simp;omega
    rw [hd] at h;by_cases hi:i<items.size;have hi1:items[((i:Nat):Int).toNat]?=some items[i]:=by simp [hi]
    have hi2:items2[((i:Nat):Int).toNat]?=none:=by simp;omega
    rw [hi1,hi2]
    wp_walk using Bp hl,Bp hb
    exact h;have hi1:items[((i:Nat):Int).toNat]?=none:=by simp;omega
    rw [hi1]
    wp_walk using Bp hl,Bp hb
    exact h
  | succ k ih =>
    intro i hk prog w A R s h;obtain ⟨hp,g,d,tk,os⟩:=s;obtain ⟨hl,hb,he,hlt,h⟩:=h
    wp_walk using Bp hl,Bp hb
    have q1:i<items.size:=by omega
    have q2:i<items2.size:=by omega
    have hi1:items[((i:Nat):Int).toNat]?=some items[i]:=by simp [q1]
    have hi2:items2[((i:Nat):Int).toNat]?=some items2[i]:=by simp [q2]
    have hd:(AO (min items.size items2.size)).drop i=i::(AO (min items.size items2.size)).drop (i+1):=by rw [AY (by simp;omega)];simp
    have hc:((i:Int)+1)=((i+1:Nat):Int):=by push_cast;rfl
    rw [hd] at h;unfold Xpe at h;rw [hi1,hi2];refine Aa (he i q1 q2 prog w _ _ ?_);cases hb':e i with
    | true =>
      rw [hb',if_pos rfl] at h
      wp_walk
      rw [hc];exact ⟨Ee plain_eq_loop _,Es entry_eq_loop (by
        rw [Dj plain_eq_loop _];exact ih (i+1) (by omega) prog w A R _ ⟨hl,hb,he,hlt,h⟩)⟩
    | false =>
      rw [hb',if_neg Aj] at h
      wp_walk using Bp hl,Bp hb
      rw [hi1,hi2];refine Aa (hlt i q1 q2 hb' prog w _ _ ?_)
      wp_walk
      exact h
theorem Zvx (l b:Addr)(items items2:Array Value)(n n2:Nat)(dd dd2:Option Addr)(sl sl2:Array (Option Value))(e lt:Nat->Bool) :
    Meets (D4.«list.__lt__» ⟨[.ref l,.ref b],[]⟩)
      (fun A R s=>s.heap.get? l=some {cls:=.type "list",dict:=dd,data:=.seq items n,slots:=sl}/\s.heap.get? b=some {cls:=.type "list",dict:=dd2,data:=.seq items2 n2,slots:=sl2}/\
        (∀j (h1:j<items.size) (h2:j<items2.size),EqAt A.in1 s items[j] items2[j] (e j))/\(∀j (h1:j<items.size) (h2:j<items2.size),e j=false->Xsa A.in1 s items[j] items2[j] (lt j))/\
        R (.ok (.ret (.bool (Xpe e lt items.size items2.size (AO (min items.size items2.size)))))) s):=by
  intro prog w A R s h;obtain ⟨hp,g,d,tk,os⟩:=s;obtain ⟨hl,hb,he,hlt,h⟩:=h;have f3:=AutoSeq1.sub_list_list
  wp_walk using Bp hl,Bp hb
  exact ⟨Ee plain_eq_loop _,Es entry_eq_loop (by
    rw [Dj plain_eq_loop _];exact Zxk l b items items2 n n2 dd dd2 sl sl2 e lt _ 0 rfl prog w A R _ ⟨hl,hb,he,hlt,by simpa using h⟩)⟩
end L2
namespace L2
open PySem PySem.SeqAt PyProof.Rows
open Dl (Pc sLt pcLt ctLt)
variable {A:BE}{s:Ah}{prog:AZ}{w:BC}{E:Value->Ah->Prop}
theorem Xdn (a b:Int)(t u:Tok):Xsa A s (.int a t) (.int b u) (decide (a<b)):=fun _ _ _ _ h=>PySem.P.lt_int h
theorem Zmx:∀vs:List Value,vs.zip vs=vs.map fun v=>(v,v)
 | []=>rfl
 | v::vs=>by rw [CU,Bn,Zmx vs]
theorem Zcw (vs:List Value):(vs.toArray.zip vs.toArray).toList=vs.map fun v=>(v,v):=by rw [<- Zmx];simp
open Dl (Pr kLt Xvs)
end L2
namespace L2
open PySem PySem.Spec PyProof.Rows
open Dl (D R FE FT FA FO FS FI FB Fl Pc ctLt)
variable {K:Frag}{C:String->Addr}{E:XK}{Γ Δ Γl Δl Γ' Δ' js Γk Δk Γ1 Δ1:List Nat}{m m1 m2 m3 mr n k mb i j ep:Nat}{S1 S2 S3 Sb:List (Nat×Bool)}{H H':Hp}{X:Cx}{a c f it d:Addr}{b e kx tg body elt iter:Expr}{o:Obj}{ta te tk tm:TE}{tb:V->Hp->VK->Prop}{tc:TT}{fa:FA}{fb fe fk:FE}{fc:FT}{p p1 p2 pos apos cpos lpos np pos' p3:Pos}{x qual y:Str}{es ifs:List Expr}{prog P:AZ}{w:BC}{A:BE}{s:Ah}{pins:List (Addr×Obj)}{σ:St}{params:F0}{cl:List (Str×Addr)}{xs:List V}{Q:Option Value->Ah->Prop}{N ps N2:List Str}{mg:Str->Option Value}{base h:Heap}{st:Stmt}{fd:C4}{g:FS}{ts:List (Addr×Pos×Str)}{T:List Addr}{v:Option Value}{oc:Value}{od an:Option Addr}{osl:Array (Option Value)}{ss:List Stmt}{CX:CXT}{fm:FM}{wi:TI}{u:TS}
section
variable {S:List (Nat×Bool)}
end
theorem Zmm:∀{bs:List Addr} {its:List Value},Yl (bs.map V.ref) its->its=bs.map AL
 | [],_,.nil=>rfl
 | b::bs,_,.cons r rs=>by rw [show _=AL b from r,Zmm rs];rfl
theorem Zmi:∀(bs:List Addr),Yl (bs.map V.ref) (bs.map AL)
 | []=>.nil
 | b::bs=>.cons rfl (Zmi bs)
def adr:Value->Addr
 | .ref a=>a
 | _=>0
section
variable {S:List (Nat×Bool)}
variable {a c o:Expr}{tb tc:TE}{fa fc:FE}
end
structure RoomH (k:Nat)(A:BE):Prop where
 dp:A.depth+3*k+5<FL
 un:A.units+16*k+200<Bw
structure FnOkH (P:AZ)(w:BC)(K:Frag)(mg:Str->Option Value)(base:Heap)(k:Nat)(f:Addr)(fd:C4)(ps:List Str)(sp:Sp):Prop where
 len:∀vs H Q E,sp vs H Q E->vs.length=ps.length
 run:∀(A:BE) (outer:List Env) (s:Ah) (H:Hp) (args:Args) (us:List Value) (vs:List V) (Q:VK) (E:XK),RoomH k A->Xvv P w K mg base A outer s H->FZ s fd args (ps.zip us)->Yl vs us->sp vs H Q E->
  codeAny (model P w) A (.call (.ref f) args) (CR CX0 outer P w H s Q E) s
structure DefH (P:AZ)(w:BC)(K:Frag)(mg:Str->Option Value)(base:Heap)(k:Nat)(x:Str)(ps:List Str)(sp:Sp):Prop where
 ex:∃f fd,mg x=some (.ref f)/\Fk K (.ref f)=true/\Binds K fd ps []/\FnOkH P w K mg base k f fd ps sp
section
variable {S:List (Nat×Bool)}{t:TA}
variable {a c o:Expr}{tb tc:TE}{fa fc:FE}
end
section
variable {K:Type}[DecidableEq K]{knd:HeapKind prog w K}{E:Value->Ah->Prop}
end
section
variable {S:List (Nat×Bool)}
variable {a c:Expr}{t:TA}{f:FA}
end
structure LamSc (X:Cx)(N:List Str)(p:Str)(sc:Scope)(cl:List (Str×Addr)):Prop where
 kind:sc.kind=.function
 co:sc.isCoroutine=false
 gen:sc.isGenerator=false
 nocell:∀x∈sc.names,x.2≠.cell
 par:sc.names.lookup p=some .local
 nd:N.Nodup
 hd:N.head?=some p
 tl:∀x∈N.tail,sc.names.lookup x=some .free
 fr:∀x,sc.names.lookup x=some .free->∃c,cl.lookup x=some c
 cls:∀x c,cl.lookup x=some c->X.env.cells.lookup x=some c
def BMod (base:Heap)(mg:Str->Option Value):Prop:=∃bm ob,mg "__builtins__"=some (.ref bm)/\bm≠Gz/\base.get? bm=some ob/\ob.cls=.type "module"/\ob.dict=some Gz/\ob.data=.plain
section
variable {P:Addr}{sc:Scope}{E:Value->Ah->Prop}
variable {I S:Addr}{R:Kt->Ah->Prop}{Q:V->Hp->Prop}
end
section
variable {Q:VK}
end
structure LamOk (X:Cx)(N:List Str)(p qual:Str)(params:F0)(body:Expr)(sc:Scope)(cl:List (Str×Addr))(js:List Nat)(P c:Addr)(lpos:Pos):Prop where
 bm:BMod X.base X.mg
 tab:X.H₀ P=some (.tbl lpos qual)
 code:X.env.code=.ref c
 hd:PySem.W.CodeHd X.base c P
 clo:Kr sc X.env=pure cl
 qu:X.env.qual++"<lambda>"=qual
 df:defaultsOf params X.env=([],[])
 lsc:LamSc X N p sc cl
 jsx:∀(i:Nat) (x:Str),N.tail[i]?=some x->∃j:Nat,js[i]?=some j/\X.N[j]?=some x/\Vis X.env.scope x/\X.env.kindOf x≠some .local
 len:js.length+1=N.length
 bind:∀(u pm ctv:Value) (c:Addr),LF (PySem.W.kla_fn "<lambda>" qual params body sc cl pm (.ref c) ctv) ⟨[u],[]⟩=pure [(p,u)]
 dep:X.A.in1.depth<FL
 calm:X.calm=true
section
variable {p:Str}{sc:Scope}{P:Addr}
variable {kp:Pos}{tb:TE}
variable {S:List (Nat×Bool)}
end
section
variable {S:List (Nat×Bool)}{p:Str}{sc:Scope}{P:Addr}{kp:Pos}{tb:TE}
end
structure FunL (K:Frag)(x qual:Str)(st:Stmt)(f:Addr)(fd:C4)(c:Addr):Prop where
 ex:∃(oc:Value) (od:Option Addr) (kV doc pm:Value) (an:Option Addr) (ct:Value) (osl:Array (Option Value)),
  fd=fnOf x qual (Zcr st) (Zab st) (Zn st) .none kV doc pm an (.ref c) ct/\K.lookup f=some ⟨oc,od,.func fd,osl⟩/\codeIn K (.ref c) qual=true
 kp:Fk K (.ref f)=true
section
variable {S:List (Nat×Bool)}{t:TA}
end
def Ziv (T:List Addr)(K:Frag):Frag:=K.filter fun p=>!T.contains p.1
theorem Zhx {T:List Addr}{a:Addr}(h:T.contains a=true):∀K:Frag,(Ziv T K).lookup a=none
 | []=>rfl
 | (b,o)::K=>by unfold Ziv;rw [Gp];split;rename_i hb;rw [Bo];split;rename_i e;have e:=BA e;subst e;have hb:(!T.contains a)=true:=hb;rw [h] at hb;cases hb;exact Zhx h K;exact Zhx h K
theorem Jh {T:List Addr}{a:Addr}(h:T.contains a=false):∀K:Frag,(Ziv T K).lookup a=K.lookup a
 | []=>rfl
 | (b,o)::K=>by unfold Ziv;rw [Gp,Bo];split;rw [Bo];split;rfl;exact Jh h K;rename_i hb;have hb:¬(!T.contains b)=true:=hb;split;rename_i e;have e:=BA e;subst e;rw [h] at hb;exact absurd rfl hb;exact Jh h K
theorem dropT_in (x:K.In h):(Ziv T K).In h:=fun a o e=>by
 cases q:T.contains a with
 | true=>rw [Zhx q] at e;cases e
 | false=>rw [Jh q] at e;exact x a o e
section
variable {n:Str}
theorem dropT_ns (e:nsIn K a n=some v)(h:T.contains a=false:=by decide):nsIn (Ziv T K) a n=some v:=by unfold nsIn at e ⊢;rw [Jh h];exact e
theorem Zvf (e:codeIn K (.ref c) qual=true)(h:T.contains c=false:=by decide):codeIn (Ziv T K) (.ref c) qual=true:=by unfold codeIn at e ⊢;simp only [Jh h];exact e
theorem dropT_hd {P:Addr}(e:J2 K c P=true)(h:T.contains c=false:=by decide):J2 (Ziv T K) c P=true:=by unfold J2 at e ⊢;rw [Jh h];exact e
theorem Zve (l:K.lookup f=some ⟨oc,od,.func fd,osl⟩)(h:T.contains f=false:=by decide):Fk (Ziv T K) (.ref f)=true:=by unfold Fk;simp only [Jh h,l]
theorem fun_mkT {kV doc pm ct:Value}(l:K.lookup f=some ⟨oc,od,.func (fnOf x qual (Zcr st) (Zab st) (Zn st) .none kV doc pm an (.ref c) ct),osl⟩)
  (cd:codeIn K (.ref c) qual=true) (hf:T.contains f=false:=by decide) (hc:T.contains c=false:=by decide):FunL (Ziv T K) x qual st f (fnOf x qual (Zcr st) (Zab st) (Zn st) .none kV doc pm an (.ref c) ct) c:=
 ⟨⟨oc,od,kV,doc,pm,an,ct,osl,rfl,by rw [Jh hf];exact l,Zvf cd hc⟩,Zve l hf⟩
theorem Xqh (l:K.lookup a=some o)(h:T.contains a=false:=by decide):(Ziv T K).lookup a=some o:=by rw [Jh h];exact l
variable {H2:Hp}
variable {pa pb pc pd:Pos}
variable {h':Heap}{o:HO}
theorem Yz.stayF (x:Yz P w H h a o)(ho:∀b,H b=some (.own a)->H' b=some (.own a))(ht:∀b xs,H b=some (.tup xs)->H' b=some (.tup xs))(hf:∀b o,H b=some (.frz o (.own 0))->H' b=some (.frz o (.own 0))):Yz P w H' h a o:=by
 induction o with
 | dT kvs =>obtain ⟨z,y,xs,r,ob,es,ep,e,c⟩:=x;exact ⟨z,y,xs,Paired.mapP r fun p q z=>⟨z.1,ht _ _ z.2.1,z.2.2⟩,ob,es,ep,e,c⟩
 | ins C dx fs =>obtain ⟨d,r⟩:=x;exact ⟨ho _ d,r⟩
 | frz ob u ih=>obtain ⟨e,q⟩:=x;exact ⟨e,ih q⟩
 | tbl pos qual =>obtain ⟨ps,e,tr,hc⟩:=x;refine ⟨ps,e,tr,fun v hv=>?_⟩;obtain ⟨c,o,vs,t,e1,e2,e3⟩:=hc v hv;exact ⟨c,o,vs,t,e1,hf _ _ e2,e3⟩
 | _=>exact x
end
section
variable {u u':HO}
theorem Inv.fz (I:Inv X pins σ H s)(e:H a=some u)(mu:Mut (H a))(hu:∀b o v,u≠.own b/\u≠.frz o v)(ho:s.heap.get? a=some o):Inv X pins σ (upd H a (.frz o u)) s/\∀o u,X.H₀ a≠some (.frz o u):=by
 refine ⟨?_,fun o' u' q=>?_⟩;have new:Yz X.prog X.w (upd H a (.frz o u)) s.heap a (.frz o u):=by refine ⟨ho,(I.hok a u e).stayF (fun c q=>?_) (fun c xs q=>?_) fun c ob q=>?_⟩;rw [Xa fun z=>by subst z;rw [e] at q;cases q;exact (hu _ o (.own 0)).1 rfl];exact q;rw [Xa fun z=>by subst z;rw [q] at mu;exact mu];exact q;rw [Xa fun z=>by subst z;rw [q] at mu;exact mu];exact q
 have z:=I.write (x:=a) (e:=a) (t':=s.toks) (h':=s.heap) mu (.inl rfl) (fun b q _ z=>z) ⟨o,ho⟩ new;exact z;have z:=I.base.frzs a o' u' q;rw [e] at z;cases z;exact (hu 0 o' u').2 rfl
variable {S:List (Nat×Bool)}
variable {a c o:Expr}{tb tc:TE}{fa fc:FE}
variable {Q:VK}
variable {pos2:Pos}{e1 e2:Expr}{t1 t2:TE}{f1 f2:FE}{v:TS}{h:FS}
end
open Dl (FM)
section
variable {S:List (Nat×Bool)}{Q:VK}
def MOkF (K:Frag)(C:String->Addr)(E:XK)(Γ Δ:List Nat)(i:Nat)(t:TE)(f:FM):Prop:=∀(H0 Hb H:Hp) (σ:St) (ρ:Xr) (A:Nat->List Addr) (Q:VK),Zp K C H0 Hb H Γ Δ σ ρ A->
 Xh (f ρ) (fun p=>∀v H' A' B,Zp K C H0 Hb H' Γ Δ σ p.2 A'->(∀b o,b∉A i->H b=some o->H' b=some o)->(∀j,j≠i->p.2[j]?=ρ[j]?/\A' j=A j)->Rp K C H' p.1 v B->B.Nodup->(∀a∈B,Hb a=none/\∀j,a∉A' j)->Q v H') (fun c x=>∀H',Xi H0 H'->EC C E c x H')->t σ H Q
variable {t:TA}{p4 p5 mpos mapos:Pos}{c:String}{md kx:Str}
structure JMF (X:Cx)(C:String->Addr)(E:XK)(Γ Δ:List Nat)(j:Nat)(e:Expr)(t:TE)(f:FM):Prop where
 q:QE X e t
 o:MOkF X.K C E Γ Δ j t f
end
@[reducible] def Cx.blkC (X:Cx)(N2:List Str)(y:Str)(sc:Scope)(cl:List (Str×Addr))(C:Addr)(s0:Ah)(H0:Hp)(fp:List Addr):Cx:=
 {X with N:=N2++[y],s₀:=s0,H₀:=H0,env:=HC sc cl C X.env,outer:=X.stack,ex:=fp,fn:=fun z=>z==y,pn:=[],xe:=fun _ _=>False}
structure BlkC (sc esc:Scope)(y:Str)(N N2:List Str):Prop where
 kind:sc.kind=.function
 cell:∀n acc,Iy n sc.names acc=(y,n)::acc
 one:∀z∈sc.names,z.2=.cell->z.1=y
 nfree:∀z∈sc.names,z.2=.free->z.1≠y
 loc:∀z∈sc.names,z.2=.local->sc.names.lookup z.1=some .local
 free:∀z∈sc.names,z.2=.free->esc.names.lookup z.1=some .cell\/esc.names.lookup z.1=some .free
 out:∀z∈N2,sc.names.lookup z≠some .local/\z≠y
 nd:N.Nodup
 len:N2.length=N.length
 ren:∀p∈N.zip N2,p.2=p.1\/sc.names.lookup p.2=none
section
variable {g:TG}{sc:Scope}
variable {S:List (Nat×Bool)}
end
section
variable {S:List (Nat×Bool)}{sc:Scope}{gg:TG}{fi:FI}{fg:FB}
end
open Dl (FMT)
section
variable {S:List (Nat×Bool)}
theorem Xlq {t:TS}{f:FS}(hc:TOk K C E Γ Δ tc fc)(h1:Zos K C E Γ Δ Γ' Δ' t f)(h2:Zos K C E Γ Δ Γ' Δ' u g):Zos K C E Γ Δ Γ' Δ' (Xqc tc t u) (Dl.sIf fc f g):=fun H0 Hb H σ ρ A D I p =>
  hc H0 Hb H σ ρ A _ I (Xh.imp (Xh.bind p) (fun b q H1 g1=>by
    cases b with
    | true=>exact h1 H0 Hb H1 σ ρ A D (I.mono g1) q
    | false=>exact h2 H0 Hb H1 σ ρ A D (I.mono g1) q) fun c x q H' g'=>q H' (Xi.from0 I g'))
variable {a:Expr}{t:TA}{q3:Pos}
end
section
variable {S:List (Nat×Bool)}
theorem Zp.away {H0 Hb:Hp}{ρ:Xr}{A:Nat->List Addr}{W:List Addr}(I:Zp K C H0 Hb H Γ Δ σ ρ A)(hk:∀b o,b∉W->H b=some o->H' b=some o)(hb:∀a∈W,Hb a=Ca)(hA:∀k,∀a∈A k,a∉W)(hm:∀a∈W,∀o,H a=some o->IsM o):Zp K C H0 Hb H' Γ Δ σ ρ A:=by
 have ext:Ext (fun c=>c∈W) H H':=fun c o h=>by by_cases e:c∈W;exact .inr ⟨e,hm c e o h⟩;exact .inl (hk c o e h)
 refine ⟨I.s0,fun c o h=>?_,I.len,fun i d h=>?_,I.nil,I.loc,I.top,I.deep⟩;exact hk c o (fun z=>by rw [hb c z] at h;cases h) (I.same c o h);obtain ⟨v,e,r⟩:=I.rep i d h;exact ⟨v,e,r.ext ext fun a ha z=>hA i a ha z⟩
variable {t:TA}{ff:FA}{z:Str}
variable {a:Expr}
end
section
variable {S:List (Nat×Bool)}
def SOkT (K:Frag)(C:String->Addr)(E:XK)(t:TS)(f:FS):Prop:=∀(H0 Hb H:Hp) (σ:St) (ρ:Xr) (A:Nat->List Addr) (D:Ends),Zp K C H0 Hb H [] [] σ ρ A->
  Xh (f ρ) (fun fl=>match fl with
    | .ret d=>∀v H' Br,Xi H H'->Rp K C H' d v Br->(∀a∈Br,(∃j,a∈A j)\/H a=none)->D.rt v H'
    | _=>False) (fun c x=>∀H',Xi H H'->EC C E c x H')->t D σ H
end
structure JTs (X:Cx)(C:String->Addr)(E:XK)(ss:List Stmt)(t:TS)(f:FS):Prop where
 q:QSs X ss t
 o:SOkT X.K C E t f
 n:∀ρ ρ',f ρ≠.ok (.nx ρ')
section
variable {S:List (Nat×Bool)}{t:TA}{f:FA}
end
open Dl (Pr kLt Xvs)
def Xsv:R2:=fun x y H Q=>∃a o,y=.ref a/\Xhg H a x o/\Q (.bl (!o.isSome)) H
theorem Zwr (hu:X.A.units+64<Bw):OpR X (BX .NotIn) Xsv:=by intro pins s σ H x y v u Q I rx ry h;obtain ⟨a,o,rfl,g,q⟩:=h;cases (show u=AL a from ry);exact Xmp (by omega) I g rx fun s3 I3=>⟨.bl (!o.isSome),H,I3,rfl,q⟩
theorem Zrv:GOk K C Xsv Dl.Zfo:=by intro H x y d vx vy Bx By Q rx ry e q;unfold Dl.Zfo at e;split at e;rename_i ks ds;obtain ⟨k,hk,e⟩:=AB.mp e;cases e;obtain ⟨a,xs,B,rfl,h1,h2,h3,_⟩:=ry;obtain ⟨b,rfl,hb⟩:=Zhr hk rx;refine ⟨a,_,rfl,Xhg.t h1 hb,?_⟩;rw [<- Zkx,Zgx (by rw [h2,h3.len])];exact Out.flat q rpB;cases e
section
variable {E:Value->Ah->Prop}
theorem Xam {od:Obj}{es:Array DX}(hit:s.heap.IsKeyIter it d i es.size ep)(hod:s.heap.get? d=some od)(hdd:od.data=.dict es ep)(hi:i<es.size)
  (q:∀h',h'.IsKeyIter it d (i+1) es.size ep->Cb it s.heap h'->Q (some es[i].key) {s with heap:=h'}):wpAny (model prog w) A (pyNext (.ref it)) Q E s:=by
 obtain ⟨o,ho,hc,hd⟩:=id hit;have T:=hit.typeIs;have hit':(s.heap.update it (KU (·.setIfInBounds 1 (D1 ((i:Int)+1))))).IsKeyIter it d (i+1) es.size ep:=⟨_,DG _ ho (HW (Et hd _)),(JC ..).trans hc,by rw [Et hd];simp [D1]⟩;unfold pyNext;refine Aa (DP (Bs (name:=BQ "__next__") T Cq (Bg Cq T G0 (Aa (Ac (Aa (Aa ?_)))) (GS _))))
 first | refine Aa (C7 T (Ac (Aa (C1 ho hd ?_)))) | refine Aa (DO T (Ac (Aa (C1 ho hd ?_))))
 simp only [show BY "dict_keyiterator"=false by decide,Bb,if_false];change wpAny _ _ (ite ((AL d==BH)=true) _ _) _ _ s;rw [if_neg fun z:(AL d==BH)=true=>Aj z];refine Aa (Ac (Aa (B4 hod hdd ?_)));rw [if_neg (by simp)];refine Aa (Ac (Aa (DQ hod hdd ?_)));rw [if_neg (by simp)];refine Ac ?_;simp only [show ¬((i:Int)<0) from by omega,if_false,Dm,AQ hi];refine Aa ?_
 first | refine Aa (C7 T (Ac (Aa (Fy T ?_)))) | refine Aa (DO T (Ac (Aa (Fy T ?_))))
 change wpAny _ _ (J0 (.ref it) 1 (D1 ((i:Int)+1)) >>= _) _ _ s;refine Aa (FJ ho hd (by simp) (Aa (BZ (Aa (Fy (s:={s with heap:=s.heap.update it (KU (·.setIfInBounds 1 (D1 ((i:Int)+1))))}) hit'.typeIs ?_)))));change wpAny _ _ (pure es[i].key) _ _ _;exact Ac (Ac ⟨_,rfl,Ac (q _ hit' (Da ..))⟩)
theorem Zse {od:Obj}{es:Array DX}(hh:A.handled=none)(hit:s.heap.IsKeyIter it d i es.size ep)(hod:s.heap.get? d=some od)(hdd:od.data=.dict es ep)(hi:es.size<=i)
  (q:∀h',HZ it s.heap h'->Q none {s with heap:=h'}):wpAny (model prog w) A (pyNext (.ref it)) Q E s:=by
 obtain ⟨o,ho,hc,hd⟩:=id hit;have T:=hit.typeIs;unfold pyNext;refine Aa (DP (Bs (name:=BQ "__next__") T Cq (Bg Cq T G0 (Aa (Ac (Aa (Aa ?_)))) (GS _))))
 first | refine Aa (C7 T (Ac (Aa (C1 ho hd ?_)))) | refine Aa (DO T (Ac (Aa (C1 ho hd ?_))))
 simp only [show BY "dict_keyiterator"=false by decide,Bb,if_false];change wpAny _ _ (ite ((AL d==BH)=true) _ _) _ _ s;rw [if_neg fun z:(AL d==BH)=true=>Aj z];refine Aa (Ac (Aa (B4 hod hdd ?_)));rw [if_neg (by simp)];refine Aa (Ac (Aa (DQ hod hdd ?_)));rw [if_neg (by simp)];refine Ac ?_;simp only [show ¬((i:Int)<0) from by omega,if_false,Dm,Hs hi];refine Aa ?_
 first | refine Aa (C7 T (Ac ?_)) | refine Aa (DO T (Ac ?_))
 change wpAny _ _ (J0 (.ref it) 0 .none >>= _) _ _ s;apply Aa;refine FJ ho hd (by simp) ?_;change wpAny _ _ (IN (.type "StopIteration") [] >>= _) _ _ _;refine Aa ?_;simp only [IN,LC];refine Aa (A5 (Aa (m:=D2 _ _) (G9 (a:=BH) (by first | rfl | (simp only [D2];rfl)) (A5 ?_ (by size_fits)))) (by size_fits));simp only [LB];apply Aa;refine Ib ?_;have h9:A.in1.handled=none:=hh;rw [h9];refine Aa (Ac (JV ?_));exact Aa (E6 (T:="StopIteration") (b:=true) ⟨_,Az _ rfl,rfl⟩ HB (Ac (q _ (((Da ..).extBut.push _).push _))))
theorem Zyn {od:Obj}{es:Array DX}{Q:Value->Ah->Prop}(hs:(d==CH)=false)(hod:s.heap.get? d=some od)(hx:od.ExactDict)(hdd:od.data=.dict es ep)
  (q:Q (.ref s.heap.objs.size) {s with heap:=s.heap.push {cls:=.type "dict_keyiterator",data:=.fields #[.ref d,.int 0 0,.int es.size 0,.int ep 0]}}):wpAny (model prog w) A (IM (.ref d)) Q E s:=by
 have T:s.TypeIs (.ref d) "dict":=⟨od,hod,hx.1⟩;refine GJ T KA (Bg KA T F.entry_dict_iter ?_ (F.args_dict_iter_1 _));unfold D4.«dict.__iter__» Lx;refine Aa (Aa (Fx T ?_));change wpAny _ _ (pure (AL d)) _ _ s;refine Ac ?_;change wpAny _ _ (CT d >>= _) _ _ s;unfold CT;rw [if_neg (by rw [hs];exact Aj)];refine Aa (Ac (Aa (B4 hod hdd (Aa (DQ hod hdd (Aa (A5 (Ac ⟨_,rfl,"dict_keyiterator",_,⟨_,Az _ rfl,rfl⟩,Cq.lookup,?_⟩))))))));simpa [D1] using q
end
def ItDt (a:Addr)(o:Obj)(kvs:List (List Key×V)):It:=
 ⟨fun i H=>H a=some (.frz o (.dT kvs))/\i<kvs.length,fun i H x H'=>H'=H/\∃kv b,kvs[i]?=some kv/\x=.ref b/\H b=some (.tup (kv.1.map kV)),fun i H=>H a=some (.frz o (.dT kvs))/\kvs.length=i⟩
theorem Paired.at_ {α β:Type}{R:α->β->Prop}:∀{l:List α} {m:List β} {i:Nat} {p:α},Paired R l m->l[i]?=some p->∃q,m[i]?=some q/\R p q
 | _,_,_,_,.nil,e=>by simp at e
 | _,_,0,_,.cons (b:=q) r _,e=>by simp at e;subst e;exact ⟨q,rfl,r⟩
 | _,_,i+1,p,.cons _ t,e=>by obtain ⟨q,h1,h2⟩:=Paired.at_ (i:=i) (p:=p) t (by simpa using e);exact ⟨q,by simpa using h1,h2⟩
theorem Zts (a it:Addr)(o:Obj)(kvs:List (List Key×V))(es:Array DX)(ep:Nat)(h2:o.data=.dict es ep)(hn:es.size=kvs.length) :
  Turn P w K tg (ItDt a o kvs) [it] it (fun i h=>h.IsKeyIter it a i es.size ep) where
 mem:=by simp
 obj:=fun i h st b hb=>by
  have e:b=it:=by simpa using hb
  subst e;obtain ⟨o,e,c,d⟩:=st;exact ⟨o,e,fun v z=>by rw [d] at z;cases z⟩
 keep:=fun i h h' st k=>st.at fun o e=>k it (by simp) o e
 item:=by
  intro X hP hw hK hc i pins s σ H E I hf st hg;subst hP hw hK;obtain ⟨f0,f1,f2,f3,f4,f5⟩:=hf it (by simp);obtain ⟨hfz,hi⟩:=hg;obtain ⟨ho,hob⟩:=I.hok a _ hfz;obtain ⟨_,_,xs,r,o',es',ep',e1,_,e3,e4,_⟩:=hob;rw [ho] at e1;cases e1;rw [h2] at e3;cases e3;have hk:kvs[i]?=some kvs[i]:=Ad hi;obtain ⟨q,hq1,hq2,hq3,_⟩:=Paired.at_ r hk;have hie:i<es.size:=by omega
  have ek:es[i].key=.ref q.2.1:=by
   have:es.toList[i]?=some (Gy (DF (Yg X.prog X.w)) q):=by rw [e4,Bk,hq1];rfl
   rw [Ad (by simpa using hie)] at this;have z:=AU this;rw [HV] at z;rw [z];rfl
  refine Xam st ho h2 hie fun h' st' sb=>?_;have I1:Inv X pins σ H {s with heap:=h'}:=I.turned (t':=s.toks) (fun b o hb e=>(sb.2 b hb).trans e) f0 f1 f3 f4 f5;obtain ⟨o',e,c,d⟩:=id st';rw [ek];exact ⟨.ref q.2.1,rfl,Xli (s:={s with heap:=h'}) e c d (by decide) ⟨.ref q.2.1,H,I1,rfl,⟨rfl,kvs[i],q.2.1,hk,rfl,hq3⟩,st',fun b hb=>(hf b hb).1⟩⟩
 done:=by intro X hP hw hK hc i pins s σ H E I hf st hg;subst hP hw hK;obtain ⟨f0,f1,f2,f3,f4,f5⟩:=hf it (by simp);obtain ⟨hfz,hi⟩:=hg;have ho:=(I.hok a _ hfz).1;exact Zse (I.ok.hd hc) st ho h2 (by omega) fun h' eb=>⟨rfl,I.turned (t':=s.toks) (fun b o hb e=>eb b o hb e) f0 f1 f3 f4 f5⟩
 self:=fun _ _ _ _ _ st h=>wpAny_pyIter_keyiter st h
open Dl (D R FE FT FA FO FS FI FB FM FMT Fl) in
theorem Zwv {H:Hp}:∀{k:List Key},k.all Dl.kOk=true->RpA K C H (k.map Dl.kdD) (k.map kV) []
 | [],_=>RpA.nil
 | x::k,h=>by
  rw [List.all_cons,A9] at h;refine ⟨_,_,[],[],rfl,?_,Zwv h.2,rfl⟩;cases x with
  | inl i=>exact ⟨rfl,rfl⟩
  | inr z=>exact ⟨rfl,h.1,rfl⟩
section
variable {c:Expr}{tA:TT}{fA:Dl.FT}{ip rp:Pos}
end
end L2
namespace L2
open PySem
def UpP (a:Array Nat):Prop:=∀(i j x y:Nat),i<j->a[i]?=some x->a[j]?=some y->x<y
structure TabU (t:SetTable):Prop where
 no:t.dummies=#[]
 up:UpP t.place
end L2
namespace L2
open PySem PySem.Spec PyProof.Rows
open Dl (Xke Zxt)
variable {prog:AZ}{w:BC}{A:BE}{E:Value->Ah->Prop}{s:Ah}{a:Addr}{ks:List Int}{es:Array (Int×Value)}{X:Cx}{pins:List (Addr×Obj)}{e:Expr}{te:TE}{p:Pos}{K:Frag}{C:String->Addr}{Γ Δ:List Nat}{m1 m:Nat}{S1:List (Nat×Bool)}
section
variable {it:Addr}{ep i:Nat}{t:SetTable}
end
open Dl (D R FE FT FA FO FS FI FB Fl)
section
variable {σ:St}{H:Hp}{p' pos pos':Pos}
variable {E:XK}
variable {S:List (Nat×Bool)}{fe:FE}{p2 apos cpos:Pos}
end
end L2
namespace L2
open PySem PyProof.Rows
variable {prog:AZ}{w:BC}{A:BE}{E:Value->Ah->Prop}{s:Ah}{κ:FQ}{P:Ay->Prop}{r:Ay->Ay->Bool}{st:BB}{ps:Ay->Int}{d0:Ay}{a0 Z:List Ay}{Rs:List (List Ay)}
def SB (r:Ay->Ay->Bool)(ps:Ay->Int)(x y:Ay):Prop:=r y x=false/\(r x y=false->ps x<ps y)
def Tl (ps:Ay->Int)(g:Nat->Ay)(n m:Nat):Prop:=∀i j,i<j->n<=j->j<m->ps (g i)<ps (g j)
section
variable {lo nrem:Nat}
structure DnL (r:Ay->Ay->Bool)(ps:Ay->Int)(g:Nat->Ay)(x q m:Nat):Prop where
 fall:∀i j,i<j->j<x->i<x - (q+1)->SB r ps (g j) (g i)
 like:∀i j,x - (q+1)<=i->i<x->x - (q+1)<=j->j<x->Eqv r (g i) (g j)
 tail:Tl ps g (x - (q+1)) m
 q1:q+1<=x
structure Od (ps:Ay->Int)(Rs:List (List Ay))(Z:List Ay):Prop where
 runs:Rs.Pairwise fun A B=>∀x∈A,∀y∈B,ps x<ps y
 rest:∀R∈Rs,∀x∈R,∀y∈Z,ps x<ps y
 tail:Z.Pairwise fun x y=>ps x<ps y
end
end L2
namespace L2
open PySem PySem.Spec PyProof.Rows
variable {prog:AZ}{w:BC}{A:BE}{E:Value->Ah->Prop}{s:Ah}{a c:Addr}{vs:List Value}{kz cs:List Int}{keys:Array Value}{P:PySem.Fin->Ah->Prop}{X:Cx}{pins:List (Addr×Obj)}{σ:St}{H:Hp}{tb:V->Hp->VK->Prop}{QQ:List Int->Hp->Prop}{N:List Str}{p lpos np pos kp2 cp apos cpos:Pos}{qual:Str}{params:F0}{body e iter tg:Expr}{cl:List (Str×Addr)}{js Γ Δ Γ' Δ' Γl Δl Γ1 Δ1:List Nat}{te:TE}{k m mb mr n:Nat}{K:Frag}{C:String->Addr}{Sb:List (Nat×Bool)}{fe:FE}{s1:Stmt}{ifs:List Expr}
def kp (x:Ay):Int×Int:=(numOf x.1,numOf x.2)
section
variable {kS:Addr}{e e1:Nat}
variable {f:Addr}
variable {p:Str}{sc:Scope}{P:Addr}{kp:Pos}{tb:TE}
end
open Dl (D R FE FT FA FO FS FI FB Fl)
section
variable {E:XK}{m1 m2:Nat}{S:List (Nat×Bool)}
variable {p:Str}{sc:Scope}{P:Addr}{kp:Pos}{tb:TE}{fb:FE}
def AllN (H0:Hp)(A:Nat->List Addr):Prop:=∀j,∀a∈A j,H0 a=none
def PostU (K:Frag)(C:String->Addr)(E:XK)(Γl Δl Γ' Δ':List Nat)(H0 Hb:Hp)(D:Ends)(r:R Fl):Prop:=Xh r (fun fl=>match fl with
    | .nx ρ'=>∀σ' H' A',Zp K C H0 Hb H' Γ' Δ' σ' ρ' A'->AllN H0 A'->D.nx σ' H'
    | .ret d=>∀v H' B,Xi Hb H'->Rp K C H' d v B->(∀a∈B,H0 a=none)->D.rt v H'
    | .brk ρ'=>∀σ' H' A',Zp K C H0 Hb H' Γl Δl σ' ρ' A'->AllN H0 A'->D.bk σ' H'
    | .cnt ρ'=>∀σ' H' A',Zp K C H0 Hb H' Γl Δl σ' ρ' A'->AllN H0 A'->D.ct σ' H')
  (fun c x=>∀H',Xi Hb H'->EC C E c x H')
def SOkU (K:Frag)(C:String->Addr)(E:XK)(Γl Δl Γ Δ Γ' Δ':List Nat)(t:TS)(f:FS):Prop:=∀(H0 Hb H:Hp) (σ:St) (ρ:Xr) (A:Nat->List Addr) (D:Ends),Zp K C H0 Hb H Γ Δ σ ρ A->AllN H0 A->PostU K C E Γl Δl Γ' Δ' H0 Hb D (f ρ)->t D σ H
end
structure JU (X:Cx)(C:String->Addr)(E:XK)(Γl Δl Γ Δ Γ' Δ':List Nat)(s:Stmt)(t:TS)(f:FS):Prop where
 q:QS X s t
 o:SOkU X.K C E Γl Δl Γ Δ Γ' Δ' t f
structure JUs (X:Cx)(C:String->Addr)(E:XK)(Γl Δl Γ Δ Γ' Δ':List Nat)(ss:List Stmt)(t:TS)(f:FS):Prop where
 q:QSs X ss t
 o:SOkU X.K C E Γl Δl Γ Δ Γ' Δ' t f
section
variable {E:XK}{S:List (Nat×Bool)}{c:Expr}{ss body other:List Stmt}{u v:TS}{g h:FS}{pos':Pos}
variable {elt:Expr}{sc:Scope}{wi:TI}{tc:TT}{gg:TG}{fi:FI}{fc:FT}{fg:FB}
variable {p1 p2 p3:Pos}{x y z:Str}{i j l:Nat}
end
end L2
namespace L2
open PySem PyProof.Rows
variable {prog:AZ}{w:BC}{A:BE}{E:Value->Ah->Prop}{s:Ah}{κ:FQ}{P:PySem.Fin->Ah->Prop}{r:Ay->Ay->Bool}{st:BB}{ps:Ay->Int}{vs:List Value}{kz cs:List Int}{keys:Array Value}
section
variable {P:Ay->Prop}
variable {a kS:Addr}{e e1:Nat}
end
end L2
namespace L2
open PySem PySem.Spec PyProof.Rows
variable {X:Cx}{pins:List (Addr×Obj)}{σ:St}{H:Hp}{s:Ah}{tb:V->Hp->VK->Prop}{A:BE}{E:Value->Ah->Prop}{P:PySem.Fin->Ah->Prop}{vs:List Value}{cs:List Int}{QQ:List Int->Hp->Prop}{N:List Str}{p qual:Str}{params:F0}{body e:Expr}{cl:List (Str×Addr)}{js Γ Δ:List Nat}{c:Addr}{lpos np pos kp2 cp:Pos}{te:TE}{k m mb:Nat}{K:Frag}{C:String->Addr}{Sb:List (Nat×Bool)}
section
variable {a f:Addr}
variable {sc:Scope}{P:Addr}{kp:Pos}{tb:TE}
end
open Dl (D R FE FT FA FO FS FI FB Fl)
section
variable {E:XK}{Γ' Δ':List Nat}{m1 m2:Nat}{S:List (Nat×Bool)}
variable {sc:Scope}{P:Addr}{kp:Pos}{tb:TE}{fe fb:FE}
end
end L2
namespace L2
open PySem PySem.SeqAt PyProof.Rows
open Dl (sLt Pr kLt Xvs)
variable {prog:AZ}{w:BC}{A:BE}{E:Value->Ah->Prop}{s:Ah}
end L2
namespace L2
open PySem PySem.Spec PyProof.Rows
open Dl (D R FE FT FA FO FS FI FB FM FMT Fl Pr kLt Xvs)
variable {X:Cx}{K:Frag}{C:String->Addr}{H Hc:Hp}{prog P:AZ}{w:BC}{A:BE}{E Q:Value->Ah->Prop}{s:Ah}{z d l b a it i1 i2 l1 l2 I:Addr}{i ep x1 m mr j m1 m2 n k1 k2 c:Nat}{od o:Obj}{es:Array DX}{u0 u1 x v:Value}{elts vs:List Expr}{pos apos cpos tpos p p2 np:Pos}{tg e kx:Expr}{Γ Δ Γ' Δ' Γl Δl Γ1 Δ1 Γk Δk:List Nat}{k:List Key}{ks:List (List Key)}{xs:Array (Int×Tok)}{ys items:Array Value}{u:HO}{f fe fk fa f':FE}{te tk tv ta tb:TE}{ds:List D}{σ:St}{y:Str}{S1 S2:List (Nat×Bool)}{α:Type}{fb:FB}{ws:List Value}{g tt:TG}{gs:TGs}{wi:TI}{fi:FI}{G:List D->R (D×D)}{CX:CXT}{ps:List Str}{s1:Stmt}{ss body other:List Stmt}{fu:List D->Xr->R Xr}{env:Env}{pins:List (Addr×Obj)}{fp wr:List Addr}{ns:List Int}
theorem Xpl {Q:Option Value->Ah->Prop}(hz:Ed s.heap z d i es.size ep u0 u1)(ho:s.heap.get? d=some od)(hd:od.data=.dict es ep)(hi:i<es.size)
  (q:∀h',Im h' z d (i+1) es.size ep es[i].key es[i].val s.heap.objs.size->h'.get? s.heap.objs.size=some {cls:=.type "tuple",data:=.seq #[es[i].key,es[i].val]}->(∀b o,b≠z->s.heap.get? b=some o->h'.get? b=some o)->Q (some (.ref s.heap.objs.size)) {s with heap:=h'}):wpAny (model prog w) A (pyNext (.ref z)) Q E s:=by
 obtain ⟨hp,g,dr,tk,os⟩:=s;have T:Fm ⟨hp,g,dr,tk,os⟩ (.ref z) "dict_itemiterator":=⟨_,hz,rfl⟩;have lz:z<hp.objs.size:=AW hz;unfold pyNext;refine Aa (DP (Bs (name:=BQ "__next__") T Cm (Bg Cm T GR (Aa (Ac (Aa (Aa ?_)))) (GI _))))
 first | refine Aa (C0 T (Ac (Aa (C1 hz rfl ?_)))) | refine Aa (DJ T (Ac (Aa (C1 hz rfl ?_))))
 simp only [show BY "dict_itemiterator"=true by decide,if_true];change wpAny _ _ (ite ((AL d==BH)=true) _ _) _ _ _;rw [if_neg fun y:(AL d==BH)=true=>Aj y];refine Aa (Ac (Aa (B4 ho hd ?_)));rw [if_neg (by simp)];refine Aa (Ac (Aa (DQ ho hd ?_)));rw [if_neg (by simp)];refine Ac ?_;simp only [show ¬((i:Int)<0) from by omega,if_false,Dm,AQ hi];refine Aa ?_
 first | refine Aa (C0 T (Ac (Aa (D0 T ?_)))) | refine Aa (DJ T (Ac (Aa (D0 T ?_))))
 change wpAny _ _ (J0 (.ref z) 3 (D1 ((i:Int)+1)) >>= _) _ _ _;refine Aa (Bm hz (by simp) fun k1 a1 b1=>?_);have a1:Ed k1 z d (i+1) es.size ep u0 u1:=by unfold Ed;rw [show ((i+1:Nat):Int)=(i:Int)+1 by omega];simpa [D1] using a1
 have b1:Cb z hp k1:=b1;have T1:Fm ⟨k1,g,dr,tk,os⟩ (.ref z) "dict_itemiterator":=⟨_,a1,rfl⟩;refine Aa (BZ (Aa (D0 T1 (Aa (D0 T1 ?_)))));change wpAny _ _ (EF (.ref z) 6 es[i].key es[i].val) _ _ _;unfold EF;refine Aa (Hw ?_);have n1:k1.objs.size=hp.objs.size:=b1.1;obtain ⟨k2,e2⟩:∃k2,k2=k1.push {cls:=.type "tuple",data:=.seq #[es[i].key,es[i].val]}:=⟨_,rfl⟩;have a2:Ed k2 z d (i+1) es.size ep u0 u1:=by rw [e2];exact Ae _ a1
 have c2:k2.get? hp.objs.size=some {cls:=.type "tuple",data:=.seq #[es[i].key,es[i].val]}:=by rw [e2,<- n1];exact Az _ rfl
 have d2:∀b o,b≠z->hp.get? b=some o->k2.get? b=some o:=fun b o hb y=>by rw [e2];exact Ae _ (b1.extBut b o hb y)
 change wpAny _ _ (Eu (.ref z) >>= _) _ _ ⟨k1.push {cls:=.type "tuple",data:=.seq #[es[i].key,es[i].val]},g,dr,tk,os⟩;rw [<- e2,n1];clear e2 a1 b1 T1 n1;refine Aa ?_;unfold Eu;refine Aa (Bu a2 rfl (x:=.none) rfl (Ac ?_));simp only [if_true];refine Aa (Bu a2 rfl (x:=u0) rfl (Aa (Bu a2 rfl (x:=u1) rfl (Aa (Bm a2 (by simp) fun k3 a3 b3=>?_)))));have a3:Ed k3 z d (i+1) es.size ep es[i].key u1:=a3;refine Aa (Bm a3 (by simp) fun k4 a4 b4=>?_);have a4:Ed k4 z d (i+1) es.size ep es[i].key es[i].val:=a4;refine Aa (Bm a4 (by simp) fun k5 a5 b5=>?_);have a5:Im k5 z d (i+1) es.size ep es[i].key es[i].val hp.objs.size:=a5;refine Aa (Bm a5 (by simp) fun k6 a6 b6=>?_);have a6:Im k6 z d (i+1) es.size ep es[i].key es[i].val hp.objs.size:=a6;have b3:Cb z k2 k3:=b3;have b4:Cb z k3 k4:=b4;have b5:Cb z k4 k5:=b5;have b6:Cb z k5 k6:=b6;have all:∀b o,b≠z->k2.get? b=some o->k6.get? b=some o:=fun b o hb y=>b6.extBut b o hb (b5.extBut b o hb (b4.extBut b o hb (b3.extBut b o hb y)));exact Aa (DU (Ac (Ac ⟨_,rfl,Ac (q k6 a6 (all _ _ (FN lz) c2) fun b o hb y=>all b o hb (d2 b o hb y))⟩)))
theorem Xvt {Q:Option Value->Ah->Prop}(hh:A.handled=none)(hz:Ed s.heap z d i es.size ep u0 u1)(ho:s.heap.get? d=some od)(hd:od.data=.dict es ep)(hi:es.size<=i)
  (q:∀h',HZ z s.heap h'->Q none {s with heap:=h'}):wpAny (model prog w) A (pyNext (.ref z)) Q E s:=by
 have T:s.TypeIs (.ref z) "dict_itemiterator":=⟨_,hz,rfl⟩;unfold pyNext;refine Aa (DP (Bs (name:=BQ "__next__") T Cm (Bg Cm T GR (Aa (Ac (Aa (Aa ?_)))) (GI _))))
 first | refine Aa (C0 T (Ac (Aa (C1 hz rfl ?_)))) | refine Aa (DJ T (Ac (Aa (C1 hz rfl ?_))))
 simp only [show BY "dict_itemiterator"=true by decide,if_true];change wpAny _ _ (ite ((AL d==BH)=true) _ _) _ _ s;rw [if_neg fun y:(AL d==BH)=true=>Aj y];refine Aa (Ac (Aa (B4 ho hd ?_)));rw [if_neg (by simp)];refine Aa (Ac (Aa (DQ ho hd ?_)));rw [if_neg (by simp)];refine Ac ?_;simp only [show ¬((i:Int)<0) from by omega,if_false,Dm,Hs hi];refine Aa ?_
 first | refine Aa (C0 T (Ac ?_)) | refine Aa (DJ T (Ac ?_))
 change wpAny _ _ (J0 (.ref z) 2 .none >>= _) _ _ s;apply Aa;refine Bm hz (by simp) fun k1 a1 b1=>?_;have b1:Cb z s.heap k1:=b1;change wpAny _ _ (IN (.type "StopIteration") [] >>= _) _ _ _;refine Aa ?_;simp only [IN,LC];refine Aa (A5 (Aa (m:=D2 _ _) (G9 (a:=BH) (by first | rfl | (simp only [D2];rfl)) (A5 ?_ (by size_fits)))) (by size_fits));simp only [LB];apply Aa;refine Ib ?_;have h9:A.in1.handled=none:=hh;rw [h9];refine Aa (Ac (JV ?_));exact Aa (E6 (T:="StopIteration") (b:=true) ⟨_,Az _ rfl,rfl⟩ HB (Ac (q _ ((b1.extBut.push _).push _))))
theorem Xor {v:Addr}(hv:s.heap.IsItemsView v d)(ho:s.heap.get? d=some od)(hd:od.data=.dict es ep)
  (q:Q (.ref s.heap.objs.size) {s with heap:=s.heap.push {cls:=.type "dict_itemiterator",data:=.fields #[.none,.bool false,.ref d,.int 0 0,.int es.size 0,.int ep 0,.none,.none]}}):wpAny (model prog w) A (IM (.ref v)) Q E s:=by
 obtain ⟨o1,h1,h2,h3⟩:=id hv;refine GJ hv.typeIs Iq (Bg Iq hv.typeIs F.entry_dict_items_iter ?_ (F.args_dict_items_iter_1 _));unfold D4.«dict_items.__iter__»;refine Aa (Ac (Aa ?_));unfold JR;refine Aa (Bu h1 h3 (x:=.ref d) rfl (Ac (Aa ?_)));unfold JQ;refine Aa (B4 ho hd (Aa (DQ ho hd ?_)));simp only [show BY "dict_itemiterator"=true by decide,if_true];refine A5 (Ac ⟨_,rfl,"dict_itemiterator",_,⟨_,Az _ rfl,rfl⟩,Cm.lookup,?_⟩) (by simp only [sizeOk,Ew,AG,Ai,AX,GG,He];omega);simpa [D1,Ew] using q
theorem Zgk:entryFor table "dict_itemiterator.__iter__"=some D4.«dict_keyiterator.__iter__»:=entryFor_alias (id':="dict_keyiterator.__iter__") (by kernel_rfl) rfl (by decide +kernel) (by kernel_rfl)
def ItIt (a:Addr)(o:Obj)(kvs:List (List Key×V)):It:=
 ⟨fun i H=>H a=some (.frz o (.dT kvs))/\i<kvs.length,fun i H x H'=>∃kv b p,kvs[i]?=some kv/\H b=some (.tup (kv.1.map kV))/\x=.ref p/\H p=none/\H'=upd H p (.tup [.ref b,kv.2]),fun i H=>H a=some (.frz o (.dT kvs))/\kvs.length<=i⟩
theorem Zur (a it:Addr)(o:Obj)(kvs:List (List Key×V))(es:Array DX)(ep:Nat)(h2:o.data=.dict es ep)(hn:es.size=kvs.length) :
    Turn P w K (.Tuple elts x1 pos) (ItIt a o kvs) [it] it (fun i h=>∃u0 u1,Ed h it a i es.size ep u0 u1) where
  mem:=by simp
  obj:=fun i h st b hb=>by
    have e:b=it:=by simpa using hb
    subst e;obtain ⟨u0,u1,st⟩:=st;exact ⟨_,st,fun v z=>by cases z⟩
  keep:=fun i h h' st k=>by obtain ⟨u0,u1,st⟩:=st;exact ⟨u0,u1,k it (by simp) _ st⟩
  item:=by
    intro X hP hw hK hc i pins s σ H E I hf st hg;subst hP hw hK;obtain ⟨hfz,hi⟩:=hg;obtain ⟨u0,u1,st⟩:=st;obtain ⟨ho,hob⟩:=I.hok a _ hfz;obtain ⟨_,_,xs,r,o',es',ep',e1,_,e3,e4,_⟩:=hob;rw [ho] at e1;cases e1;rw [h2] at e3;cases e3;have hk:kvs[i]?=some kvs[i]:=Ad hi;obtain ⟨q,hq1,hq2,hq3,hq4⟩:=Paired.at_ r hk;have hie:i<es.size:=by omega
    have ee:es[i]=Gy (DF (Yg X.prog X.w)) q:=by
      have:es.toList[i]?=some (Gy (DF (Yg X.prog X.w)) q):=by rw [e4,Bk,hq1];rfl
      rw [Ad (by simpa using hie)] at this;have z:=AU this;rw [HV] at z;exact z
    have ek:es[i].key=.ref q.2.1:=by rw [ee];rfl
    have ev:es[i].val=q.2.2:=by rw [ee];rfl
    refine Xpl st ho h2 hie fun h' a1 a2 a3=>?_;rw [ek,ev] at a1 a2;refine ⟨_,rfl,wpAny_letOwnedTupleGo_items a1 fun h'' b1 b2=>?_⟩;have hne:s.heap.objs.size≠it:=fun z=>absurd (AW st) (by rw [<- z];exact Bh _);have ht:=b2.extBut _ _ hne a2;have I2:=I.turnTup (t':=s.toks) (h':=h'') (ch:=[it]) (p:=s.heap.objs.size) (xs:=[.ref q.2.1,kvs[i].2]) (its:=[.ref q.2.1,q.2.2]) (fun c o hc z=>by
      have hc:c≠it:=fun y=>hc (by rw [y];exact .head _);exact b2.extBut _ _ hc (a3 c o hc z)) (fun c hc=>hf c hc) (Ax _) (by show 2<=Aw;decide) (Zlb rfl hq4) ⟨_,ht,rfl,_,rfl⟩
    refine ⟨.ref s.heap.objs.size,_,I2,rfl,⟨kvs[i],q.2.1,_,hk,hq3,rfl,I.hok.fresh (Ax _),rfl⟩,⟨_,_,b1⟩,fun c hc=>?_⟩;have hc':c=it:=by simpa using hc
    rw [Xa (by rw [hc'];exact hne.symm)];exact (hf c hc).1
  done:=by intro X hP hw hK hc i pins s σ H E I hf st hg;subst hP hw hK;obtain ⟨f0,f1,f2,f3,f4,f5⟩:=hf it (by simp);obtain ⟨hfz,hi⟩:=hg;obtain ⟨u0,u1,st⟩:=st;have ho:=(I.hok a _ hfz).1;exact Xvt (I.ok.hd hc) st ho h2 (by omega) fun h' eb=>⟨rfl,I.turned (t':=s.toks) (fun b o hb e=>eb b o hb e) f0 f1 f3 f4 f5⟩
  self:=fun _ _ _ _ _ st h=>by obtain ⟨u0,u1,st⟩:=st;refine GJ (T:="dict_itemiterator") ⟨_,st,rfl⟩ PySem.F.slot_dict_itemiterator_iter (Bg PySem.F.slot_dict_itemiterator_iter ⟨_,st,rfl⟩ Zgk ?_ (PySem.F.args_dict_itemiterator_iter_1 _));show wpAny _ _ (ret (.ref it)) _ _ _;exact Ac ⟨_,rfl,"dict_itemiterator",_,⟨_,st,rfl⟩,PySem.F.slot_dict_itemiterator_next.lookup,h⟩
def Xml (a:Addr)(o:Obj)(kvs:List (List Key×V)):It:=
 ⟨fun i H=>H a=some (.frz o (.dT kvs))/\i<kvs.length,fun i H x H'=>H'=H/\∃kv b,kvs[i]?=some kv/\x=.ref b/\H b=some (.tup (kv.1.map kV)),fun i H=>H a=some (.frz o (.dT kvs))/\kvs.length<=i⟩
theorem Ztz (a it:Addr)(o:Obj)(kvs:List (List Key×V))(es:Array DX)(ep:Nat)(h2:o.data=.dict es ep)(hn:es.size=kvs.length):Turn P w K tg (Xml a o kvs) [it] it (fun i h=>h.IsKeyIter it a i es.size ep):=
  let T:=Zts (P:=P) (w:=w) (K:=K) (tg:=tg) a it o kvs es ep h2 hn
  ⟨T.mem,T.obj,T.keep,T.item,by
    intro X hP hw hK hc i pins s σ H E I hf st hg;subst hP hw hK;obtain ⟨f0,f1,f2,f3,f4,f5⟩:=hf it (by simp);obtain ⟨hfz,hi⟩:=hg;have ho:=(I.hok a _ hfz).1;exact Zse (I.ok.hd hc) st ho h2 (by omega) fun h' eb=>⟨rfl,I.turned (t':=s.toks) (fun b o hb e=>eb b o hb e) f0 f1 f3 f4 f5⟩,T.self⟩
section
variable {l:Expr}{tl:TE}
def Xas (tl:TE):TI:=fun σ H R=>tl σ H fun x H1=>∃a o kvs,x=.ref a/\H1 a=some (.frz o (.dT kvs))/\R (ItIt a o kvs) H1
def Zzq (tl:TE):TI:=fun σ H R=>tl σ H fun x H1=>∃a o kvs,x=.ref a/\H1 a=some (.frz o (.dT kvs))/\R (Xml a o kvs) H1
theorem Xdj (hl:PE X l tl):PI X tg l (Zzq tl):=by
 intro pins s σ H R I h;refine thn (hl pins s σ H _ I h) fun v s1 hz9=>?_;obtain ⟨x,H1,I1,r1,a,o,kvs,e,hq,q⟩:=hz9;subst e;cases r1;obtain ⟨ho,_,hd,xs,r,o',es,ep,ho',h1,h2,h3,_⟩:=I1.hok a _ hq;rw [ho] at ho';cases ho';have hn:es.size=kvs.length:=by rw [<- AN,h3,Am];exact (Paired.length r).symm
 refine Zyn hd ho h1 h2 ?_;refine ⟨s1.heap.objs.size,[s1.heap.objs.size],_,_,_,rfl,I1.kept (t':=s1.toks) fun b o e=>Ae _ e,Ztz a _ o kvs es ep h2 hn,⟨_,Az _ rfl,rfl,rfl⟩,fun b hb=>?_,q⟩;have e:b=s1.heap.objs.size:=by simpa using hb
 subst e;exact I1.fpOk (Ax _) (I1.hok.fresh (Ax _))
structure M0 (X:Cx)(o:Expr)(md:Str)(apos cpos:Pos):Prop where
 base:CW o md X.env (eval o X.env)=eval o X.env
 few:((BU cpos (Af ([]:List Expr) X.env)).all (fun x=>!x.1)&&(EL cpos (DD [] X.env)).all (fun x=>x.1.isSome)&&decide (([]:List Expr).length+([]:List CM).length+(if ([]:List CM).isEmpty then 0 else 1)<30))=true
 line:(apos.endLine==cpos.line)=true
 trees:BU cpos (Af ([]:List Expr) X.env)=[]
theorem Xhb (hl:PE X l tl)(m:M0 X l "items" apos cpos):PI X (.Tuple elts x1 tpos) (.Call (.Attribute l "items" apos) [] [] cpos) (Xas tl):=by
 intro pins s σ H R I h;refine wpAny_Call_method m.base m.few m.line PySem.F.plainAttrs_dict PySem.F.slot_dict_items PySem.F.type_dict_items (thn (hl pins s σ H _ I h) fun u s1 hz9=>?_);obtain ⟨x,H1,I1,rx,a,o,kvs,ex,hq,q⟩:=hz9;subst ex;obtain rfl:u=AL a:=rx;obtain ⟨ho,_,hd,xs,r,o',es,ep,ho',h1,h2,h3,_⟩:=I1.hok a _ hq;rw [ho] at ho';cases ho';have hn:es.size=kvs.length:=by rw [<- AN,h3,Am];exact (Paired.length r).symm
 obtain ⟨t1,t2,_⟩:=Xqs I1 (.inr ⟨kvs,.inr ⟨o,hq⟩⟩);refine ⟨t1,t2,?_⟩;rw [m.trees];refine Hr rfl (PySem.evalArgs_none ?_);refine Bg PySem.F.slot_dict_items t1 PySem.F.entry_dict_items ?_ (PySem.F.args_dict_items_1 _);unfold D4.«dict.items» Lu;refine Aa (Aa (Fx t1 ?_));change wpAny _ _ (pure a) _ _ s1;refine Ac ?_;change wpAny _ _ (CT a >>= _) _ _ s1;unfold CT;rw [if_neg (by rw [hd];exact Aj)];refine Aa (Ac (Aa (A5 (Ac ⟨_,rfl,?_⟩))));have hv:(s1.heap.push {cls:=.type "dict_items",data:=.fields #[.ref a]}).IsItemsView s1.heap.objs.size a:=⟨_,Az _ rfl,rfl,rfl⟩;have I2:Inv X pins σ H1 {s1 with heap:=s1.heap.push {cls:=.type "dict_items",data:=.fields #[.ref a]}}:=I1.kept (t':=s1.toks) fun b o e=>Ae _ e;refine Xor (s:={s1 with heap:=s1.heap.push {cls:=.type "dict_items",data:=.fields #[.ref a]}}) hv (Ae _ ho) h2 ?_;refine ⟨_,[_],_,_,_,rfl,I2.kept (t':=s1.toks) fun b o e=>Ae _ e,Zur a _ o kvs es ep h2 hn,⟨_,_,Az _ rfl⟩,fun b hb=>?_,q⟩;have e:=Ao.mp hb;subst e;exact I2.fpOk (Ax _) (I2.hok.fresh (Ax _))
end
section
variable {E:XK}{S:List (Nat×Bool)}
theorem RpA.at1 {H:Hp}:∀{ds:List D} {vs:List V} {i:Nat} {d:D},RpA K C H ds vs []->ds[i]?=some d->∃v,vs[i]?=some v/\Rp K C H d v []
 | [],_,_,_,_,e=>by simp at e
 | x::ds,vs,i,d,r,e=>by
  obtain ⟨y,l,B,B',rfl,h1,h2,h3⟩:=r;have b:=Hv.mp h3.symm;obtain ⟨rfl,rfl⟩:=b;cases i with
  | zero =>simp at e;subst e;exact ⟨y,rfl,h1⟩
  | succ i =>obtain ⟨v,q1,q2⟩:=RpA.at1 (i:=i) h2 (by simpa using e);exact ⟨v,by simpa using q1,q2⟩
theorem Xiw (hk:k.all Dl.kOk=true)(hb:H b=some (.tup (k.map kV))):Rp K C H (Dl.Zij k) (.ref b) []:=⟨b,_,rfl,hb,Zwv hk⟩
theorem Zvl {xs:List D}{ys:List V}(h1:Hc a=some (.frz o (.dT (ks.zip ys))))(hl:ks.length=xs.length)(r:RpA K C Hc xs ys [])(hk:(ks.all fun k=>k.all Dl.kOk)=true):Goes K C (ItIt a o (ks.zip ys)) (Bf (fun k x=>.tup [Dl.Zij k,x]) ks xs) Hc:=fun H2 g=>by
 have hy:=r.len;have hz:(ks.zip ys).length=ks.length:=by rw [Gw];omega
 have hw:(Bf (fun k x=>D.tup [Dl.Zij k,x]) ks xs).length=ks.length:=by rw [CJ];omega
 refine ⟨fun i hi=>⟨g _ _ h1,by omega⟩,fun i hi=>⟨g _ _ h1,by omega⟩,fun i x H3 hi y=>?_⟩;obtain ⟨kv,b,p,e1,e2,rfl,e4,rfl⟩:=y;rw [hw] at hi;have hx:i<xs.length:=by omega
 obtain ⟨v,v1,v2⟩:=r.at1 (Ad hx);have ek:kv=(ks[i],v):=by
  have:(ks.zip ys)[i]?=some (ks[i],v):=by rw [Ez];exact ⟨Ad hi,v1⟩
  rw [this] at e1;exact (AU e1).symm
 subst ek;have hb:b≠p:=fun z=>by subst z;rw [e4] at e2;cases e2
 have sm:Xi H2 (upd H2 p (.tup [.ref b,v])):=sameNew e4 _;refine ⟨sm,.tup [Dl.Zij ks[i],xs[i]],[],?_,⟨p,_,rfl,Xd,⟨_,_,[],[],rfl,Xiw (BV.mp hk _ (CD hi)) (by rw [Xa hb];exact e2),⟨_,_,[],[],rfl,(v2.same g).same sm,RpA.nil,rfl⟩,rfl⟩⟩,fun _ z=>nomatch z⟩;rw [HP,Ad hi,Ad hx]
theorem Ztv {ys:List V}(h1:Hc a=some (.frz o (.dT (ks.zip ys))))(hl:ks.length=ys.length)(hk:(ks.all fun k=>k.all Dl.kOk)=true):Goes K C (Xml a o (ks.zip ys)) (ks.map Dl.Zij) Hc:=fun H2 g=>by
 have hz:(ks.zip ys).length=ks.length:=by rw [Gw];omega
 refine ⟨fun i hi=>⟨g _ _ h1,by rw [Am] at hi;omega⟩,fun i hi=>⟨g _ _ h1,by rw [Am] at hi;omega⟩,fun i x H3 hi y=>?_⟩;obtain ⟨rfl,kv,b,e1,rfl,e2⟩:=y;rw [Am] at hi;have ek:kv.1=ks[i]:=by
  have:(ks.zip ys)[i]?=some (ks[i],ys[i]'(by omega)):=by rw [Ez];exact ⟨Ad hi,Ad _⟩
  rw [this] at e1;rw [<- AU e1]
 rw [ek] at e2;refine ⟨Xi.refl _,Dl.Zij ks[i],[],by rw [Bk,Ad hi];rfl,Xiw (BV.mp hk _ (CD hi)) e2,fun _ z=>nomatch z⟩
theorem Znz (h:Agree [] H Hc)(e:H a=some (.frz o u)):Hc a=some (.frz o u):=h.2 a _ e fun z=>by cases z
theorem Zxx {t:TE}(h:EOk K C E Γ Δ m S t f):IOk K C E Γ Δ [] (Xas t) (Dl.Zin f):=fun H0 Hb H σ ρ A Rr I p=>h H0 Hb H σ ρ A _ I (p.bind.imp (fun d q v H' g r=>by
  obtain ⟨B,r,r',_⟩:=r;cases d with
  | fdt ks ds =>obtain ⟨a,o,ys,rfl,e1,e2,e3,e4⟩:=r;simp only at q;split at q;rename_i hl;exact ⟨a,o,_,rfl,e1,q _ H' [] g (fun _ z=>nomatch z) (by rw [CJ];exact AC (E4 _ _) hl.1) fun Hc h1=>Zvl (Znz h1 e1) e2 (e3.agree h1 fun _ z=>nomatch z) hl.2⟩;exact q.elim
  | _=>exact q.elim) fun c x q H' g'=>q H' g')
theorem Xbg {t:TE}(h:EOk K C E Γ Δ m S t f):IOk K C E Γ Δ [] (Zzq t) (Dl.Zdg f):=fun H0 Hb H σ ρ A Rr I p=>h H0 Hb H σ ρ A _ I (p.bind.imp (fun d q v H' g r=>by
  obtain ⟨B,r,r',_⟩:=r;cases d with
  | fdt ks ds =>obtain ⟨a,o,ys,rfl,e1,e2,e3,e4⟩:=r;simp only at q;split at q;rename_i hl;exact ⟨a,o,_,rfl,e1,q _ H' [] g (fun _ z=>nomatch z) (by rw [Am];exact hl.1) fun Hc h1=>Ztv (Znz h1 e1) (by rw [e2,e3.len]) hl.2⟩;exact q.elim
  | _=>exact q.elim) fun c x q H' g'=>q H' g')
theorem Zkr (h:JE X C E Γ Δ m S e te fe)(hbase:CW e "items" X.env (eval e X.env)=eval e X.env:=by rfl)
  (hfew:((BU cpos (Af ([]:List Expr) X.env)).all (fun x=>!x.1)&&(EL cpos (DD [] X.env)).all (fun x=>x.1.isSome)&&decide (([]:List Expr).length+([]:List CM).length+(if ([]:List CM).isEmpty then 0 else 1)<30))=true:=by rfl)
  (hline:(apos.endLine==cpos.line)=true:=by rfl) (htr:BU cpos (Af ([]:List Expr) X.env)=[]:=by rfl):JI X C E Γ Δ [] (.Tuple elts x1 tpos) (.Call (.Attribute e "items" apos) [] [] cpos) (Xas te) (Dl.Zin fe):=⟨⟨Xhb h.q.out ⟨hbase,hfew,hline,htr⟩⟩,Zxx h.o⟩
theorem Zdz (h:JE X C E Γ Δ m S e te fe):JI X C E Γ Δ [] tg e (Zzq te) (Dl.Zdg fe):=⟨⟨Xdj h.q.out⟩,Xbg h.o⟩
end
inductive LorT:HO->Prop where
 | lst {xs:List V}:LorT (.lst xs)
 | dtt {kvs:List (List Key×V)}:LorT (.dT kvs)
theorem LorT.isM (h:LorT u):IsM u:=by cases h;exact .lst;exact .dtt
def tFz (te:TE):TE:=fun σ H Q=>te σ H fun v H1=>∃a u,v=.ref a/\H1 a=some u/\LorT u/\∀o,Q v (upd H1 a (.frz o u))
theorem Xle (h:PE X e te):PE X e (tFz te):=by
 intro pins s σ H Q I hq;refine thn (h pins s σ H _ I hq) fun v s1 hz=>?_;obtain ⟨x,H1,I1,r1,a,u,rfl,hu,lt,q⟩:=hz;obtain ⟨o,ho⟩:∃o,s1.heap.get? a=some o:=by
  have z:=I1.hok a u hu;cases lt with
  | lst=>obtain ⟨_,its,n,_,e⟩:=z;exact ⟨_,e⟩
  | dtt=>obtain ⟨_,_,_,_,o,_,_,e,_⟩:=z;exact ⟨o,e⟩
 exact ⟨.ref a,_,(I1.fz hu (by rw [hu];cases lt<;>trivial) (fun _ _ _=>by cases lt<;>exact ⟨(fun z=>nomatch z),(fun z=>nomatch z)⟩) ho).1,r1,q o⟩
section
variable {E:XK}{S:List (Nat×Bool)}
theorem Xuw (hu:H a=some u)(lt:LorT u):Ext (fun c=>c=a) H (upd H a (.frz o u)):=fun b ob hb=>by by_cases e:b=a;subst e;rw [hu] at hb;cases hb;exact .inr ⟨rfl,lt.isM⟩;rw [Xa e];exact .inl hb
theorem RpA.fz {xs:List V}(hu:H a=some u)(lt:LorT u)(r:RpA K C H ds xs []):RpA K C (upd H a (.frz o u)) ds xs []:=r.ext (Xuw hu lt) fun _ z=>nomatch z
theorem Zpa {H1:Hp}(hn:H a=none)(g:Xi H H1):Xi H (upd H1 a (.frz o u)):=fun b ob hb=>by rw [Xa fun z=>by subst z;rw [hn] at hb;cases hb];exact g b ob hb
theorem Xmj (h:EOk K C E Γ Δ 2 [] te fe):EOk K C E Γ Δ 2 [] (tFz te) (Dl.f1 Dl.Xjn fe):=fun H0 Hb H σ ρ A Q I p =>
  h H0 Hb H σ ρ A _ I (p.bind.imp (fun d q v H1 g r=>by
    obtain ⟨z,e,q⟩:=Zdf q;obtain ⟨B,r1,r2,_⟩:=r;cases d with
    | lst ds =>
      have e:(if Dl.Zx ds=true then some (D.flst ds) else none)=some z:=e;split at e;rename_i hf;cases e;obtain ⟨a,xs,B',rfl,h1,h2,rfl⟩:=r1;have eB:=h2.flat hf;subst eB;have hn:H a=none:=(r2 a (.head _)).elim id fun z=>by obtain ⟨_,w,_⟩:=z;cases w
      exact ⟨a,_,rfl,h1,.lst,fun o=>q _ _ (Zpa hn g) (Res.flat ⟨a,o,xs,rfl,Xd,RpA.fz h1 .lst h2,rfl⟩)⟩;cases e
    | _=>cases e) fun c x q H' g'=>q H' g')
theorem Xla (h:EOk K C E Γ Δ 2 [] te fe):EOk K C E Γ Δ 2 [] (tFz te) (Dl.f1 Dl.Xms fe):=fun H0 Hb H σ ρ A Q I p =>
  h H0 Hb H σ ρ A _ I (p.bind.imp (fun d q v H1 g r=>by
    obtain ⟨z,e,q⟩:=Zdf q;obtain ⟨B,r1,r2,_⟩:=r;cases d with
    | dtt ks ds =>
      have e:(if Dl.Zx ds=true then some (D.fdt ks ds) else none)=some z:=e;split at e;rename_i hf;cases e;obtain ⟨a,xs,B',rfl,h1,h0,h2,rfl⟩:=r1;have eB:=h2.flat hf;subst eB;have hn:H a=none:=(r2 a (.head _)).elim id fun z=>by obtain ⟨_,w,_⟩:=z;cases w
      exact ⟨a,_,rfl,h1,.dtt,fun o=>q _ _ (Zpa hn g) (Res.flat ⟨a,o,xs,rfl,Xd,h0,RpA.fz h1 .dtt h2,rfl⟩)⟩;cases e
    | _=>cases e) fun c x q H' g'=>q H' g')
theorem Zzr (hi:i∈Γ):SOk K C E mr Γl Δl Γ Δ Γ' Δ' (Xpw (tFz (Zgp i))) (Dl.Zkc i):=fun H0 Hb H σ ρ A D I p=>by unfold Dl.Zkc at p;split at p;rename_i ks ds e;split at p;rename_i hf;obtain ⟨a,xs,l,s1,h1,h2,r1,hA,hl⟩:=Zgv I e;have el:=r1.flat hf;subst el;have hn:H0 a=none:=I.loc i hi a (by rw [hA];exact .head _);exact ⟨.ref a,s1,a,_,rfl,h1,.dtt,fun o=>p _ _ (Zpa hn (I.s0.trans I.same)) (Res.flat ⟨a,o,xs,rfl,Xd,h2,RpA.fz h1 .dtt r1,rfl⟩)⟩;exact p.elim;exact p.elim
theorem Zp.frozen {H0 Hb:Hp}{ρ:Xr}{A:Nat->List Addr}{ks:List (List (Int ⊕ Str))}(I:Zp K C H0 Hb H Γ Δ σ ρ A)(hj:j∈Γ)(e:ρ[j]?=some (some (.dtt ks ds)))(hf:Dl.Zx ds=true)(h1:∀k∈Γ',k∈Γ/\k≠j)(h2:∀k∈Δ',k∈Δ/\k≠j) :
    ∃a xs,σ[j]?=some (some (.ref a))/\H a=some (.dT (ks.zip xs))/\∀o,∃A',Zp K C H0 Hb (upd H a (.frz o (.dT (ks.zip xs)))) Γ' Δ' σ (ρ.set j Ca) A'/\(∀k,k≠j->A' k=A k)/\Rp K C (upd H a (.frz o (.dT (ks.zip xs)))) (.fdt ks ds) (.ref a) []:=by
  obtain ⟨a,xs,l,s1,q1,q2,r1,hA,hl⟩:=Zgv I e;have el:=r1.flat hf;subst el;obtain ⟨t1,t2,t3⟩:=I.top j hj a [] hA;refine ⟨a,xs,s1,q1,fun o=>?_⟩;have I1:=(I.weak (Γ':=Γ') (Δ':=Δ') (fun k hk=>(h1 k hk).1) (fun k hk=>(h2 k hk).1)).dead (j:=j) (σ':=σ) rfl (fun _ _=>rfl) (fun z=>(h1 j z).2 rfl) (fun z=>(h2 j z).2 rfl);have I2:=I1.away (H':=upd H a (.frz o (.dT (ks.zip xs)))) (W:=[a]) (fun b ob hb h=>by rw [Xa fun z=>hb (by rw [z];exact .head _)];exact h) (fun c hc=>by rw [Ao.mp hc];exact t1) (fun k c hck hcm=>by
    rw [Ao.mp hcm] at hck;by_cases ek:k=j;rw [if_pos ek] at hck;cases hck
    · rw [if_neg ek] at hck;exact t3 k ek hck) (fun c hcm ob h=>by
    rw [Ao.mp hcm,q1] at h;cases h;exact .dtt)
  exact ⟨_,I2,fun k hk=>if_neg hk,a,o,xs,rfl,Xd,q2,RpA.fz q1 .dtt r1,rfl⟩
theorem Xad (hj:j∈Γ:=by decide)(h1:∀k∈Γ',k≠j/\(k=i\/k∈Γ):=by decide)(h2:∀k∈Δ',k≠j/\(k=i\/k∈Δ):=by decide):SOk K C E mr Γl Δl Γ Δ Γ' Δ' (Zjr (tFz (Zgp j)) (Zas i)) (Dl.Zjq i j):=fun H0 Hb H σ ρ A D I p=>by unfold Dl.Zjq at p;split at p;rename_i ks ds e;split at p;rename_i hf;obtain ⟨a,xs,s1,q1,z⟩:=I.frozen (Γ':=Γ.filter (·≠j)) (Δ':=Δ.filter (·≠j)) hj e hf.1 (fun k hk=>⟨(CL.mp hk).1,by simpa using (CL.mp hk).2⟩) (fun k hk=>⟨(CL.mp hk).1,by simpa using (CL.mp hk).2⟩);refine ⟨.ref a,s1,a,_,rfl,q1,.dtt,fun o=>?_⟩;obtain ⟨A',I',_,r⟩:=z o;obtain ⟨A4,I4,_⟩:=I'.put (Γ':=Γ') (Δ':=Δ') (i:=i) r (fun k hk e=>⟨CL.mpr ⟨(h1 k hk).2.resolve_left e,by simpa using (h1 k hk).1⟩,fun _ _ _ h=>nomatch h⟩) (fun _=>⟨(fun _ h=>nomatch h),fun _ _ h=>nomatch h⟩) (fun k hk e=>⟨CL.mpr ⟨(h2 k hk).2.resolve_left e,by simpa using (h2 k hk).1⟩,fun _ _ h=>nomatch h⟩) (fun _=>⟨Be,(fun _ _ _ h=>nomatch h),fun _ h=>nomatch h⟩);exact p _ _ A4 I4;exact p.elim;exact p.elim
theorem Xbo (hi:i∈Γ:=by decide)(hj:j∈Γ:=by decide)(h1:∀k∈Γ',k∈Γ/\k≠j:=by decide)(h2:∀k∈Δ',k∈Δ/\k≠j:=by decide)(hi':i∈Γ':=by decide) :
  SOk K C E mr Γl Δl Γ Δ Γ' Δ' (Zgl (tBM K "list" Zbn (Zgp i) (Jz (tFz (Zgp j)) Zmw))) (Dl.Zif i j):=fun H0 Hb H σ ρ A D I p=>by
 unfold Dl.Zif at p;split at p;rename_i ds0 ks ds e1 e2;split at p;rename_i hf;obtain ⟨f1,f2,hij,hz⟩:=hf;obtain ⟨b,ys,l,s1,h1',r1,hA,hl⟩:=Zqz I e1;have el:=r1.flat f2;subst el;obtain ⟨a,xs,s2,q1,z⟩:=I.frozen hj e2 f1 h1 h2;have hab:b≠a:=fun y=>by subst y;rw [h1'] at q1;cases q1
 refine ⟨.ref b,s1,.inl ⟨rfl,ys,SqL.of h1'⟩,.ref a,s2,a,_,rfl,q1,.dtt,fun o=>?_⟩;obtain ⟨A',I',eA,r⟩:=z o;obtain ⟨A4,I4⟩:=I'.rewrite (Xi.refl _) hi' (a:=b) (l:=[]) ((eA i hij).trans hA) (by rw [DC];exact hl) s1 (es:=ds0++[.fdt ks ds]) (ys:=ys++[.ref a]) (B':=[]) (RpA.snoc0 r (RpA.fz q1 .dtt r1)) (fun _ h=>nomatch h) fun _=>Be;exact ⟨b,ys,.ref a,rfl,rfl,by rw [Xa hab];exact h1',by rw [r1.len];exact Zdb hz,p σ _ A4 I4⟩;exact p.elim;exact p.elim
variable {pos':Pos}{x:Str}
theorem Zrf (h:JE X C E Γ Δ 2 [] e te fe):JE X C E Γ Δ 2 [] e (tFz te) (Dl.f1 Dl.Xjn fe):=⟨⟨Xle h.q.out⟩,Xmj h.o⟩
theorem Zst (h:JE X C E Γ Δ 2 [] e te fe):JE X C E Γ Δ 2 [] e (tFz te) (Dl.f1 Dl.Xms fe):=⟨⟨Xle h.q.out⟩,Xla h.o⟩
theorem Xno (h:QE X e te):QE X e (tFz te):=⟨Xle h.out⟩
theorem Xhx (hN:X.N.Nodup)(hi:X.N[i]?=some x)(hx:Loc X.env.scope x)(hj:j∈Γ:=by decide)(h1:∀k∈Γ',k≠j/\(k=i\/k∈Γ):=by decide)(h2:∀k∈Δ',k≠j/\(k=i\/k∈Δ):=by decide)
  (hN2:X.N[j]?=some y:=by rfl) (hv2:autoParam (Vis X.env.scope y) aT3._auto_1) (hd2:(y==("__debug__":Str))=false:=by decide) (hcd2:(y==("__classdict__":Str))=false:=by decide)
  (hs:Cs (.Name y p2) (some (.Name x pos')) pos.line X.env=pure false:=by rfl) (hf:autoParam (X.fn x=true\/X.env.scope.names.lookup x=some .local) aT0._auto_1) :
  JS X C E mr Γl Δl Γ Δ Γ' Δ' (.Assign [.Name x pos'] (.Name y p2) pos) (Zjr (tFz (Zgp j)) (Zas i)) (Dl.Zjq i j):=⟨Zzp hN hi hx (Xno (qv j hN2 hv2 hd2 hcd2)) hs hf,Xad hj h1 h2⟩
theorem Ztc (hi:i∈Γ:=by decide)(hj:j∈Γ:=by decide)(h1:∀k∈Γ',k∈Γ/\k≠j:=by decide)(h2:∀k∈Δ',k∈Δ/\k≠j:=by decide)(hi':i∈Γ':=by decide)
  (hN:X.N[i]?=some x:=by rfl) (hv:autoParam (Vis X.env.scope x) aT3._auto_1) (hd:(x==("__debug__":Str))=false:=by decide) (hcd:(x==("__classdict__":Str))=false:=by decide)
  (hN2:X.N[j]?=some y:=by rfl) (hv2:autoParam (Vis X.env.scope y) aT3._auto_1) (hd2:(y==("__debug__":Str))=false:=by decide) (hcd2:(y==("__classdict__":Str))=false:=by decide)
  (hse:Af [.Name y p2] X.env=(false,eval (.Name y p2) X.env)::Af [] X.env:=by rfl)
  (hbase:CW (.Name x p) "append" X.env (eval (.Name x p) X.env)=eval (.Name x p) X.env:=by rfl)
  (hfew:((BU cpos (Af [.Name y p2] X.env)).all (fun x=>!x.1)&&(EL cpos (DD [] X.env)).all (fun x=>x.1.isSome)&&decide (([.Name y p2]:List Expr).length+([]:List CM).length+(if ([]:List CM).isEmpty then 0 else 1)<30))=true:=by rfl)
  (hline:(apos.endLine==cpos.line)=true:=by rfl) (hplain:(BU cpos (Af ([]:List Expr) X.env)).any (·.1)=false:=by rfl) (hsw:Cs (.Call (.Attribute (.Name x p) "append" apos) [.Name y p2] [] cpos) none pos.line X.env=pure false:=by rfl) :
  JS X C E mr Γl Δl Γ Δ Γ' Δ' (.Expr (.Call (.Attribute (.Name x p) "append" apos) [.Name y p2] [] cpos) pos) (Zgl (tBM X.K "list" Zbn (Zgp i) (Jz (tFz (Zgp j)) Zmw))) (Dl.Zif i j):=
 ⟨Zja (Xlf PySem.F.plainAttrs_list PySem.F.slot_list_append PySem.F.type_list_append Zeo (qv i hN hv hd hcd) (Zbb (Xno (qv j hN2 hv2 hd2 hcd2)) Zjw hse) hbase hfew hline hse hplain) hsw,Xbo hi hj h1 h2 hi'⟩
theorem Xds (hi:i∈Γ:=by decide)(hN:X.N[i]?=some x:=by rfl)(hv:autoParam (Vis X.env.scope x) aT3._auto_1)(hd:(x==("__debug__":Str))=false:=by decide)(hcd:(x==("__classdict__":Str))=false:=by decide) :
  JS X C E mr Γl Δl Γ Δ Γ' Δ' (.Return (some (.Name x p)) pos) (Xpw (tFz (Zgp i))) (Dl.Zkc i):=⟨Xic (Xno (qv i hN hv hd hcd)),Zzr hi⟩
end
def Zxf (tk tv:TE):TE:=fun σ H Q=>∀p,H p=none->tk σ (upd H p (.dT [])) fun y H1=>tv σ H1 fun v H2=>∃(k:List Key) (b:Addr),y=.ref b/\H2 p=some (.dT [])/\H2 b=some (.tup (k.map kV))/\Q (.ref p) (upd H2 p (.dT [(k,v)]))
theorem Xgw {k v:Expr}(hu:X.A.units+1<Bw)(hk:PE X k tk)(hv:PE X v tv):PE X (.Dict [some k] [v] pos) (Zxf tk tv):=by intro pins s σ H Q I q;have hn:=I.hok.fresh (Ax s.heap.objs.size);have I1:=I.laid (a:=s.heap.objs.size) (o:=.dT []) (h':=s.heap.push {cls:=.type "dict",data:=.dict #[]}) (t':=s.toks) (fun _ _ q=>Ae _ q) (Ax _) (Zsv s.heap I.big);rw [arm_eval_Dict,zip_pairTrees [some k] [v] X.env pos rfl rfl,dictDisplay_pairs _ (by simp [pairTrees]) (by rw [K4 _ _ _ _ rfl rfl];exact (by decide:(1:Nat)<17))];refine Aa (Ge (Aa ?_));unfold subDict;refine Aa (wpAny_alloc (Aa (BZ ?_)));rw [if_pos (by rw [K4 _ _ _ _ rfl rfl];exact (by decide:(1:Nat)<=15))];refine Aa (pairTrees_cons_walk (thn (hk pins _ σ _ _ I1 (q _ hn)) fun u s1 hz1=>?_));obtain ⟨y,H1,I2,ry,q2⟩:=hz1;refine thn (hv pins s1 σ H1 _ I2 q2) fun r s2 hz2=>pairTrees_nil_walk ?_;obtain ⟨w,H2,I3,rw',kk,b,ey,e1,e2,q3⟩:=hz2;subst ey;cases (show u=AL b from ry);obtain ⟨z,hd,xs,rel,dd⟩:=Xro I3.hok e1;cases rel;refine BZ ?_;simp only [Gx,GY];refine Aa (Aa (Aa (wpAny_dictSet_heap (hsz:=Dt _) (show X.A.units<Bw by omega) (Zok I3.hok e2) dd fun h' dd' hs=>Ac (Ac (Ac (Ac (Ac ?_)))))));obtain ⟨qo,es,ep,hq,h2,h3,h4,_,h5⟩:=dd';refine ⟨.ref s.heap.objs.size,_,Zpb (ob:=.dT [(kk,w)]) I3 (by rw [e1];exact CO) hs ⟨qo,hq⟩ ⟨by show 1<=Aw;decide,hd,_,.cons ⟨rfl,by rw [Xa (Xrm e2 e1 (fun z=>nomatch z))];exact e2,rw'⟩ .nil,qo,es,ep,hq,h2,h3,h4,h5⟩,rfl,q3⟩
theorem Xgf {id:String}{Q:Array DX->Ah->Prop}(ho:s.heap.get? d=some o)(hd:o.data=.dict es ep)(hk:∀e∈es.toList,∃b,e.key=.ref b/\s.TypeIs (.ref b) "tuple")(hh:∀e∈es.toList,(es.filter (·.hash==e.hash)).size<=1)(h:Q es s) :
  wpAny (model prog w) A (Fw id d) Q E s:=by
 unfold Fw;refine Aa (B4 ho hd (Aa ?_));rw [<- Array.forIn_toList];refine wpAny_forIn_list _ (fun rest _ s'=>s'=s/\∀e∈rest,e∈es.toList) _ ?_ ?_ _ _ ⟨rfl,fun _ z=>z⟩;rintro e rest u s' ⟨rfl,hr⟩;obtain ⟨b,eb,T⟩:=hk e (hr e (.head _));unfold Ls;rw [eb];refine Aa (Aa (Hj T PySem.F.slot_tuple_eq.lookup (Ac ?_)));rw [show ((some (Value.builtin "tuple.__eq__"):Option Value)==some (.builtin "object.__eq__"))=false by decide];simp only [Kl,if_true];rw [if_neg (by have:=hh e (hr e (.head _));omega)];exact Ac ⟨rfl,fun z hz=>hr z (.tail _ hz)⟩;rintro u s' ⟨rfl,_⟩;exact Ac h
theorem Xem {o:Addr}(hoS:(o==CH)=false)(ho:s.heap.get? o=some od)(hx:od.ExactDict)(hd:od.data=.dict es ep)(hz:es.size<=Aw)(hne:es.size≠0)(hk:∀e∈es.toList,∃b,e.key=.ref b/\s.TypeIs (.ref b) "tuple")(hh:∀e∈es.toList,(es.filter (·.hash==e.hash)).size<=1)
  (h:∀h' o' ep',h'.get? s.heap.objs.size=some o'->o'.ExactDict->o'.data=.dict es ep'->Cb s.heap.objs.size (s.heap.push {cls:=.type "dict",data:=.dict #[]}) h'->Q (.ref s.heap.objs.size) {s with heap:=h'}) :
  wpAny (model prog w) A (call (.type "dict") [.ref o]) Q E s:=by
 refine callType_codes (Q₁:=fun obj s₁=>obj=.ref s.heap.objs.size/\s₁={s with heap:=s.heap.push {cls:=.type "dict",data:=.dict #[]}}) PySem.F.kt_called_dict (PySem.F.kt_typeCall_dict_1 _) PySem.F.entry_dict_init (kt_code_dict_new _ ⟨rfl,rfl⟩) ?_;rintro obj s1 ⟨rfl,rfl⟩;have T:Fm {s with heap:=s.heap.push {cls:=.type "dict",data:=.dict #[]}} (.ref s.heap.objs.size) "dict":=⟨_,Az _ rfl,rfl⟩;have ho':(s.heap.push {cls:=.type "dict",data:=.dict #[]}).get? o=some od:=Ae _ ho;have T2:Fm {s with heap:=s.heap.push {cls:=.type "dict",data:=.dict #[]}} (.ref o) "dict":=⟨od,ho',hx.1⟩;have hdo:s.heap.objs.size≠o:=fun e=>absurd (AW ho) (by rw [e];exact Bh _);refine ⟨T,PySem.F.args_dict_init_2 _ _,?_⟩;unfold D4.«dict.__init__»;refine Aa ?_;unfold Lq;refine Aa (Fx T ?_);change wpAny _ _ (pure (s.heap.objs.size,[AL o])) _ _ _;refine Ac ?_;change wpAny _ _ (Gd "dict.__init__" s.heap.objs.size (.ref o) [] .none) _ _ _;unfold Gd;refine Aa (wpAny_typeOf T2 ?_);rw [if_neg (by decide)];refine Aa ?_;unfold Lw;refine Aa ?_;unfold Lr;refine Aa (E6 T2 isSubtype_dict_dict ?_);simp only [Bool.not_true,Bb,if_false];refine Aa (Hj T2 PySem.F.slot_dict_iter.lookup (Ac ?_));simp only [beq_self_eq_true,if_true];refine Aa (Ac ?_);unfold Lv;rw [if_neg (by simpa using hdo)];unfold CT;rw [if_neg (by rw [hoS];exact Aj)];refine Aa (Ac (Aa (B4 ho' hd ?_)));have few:(decide (es.size<=8)&&es.all fun e=>(keyPart e.key).isSome)=false:=by
  have h0:0<es.size:=by omega
  obtain ⟨b,eb,_⟩:=hk es[0] (by simp);have:(es.all fun e=>(keyPart e.key).isSome)=false:=by rw [Array.all_eq_false];exact ⟨0,h0,by rw [eb];exact Aj⟩
  rw [this,Bool.and_false]
 simp only [few,Kl,if_true];refine Aa (B4 (s:={s with heap:=s.heap.push {cls:=.type "dict",data:=.dict #[]}}) (Az _ rfl) rfl ?_);rw [if_pos (by rfl)];refine Aa (Xgf ho' hd (fun e he=>?_) hh ?_);obtain ⟨b,eb,ob,hb,hc⟩:=hk e he;exact ⟨b,eb,ob,Ae _ hb,hc⟩;rw [if_pos (by simp;exact fun z=>hne (by rw [z];rfl))];refine Aa (wpAny_updateDictKeysTo (Az _ rfl) rfl ?_ (Nat.le_succ_of_le hz));refine Ac ?_;change wpAny _ _ (Ly s.heap.objs.size [] >>= _) _ _ _;refine Aa (Ac (Ac ⟨rfl,h _ _ 1 (DG _ (Az _ rfl) (Obj.isFreed_of_dict (Ij rfl _))) (K6 ⟨rfl,rfl,rfl⟩ _) (Ij rfl _) (Da ..)⟩))
section
variable {E:XK}{S:List (Nat×Bool)}
theorem Xax {fv:FE}(hk:EOk K C E Γ Δ m1 S1 tk fk)(hv:EOk K C E Γ Δ m2 S2 tv fv):EOk K C E Γ Δ 2 [] (Zxf tk tv) (Dl.Zfx fk fv):=fun H0 Hb H σ ρ A Q I p q hq=>by
 have g0:=sameNew hq (.dT []);refine hk H0 Hb _ σ ρ A _ (I.mono g0) (Xh.imp (Xh.bind p) (fun y p y' H1 g1 ry=>?_) fun c x p H' g'=>p H' (g0.trans g'));refine hv H0 Hb H1 σ ρ A _ ((I.mono g0).mono g1) (Xh.imp (Xh.bind p) (fun v p v' H2 g2 rv=>?_) fun c x p H' g'=>p H' (g0.trans (g1.trans g')));obtain ⟨By,ry,_⟩:=ry;obtain ⟨Bv,rv,_⟩:=rv;split at p;rename_i k hk;split at p;rename_i hf;obtain ⟨b,rfl,hb⟩:=Zhr hk ry;have eB:=rv.flat hf;subst eB;have e1:H2 q=some (.dT []):=g2 _ _ (g1 _ _ Xd);have ex:Ext (fun c=>c=q) H2 (upd H2 q (.dT [(k,v')])):=fun c o hc=>by by_cases e:c=q;subst e;rw [e1] at hc;cases hc;exact .inr ⟨rfl,.dtt⟩;rw [Xa e];exact .inl hc
 refine ⟨k,b,rfl,e1,g2 _ _ hb,p _ _ (fun c o hc=>?_) (Res.new (B:=[q]) ⟨q,[v'],[],rfl,Xd,rfl,⟨_,_,[],[],rfl,rv.ext ex (fun _ z=>nomatch z),RpA.nil,rfl⟩,rfl⟩ (AA.mpr ⟨(fun z=>nomatch z),Be⟩) fun a ha=>by rw [Ao.mp ha];exact hq)⟩;rw [Xa fun z=>by subst z;rw [hq] at hc;cases hc];exact g2 _ _ (g1 _ _ (g0 _ _ hc));exact p.elim;exact p.elim
end
def Zsw:List V->Hp->VK->Prop:=fun vs H Q=>∃(a:Addr) (o:Obj) (kvs:List (List Key×V)),vs=[.ref a]/\H a=some (.frz o (.dT kvs))/\kvs≠[]/\(∀kv∈kvs,kv.1.all Dl.smK=true)/\(kvs.map fun kv=>Dl.thK kv.1).Nodup/\∀p,H p=none->Q (.ref p) (upd H p (.dT kvs))
theorem Xcn {x:Key}(h:Dl.smK x=true):keyH w x=Dl.vlK x:=by
 cases x with
 | inr z=>cases h
 | inl i =>
  simp only [Dl.smK,A9,decide_eq_true_eq] at h;obtain ⟨h0,h1⟩:=h;obtain ⟨n,rfl⟩:=EN h0;have h1:n<1000:=by omega
  show hashInt (n:Int)=(n:Int);have hr:rawHash (n:Int)=n:=by unfold rawHash;simp only [IX];have e:(n:Int) % ((2 ^ 61 - 1:Nat):Int)=n:=JL (by omega) (by omega);rw [e,if_neg (show ¬((n:Int)<0) by omega),if_neg (by simp)]
  unfold hashInt;rw [hr,if_neg (by simp)]
theorem Xly (h:k.all Dl.smK=true):(DF (Yg P w)).hash k=Dl.thK k:=by show Dz (C5 (k.map (keyH w)))=Dz (C5 (k.map Dl.vlK));rw [CI fun x hx=>Xcn (BV.mp h x hx)]
theorem Xls {l:List α}{f:α->Int}(h:(l.map f).Nodup){e:α}(he:e∈l):(l.filter fun x=>f x==f e).length<=1:=by
 induction l with
 | nil=>cases he
 | cons a l ih =>
  rw [Bn,AA] at h;rw [Gp];by_cases z:f a=f e;rw [if_pos (by simpa using z)];have:(l.filter fun x=>f x==f e)=[]:=by rw [List.filter_eq_nil_iff];intro x hx y;exact h.1 (AE.mpr ⟨x,hx,by rw [z];simpa using y⟩)
  rw [this];exact Ax _;rw [if_neg (by simpa using z)];rcases An.mp he with rfl | he;exact absurd rfl z;exact ih h.2 he
section
theorem Zjp:Jy X (.type "dict") Zsw:=by
 intro pins s σ H xs us Q I r h;obtain ⟨a,o,kvs,rfl,hq,hne,hsm,hnd,q⟩:=h;obtain ⟨u,rfl,rx⟩:=vals1 r;cases rx;obtain ⟨ho,z,hd,ys,rel,o',es,ep,ho',h1,h2,h3,h5⟩:=I.hok a _ hq;rw [ho] at ho';cases ho';have hl:es.size=kvs.length:=by rw [<- AN,h3,Am];exact (Paired.length rel).symm
 have hhs:es.toList.map (·.hash)=kvs.map fun kv=>Dl.thK kv.1:=by
  rw [h3,BI];have key:∀{l:List (List Key×V)} {m:List (List Key×Addr×Value)},KT H l m->(∀kv∈l,kv.1.all Dl.smK=true)->m.map ((fun e:DX=>e.hash)∘Gy (DF (Yg X.prog X.w)))=l.map fun kv=>Dl.thK kv.1:=fun {l m} rr=>by
   induction rr with
   | nil=>exact fun _=>rfl
   | @cons p q ps qs hp _ ih =>intro hs;rw [Bn,Bn,ih fun kv hkv=>hs kv (.tail _ hkv)];congr 1;show (DF (Yg X.prog X.w)).hash q.1=_;rw [<- hp.1];exact Xly (hs p (.head _))
  exact key rel hsm
 have hty:∀y∈ys,s.TypeIs (.ref y.2.1) "tuple":=fun y hy=>by
  have key:∀{l:List (List Key×V)} {m:List (List Key×Addr×Value)},KT H l m->∀y∈m,∃k:List Key,H y.2.1=some (.tup (k.map kV)):=fun {l m} rr=>by
   induction rr with
   | nil=>exact fun _ z=>nomatch z
   | cons hp _ ih =>intro y hy;rcases An.mp hy with rfl | hy;exact ⟨_,hp.2.1⟩;exact ih y hy
  obtain ⟨k,hk⟩:=key rel y hy;obtain ⟨_,its,_,ob,b1,b2,_⟩:=I.hok _ _ hk;exact ⟨ob,b1,b2⟩
 refine Xem hd ho h1 h2 (by omega) (by rw [hl];exact fun y=>hne (BF.mp y)) (fun e he=>?_) (fun e he=>?_) fun h' o' ep' g1 g2 g3 g4=>?_;rw [h3] at he;obtain ⟨y,hy,rfl⟩:=AE.mp he;exact ⟨y.2.1,rfl,hty y hy⟩;rw [<- AN,Array.toList_filter];rw [<- hhs] at hnd;exact Xls hnd he;have hn:=I.hok.fresh (Ax s.heap.objs.size);refine ⟨.ref s.heap.objs.size,_,I.laid (a:=s.heap.objs.size) (o:=.dT kvs) (t':=s.toks) (fun b ob hb=>?_) (Ax _) ⟨z,beq_eq_false_iff_ne.mpr (Ne.symm (BD I.big)),ys,KT.keeps rel fun b l hb=>?_,o',es,ep',g1,g2,g3,h3,h5⟩,rfl,q _ hn⟩;exact (g4.2 b (BD (AW hb))).trans (Ae _ hb);rw [Xa fun y=>by subst y;rw [hn] at hb;cases hb];exact hb
theorem Zmd:GAk K C Zsw Dl.Zti:=by
 intro H xs d vs Bx Q r e q
 match xs,e with
 | [x],e =>
  obtain ⟨v,l,B1,B2,rfl,r1,r2,_⟩:=r;obtain ⟨rfl,_⟩:=r2;cases x with
  | fdt ks ds =>
   have e:(if ks≠[]/\(ks.all fun k=>k.all Dl.smK)=true/\(ks.map Dl.thK).Nodup/\Dl.Zx ds=true then some (D.dtt ks ds) else none)=some d:=e;split at e;rename_i hh;cases e;obtain ⟨h1,h2,h3,h4⟩:=hh;obtain ⟨a,o,ys,rfl,e1,e2,e3,_⟩:=r1;have hl:ks.length=ys.length:=by rw [e2,e3.len]
   have hk:(ks.zip ys).map (·.1)=ks:=List.map_fst_zip (by omega);refine ⟨a,o,_,rfl,e1,?_,?_,?_,fun p hp=>?_⟩;intro z;rw [z] at hk;exact h1 hk.symm;intro kv hkv;have:kv.1∈ks:=by rw [<- hk];exact AE.mpr ⟨kv,hkv,rfl⟩
   exact BV.mp h2 _ this;have:((ks.zip ys).map fun kv=>Dl.thK kv.1)=ks.map Dl.thK:=by
    conv=>rhs;rw [<- hk]
    rw [BI];rfl
   rw [this];exact h3;have g:=sameNew hp (.dT (ks.zip ys));refine q _ _ [p] g ⟨p,ys,[],rfl,Xd,e2,e3.same g,rfl⟩ (AA.mpr ⟨(fun z=>nomatch z),Be⟩) fun b hb=>?_;rw [Ao.mp hb];exact hp;cases e
  | _=>cases e
variable {E:XK}{a b:Expr}{fb:FE}
theorem Zha (ha:JE X C E Γ Δ m1 S1 a ta fa)(hb:JE X C E Γ Δ m2 S2 b tb fb)(hu:X.A.units+64<Bw):JE X C E Γ Δ 2 [] (.Dict [some a] [b] pos) (Zxf ta tb) (Dl.Zfx fa fb):=⟨⟨Xgw (by omega) ha.q.out hb.q.out⟩,Xax ha.o hb.o⟩
end
def Znd (K:Frag):List V->Hp->VK->Prop:=fun vs H Q=>∃a xs,vs=[.ref a]/\SqL K H a xs/\∀p,H p=none->Q (.ref p) (upd H p (.tup xs))
theorem Zbk:Jy X (.type "tuple") (Znd X.K):=by intro pins s σ H xs us Q I r h;obtain ⟨a,ys,rfl,hq,q⟩:=h;obtain ⟨u,rfl,rx⟩:=vals1 r;cases rx;obtain ⟨its,rv,p,hz⟩:=I.list hq;have hl:=rv.length;refine call_tuple_list (hsz:=by rw [AG];omega) p.isList fun h' hk=>?_;have I2:Inv X pins σ H {s with heap:=h'}:=I.kept (t':=s.toks) hk;have hn:H h'.objs.size=none:=I2.hok.fresh (Ax _);exact ⟨.ref h'.objs.size,_,I2.laid (a:=h'.objs.size) (o:=.tup ys) (t':=s.toks) (fun b ob hb=>Ae _ hb) (Ax _) ⟨hz,its,rv,_,Az _ rfl,rfl,0,rfl⟩,rfl,q _ hn⟩
theorem Zcv:GAk K C (Znd K) Dl.Zee:=by
 intro H xs d vs Bx Q r e q
 match xs,e with
 | [.lst ds],e =>obtain ⟨v,l,B1,B2,rfl,r1,r2,_⟩:=r;obtain ⟨rfl,_⟩:=r2;have e:(if Dl.Zx ds=true then some (D.tup ds) else none)=some d:=e;split at e;rename_i hf;cases e;obtain ⟨a,ys,B,rfl,e1,e2,_⟩:=r1;have eB:=e2.flat hf;subst eB;refine ⟨a,ys,rfl,SqL.of e1,fun p hp=>?_⟩;have g:=sameNew hp (.tup ys);exact q _ _ [] g ⟨p,ys,rfl,Xd,e2.same g⟩ Be fun _ z=>nomatch z;cases e
def Xso (K:Frag):R2:=fun x y H Q=>∃a b xs ys,x=.ref a/\y=.ref b/\H a=some (.tup xs)/\H b=some (.tup ys)/\xs.length+ys.length<=Aw/\∀p H',Xi H H'->H' p=some (.tup (xs++ys))->Q (.ref p) H'
theorem Xdd {t:Addr}(ht:IG s.heap t #[])(hb:IG s.heap b ws.toArray)(h:Q (.ref b) s):wpAny (model prog w) A (CA .Add (.ref t) (.ref b)) Q E s:=by obtain ⟨⟨c1,d1,e1,l1⟩,o1,hc1,n1,hd1⟩:=id ht;obtain ⟨⟨c2,d2,e2,l2⟩,o2,hc2,n2,hd2⟩:=id hb;simp only at hc1 hd1 hc2 hd2;subst hc1 hd1 hc2 hd2;exact IR ⟨_,o1,rfl⟩ ⟨_,o2,rfl⟩ G2 Ig PySem.F.slot_tuple_add PySem.F.entry_tuple_add (PySem.F.args_tuple_add_2 _ _) (tuple_addW0 t b #[] ws.toArray n1 n2 d1 d2 l1 l2 rfl) ⟨o1,o2,h⟩
theorem Zlk:OpR X (CA .Add) (Xso X.K):=by intro pins s σ H x y v u Q I rx ry h;obtain ⟨a,b,xs,ys,rfl,rfl,ha,hb,hz,q⟩:=h;cases rx;cases ry;obtain ⟨its,r1,p1,_⟩:=I.tuple (SqT.of ha);obtain ⟨its2,r2,p2,_⟩:=I.tuple (SqT.of hb);by_cases hx:xs=[];subst hx;have e0:its=[]:=r1.nil_iff.mpr rfl;subst e0;exact Xdd p1 p2 ⟨.ref b,H,I,rfl,q b H (Xi.refl _) hb⟩;refine HT.cat_tup p1 p2 (fun z=>hx (r1.nil_iff.mp z)) (fun z=>⟨.ref a,H,I,rfl,?_⟩) (fun z=>?_) (by rw [<- r1.length,<- r2.length];exact hz);have ey:=r2.nil_iff.mp z;subst ey;exact q a H (Xi.refl _) (by rw [CK];exact ha);have hn:=I.hok.fresh (Ax s.heap.objs.size);refine ⟨.ref s.heap.objs.size,_,I.laid (t':=s.toks) (o:=.tup (xs++ys)) (fun b ob q=>Ae _ q) (Ax _) ?_,rfl,q _ _ (sameNew hn _) Xd⟩;exact ⟨by rw [Ai];exact hz,_,r1.append r2,Ln _ _⟩
theorem Zgy:GOk K C (Xso K) Dl.Zkj:=by
 intro H x y d vx vy Bx By Q rx ry e q;cases x with
 | tup ds =>
  cases y with
  | tup es =>have e:(if ds.length+es.length<=Dl.lim/\Dl.Zx ds=true/\Dl.Zx es=true then some (D.tup (ds++es)) else none)=some d:=e;split at e;rename_i hh;cases e;obtain ⟨a,xs,rfl,a1,a2⟩:=rx;obtain ⟨b,ys,rfl,b1,b2⟩:=ry;have ea:=a2.flat hh.2.1;have eb:=b2.flat hh.2.2;subst ea eb;refine ⟨a,b,xs,ys,rfl,rfl,a1,b1,by rw [a2.len,b2.len];exact Zbu hh.1,fun p H' g hp=>?_⟩;exact q _ H' [] g ⟨p,_,rfl,hp,(a2.same g).app (b2.same g)⟩ Be fun _ z=>nomatch z;cases e
  | _=>cases e
 | _=>cases e
def Xqw:R2:=fun x y H Q=>∃l b xs zs,x=.ref l/\y=.ref b/\Rd H l (.lst xs)/\Rd H b (.lst zs)/\xs.length+zs.length<=Aw/\∀p,H p=none->Q (.ref p) (upd H p (.lst (xs++zs)))
theorem Xbk:OpR X (CA .Add) Xqw:=by
 intro pins s σ H x y v u Q I rx ry h;obtain ⟨l,b,xs,zs,rfl,rfl,hH,hB,hz,q⟩:=h;cases rx;cases ry;obtain ⟨z,its,n,r,e⟩:=Xht I.hok hH;obtain ⟨z2,its2,n2,r2,e2⟩:=Xht I.hok hB;have hl:=r.length;have hl2:=r2.length;refine PySem.P.add_list e e2 ?_ (by rw [AG,AG];omega);have ea:its.toArray++its2.toArray=(its++its2).toArray:=by simp
 rw [ea];exact ⟨.ref _,_,I.lnew (t':=s.toks) (r.append r2) (by rw [Ai];omega),rfl,q _ I.fresh⟩
theorem Zsj:GOk K C Xqw Dl.Zuz:=by
 intro H x y d vx vy Bx By Q rx ry e q;cases x with
 | flst ds =>
  cases y with
  | lst es =>have e:(if ds.length+es.length<=Dl.lim/\Dl.Zx es=true then some (D.lst (ds++es)) else none)=some d:=e;split at e;rename_i hh;cases e;obtain ⟨a,o,xs,rfl,a1,a2,_⟩:=rx;obtain ⟨b,ys,B,rfl,b1,b2,_⟩:=ry;have eb:=b2.flat hh.2;subst eb;refine ⟨a,b,xs,ys,rfl,rfl,.inr ⟨o,a1⟩,.inl b1,by rw [a2.len,b2.len];exact Zbu hh.1,fun p hp=>?_⟩;have g:=sameNew hp (.lst (xs++ys));refine q _ _ [p] g ⟨p,_,[],rfl,Xd,(a2.same g).app (b2.same g),rfl⟩ (AA.mpr ⟨(fun z=>nomatch z),Be⟩) fun c hc=>?_;rw [Ao.mp hc];exact hp;cases e
  | _=>cases e
 | _=>cases e
def Xrw (K:Frag)(ta:TE):TT:=fun σ H Q=>ta σ H fun x H'=>∃k,TruV K x H' k/\Q k H'
section
variable {E:XK}{S:List (Nat×Bool)}
theorem Xdu {t:TE}(h:EOk K C E Γ Δ m S t f):TOk K C E Γ Δ (Xrw K t) (Dl.Zvm f):=fun H0 Hb H σ ρ A Q I p=>h H0 Hb H σ ρ A _ I (p.bind.imp (fun d q v H' g r=>by
  obtain ⟨B,r,_⟩:=r;cases d with
  | flst ds =>
    obtain ⟨a,o,xs,rfl,e1,e2,_⟩:=r;have hl:=e2.len;have hq:(!xs.isEmpty)=!ds.isEmpty:=by cases xs<;>cases ds<;>first | rfl | simp at hl
    refine ⟨!xs.isEmpty,?_,by rw [hq];exact q H' g⟩
    first
      | exact .inl ⟨xs,.inl (.inr ⟨o,e1⟩),rfl⟩
      | exact ⟨xs,.inl (.inr ⟨o,e1⟩),rfl⟩
      | exact .inl ⟨xs,.inl (.inr ⟨o,e1⟩),by cases xs<;>rfl⟩
  | _=>exact q.elim) fun c x q H' g'=>q H' g')
theorem Xoo (h:JE X C E Γ Δ m S e te fe)(he:∀whole,isTrue e X.env whole=(do let v <- whole;Fi e.pos;CZ [v] (II v)):=by intro _;rfl):JT X C E Γ Δ e (Xrw X.K te) (Dl.Zvm fe):=⟨⟨Xek h.q.out he⟩,Xdu h.o⟩
def Xuc (K:Frag)(C:String->Addr)(Γ Δ:List Nat)(g:TG)(b:FB):Prop:=∀(H0 Hb H:Hp) (σ:St) (ρ:Xr) (A:Nat->List Addr) (d:D) (v:V) (B:List Addr) (Rr:St->Hp->Prop),Zp K C H0 Hb H Γ Δ σ ρ A->Rp K C H d v B->(∀a∈B,Hb a≠none)->
 Xh (b d ρ) (fun ρ'=>∀σ' A',σ'[0]?=σ[0]?->Zp K C H0 Hb H Γ Δ σ' ρ' A'->Rr σ' H) (fun _ _=>False)->g v σ H Rr
def Zwx (K:Frag)(C:String->Addr)(Γ Δ:List Nat)(g:TGs)(b:List D->Xr->R Xr):Prop:=∀(H0 Hb H:Hp) (σ:St) (ρ:Xr) (A:Nat->List Addr) (d:List D) (v:List V) (B:List Addr) (Rr:St->Hp->Prop),Zp K C H0 Hb H Γ Δ σ ρ A->RpA K C H d v B->(∀a∈B,Hb a≠none)->
 Xh (b d ρ) (fun ρ'=>∀σ' A',σ'[0]?=σ[0]?->Zp K C H0 Hb H Γ Δ σ' ρ' A'->Rr σ' H) (fun _ _=>False)->g v σ H Rr
theorem Zwg (h0:i≠0:=by decide)(h1:i∉Γ:=by decide)(h2:i∉Δ:=by decide):Xuc K C Γ Δ (Zas i) (Dl.Zu i):=fun H0 Hb H σ ρ A d v B Rr I r hB p=>by obtain ⟨A',I',_⟩:=I.put (Γ':=Γ) (Δ':=Δ) (i:=i) r (fun j hj e=>⟨hj,fun a l e' ha=>hB a ha (I.top j hj a l e').1⟩) (fun hj=>absurd hj h1) (fun j hj e=>⟨hj,fun a ha hb=>hB a hb ((I.deep j hj).2.2 a ha)⟩) (fun hj=>absurd hj h2);exact p _ A' (BL h0) I'
theorem Xgp:Zwx K C Γ Δ Xci Dl.Zge:=fun H0 Hb H σ ρ A d v B Rr I r hB p=>by
 cases d with
 | nil=>exact ⟨r.1,p _ A rfl I⟩
 | cons _ _=>exact p.elim
theorem Zwz {b:FB}{bs:List D->Xr->R Xr}(h1:Xuc K C Γ Δ g b)(h2:Zwx K C Γ Δ gs bs):Zwx K C Γ Δ (Zji g gs) (Dl.Yf b bs):=fun H0 Hb H σ ρ A d v B Rr I r hB p=>by
 cases d with
 | nil=>exact p.elim
 | cons d ds =>obtain ⟨x,l,B1,B2,e1,e2,e3,e4⟩:=r;subst e1 e4;refine ⟨x,l,rfl,h1 H0 Hb H σ ρ A d x B1 _ I e2 (fun a ha=>hB a (AJ _ ha)) (Xh.imp (Xh.bind p) (fun ρ1 q σ1 A1 hσ I1=>?_) fun _ _ z=>z)⟩;exact h2 H0 Hb H σ1 ρ1 A1 ds l B2 Rr I1 e3 (fun a ha=>hB a (As _ ha)) (Xh.imp q (fun ρ2 q σ2 A2 h=>q σ2 A2 (h.trans hσ)) fun _ _ z=>z)
theorem Xfn {bs:List D->Xr->R Xr}(hn:∀ds ρ ρ',bs ds ρ=.ok ρ'->ds.length=n)(h:Zwx K C Γ Δ gs bs):Xuc K C Γ Δ (Zfa K n gs) (Dl.Zgn bs):=fun H0 Hb H σ ρ A d v B Rr I r hB p=>by
 cases d with
 | tup ds =>
  obtain ⟨a,xs,rfl,e2,e3⟩:=r;have hl:xs.length=n:=by
   rw [e3.len];have p':Xh (bs ds ρ) (fun ρ'=>∀σ' A',σ'[0]?=σ[0]?->Zp K C H0 Hb H Γ Δ σ' ρ' A'->Rr σ' H) (fun _ _=>False):=p;cases e:bs ds ρ with
   | ok ρ'=>exact hn ds ρ ρ' e
   | err _ _=>rw [e] at p';exact p'.elim
   | bad=>rw [e] at p';exact p'.elim
  exact ⟨a,xs,rfl,SqT.of e2,hl,h H0 Hb H σ ρ A ds xs B Rr I e3 hB p⟩
 | _=>exact p.elim
theorem Xne:Zos K C E Γ Δ Γ Δ Zva Dl.sNx:=fun H0 Hb H σ ρ A D I p=>p σ H A rfl I
theorem Xct {t u:TS}{f g:FS}(h1:Zos K C E Γ Δ Γ1 Δ1 t f)(h2:Zos K C E Γ1 Δ1 Γ' Δ' u g):Zos K C E Γ Δ Γ' Δ' (Xpz t u) (Dl.Xj f g):=fun H0 Hb H σ ρ A D I p =>
  h1 H0 Hb H σ ρ A _ I (Xh.imp (Xh.bind p) (fun fl q=>by
    cases fl with
    | nx ρ1=>exact fun σ1 H1 A1 e1 I1=>h2 H0 Hb H1 σ1 ρ1 A1 D I1 (Xh.imp q (fun fl q=>by
        cases fl with
        | nx ρ2=>exact fun σ2 H2 A2 e2 I2=>q σ2 H2 A2 (e2.trans e1) I2
        | _=>exact q) fun _ _ z=>z)
    | _=>exact q) fun _ _ z=>z)
theorem Xat {t:TS}{f:FS}(h:Zos K C E Γ Δ Γ1 Δ1 t f)(h1:∀i∈Γ',i∈Γ1)(h2:∀i∈Δ',i∈Δ1):Zos K C E Γ Δ Γ' Δ' t f:=fun H0 Hb H σ ρ A D I p =>
  h H0 Hb H σ ρ A D I (Xh.imp p (fun fl q=>by
    cases fl with
    | nx ρ1=>exact fun σ1 H1 A1 e1 I1=>q σ1 H1 A1 e1 (I1.weak h1 h2)
    | _=>exact q) fun _ _ z=>z)
theorem Xev {tb:TS}{fs:FS}(hi:IOk K C E Γ Δ S wi fi)(hb:Xuc K C Γl Δl g fb)(hs:Zos K C E Γl Δl Γl Δl tb fs)
    (h1:∀i∈Γl,i∈Γ:=by decide) (h2:∀i∈Δl,i∈Δ:=by decide) (h3:∀p∈S,p.1∉Γl/\p.1∉Δl:=by decide):Zos K C E Γ Δ Γl Δl (Xqg wi g tb) (Dl.Zfe fi fb (Dl.Zpr fs)):=fun H0 Hb H σ ρ A D I p=>by
  refine hi H0 Hb H σ ρ A _ I (Xh.imp (Xh.bind p) (fun ds q J H1 W g1 hW hlen hJ=>?_) fun c x q H' g'=>q H' (Xi.from0 I g'));have I1:=(I.mono g1).weak h1 h2;have hlst:∀a∈ownAt A Γl Δl,∃o,H1 a=some o/\IsM o:=fun a ha=>by rcases Zch ha with ⟨i,_,l,e⟩ | ⟨i,_,e⟩;exact I1.is (j:=i) (by rw [e];exact .head _);exact I1.is e
  have hbn:∀a∈ownAt A Γl Δl,Hb a=none:=fun a ha=>by rcases Zch ha with ⟨i,hi,l,e⟩ | ⟨i,hi,e⟩;exact (I1.top i hi a l e).1;exact (I1.deep i hi).2.2 a e
  have hout:∀a∈W,a∉ownAt A Γl Δl:=fun a ha ho=>by rcases (hW a ha).2 with z | z;rcases Zch ho with ⟨i,hi,l,e⟩ | ⟨i,hi,e⟩;exact I.ne (j:=i) (by rw [e];exact .head _) z;exact I.ne e z;rcases Zch ho with ⟨i,hi,l,e⟩ | ⟨i,hi,e⟩;exact I1.top_out hi (fun h=>(h3 _ h).1 hi) e z;exact I1.deep_out hi (fun p hp e'=>(h3 p hp).2 (by rw [e'];exact hi)) e z
  let Hc:Hp:=fun b=>if b∈ownAt A Γl Δl then none else H1 b
  have c1:Xi Hc H1:=fun b o h=>by show H1 b=some o;have h:(if b∈ownAt A Γl Δl then none else H1 b)=some o:=h;split at h;cases h;exact h
  have c2:Xi Hb Hc:=fun b o h=>by show (if b∈ownAt A Γl Δl then none else H1 b)=some o;rw [if_neg fun ho=>by rw [hbn b ho] at h;cases h];exact I1.same b o h
  have c3:∀a,a∉ownAt A Γl Δl->Hc a=H1 a:=fun a ha=>if_neg ha;have c4:∀a∈ownAt A Γl Δl,Hc a=none:=fun a ha=>if_pos ha;have I2:Zp K C H0 Hc H1 Γl Δl σ ρ A:=⟨I1.s0.trans c2,c1,I1.len,I1.rep,I1.nil,I1.loc,fun i hi a l e=>⟨c4 a (Xbq hi e),(I1.top i hi a l e).2⟩,fun i hi=>⟨(I1.deep i hi).1,(I1.deep i hi).2.1,fun a ha=>c4 a (Zss hi ha)⟩⟩;have back:∀{σ':St} {ρ':Xr} {H':Hp} {A':Nat->List Addr},Zp K C H0 Hc H' Γl Δl σ' ρ' A'->Zp K C H0 Hb H' Γl Δl σ' ρ' A':=fun I' =>
    ⟨I1.s0,c2.trans I'.same,I'.len,I'.rep,I'.nil,I'.loc,fun i hi a l e=>⟨c2.free (I'.top i hi a l e).1,(I'.top i hi a l e).2⟩,fun i hi=>⟨(I'.deep i hi).1,(I'.deep i hi).2.1,fun a ha=>c2.free ((I'.deep i hi).2.2 a ha)⟩⟩
  have go:Goes K C J ds Hc:=hJ Hc ⟨fun a ha=>c3 a (hout a ha),fun b o h hn=>(c3 b fun ho=>by
    obtain ⟨xs,e,hm⟩:=hlst b ho;rw [e] at h;cases h;exact hn hm).trans h⟩
  refine Zxv go (fun k σ' H'=>σ'[0]?=σ[0]?/\∃ρ' A',Zp K C H0 Hc H' Γl Δl σ' ρ' A'/\Xh (Dl.Zhy fb (Dl.Zpr fs) (ds.drop k) ρ') (fun fl=>match fl with
    | .nx ρ'=>∀σ' H' A',σ'[0]?=σ[0]?->Zp K C H0 Hb H' Γl Δl σ' ρ' A'->D.nx σ' H'
    | _=>False) (fun c x=>∀H',Xi H0 H'->EC C E c x H')) ⟨rfl,ρ,A,I2,q⟩ (fun _ _ _ ⟨_,_,_,I',_⟩=>I'.same) ?_ ?_
  rintro k d x Bx σ' Ha H' hd ⟨e0,ρ',A',Ia,pq⟩ ga rx hBx;have I':=Ia.mono ga;rw [Zjn _ _ _ hd] at pq;have pq':=Zdo (Xh.bind pq);refine hb H0 Hc H' σ' ρ' A' d x Bx _ I' rx hBx (Xh.imp pq' (fun ρ1 pq σ1 A1 e1 I1'=>?_) fun _ _ z=>z);refine hs H0 Hc H' σ1 ρ1 A1 _ I1' (Xh.imp (Xh.bind (Xh.bind pq)) (fun fl pq=>?_) fun _ _ z=>z);cases fl with
  | nx ρ2=>exact fun σ2 H2 A2 e2 I2'=>⟨e2.trans (e1.trans e0),ρ2,A2,I2',pq⟩
  | _=>exact pq
  rintro σ' H' ⟨e0,ρ',A',I',pq⟩;rw [Gq] at pq;exact pq σ' H' A' e0 (back I')
theorem Zzy (hi:i∈Γ:=by decide)(he:EOk K C E Γ Δ m1 S1 te fe)(hk:EOk K C E Γ Δ m2 S2 tk fk):Zos K C E Γ Δ Γ Δ (Zjr te (Zgi (Zgp i) tk Zyr)) (Dl.Zjd i fk fe):=fun H0 Hb H σ ρ A D I p=>by
 refine he H0 Hb H σ ρ A _ I (Xh.imp (Xh.bind p) (fun d q v H1 g1 r=>?_) fun c x q H' g'=>q H' (Xi.from0 I g'));have I1:=I.mono g1;split at q;rename_i ks ds e;obtain ⟨a,xs,l,s1,h1,h2,r1,hA,hl⟩:=Zgv I1 e;refine ⟨.ref a,s1,hk H0 Hb H1 σ ρ A _ I1 (Xh.imp (Xh.bind q) (fun z q w H2 g2 rz=>?_) fun c x q H' g'=>q H' (Xi.from0 I1 g'))⟩;obtain ⟨Bz,rz,_⟩:=rz;obtain ⟨B,rd,_⟩:=r;split at q;rename_i k hk;split at q;rename_i hf;obtain ⟨b,rfl,hb⟩:=Zhr hk rz;have zB:=rd.flat hf.1;subst zB;have hx:ks.length=xs.length:=by rw [h2,r1.len]
 have r2:=(r1.same g2).flat' hf.2.1;have rd2:=rd.same g2;have I2:=I1.mono g2;refine ⟨a,_,rfl,Xqm.t (g2 _ _ h1) hb (DB (by rw [Gw];exact E4 _ _) (Zdb hf.2.2)),?_⟩;unfold Dl.Xpx at q;unfold putK;rw [Zgx hx];split at q;rename_i hh;rw [if_pos hh,Zkq hx];obtain ⟨A',I'⟩:=I2.writeO (Γ':=Γ) (Δ':=Δ) (o':=.dT (ks.zip (Bf (fun j x=>if j=k then v else x) ks xs))) (d':=.dtt ks (Bf (fun j x=>if j=k then d else x) ks ds)) hi hA hl s1 (fun H' q1 q2=>⟨a,_,_,rfl,q1,by rw [CJ,h2,HK],q2,rfl⟩) (RpA.replT rd2 r2 hf.2.1) (fun _ z=>nomatch z) (fun z=>nomatch z) (fun j hj _=>⟨hj,fun _ _ _ z=>nomatch z⟩) (fun j hj _=>⟨hj,fun _ _ z=>nomatch z⟩) (fun _=>⟨Be,(fun _ _ _ z=>nomatch z),(fun _ z=>nomatch z)⟩);exact q _ _ A' rfl I';rename_i hh;rw [if_neg hh,show ks.zip xs++[(k,v)]=(ks++[k]).zip (xs++[v]) by rw [GD hx];rfl];obtain ⟨A',I'⟩:=I2.writeO (Γ':=Γ) (Δ':=Δ) (o':=.dT ((ks++[k]).zip (xs++[v]))) (d':=.dtt (ks++[k]) (ds++[d])) hi hA hl s1 (fun H' q1 q2=>⟨a,_,_,rfl,q1,by simp [h2],q2,rfl⟩) (RpA.snoc0 rd2 r2) (fun _ z=>nomatch z) (fun z=>nomatch z) (fun j hj _=>⟨hj,fun _ _ _ z=>nomatch z⟩) (fun j hj _=>⟨hj,fun _ _ z=>nomatch z⟩) (fun _=>⟨Be,(fun _ _ _ z=>nomatch z),(fun _ z=>nomatch z)⟩);exact q _ _ A' rfl I';exact q.elim;exact q.elim;exact q.elim
theorem Xar {t:TA}{fa:FA}(hi:i∈Δ)(ha:AOk K C E Γ Δ m S t fa)(hn:∀ρ ds,fa ρ=.ok ds->ds.length=n)(hS:∀p∈S,p.1≠i) :
  MOk K C E Γ Δ (Zmv (spM K C n G) [] E (Jz (Zgp i) t)) (Dl.Zjk i G fa):=fun H0 Hb H σ ρ A Q I p=>by
 unfold Dl.Zjk at p;split at p;rename_i d0 e0;obtain ⟨v0,hs,r0⟩:=I.rep i _ e0;refine Zwf ⟨_,hs,?_⟩;refine ha H0 Hb H σ ρ A _ I ?_;cases e:fa ρ with
 | bad=>rw [e] at p;exact p
 | err c x=>rw [e] at p;exact fun H' g'=>p H' (Xi.from0 I g')
 | ok ys =>rw [e] at p;intro vs H1 g1 r2;obtain ⟨B2,r2,rB,_⟩:=r2;obtain ⟨d1,d2,d3⟩:=I.deep i hi;have I1:=I.mono g1;refine ⟨d0,ys,_,vs,A i,B2,rfl,hn ρ ys e,r0.same g1,d1,r2,fun b hb hz=>(rB b hb).elim (fun z=>I.ne hz z) (I.deep_out hi hS hz),Xh.imp (Xh.bind (r:=G (d0::ys)) p) (fun q pq v H' A1 Br hk r1 nd1 hA1 rr ndr hBr=>?_) fun c x q H' hk=>?_⟩;refine pq v H' _ Br (I1.deepTo hi (Ag.mp e0).1 hs hk r1 nd1 fun b hb=>(hA1 b hb).imp id fun z=>⟨I1.same.free z,fun j hj=>I1.ne hj z⟩) rr ndr fun b hb=>⟨(hBr b hb).1.elim (fun z=>d3 b z) fun z=>I1.same.free z,fun j=>?_⟩;by_cases e1:j=i;rw [if_pos e1];exact (hBr b hb).2;rw [if_neg e1];exact fun hj=>(hBr b hb).1.elim (fun z=>d2 j e1 b z hj) fun z=>I1.ne hj z;refine q H' fun b o h=>hk b o (fun z=>?_) (I1.same b o (I.s0 b o h));rw [I.s0.free (d3 b z)] at h;cases h
 exact p.elim
end
structure JPs (X:Cx)(C:String->Addr)(E:XK)(Γ Δ Γ' Δ':List Nat)(s:List Stmt)(t:TS)(f:FS):Prop where
 q:QSs X s t
 o:Zos X.K C E Γ Δ Γ' Δ' t f
structure JG0 (X:Cx)(C:String->Addr)(Γ Δ:List Nat)(e:Expr)(t:TG)(b:FB):Prop where
 q:QG X e t
 o:Xuc X.K C Γ Δ t b
structure JGs0 (X:Cx)(C:String->Addr)(Γ Δ:List Nat)(es:List Expr)(n:Nat)(t:TGs)(f:List D->Xr->R Xr):Prop where
 q:QGs X es t
 o:Zwx X.K C Γ Δ t f
 n:∀ds ρ ρ',f ds ρ=.ok ρ'->ds.length=n
section
variable {E:XK}{k:Nat}{S:List (Nat×Bool)}{a b c iter:Expr}{es:List Expr}{t:TA}{fa:FA}{tm:TE}{fm:FM}{p1 q3:Pos}{x:Str}{u v:TS}{g h:FS}
theorem Zyb:JPs X C E Γ Δ Γ Δ [] Zva Dl.sNx:=⟨Zxi,Xne⟩
theorem Zoy (h1:JP X C E Γ Δ Γ' Δ' s1 u g):JPs X C E Γ Δ Γ' Δ' [s1] u g:=⟨Zqo h1.q,h1.o⟩
theorem Xcl (Γ1 Δ1:List Nat)(h1:JP X C E Γ Δ Γ1 Δ1 s1 u g)(h2:JPs X C E Γ1 Δ1 Γ' Δ' ss v h):JPs X C E Γ Δ Γ' Δ' (s1::ss) (Xpz u v) (Dl.Xj g h):=⟨Zqv h1.q h2.q,Xct h1.o h2.o⟩
theorem Xgk (Γ1 Δ1:List Nat)(h:JPs X C E Γ Δ Γ1 Δ1 ss u g)(h1:∀i∈Γ',i∈Γ1:=by decide)(h2:∀i∈Δ',i∈Δ1:=by decide):JPs X C E Γ Δ Γ' Δ' ss u g:=⟨h.q,Xat h.o h1 h2⟩
theorem Zsl (h0:i≠0:=by decide)(h1:i∉Γ:=by decide)(h2:i∉Δ:=by decide)(hN:X.N.Nodup)(hi:X.N[i]?=some x)(hx:Loc X.env.scope x)(hf:autoParam (X.fn x=true\/X.env.scope.names.lookup x=some .local) aT0._auto_1):JG0 X C Γ Δ (.Name x pos) (Zas i) (Dl.Zu i):=⟨Zlx hN hi hx hf,Zwg h0 h1 h2⟩
theorem Xex:JGs0 X C Γ Δ [] 0 Xci Dl.Zge:=⟨Zle,Xgp,Zrw⟩
theorem Znl {u:TGs}(h1:JG0 X C Γ Δ e tt fb)(h2:JGs0 X C Γ Δ es n u fu)(hs:(AV (e::es) X.env).map (·.2)=Dg e X.env::(AV es X.env).map (·.2):=by rfl):JGs0 X C Γ Δ (e::es) (n+1) (Zji tt u) (Dl.Yf fb fu):=⟨Zgz h1.q h2.q hs,Zwz h1.o h2.o,Zlu h2.n⟩
theorem Xko {k:Nat}{u:TGs}(hc:X.calm=true)(h:JGs0 X C Γ Δ es n u fu)(hn:(AV es X.env).length=n:=by rfl)(hst:(AV es X.env).findIdx? (·.1)=none:=by rfl):JG0 X C Γ Δ (.Tuple es k pos) (Zfa X.K n u) (Dl.Zgn fu):=⟨Zqx hc h.q hn hst,Xfn h.n h.o⟩
theorem Xwn {tA:TT}{fA:FT}(hc:JT X C E Γ Δ c tA fA)(ha:JPs X C E Γ Δ Γ' Δ' body u g)(hb:JPs X C E Γ Δ Γ' Δ' other v h):JP X C E Γ Δ Γ' Δ' (.If c body other pos) (Xqc tA u v) (Dl.sIf fA g h):=⟨Xrt hc.q ha.q hb.q,Xlq hc.o ha.o hb.o⟩
theorem Xum (Γl Δl:List Nat)(hp:IB (model X.prog X.w) X.A X.env X.xe)(hc:X.calm=true)(hi:JI X C E Γ Δ S tg iter wi fi)(hg:JG0 X C Γl Δl tg tt fb)(hb:JPs X C E Γl Δl Γl Δl body u g)(hs:∀x,Bt iter X.env x=pure x:=by intro _;rfl)
  (h1:∀i∈Γl,i∈Γ:=by decide) (h2:∀i∈Δl,i∈Δ:=by decide) (h3:∀p∈S,p.1∉Γl/\p.1∉Δl:=by decide):JP X C E Γ Δ Γl Δl (.For tg iter body [] pos) (Xqg wi tt u) (Dl.Zfe fi fb (Dl.Zpr g)):=⟨Xje hp hc hi.q hg.q hb.q hs,Xev hi.o hg.o hb.o h1 h2 h3⟩
theorem Xjs (hi:i∈Γ:=by decide)(hN:X.N[i]?=some x:=by rfl)(hv:autoParam (Vis X.env.scope x) aT3._auto_1)(hd:(x==("__debug__":Str))=false:=by decide)(hcd:(x==("__classdict__":Str))=false:=by decide)
    (he:JE X C E Γ Δ m1 S1 e te fe) (hk:JE X C E Γ Δ m2 S2 kx tk fk) (hs:EW [.Subscript (.Name x p) kx p2] e pos.line X.env=pure false:=by rfl) (hw:EX [.Subscript (.Name x p) kx p2] e X.env=pure none:=by rfl) (h1:(AV [.Subscript (.Name x p) kx p2] X.env).map (·.2)=[Dg (.Subscript (.Name x p) kx p2) X.env]:=by rfl)
    (hq:∀v,Dg (.Subscript (.Name x p) kx p2) X.env v=(do
      let ov <- CZ [v] (eval (.Name x p) X.env)
      let iv <- CZ [v,ov] (eval kx X.env)
      Fi p2
      CZ [v,ov,iv] (Ht ov iv v)
      KG [v,ov,iv] []):=by intro _;rfl) (hu:X.A.units+64<Bw) :
    JP X C E Γ Δ Γ Δ (.Assign [.Subscript (.Name x p) kx p2] e pos) (Zjr te (Zgi (Zgp i) tk Zyr)) (Dl.Zjd i fk fe):=⟨Xan he.q (Xjf (qv i hN hv hd hcd) hk.q (set_dict hu) hq) hs hw h1,Zzy hi he.o hk.o⟩
theorem Xfw (i:Nat)(Df:Def X.prog X.w X.K X.mg X.base CX k x ps (spM K C n G))(hr:Zgr k X.A)(hg:Gl X x)(hx:Zih CX X E)(ha:JA X C E Γ Δ m2 S2 es n t fa)(hi:i∈Δ:=by decide)(hS:∀p∈S2,p.1≠i:=by decide)(hN:X.N[i]?=some y:=by rfl)
  (hv:autoParam (Vis X.env.scope y) aT3._auto_1) (hd:(y==("__debug__":Str))=false:=by decide) (hcd:(y==("__classdict__":Str))=false:=by decide) (hdb:(x==("__debug__":Str))=false:=by decide)
  (he:Af (.Name y p2::es) X.env=(false,eval (.Name y p2) X.env)::Af es X.env:=by rfl) (hpl:(BU pos (Af es X.env)).any (·.1)=false:=by rfl) (hK:X.K=K:=by rfl) :
  JM X C E Γ Δ (.Call (.Name x p) (.Name y p2::es) [] pos) (Zmv (spM K C n G) [] E (Jz (Zgp i) t)) (Dl.Zjk i G fa):=by
 subst hK;exact ⟨Zsp Df hr hg hx (Zbb (qv i hN hv hd hcd) ha.q he) hdb he hpl,Xar hi ha.o ha.n hS⟩
theorem Xps (h1:∀i∈Γl,i∈Γ:=by decide)(h2:∀i∈Δl,i∈Δ:=by decide):SOk K C E mr Γl Δl Γ Δ Γ' Δ' Xjr Dl.sCnt:=fun _ _ H σ _ A _ I p=>p σ H A (I.weak h1 h2)
theorem Xry (h1:∀i∈Γl,i∈Γ:=by decide)(h2:∀i∈Δl,i∈Δ:=by decide):JS X C E mr Γl Δl Γ Δ Γ' Δ' (.Continue pos) Xjr Dl.sCnt:=⟨⟨Zpj⟩,Xps h1 h2⟩
end
theorem Zmp {ks:List (Option Expr)}{es:List Expr}:Af (.Dict ks vs pos::es) env=(false,eval (.Dict ks vs pos) env)::Af es env:=rfl
theorem Zfg {t:Addr}(hit:s.heap.IsTupleIter it t i)(ht:s.heap.IsTuple t items)(hx:items[i]?=some x)(hQ:∀h',h'.IsTupleIter it t (i+1)->Cb it s.heap h'->Q x {s with heap:=h'}):wpAny (model prog w) A (Bl (.ref it)) Q E s:=by obtain ⟨o,ho,hc,hd⟩:=id hit;obtain ⟨ol,hol,_,nl,hdl⟩:=ht;unfold Bl;refine Aa (Bs (name:=BQ "__next__") hit.typeIs Dx (Bg Dx hit.typeIs Hh ?_ (G8 _)));show wpAny _ _ (Iw (.ref it) 0 >>= _) _ _ s;refine Aa (Bu ho hd (x:=.ref t) rfl ?_);show wpAny _ _ (if (AL t==BH)=true then _ else _) _ _ s;rw [if_neg (show ¬((AL t==BH)=true) from Aj)];show wpAny _ _ (Iw (.ref it) 1 >>= _) _ _ s;refine Aa (Bu ho hd (x:=.int i 0) rfl ?_);show wpAny _ _ (G1 (.ref t) >>= _) _ _ s;refine Aa (B3 hol hdl ?_);simp only [Dm,hx];refine Aa (FJ ho hd (by simp) (Ac ⟨x,rfl,Ac (hQ _ ⟨_,DG _ ho (HW (Et hd _)),(JC ..).trans hc,by rw [Et hd];simp [D1]⟩ (Da ..))⟩))
theorem Zod {t:Addr}(hh:A.handled=none)(hit:s.heap.IsTupleIter it t i)(ht:s.heap.IsTuple t items)(hx:items[i]?=none)(hE:∀h' e,HZ it s.heap h'->(∃o,h'.get? e=some o/\o.cls=.type "StopIteration")->E (.ref e) {s with heap:=h'}):wpAny (model prog w) A (Bl (.ref it)) Q E s:=by
 obtain ⟨o,ho,hc,hd⟩:=id hit;obtain ⟨ol,hol,_,nl,hdl⟩:=ht;unfold Bl;refine Aa (Bs (name:=BQ "__next__") hit.typeIs Dx (Bg Dx hit.typeIs Hh ?_ (G8 _)));show wpAny _ _ (Iw (.ref it) 0 >>= _) _ _ s;refine Aa (Bu ho hd (x:=.ref t) rfl ?_);show wpAny _ _ (if (AL t==BH)=true then _ else _) _ _ s;rw [if_neg (show ¬((AL t==BH)=true) from Aj)];show wpAny _ _ (Iw (.ref it) 1 >>= _) _ _ s;refine Aa (Bu ho hd (x:=.int i 0) rfl ?_);show wpAny _ _ (G1 (.ref t) >>= _) _ _ s;refine Aa (B3 hol hdl ?_);simp only [Dm,hx];refine Aa (Dy (Aa (FJ ho hd (by simp) ?_)));show wpAny _ _ (IN (.type "StopIteration") [] >>= _) _ _ _;refine Aa ?_;simp only [IN,LC];refine Aa (A5 ?_ (by size_fits));refine Aa (m:=D2 _ _) (G9 (a:=BH) (by first | rfl | (simp only [D2];rfl)) ?_);refine A5 ?_ (by size_fits);simp only [LB];refine Aa (Ib ?_)
 first | rw [show A.in1.handled=none from hh] | rw [hh]
 exact Aa (Ac (JV (hE _ _ (((Da ..).extBut.push _).push _) ⟨_,Az _ rfl,rfl⟩)))
theorem Zxh {TI TO:Addr}{xs:Array Value}{y a b:Value}(D:HF z TI TO i1 i2 l1 l2)(hz:EV s.heap z TI TO .none)(hTI:CY s.heap TI (.ref i1) (.ref i2))(hTO:CY s.heap TO a b)
    (h1:s.heap.IsTupleIter i1 l1 k1) (h2:s.heap.IsTupleIter i2 l2 k2) (hl1:s.heap.IsTuple l1 xs) (hl2:s.heap.IsTuple l2 ys) (hx:xs[k1]?=some x) (hy:ys[k2]?=some y)
    (hQ:∀h',EV h' z TI TO (D1 s.heap.objs.size)->CY h' TO x y->h'.IsTupleIter i1 l1 (k1+1)->h'.IsTupleIter i2 l2 (k2+1)->CY h' s.heap.objs.size x y->h'.objs.size=s.heap.objs.size+1->
      (∀c o,c≠z->c≠TO->c≠i1->c≠i2->s.heap.get? c=some o->h'.get? c=some o)->Q (.ref s.heap.objs.size) {s with heap:=h'}):wpAny (model prog w) A (D4.«zip.__next__» ⟨[.ref z],[]⟩) (fun fin s'=>∃v,fin=.done (.ret v)/\Q v s') E s:=by
  show wpAny _ _ (Iw (.ref z) 2 >>= _) _ _ _;refine Aa (Bu hz rfl (x:=.bool false) rfl ?_);show wpAny _ _ (Iw (.ref z) 3 >>= _) _ _ _;refine Aa (Bu hz rfl (x:=.ref TI) rfl (Aa (B3 hTI rfl ?_)));show wpAny _ _ (B8 (.ref z) >>= _) _ _ _;refine Aa ?_;unfold B8;refine Aa (Bu hz rfl (x:=.none) rfl (Ac ?_));simp only [if_true];refine Aa (Dy (Aa (Bu hz rfl (x:=.ref TO) rfl (Aa (Bm hz (by simp) fun h₁ hz₁ hs₁=>?_)))));replace hz₁:EV h₁ z TI TO .ellipsis:=hz₁;refine Aa ?_;simp only [Gm,J8,Gx,GY];refine Aa (Aa (Gf ?_));show wpAny _ _ (Bl (.ref i1) >>= _) _ _ _;refine Aa (Zfg (h1.extBut hs₁.extBut D.i1z) (hl1.extBut hs₁.extBut D.l1z) hx fun h₂ h1₂ hs₂=>Ac ?_);have hTO₂:CY h₂ TO a b:=hs₂.extBut _ _ D.TOi1 (hs₁.extBut _ _ D.TOz hTO);refine Aa (B3 hTO₂ rfl (Aa (FH hTO₂ fun h₃ hTO₃ hs₃=>?_)));replace hTO₃:CY h₃ TO x b:=hTO₃;refine Aa (DU (Ac ?_));refine Aa (Aa (Gf ?_));show wpAny _ _ (Bl (.ref i2) >>= _) _ _ _;refine Aa (Zfg (((h2.extBut hs₁.extBut D.i2z).extBut hs₂.extBut D.i12.symm).extBut hs₃.extBut D.TOi2.symm) (((hl2.extBut hs₁.extBut D.l2z).extBut hs₂.extBut D.l2i1).extBut hs₃.extBut D.l2TO) hy fun h₄ h2₄ hs₄=>Ac ?_);have hTO₄:CY h₄ TO x b:=hs₄.extBut _ _ D.TOi2 hTO₃;refine Aa (B3 hTO₄ rfl (Aa (FH hTO₄ fun h₅ hTO₅ hs₅=>?_)));replace hTO₅:CY h₅ TO x y:=hTO₅;refine Aa (DU (Ac (Ac ?_)));refine Aa (B3 hTO₅ rfl (Aa (Hw ?_)));have hsz:h₅.objs.size=s.heap.objs.size:=by rw [hs₅.1,hs₄.1,hs₃.1,hs₂.1,hs₁.1];done
  have hz₅:EV h₅ z TI TO .ellipsis:=hs₅.extBut _ _ (Ne.symm D.TOz) (hs₄.extBut _ _ (Ne.symm D.i2z) (hs₃.extBut _ _ (Ne.symm D.TOz) (hs₂.extBut _ _ (Ne.symm D.i1z) hz₁)));have hk₅:∀c o,c≠z->c≠TO->c≠i1->c≠i2->s.heap.get? c=some o->h₅.get? c=some o:=fun c o c1 c2 c3 c4 e=>hs₅.extBut _ _ c2 (hs₄.extBut _ _ c4 (hs₃.extBut _ _ c2 (hs₂.extBut _ _ c3 (hs₁.extBut _ _ c1 e))));have h1₅:h₅.IsTupleIter i1 l1 (k1+1):=((h1₂.extBut hs₃.extBut D.TOi1.symm).extBut hs₄.extBut D.i12).extBut hs₅.extBut D.TOi1.symm;have h2₅:h₅.IsTupleIter i2 l2 (k2+1):=h2₄.extBut hs₅.extBut D.TOi2.symm;have hzlt:z<h₅.objs.size:=AW (hz₅);show wpAny _ _ (Eo (.ref z) (.ref h₅.objs.size) >>= _) _ _ _;refine Aa ?_;unfold Eo;refine Aa (Bm (show EV (h₅.push {cls:=.type "tuple",data:=.seq #[x,y]}) z TI TO .ellipsis from Ae _ hz₅) (by simp) fun h₇ hz₇ hs₇=>?_);replace hz₇:EV h₇ z TI TO (D1 h₅.objs.size):=hz₇;refine Bm hz₇ (by simp) fun h₈ hz₈ hs₈=>?_;replace hz₈:EV h₈ z TI TO (D1 h₅.objs.size):=hz₈;have up:∀c o,c≠z->h₅.get? c=some o->h₈.get? c=some o:=fun c o c1 e=>hs₈.extBut c o c1 (hs₇.extBut c o c1 (Ae _ e));have hT₈:CY h₈ h₅.objs.size x y:=hs₈.extBut _ _ (FN hzlt) (hs₇.extBut _ _ (FN hzlt) (by exact Az _ rfl));have hz8:h₈.objs.size=h₅.objs.size+1:=hs₈.1.trans (hs₇.1.trans (E9 ..));rw [hsz] at hz₈ hT₈ hz8;refine Ac ⟨_,rfl,?_⟩;show Q (.ref h₅.objs.size) _;rw [hsz];exact hQ h₈ hz₈ (up _ _ D.TOz hTO₅) (let ⟨o,e,r⟩:=h1₅;⟨o,up _ o D.i1z e,r⟩) (let ⟨o,e,r⟩:=h2₅;⟨o,up _ o D.i2z e,r⟩) hT₈ hz8 fun c o c1 c2 c3 c4 e=>up c o c1 (hk₅ c o c1 c2 c3 c4 e)
theorem Xhs {TI TO:Addr}{xs:Array Value}{a b:Value}{Q:Fin->Ah->Prop}(hh:A.handled=none)(D:HF z TI TO i1 i2 l1 l2)(hz:EV s.heap z TI TO .none)(hTI:CY s.heap TI (.ref i1) (.ref i2))(hTO:CY s.heap TO a b)
  (h1:s.heap.IsTupleIter i1 l1 k1) (h2:s.heap.IsTupleIter i2 l2 k2) (hl1:s.heap.IsTuple l1 xs) (hl2:s.heap.IsTuple l2 ys) (hend:xs[k1]?=none\/ys[k2]?=none)
  (hE:∀h' e,(∀c o,c≠z->c≠TO->c≠i1->c≠i2->s.heap.get? c=some o->h'.get? c=some o)->(∃o,h'.get? e=some o/\o.cls=.type "StopIteration")->E (.ref e) {s with heap:=h'}):wpAny (model prog w) A (D4.«zip.__next__» ⟨[.ref z],[]⟩) Q E s:=by
 show wpAny _ _ (Iw (.ref z) 2 >>= _) _ _ _;refine Aa (Bu hz rfl (x:=.bool false) rfl ?_);show wpAny _ _ (Iw (.ref z) 3 >>= _) _ _ _;refine Aa (Bu hz rfl (x:=.ref TI) rfl (Aa (B3 hTI rfl ?_)));show wpAny _ _ (B8 (.ref z) >>= _) _ _ _;refine Aa ?_;unfold B8;refine Aa (Bu hz rfl (x:=.none) rfl (Ac ?_));simp only [if_true];refine Aa (Dy (Aa (Bu hz rfl (x:=.ref TO) rfl (Aa (Bm hz (by simp) fun h₁ hz₁ hs₁=>?_)))));replace hz₁:EV h₁ z TI TO .ellipsis:=hz₁;refine Aa ?_;simp only [Gm,J8,Gx,GY];refine Aa (Aa (Gf ?_));show wpAny _ _ (Bl (.ref i1) >>= _) _ _ _;cases hx:xs[k1]? with
 | none =>
  refine Aa (Zod hh (h1.extBut hs₁.extBut D.i1z) (hl1.extBut hs₁.extBut D.l1z) hx fun h₂ e hs₂ he=>?_);obtain ⟨oe,hoe,hce⟩:=he;have hz₂:EV h₂ z TI TO .ellipsis:=hs₂ _ _ (Ne.symm D.i1z) hz₁;have hez:e≠z:=fun x=>by subst x;rw [hz₂] at hoe;cases hoe;exact absurd hce (by simp)
  exact Bm hz₂ (by simp) fun h₃ _ hs₃=>hE h₃ e (fun c o c1 _ c3 _ x=>hs₃.extBut _ _ c1 (hs₂ _ _ c3 (hs₁.extBut _ _ c1 x))) ⟨oe,hs₃.extBut _ _ hez hoe,hce⟩
 | some x =>
  have hy:ys[k2]?=none:=hend.elim (fun h=>by rw [hx] at h;cases h) id;refine Aa (Zfg (h1.extBut hs₁.extBut D.i1z) (hl1.extBut hs₁.extBut D.l1z) hx fun h₂ h1₂ hs₂=>Ac ?_);have hTO₂:CY h₂ TO a b:=hs₂.extBut _ _ D.TOi1 (hs₁.extBut _ _ D.TOz hTO);refine Aa (B3 hTO₂ rfl (Aa (FH hTO₂ fun h₃ hTO₃ hs₃=>?_)));refine Aa (DU (Ac ?_));refine Aa (Aa (Gf ?_));show wpAny _ _ (Bl (.ref i2) >>= _) _ _ _;refine Aa (Zod hh (((h2.extBut hs₁.extBut D.i2z).extBut hs₂.extBut D.i12.symm).extBut hs₃.extBut D.TOi2.symm) (((hl2.extBut hs₁.extBut D.l2z).extBut hs₂.extBut D.l2i1).extBut hs₃.extBut D.l2TO) hy fun h₄ e hs₄ he=>?_);obtain ⟨oe,hoe,hce⟩:=he;have hz₄:EV h₄ z TI TO .ellipsis:=hs₄ _ _ (Ne.symm D.i2z) (hs₃.extBut _ _ (Ne.symm D.TOz) (hs₂.extBut _ _ (Ne.symm D.i1z) hz₁));have hez:e≠z:=fun x=>by subst x;rw [hz₄] at hoe;cases hoe;exact absurd hce (by simp)
  exact Bm hz₄ (by simp) fun h₅ _ hs₅=>hE h₅ e (fun c o c1 c2 c3 c4 x=>hs₅.extBut _ _ c1 (hs₄ _ _ c4 (hs₃.extBut _ _ c2 (hs₂.extBut _ _ c3 (hs₁.extBut _ _ c1 x))))) ⟨oe,hs₅.extBut _ _ hez hoe,hce⟩
theorem Znt {TI TO:Addr}{xs:Array Value}{y a b:Value}{Q:Option Value->Ah->Prop}(D:HF z TI TO i1 i2 l1 l2)(hz:EV s.heap z TI TO .none)(hTI:CY s.heap TI (.ref i1) (.ref i2))(hTO:CY s.heap TO a b)
    (h1:s.heap.IsTupleIter i1 l1 k1) (h2:s.heap.IsTupleIter i2 l2 k2) (hl1:s.heap.IsTuple l1 xs) (hl2:s.heap.IsTuple l2 ys) (hx:xs[k1]?=some x) (hy:ys[k2]?=some y)
    (hQ:∀h',EV h' z TI TO (D1 s.heap.objs.size)->CY h' TO x y->h'.IsTupleIter i1 l1 (k1+1)->h'.IsTupleIter i2 l2 (k2+1)->CY h' s.heap.objs.size x y->h'.objs.size=s.heap.objs.size+1->
      (∀c o,c≠z->c≠TO->c≠i1->c≠i2->s.heap.get? c=some o->h'.get? c=some o)->Q (some (.ref s.heap.objs.size)) {s with heap:=h'}):wpAny (model prog w) A (pyNext (.ref z)) Q E s:=by
  have hT:s.TypeIs (.ref z) "zip":=⟨_,hz,rfl⟩;unfold pyNext;exact Aa (DP (Bs (name:=BQ "__next__") hT Fh (Bg Fh hT KB (Zxh D hz hTI hTO h1 h2 hl1 hl2 hx hy fun h' a1 a2 a3 a4 a5 a6 a7=>Ac (hQ h' a1 a2 a3 a4 a5 a6 a7)) (Kj _))))
theorem Zpu {TI TO:Addr}{xs:Array Value}{a b:Value}{Q:Option Value->Ah->Prop}(hh:A.handled=none)(D:HF z TI TO i1 i2 l1 l2)(hz:EV s.heap z TI TO .none)(hTI:CY s.heap TI (.ref i1) (.ref i2))(hTO:CY s.heap TO a b)
  (h1:s.heap.IsTupleIter i1 l1 k1) (h2:s.heap.IsTupleIter i2 l2 k2) (hl1:s.heap.IsTuple l1 xs) (hl2:s.heap.IsTuple l2 ys) (hend:xs[k1]?=none\/ys[k2]?=none)
  (hQ:∀h',(∀c o,c≠z->c≠TO->c≠i1->c≠i2->s.heap.get? c=some o->h'.get? c=some o)->Q none {s with heap:=h'}):wpAny (model prog w) A (pyNext (.ref z)) Q E s:=by
 have hT:s.TypeIs (.ref z) "zip":=⟨_,hz,rfl⟩;unfold pyNext;refine Aa (DP (Bs (name:=BQ "__next__") hT Fh (Bg Fh hT KB (Xhs hh D hz hTI hTO h1 h2 hl1 hl2 hend fun h' e hk he=>?_) (Kj _))));obtain ⟨o,ho,hc⟩:=he;exact Aa (E6 (T:="StopIteration") (b:=true) ⟨o,ho,hc⟩ HB (Ac (hQ _ hk)))
def ItzT (K:Frag)(a b:Addr):It:=
  ⟨fun i H=>∃xs ys x y,SqT K H a xs/\SqT K H b ys/\xs[i]?=some x/\ys[i]?=some y,
   fun i H v H'=>∃p,v=.ref p/\H p=none/\∀xs ys,SqT K H a xs->SqT K H b ys->∃x y,xs[i]?=some x/\ys[i]?=some y/\H'=upd H p (.tup [x,y]),
   fun i H=>∃xs ys,SqT K H a xs/\SqT K H b ys/\(xs.length<=i\/ys.length<=i)⟩
theorem itT {h h':Heap}{t:Addr}(x:h.IsTupleIter it t i)(k:∀o,h.get? it=some o->h'.get? it=some o):h'.IsTupleIter it t i:=let ⟨o,e,r⟩:=x;⟨o,k o e,r⟩
theorem Zww {TI TO:Addr}(Dd:HF z TI TO i1 i2 a b) :
    Turn P w K (.Tuple elts x1 pos) (ItzT K a b) [z,TI,TO,i1,i2] z (fun i h=>EV h z TI TO .none/\CY h TI (.ref i1) (.ref i2)/\(∃u v,CY h TO u v)/\h.IsTupleIter i1 a i/\h.IsTupleIter i2 b i) where
  mem:=by simp
  obj:=fun i h st c hc=>by obtain ⟨h1,h2,⟨u,v,h3⟩,⟨o4,e4,_,d4⟩,⟨o5,e5,_,d5⟩⟩:=st;simp only [An,Co,or_false] at hc;rcases hc with rfl | rfl | rfl | rfl | rfl;exact ⟨_,h1,fun v z=>by cases z⟩;exact ⟨_,h2,fun v z=>by cases z⟩;exact ⟨_,h3,fun v z=>by cases z⟩;exact ⟨_,e4,fun v z=>by rw [d4] at z;cases z⟩;exact ⟨_,e5,fun v z=>by rw [d5] at z;cases z⟩
  keep:=fun i h h' st k=>by obtain ⟨h1,h2,⟨u,v,h3⟩,h4,h5⟩:=st;exact ⟨k z (by simp) _ h1,k TI (by simp) _ h2,⟨u,v,k TO (by simp) _ h3⟩,itT h4 fun o e=>k i1 (by simp) o e,itT h5 fun o e=>k i2 (by simp) o e⟩
  item:=by
    intro X hP hw hK hc i pins s σ H E I hf st hg;subst hP hw hK;obtain ⟨xs,ys,x,y,hq1,hq2,hx,hy⟩:=hg;obtain ⟨h1,h2,⟨u0,v0,h3⟩,h4,h5⟩:=st;obtain ⟨its1,rv1,p1,hz1⟩:=I.tuple hq1;obtain ⟨its2,rv2,p2,hz2⟩:=I.tuple hq2;obtain ⟨u,hu,ru⟩:=rv1.get hx;obtain ⟨v,hv,rv⟩:=rv2.get hy;refine Znt Dd h1 h2 h3 h4 h5 p1 p2 (x:=u) (y:=v) (by simpa using hu) (by simpa using hv) fun h' a1 a2 a3 a4 a5 a6 a7=>?_;refine ⟨_,rfl,wpAny_letOwnedTupleGo_zip a1 fun h'' b1 b2=>?_⟩;have hne:s.heap.objs.size≠z:=fun e=>absurd (AW h1) (by rw [<- e];exact Bh _);have ht:CY h'' s.heap.objs.size u v:=b2.extBut _ _ hne a5;have I2:=I.turnTup (t':=s.toks) (h':=h'') (ch:=[z,TO,i1,i2]) (p:=s.heap.objs.size) (xs:=[x,y]) (its:=[u,v]) (fun c o hc e=>by
        simp only [An,Co,or_false,not_or] at hc;exact b2.extBut _ _ hc.1 (a7 c o hc.1 hc.2.1 hc.2.2.1 hc.2.2.2 e)) (fun c hc=>hf c (by
        simp only [An,Co,or_false] at hc ⊢;rcases hc with h | h | h | h<;>simp [h])) (Ax _) (by show 2<=Aw;decide) (Zlb ru rv) ⟨_,ht,rfl,_,rfl⟩
    refine ⟨.ref s.heap.objs.size,_,I2,rfl,⟨_,rfl,I.hok.fresh (Ax _),fun xs' ys' e1 e2=>⟨x,y,by rw [I.tuple_inj e1 hq1];exact hx,by rw [I.tuple_inj e2 hq2];exact hy,rfl⟩⟩,⟨b1,?_,⟨u,v,b2.extBut _ _ Dd.TOz a2⟩,a3.extBut b2.extBut Dd.i1z,a4.extBut b2.extBut Dd.i2z⟩,fun c hc=>?_⟩;exact b2.extBut _ _ Dd.TIz (a7 _ _ Dd.TIz Dd.TITO Dd.TIi1 Dd.TIi2 h2);rw [Xa];exact (hf c hc).1;rintro rfl;have:∃o,s.heap.get? s.heap.objs.size=some o:=by simp only [An,Co,or_false] at hc;rcases hc with e | e | e | e | e;exact ⟨_,by rw [e];exact h1⟩;exact ⟨_,by rw [e];exact h2⟩;exact ⟨_,by rw [e];exact h3⟩;obtain ⟨o,q,_⟩:=h4;exact ⟨o,by rw [e];exact q⟩;obtain ⟨o,q,_⟩:=h5;exact ⟨o,by rw [e];exact q⟩
    obtain ⟨o,q⟩:=this;exact absurd (AW q) (Bh _)
  done:=by
    intro X hP hw hK hc i pins s σ H E I hf st hg;subst hP hw hK;obtain ⟨xs,ys,hq1,hq2,hl⟩:=hg;obtain ⟨h1,h2,⟨u0,v0,h3⟩,h4,h5⟩:=st;obtain ⟨its1,rv1,p1,hz1⟩:=I.tuple hq1;obtain ⟨its2,rv2,p2,hz2⟩:=I.tuple hq2;have l1:=rv1.length;have l2:=rv2.length;refine Zpu (I.ok.hd hc) Dd h1 h2 h3 h4 h5 p1 p2 ?_ fun h' k=>⟨rfl,I.turneds (t':=s.toks) (ch:=[z,TO,i1,i2]) (fun c o hc e=>by
        simp only [An,Co,or_false,not_or] at hc;exact k c o hc.1 hc.2.1 hc.2.2.1 hc.2.2.2 e) (fun c hc=>hf c (by
        simp only [An,Co,or_false] at hc ⊢;rcases hc with h | h | h | h<;>simp [h]))⟩
    rcases hl with hl | hl;exact .inl (by simp;omega);exact .inr (by simp;omega)
  self:=fun _ _ _ _ _ st h=>K0 st.1 h
abbrev zT (o:String)(t:Addr):Obj:={cls:=.type o,data:=.fields #[.ref t,.int 0 0]}
abbrev zH2 (h:Heap)(a b:Addr):Heap:=(h.push (zT "tuple_iterator" a)).push (zT "tuple_iterator" b)
abbrev zH4 (h:Heap)(a b:Addr):Heap:=((zH2 h a b).push {cls:=.type "tuple",data:=.seq #[.ref h.objs.size,.ref (h.push (zT "tuple_iterator" a)).objs.size]}).push {cls:=.type "tuple",data:=.seq #[.none,.none]}
abbrev zH5 (h:Heap)(a b:Addr):Heap:=(zH4 h a b).push {cls:=.type "zip",data:=.fields #[.none,.bool false,.bool false,.ref (zH2 h a b).objs.size,.ref ((zH2 h a b).push {cls:=.type "tuple",data:=.seq #[.ref h.objs.size,.ref (h.push (zT "tuple_iterator" a)).objs.size]}).objs.size]}
theorem Zvb (a b:Addr)(xs ys:Array Value):Meets (D4.«zip.__new__» ⟨[.type "zip",.ref a,.ref b],[]⟩) (fun _ R s=>s.heap.IsTuple a xs/\s.heap.IsTuple b ys/\R (.ok (.ret (.ref (zH4 s.heap a b).objs.size))) {s with heap:=zH5 s.heap a b}):=.of_wp fun prog w A R s h=>by
 obtain ⟨hp,g,d,tk,os⟩:=s;obtain ⟨hl1,hl2,h⟩:=h;have hsub:=sub_zip;have hL1:KY (Ks ⟨hp,g,d,tk,os⟩) a xs:=hl1;have hL2:KY (Ks ⟨hp.push (zT "tuple_iterator" a),g,d,tk,os⟩) b ys:=Lo hl2 _
 wp_walk using Gu hL1,Gu hL2
 exact ⟨_,rfl,h⟩
theorem Zxa {xs:Array Value}(hl1:s.heap.IsTuple l1 xs)(hl2:s.heap.IsTuple l2 ys)
    (h:∀h',EV h' (s.heap.objs.size+4) (s.heap.objs.size+2) (s.heap.objs.size+3) .none->CY h' (s.heap.objs.size+2) (.ref s.heap.objs.size) (.ref (s.heap.objs.size+1))->CY h' (s.heap.objs.size+3) .none .none->h'.IsTupleIter s.heap.objs.size l1 0->h'.IsTupleIter (s.heap.objs.size+1) l2 0->
      (∀c o,s.heap.get? c=some o->h'.get? c=some o)->Q (.ref (s.heap.objs.size+4)) {s with heap:=h'}):wpAny (model prog w) A (call (.type "zip") [.ref l1,.ref l2]) Q E s:=by
  refine callType_new F.called_zip (by decide) (F.typeCall_zip_2 _ _) (F.newCall_zip_2 _ _) (fun obj=>F.args_object_init_3 obj _ _) F.entry_zip_new (Zvb l1 l2 xs ys) ⟨hl1,hl2,?_⟩;have z1:(s.heap.push (zT "tuple_iterator" l1)).objs.size=s.heap.objs.size+1:=E9 ..;have z2:(zH2 s.heap l1 l2).objs.size=s.heap.objs.size+2:=by rw [E9,z1]
  have z3:((zH2 s.heap l1 l2).push {cls:=.type "tuple",data:=.seq #[.ref s.heap.objs.size,.ref (s.heap.push (zT "tuple_iterator" l1)).objs.size]}).objs.size=s.heap.objs.size+3:=by rw [E9,z2]
  have z4:(zH4 s.heap l1 l2).objs.size=s.heap.objs.size+4:=by rw [E9,z3]
  have g5:(zH5 s.heap l1 l2).get? (zH4 s.heap l1 l2).objs.size=some _:=Az _ rfl;have g4:(zH5 s.heap l1 l2).get? ((zH2 s.heap l1 l2).push {cls:=.type "tuple",data:=.seq #[.ref s.heap.objs.size,.ref (s.heap.push (zT "tuple_iterator" l1)).objs.size]}).objs.size=some _:=Ae _ (Az _ rfl);have g3:(zH5 s.heap l1 l2).get? (zH2 s.heap l1 l2).objs.size=some _:=Ae _ (Ae _ (Az _ rfl));have g2:(zH5 s.heap l1 l2).get? (s.heap.push (zT "tuple_iterator" l1)).objs.size=some _:=Ae _ (Ae _ (Ae _ (Az _ rfl)));have g1:(zH5 s.heap l1 l2).get? s.heap.objs.size=some _:=Ae _ (Ae _ (Ae _ (Ae _ (Az _ rfl))));show _/\_;rw [z2,z3,z4] at g5;rw [z1,z2] at g3;rw [z3] at g4;rw [z1] at g2;rw [z4];exact ⟨⟨_,g5,rfl⟩,h _ g5 g3 g4 ⟨_,g1,rfl,rfl⟩ ⟨_,g2,rfl,rfl⟩ fun c o x=>Ae _ (Ae _ (Ae _ (Ae _ (Ae _ x))))⟩
section
variable {a b:Expr}
def Xkd (K:Frag)(ta tb:TE):TI:=fun σ H R=>Jz ta (Jz tb Zmw) σ H fun vs H1=>∃p q,vs=[.ref p,.ref q]/\(∃xs,SqT K H1 p xs)/\(∃ys,SqT K H1 q ys)/\R (ItzT K p q) H1
theorem SqT.lt {p:Addr}{xs:List V}(I:Inv X pins σ H s)(h:SqT X.K H p xs):p<s.heap.objs.size:=by obtain ⟨its,_,⟨o,e,_⟩,_⟩:=I.tuple h;exact AW e
theorem Xmk (hg:Gl X "zip")(hm:X.mg "zip"=none)(ha:PE X a ta)(hb:PE X b tb)(hs:Af [a,b] X.env=(false,eval a X.env)::Af [b] X.env)(hs2:Af [b] X.env=(false,eval b X.env)::Af [] X.env)(hs3:Af ([]:List Expr) X.env=[]:=by rfl) :
  PI X (.Tuple elts x1 tpos) (.Call (.Name "zip" p) [a,b] [] pos) (Xkd X.K ta tb):=by
 intro pins s σ H R I h;refine Call_ (Zgf I hg hm boot_zip (Ce (thn (Zir ha (Zir hb Zrp hs2) hs pos pins s σ H _ I h) fun us s1 ⟨vs,H1,I1,r1,q1⟩=>?_) (by rw [hs,hs2]) (by rw [hs2,hs3];rfl)));obtain ⟨l1,l2,rfl,⟨xs,hq1⟩,⟨ys,hq2⟩,q⟩:=q1;obtain ⟨u,v,rfl,rx,ry⟩:=vals2 r1;cases rx;cases ry;obtain ⟨its1,rv1,p1,hz1⟩:=I1.tuple hq1;obtain ⟨its2,rv2,p2,hz2⟩:=I1.tuple hq2;have lt1:@LT.lt Nat _ l1 s1.heap.objs.size:=SqT.lt I1 hq1;have lt2:@LT.lt Nat _ l2 s1.heap.objs.size:=SqT.lt I1 hq2;refine Zxa p1 p2 fun h' z1 z2 z3 z4 z5 z7=>?_;refine K0 z1 ?_;have I2:Inv X pins σ H1 {s1 with heap:=h'}:=I1.kept (t':=s1.toks) z7;refine ⟨_,[s1.heap.objs.size+4,s1.heap.objs.size+2,s1.heap.objs.size+3,s1.heap.objs.size,s1.heap.objs.size+1],_,_,H1,rfl,I2,Zww (a:=l1) (b:=l2) ?_,⟨z1,z2,⟨_,_,z3⟩,z4,z5⟩,fun c hc=>?_,q⟩;constructor<;>first | exact BD (by omega) | exact FN (by omega)
 have hc':s1.heap.objs.size<=c:=by simp only [An,Co,or_false] at hc;rcases hc with rfl | rfl | rfl | rfl | rfl<;>first | exact Ax _ | exact CB _ _
 exact I1.fpOk hc' (I1.hok.fresh hc')
end
section
variable {E:XK}{S:List (Nat×Bool)}
theorem Zyv {es:List D}{vs ws:List V}(r:RpA K C Hc ds vs [])(r':RpA K C Hc es ws [])(h:∀H2,Xi Hc H2->SqT K H2 a vs/\SqT K H2 b ws):Goes K C (ItzT K a b) (Bf (fun x y=>.tup [x,y]) ds es) Hc:=fun H2 g=>by
 obtain ⟨qa,qb⟩:=h H2 g;have hl:=r.len;have hl':=r'.len;have he:(Bf (fun x y=>D.tup [x,y]) ds es).length=min ds.length es.length:=by simp
 refine ⟨fun i hi=>⟨vs,ws,vs[i]'(by omega),ws[i]'(by omega),qa,qb,Ad (by omega),Ad (by omega)⟩,fun i hi=>⟨vs,ws,qa,qb,by omega⟩,fun i x H3 hi y=>?_⟩;obtain ⟨p,rfl,hp,yy⟩:=y;obtain ⟨x,y,hx,hy,rfl⟩:=yy vs ws qa qb;have hi1:i<ds.length:=by omega
 have hi2:i<es.length:=by omega
 obtain ⟨x',e1,q2⟩:=r.at1 (Ad hi1);obtain ⟨y',e2,p2⟩:=r'.at1 (Ad hi2);obtain rfl:=AU (hx.symm.trans e1);obtain rfl:=AU (hy.symm.trans e2);have sm:=sameNew hp (.tup [x,y]);refine ⟨sm,.tup [ds[i],es[i]],[],by rw [HP,Ad hi1,Ad hi2],⟨p,[x,y],rfl,Xd,RpA.two (A:=[]) (B:=[]) ((q2.same g).same sm) ((p2.same g).same sm)⟩,fun _ z=>nomatch z⟩
theorem Xes {t u:TE}(h:EOk K C E Γ Δ m1 S1 t f)(h':EOk K C E Γ Δ m2 S2 u f'):IOk K C E Γ Δ [] (Xkd K t u) (Dl.Zlg f f'):=fun H0 Hb H σ ρ A Rr I p=>h H0 Hb H σ ρ A _ I (p.bind.imp (fun d q v H1 g1 r=>h' H0 Hb H1 σ ρ A _ (I.mono g1) (q.bind.imp (fun e q w H2 g2 r2=>by
  obtain ⟨B,r,r',_⟩:=r;obtain ⟨B2,r2,r2',_⟩:=r2;split at q;rename_i xs ys;obtain ⟨a,vs,rfl,e2,e3⟩:=r;obtain ⟨b,ws,rfl,f2,f3⟩:=r2;split at q;rename_i hl;have b1:=e3.flat hl.2.1;have b2:=f3.flat hl.2.2;subst b1 b2;refine ⟨a,b,rfl,⟨vs,SqT.of (g2 _ _ e2)⟩,⟨ws,SqT.of f2⟩,q _ H2 [] (g1.trans g2) (fun _ z=>nomatch z) (by rw [CJ];exact AC (E4 _ _) hl.1) fun Hc h1=>Zyv ((e3.same g2).agree h1 fun _ z=>nomatch z) (f3.agree h1 fun _ z=>nomatch z) fun H3 g3=>⟨SqT.of (g3 _ _ (h1.2 a _ (g2 _ _ e2) fun z=>by cases z)),SqT.of (g3 _ _ (h1.2 b _ f2 fun z=>by cases z))⟩⟩;exact q.elim
  · exact q.elim) fun c x q H' g'=>q H' (g1.trans g'))) fun c x q H' g'=>q H' g')
variable {a b:Expr}{fb:FE}
theorem Xaq (hg:Gl X "zip")(hm:X.mg "zip"=none)(ha:JE X C E Γ Δ m1 S1 a ta fa)(hb:JE X C E Γ Δ m2 S2 b tb fb)(hs:Af [a,b] X.env=(false,eval a X.env)::Af [b] X.env)(hs2:Af [b] X.env=(false,eval b X.env)::Af [] X.env) :
  JI X C E Γ Δ [] (.Tuple elts x1 tpos) (.Call (.Name "zip" p) [a,b] [] pos) (Xkd X.K ta tb) (Dl.Zlg fa fb):=⟨⟨Xmk hg hm ha.q.out hb.q.out hs hs2⟩,Xes ha.o hb.o⟩
end
section
variable {R:Kt->Ah->Prop}{P:Nat->Value->Prop}{St:Nat->Heap->Prop}
theorem Xaw (W:Walks prog w A.in1 I fp wr n P St)(bt:Nat->Nat->Bool)(hcmp:CmpOf prog w A.in1 .Lt P bt)(S:Addr)(hSf:S∉fp)(kw:List (Str×Value)) :
  ∀(k j:Nat) (s:Ah) (vb:Value) (c:Nat),n - (j+1)=k->j+1<=n->St (j+1) s.heap->P (Du bt j) vb->s.heap.get? S=some {cls:=.type "list",dict:=none,data:=.seq #[vb,vb] c,slots:=#[]}->
  (∀v h' tk,P (Du bt (n - 1)) v->(∀b o,b∉wr->b≠S->s.heap.get? b=some o->h'.get? b=some o)->R (.ok (.ret v)) {s with heap:=h',toks:=tk})->codeAny (model prog w) A (.builtin "min.loop" ⟨[.ref I,.none,.ref S],kw⟩) R s:=by
 have hSw:S∉wr:=fun h=>hSf (W.sub _ h);have hname:(GL "min"++GL ".loop":String)="min.loop":=by decide
 intro k;induction k with
 | zero =>
  intro j s vb c hk hj hst hPb hS hR;have hin:j+1=n:=by omega
  refine Es PySem.F.entry_min_loop ?_;rw [Dj PySem.F.plain_min_loop _];show wpAny _ A.in1 (G1 (.ref S) >>= _) _ _ s;refine Aa (B3 hS rfl ?_);show wpAny _ A.in1 (JZ (pyNext (.ref I)) _ >>= _) _ _ s;refine Aa (EH (W.done s _ _ (hin▸hst) fun h' tk hk'=>?_));have hS':=hk' S _ hSw hS;show wpAny _ A.in1 (updateSeq S (fun _=>#[]) >>= _) _ _ _;exact Aa (Hi hS' rfl (Aa (DU (Ac (hR vb _ tk (by rw [<- hin];exact hPb) fun b o hbw hbS e=>(CQ _ _ (Ne.symm hbS)).trans (hk' b o hbw e))))))
 | succ k ih =>
  intro j s vb c hk hj hst hPb hS hR;have hlt:j+1<n:=by omega
  refine Es PySem.F.entry_min_loop ?_;rw [Dj PySem.F.plain_min_loop _];show wpAny _ A.in1 (G1 (.ref S) >>= _) _ _ s;refine Aa (B3 hS rfl ?_);show wpAny _ A.in1 (JZ (pyNext (.ref I)) _ >>= _) _ _ s;refine Aa (EH (W.item (j+1) s _ _ hlt hst fun v h' tk hP hst' hk'=>?_));have hS':=hk' S _ hSw hS;show wpAny _ A.in1 (JZ (CZ [v,v] (richCompare .Lt v vb >>= _)) _ >>= _) _ _ _;refine Aa (EH (BZ (Aa (hcmp (j+1) (Du bt j) v vb _ _ _ hP hPb (Aa (BZ (Cr (Aa (DU (Ac ?_))))))))));cases hb:bt (j+1) (Du bt j) with
  | true =>simp only [if_true];refine Aa (Hi hS' rfl (Aa (DU ?_)));rw [hname];refine Ac ⟨Ee PySem.F.plain_min_loop _,ih (j+1) _ v _ (by omega) hlt (W.frame _ _ _ hst' fun b hbf o e=>(CQ _ _ (fun h:S=b=>hSf (by rw [h];exact hbf))).trans e) (by simp only [Du,hb,if_true];exact hP) (DG _ hS' rfl) fun v' h'' tk'' hP' hk''=>hR v' h'' tk'' hP' fun b o hbw hbS e=>hk'' b o hbw hbS ((CQ _ _ (Ne.symm hbS)).trans (hk' b o hbw e))⟩
  | false =>simp only [Bb,if_false];refine Aa (DU ?_);rw [hname];exact Ac ⟨Ee PySem.F.plain_min_loop _,ih (j+1) _ vb c (by omega) hlt hst' (by simp only [Du,hb,Bb,if_false];exact hPb) hS' fun v' h'' tk'' hP' hk''=>hR v' h'' tk'' hP' fun b o hbw hbS e=>hk'' b o hbw hbS (hk' b o hbw e)⟩
theorem Zul (W:Walks prog w A.in1 I fp wr n P St)(bt:Nat->Nat->Bool)(hcmp:CmpOf prog w A.in1 .Lt P bt)(S:Addr)(hSf:S∉fp)(d:Value)(hst:St 0 s.heap)(hS:s.heap.get? S=some {cls:=.type "list",dict:=none,data:=.seq #[] c,slots:=#[]})
  (hR:∀v h' tk,(0<n->P (Du bt (n - 1)) v)->(n=0->v=d)->(∀b o,b∉wr->b≠S->s.heap.get? b=some o->h'.get? b=some o)->R (.ok (.ret v)) {s with heap:=h',toks:=tk}):codeAny (model prog w) A (.builtin "min.loop" ⟨[.ref I,.none,.ref S],[(BQ "default",d)]⟩) R s:=by
 have hSw:S∉wr:=fun h=>hSf (W.sub _ h);have hname:(GL "min"++GL ".loop":String)="min.loop":=by decide
 refine Es PySem.F.entry_min_loop ?_;rw [Dj PySem.F.plain_min_loop _];show wpAny _ A.in1 (G1 (.ref S) >>= _) _ _ s;refine Aa (B3 hS rfl ?_);show wpAny _ A.in1 (JZ (pyNext (.ref I)) _ >>= _) _ _ s;by_cases hn:n=0;subst hn;refine Aa (EH (W.done s _ _ hst fun h' tk hk'=>?_));exact Aa (Dy (Ac (hR d h' tk (fun z=>absurd z (Bh 0)) (fun _=>rfl) fun b o hb _ e=>hk' b o hb e)));have hn':0<n:=Nat.pos_of_ne_zero hn;refine Aa (EH (W.item 0 s _ _ hn' hst fun v h' tk hP hst' hk'=>?_));have hS':=hk' S _ hSw hS;show wpAny _ A.in1 (updateSeq S (fun _=>#[v,v]) >>= _) _ _ _;refine Aa (Hi hS' rfl ?_);rw [hname];exact Ac ⟨Ee PySem.F.plain_min_loop _,Xaw W bt hcmp S hSf _ _ 0 _ v _ rfl hn' (W.frame _ _ _ hst' fun b hbf o e=>(CQ _ _ (fun h:S=b=>hSf (by rw [h];exact hbf))).trans e) hP (DG _ hS' rfl) fun v' h'' tk'' hP' hk''=>hR v' h'' tk'' (fun _=>hP') (fun z=>absurd z hn) fun b o hbw hbS e=>hk'' b o hbw hbS ((CQ _ _ (Ne.symm hbS)).trans (hk' b o hbw e))⟩
end
theorem Xgl (a v:Value):argsOk "min" ⟨[a],[(BQ "default",v)]⟩:=by unfold argsOk;kernel_rfl
theorem Zsg (hl:s.heap.IsTuple l items)(h:∀s₂:Ah,s₂={s with heap:=s.heap.push {cls:=.type "tuple_iterator",data:=.fields #[.ref l,.int 0 0]}}->
      (s₂.heap.IsTupleIter s.heap.objs.size l 0/\s₂.heap.IsTuple l items)->(∀b∈[s.heap.objs.size,l],b<s₂.heap.objs.size)->l≠s.heap.objs.size->Q (.ref s.heap.objs.size) s₂):wpAny (model prog w) A (IM (.ref l)) Q E s:=by
  have hlt:l<s.heap.objs.size:=by obtain ⟨_,e,_⟩:=id hl;exact AW e
  refine Gu hl (h _ rfl ⟨⟨_,Az _ rfl,rfl,rfl⟩,hl.push _⟩ (fun b hb=>?_) (BD hlt));show b<(s.heap.push _).objs.size;rw [Hx];rcases An.mp hb with rfl | hb;exact GA _;rw [Ao.mp hb];exact Dp hlt
theorem Xhe (hh:A.handled=none)(hl:s.heap.IsTuple l (Dk xs))(hne:0<xs.size)
  (h:∀v h' tk,(Dk xs)[Du (fun i j=>decide (Fa xs i<Fa xs j)) (xs.size - 1)]?=some v->(∀b o,s.heap.get? b=some o->h'.get? b=some o)->Q v {s with heap:=h',toks:=tk}):wpAny (model prog w) A (call (.builtin "min") [.ref l]) Q E s:=by
 refine call_min_walk (Zsg hl fun s₂ e st hfp hlI=>?_);subst e;refine ⟨_,_,_,_,_,_,_,rfl,HG (A:=A.in1) hh _ l hlI (Dk xs),st,hfp,by simpa [Dk] using hne,Kk (Fa xs) (fun _ _=>J1),fun v h' tk hP hk=>h v h' tk (by simpa [Dk] using hP) fun b o e=>hk b o (fun z=>absurd (Ao.mp z) (BD (AW e))) (Ae _ e)⟩
theorem Xea {d:Value}(hh:A.handled=none)(hl:s.heap.IsTuple l (Dk xs))
  (h:∀v h' tk,(0<xs.size->(Dk xs)[Du (fun i j=>decide (Fa xs i<Fa xs j)) (xs.size - 1)]?=some v)->(xs.size=0->v=d)->(∀b o,s.heap.get? b=some o->h'.get? b=some o)->Q v {s with heap:=h',toks:=tk}):wpAny (model prog w) A (call (.builtin "min") [.ref l] [(BQ "default",d)]) Q E s:=by
 have hname:(GL "min"++GL ".loop":String)="min.loop":=by decide
 have hz:(Dk xs).size=xs.size:=by simp [Dk]
 refine kmk_tree PySem.F.kind_min PySem.F.plain_min PySem.F.entry_min (Xgl _ _) ?_;show wpAny _ A.in1 (Fd "min" ["key","default"] 0 ⟨[],[(BQ "default",d)]⟩ >>= _) _ _ s;refine Aa (G9 (show Fd "min" ["key","default"] 0 ⟨[],[(BQ "default",d)]⟩=pure [none,some d] from rfl) (Aa (Ac (Aa (Zsg hl fun s₂ e st hfp hlI=>?_)))));refine Aa (A5 ?_);rw [hname];have hSf:s₂.heap.objs.size∉[s.heap.objs.size,l]:=fun hm=>Bh _ (hfp _ hm);refine Ac ⟨Ee PySem.F.plain_min_loop _,Zul (HG (A:=A.in1) hh _ l hlI (Dk xs)) _ (Kk (Fa xs) (fun _ _=>J1)) s₂.heap.objs.size hSf d ((HG (prog:=prog) (w:=w) (A:=A.in1) hh _ l hlI (Dk xs)).frame _ _ _ st fun b _ o e=>Ae _ e) (Az _ rfl) fun v h' tk hP h0 hk=>?_⟩;subst e;exact h v h' tk (fun z=>by have:=hP (by rw [hz];exact z);simpa [Dk] using this) (fun z=>h0 (by rw [hz];exact z)) fun b o e=>by have hb:=AW e;exact hk b o (fun z=>absurd (Ao.mp z) (BD hb)) (BD (by show b<(s.heap.push _).objs.size;rw [Hx];exact Dp hb)) (Ae _ (Ae _ e))
def Xlt (K:Frag):List V->Hp->VK->Prop:=fun xs H Q=>∃p ns,xs=[.ref p]/\SqT K H p (ns.map V.int)/\ns≠[]/\∀m,m∈ns->(∀n∈ns,m<=n)->Q (.int m) H
theorem Zri (hn:numsOf (Dk xs).toList=ns)(h0:0<ns.length)(hv:(Dk xs)[Du (fun i j=>decide (Fa xs i<Fa xs j)) (xs.size - 1)]?=some v):∃m tk,v=.int m tk/\m∈ns/\∀n∈ns,m<=n:=by
 rw [Gh] at hn;have hsz:xs.size=ns.length:=by rw [<- hn];simp
 have val:∀i (hi:i<ns.length),Fa xs i=ns[i]:=fun i hi=>by
  have:i<xs.size:=by omega
  subst hn;simp [Fa,this]
 obtain ⟨tk',rfl⟩:=J1 hv;have hlt:Du (fun i j=>decide (Fa xs i<Fa xs j)) (xs.size - 1)<ns.length:=by have:=Zzg (fun i j=>decide (Fa xs i<Fa xs j)) (xs.size - 1);omega
 refine ⟨_,tk',rfl,by rw [val _ hlt];exact CD hlt,fun n hn'=>?_⟩;obtain ⟨j,hj,e⟩:=Fg.mp hn';have q1:=Zme (Fa xs) (xs.size - 1) j (by omega);rw [val j hj,e] at q1;exact q1
theorem Xbv (hc:X.calm=true):Jy X (.builtin "min") (Xlt X.K):=by
 intro pins s σ H xs us Q I r h;obtain ⟨p,ns,rfl,hq,hne,q⟩:=h;obtain ⟨u,rfl,rx⟩:=vals1 r;cases rx;obtain ⟨its,rv,pl,hz⟩:=I.tuple hq;have hi:Fo its ns:=intsAre_of rv;obtain ⟨xs,hxs⟩:=hi.allInts.items;have hn:numsOf its.toArray.toList=ns:=by rw [show its.toArray.toList=its from rfl,hi.numsOf]
 rw [hxs] at pl hn;have h0:0<ns.length:=List.length_pos_iff.mpr hne;have hsz:xs.size=ns.length:=by rw [Gh] at hn;rw [<- hn];simp
 refine Xhe (I.ok.hd hc) pl (by omega) fun v h' tk hv hk=>?_;obtain ⟨m,tk',rfl,m1,m2⟩:=Zri hn h0 hv;exact ⟨.int m,H,I.kept hk,⟨tk',rfl⟩,q m m1 m2⟩
theorem Xeb:GAk K C (Xlt K) Dl.Zyu:=by intro H xs d vs B Q r e q;unfold Dl.Zyu at e;split at e;obtain ⟨ns,h1,h2⟩:=AK.mp e;split at h2;cases h2;rename_i hne;cases h2;obtain ⟨v,rfl,r1⟩:=r.one';obtain ⟨a,ys,rfl,e2,e3⟩:=r1;have h:=e3.ofInts h1;subst h;obtain ⟨s1,s2⟩:=Zmo hne;refine ⟨a,ns,rfl,SqT.of e2,hne,fun mm h1 h2=>?_⟩;rw [show mm=Dl.Zvs ns from Ki (h2 _ s1) (s2 mm h1)];exact Out.flat q rpI;cases e
def Xnq (K:Frag)(ta td:TE):TE:=fun σ H Q=>Jz ta Zmw σ H fun vs H1=>∃p ns,vs=[.ref p]/\SqT K H1 p (ns.map V.int)/\td σ H1 fun w H2=>SqT K H2 p (ns.map V.int)/\∃i,w=.int i/\(ns=[]->Q (.int i) H2)/\∀m,m∈ns->(∀n∈ns,m<=n)->Q (.int m) H2
section
variable {a:Expr}{td:TE}{kp:Pos}
theorem Xok (hc:X.calm=true)(hg:Gl X "min")(hm:X.mg "min"=none)(he:PE X e te)(hd:PE X a td)(hs:Af [e] X.env=(false,eval e X.env)::Af [] X.env)(hs3:Af ([]:List Expr) X.env=[]:=by rfl) :
  PE X (.Call (.Name "min" np) [e] [⟨some "default",a,kp⟩] pos) (Xnq X.K te td):=by
 intro pins s σ H Q I h;refine EI (Zgf I hg hm boot_min ?_ (by decide) (by decide));refine callWith_kw (thn (Zir he Zrp hs pos pins s σ H _ I h) fun us s1 ⟨vs,H1,I1,r1,q1⟩=>?_) (by rw [hs,hs3];rfl) (by rw [hs,hs3];rfl) rfl rfl;obtain ⟨p,ns,rfl,hq,q⟩:=q1;obtain ⟨u,rfl,rx⟩:=vals1 r1;cases rx;refine kws_cons (thn (hd pins s1 σ H1 _ I1 q) fun w s2 ⟨wv,H2,I2,rw',q2⟩=>kws_nil ?_);obtain ⟨hq2,i,rfl,qe,qm⟩:=q2;obtain ⟨tk,rfl⟩:=rw';obtain ⟨its,rv,pl,hz⟩:=I2.tuple hq2;have hi:Fo its ns:=intsAre_of rv;obtain ⟨xs,hxs⟩:=hi.allInts.items;have hn:numsOf its.toArray.toList=ns:=by rw [show its.toArray.toList=its from rfl,hi.numsOf]
 rw [hxs] at pl hn;have hsz:xs.size=ns.length:=by have hn':=hn;rw [Gh] at hn';rw [<- hn'];simp
 refine Xea (I2.ok.hd hc) pl fun v h' tk' hv h0 hk=>?_;cases ns with
 | nil =>obtain rfl:=h0 (by rw [hsz];rfl);exact ⟨.int i,H2,I2.kept hk,⟨tk,rfl⟩,qe rfl⟩
 | cons n r =>obtain ⟨m,tk2,rfl,m1,m2⟩:=Zri hn (E8 _) (hv (by rw [hsz];exact E8 _));exact ⟨.int m,H2,I2.kept hk,⟨tk2,rfl⟩,qm m m1 m2⟩
end
section
variable {E:XK}{S:List (Nat×Bool)}
theorem Xda {t u:TE}(h:EOk K C E Γ Δ m1 S1 t f)(h':EOk K C E Γ Δ m2 S2 u f'):EOk K C E Γ Δ 2 [] (Xnq K t u) (Dl.Zpg f f'):=fun H0 Hb H σ ρ A Q I p=>h H0 Hb H σ ρ A _ I (p.bind.imp (fun d q v H1 g1 r=>by
  obtain ⟨B,r,r',_⟩:=r;cases d with
  | tup xs =>
    simp only at q;split at q;rename_i l hl;obtain ⟨a,ys,rfl,e2,e3⟩:=r;have z:=e3.ofInts hl;subst z;refine ⟨a,l,rfl,SqT.of e2,h' H0 Hb H1 σ ρ A _ (I.mono g1) (q.bind.imp (fun d2 q w H2 g2 r2=>?_) fun c x q H' g'=>q H' (g1.trans g'))⟩;obtain ⟨B2,r2,_⟩:=r2;cases d2 with
    | int i =>
      obtain ⟨rfl,rfl⟩:=r2;refine ⟨SqT.of (g2 _ _ e2),i,rfl,fun z=>?_,fun mm h1 h2=>?_⟩;have q:Q _ _:=q (.int _) H2 (g1.trans g2) ⟨[],rpI,(fun _ z=>nomatch z),(fun z=>absurd z (by decide)),fun _=>Be⟩;rw [if_pos z] at q;exact q;have hne:l≠[]:=fun z=>by rw [z] at h1;cases h1
      obtain ⟨s1,s2⟩:=Zmo hne;have q:Q _ _:=q (.int _) H2 (g1.trans g2) ⟨[],rpI,(fun _ z=>nomatch z),(fun z=>absurd z (by decide)),fun _=>Be⟩;rw [if_neg hne] at q;rw [show mm=Dl.Zvs l from Ki (h2 _ s1) (s2 mm h1)];exact q
    | _=>exact q.elim
    exact q.elim
  | _=>exact q.elim) fun c x q H' g'=>q H' g')
variable {a:Expr}{kp:Pos}
theorem Xfd (K:Frag)(hg:Gl X "min")(hm:X.mg "min"=none)(he:JE X C E Γ Δ m1 S1 e te fe)(ha:JE X C E Γ Δ m2 S2 a ta fa)(hs:Af [e] X.env=(false,eval e X.env)::Af [] X.env)(hc:X.calm=true:=by rfl)(hK:X.K=K:=by rfl) :
  JE X C E Γ Δ 2 [] (.Call (.Name "min" np) [e] [⟨some "default",a,kp⟩] pos) (Xnq K te ta) (Dl.Zpg fe fa):=by
 subst hK;exact ⟨⟨Xok hc hg hm he.q.out ha.q.out hs⟩,Xda he.o ha.o⟩
end
end L2
namespace L2
open PySem PySem.SeqAt PyProof.Rows
open Dl (ilt Zcd)
variable {p q:Int}{A:BE}{s:Ah}{u v:Value}{as:List Addr}{h:Heap}{c d:List Int}{prog:AZ}{w:BC}{E Q:Value->Ah->Prop}{M:Model}{a l:Addr}{vs:List Value}{n:Nat}{P:Fin->Ah->Prop}
abbrev nP (p:Int):E1:=.int p
def lP (c:List Int):E1:=.list (c.map nP)
theorem Xqx (p q:Int):DW (nP p) (nP q)=decide (p=q):=by by_cases h:p=q<;>simp [DW,h]
theorem Xiv (_:True):(nP p).canLay0=true:=rfl
theorem Xsl (p:Int):(nP p).depth<=1:=by simp [FC]
theorem Xrk (h:nP p=nP q):p=q:=by injection h
theorem Xoa {bs:List Addr}(ru:Gi s.heap u (nP p) as)(rv:Gi s.heap v (nP q) bs)(_:A.units<Bw):Xsa A s u v (ilt p q):=by
 cases ru with
 | int i t1=>cases rv with
  | int j t2=>exact Xdn _ _ _ _
theorem Xib (c d:List Int)(z:Int):∀(k i:Nat),i+k=min c.length d.length->Xpe (fun j=>decide (c.getD j z=d.getD j z)) (fun j=>ilt (c.getD j z) (d.getD j z)) c.length d.length ((AO (min c.length d.length)).drop i)=Zcd (c.drop i) (d.drop i)
 | 0,i,h=>by rw [BP (as:=AO _) (by simp;omega)];show decide (c.length<d.length)=_;by_cases h1:i<c.length;rw [BP (as:=d) (by omega),AY h1];exact decide_eq_false (by omega);rw [BP (as:=c) (by omega)];by_cases h2:i<d.length;rw [AY h2];exact decide_eq_true (by omega);rw [BP (as:=d) (by omega)];exact decide_eq_false (by omega)
 | k+1,i,h=>by
  have h1:i<c.length:=by omega
  have h2:i<d.length:=by omega
  have e1:c.getD i z=c[i]:=by rw [AI,Ad h1];rfl
  have e2:d.getD i z=d[i]:=by rw [AI,Ad h2];rfl
  rw [AY (by simp;omega),IE,AY h1,AY h2];unfold Xpe Zcd;rw [Xib c d z k (i+1) (by omega),e1,e2];by_cases e:c[i]=d[i];rw [if_pos (decide_eq_true e),if_pos e];rw [if_neg (fun q=>e (of_decide_eq_true q)),if_neg e]
theorem Zkt (r:Gi h u (lP c) as):∃l o vl n bs,u=.ref l/\h.get? l=some o/\o.cls=.type "list"/\o.data=.seq (BJ vl) n/\LG h vl (c.map nP) bs:=by
 generalize hd:lP c=d at r;cases r with
 | @list l o vs n xs as1 h1 h2 h3 h4 =>cases hd;obtain ⟨vl⟩:=vs;exact ⟨l,o,vl,n,_,rfl,h1,h2,h3,h4⟩
 | _=>cases hd
theorem Zdt {h:Heap}:∀{c:List Int} {vl:List Value} {bs:List Addr},LG h vl (c.map nP) bs->vl.length=c.length/\∀j (h1:j<vl.length) (z:Int),∃as,Gi h vl[j] (nP (c.getD j z)) as
 | [],vl,bs,r=>by cases r;exact ⟨rfl,fun j h1=>absurd h1 (GQ _)⟩
 | p::c,vl,bs,r=>by
  cases r with
  | cons r1 r2 =>
   obtain ⟨e1,e2⟩:=Zdt r2;refine ⟨by rw [AX,AX,e1],fun j h1 z=>?_⟩
   match j,h1 with
   | 0,_=>exact ⟨_,r1⟩
   | j+1,h1=>exact e2 j (by simpa using h1) z
theorem Xoe {bs:List Addr}(ru:Gi s.heap u (lP c) as)(rv:Gi s.heap v (lP d) bs)(hc:∀p∈c,True)(hd:∀p∈d,True)(hu:A.units+8<Bw) :
  ∃(l l':Addr) (vl vl':List Value) (n n':Nat) (dd dd':Option Addr) (sl sl':Array (Option Value)),u=.ref l/\v=.ref l'/\s.heap.get? l=some {cls:=.type "list",dict:=dd,data:=.seq (BJ vl) n,slots:=sl}/\s.heap.get? l'=some {cls:=.type "list",dict:=dd',data:=.seq (BJ vl') n',slots:=sl'}/\
   vl.length=c.length/\vl'.length=d.length/\(∀j (h1:j<(BJ vl).size) (h2:j<(BJ vl').size),EqAt A.in1 s (BJ vl)[j] (BJ vl')[j] (decide (c.getD j 0=d.getD j 0)))/\
   (∀j (h1:j<(BJ vl).size) (h2:j<(BJ vl').size),(decide (c.getD j 0=d.getD j 0):Bool)=false->Xsa A.in1 s (BJ vl)[j] (BJ vl')[j] (ilt (c.getD j 0) (d.getD j 0))):=by
 obtain ⟨l,⟨cls,dd,data,sl⟩,vl,n,as',rfl,h1,h2,h3,h4⟩:=Zkt ru;obtain ⟨l',⟨cls',dd',data',sl'⟩,vl',n',bs',rfl,k1,k2,k3,k4⟩:=Zkt rv;simp only at h2 h3 k2 k3;subst h2 h3 k2 k3;obtain ⟨e1,e2⟩:=Zdt h4;obtain ⟨e3,e4⟩:=Zdt k4;have mem:∀{c:List Int} {j:Nat} (_:j<c.length),c.getD j 0∈c:=fun {c j} hj=>by rw [AI,Ad hj];exact CD hj
 have hin:A.in1.units+1<Bw:=by show A.units+1+1<Bw;omega
 refine ⟨l,l',vl,vl',n,n',dd,dd',sl,sl',rfl,rfl,h1,k1,e1,e3,fun j j1 j2=>?_,fun j j1 j2 _=>?_⟩;obtain ⟨a1,r1⟩:=e2 j (by simpa using j1) 0;obtain ⟨b1,r2⟩:=e4 j (by simpa using j2) 0;intro prog w E Q q;refine eqBoolOverData prog w A.in1 E s _ _ _ _ _ _ Q r1 r2 (Xiv (hc _ (mem (by simpa [e1] using j1)))) (Xiv (hd _ (mem (by simpa [e3] using j2)))) ?_ (by rw [Xqx];exact q);have:=Xsl (c.getD j 0);omega;obtain ⟨a1,r1⟩:=e2 j (by simpa using j1) 0;obtain ⟨b1,r2⟩:=e4 j (by simpa using j2) 0;exact Xoa r1 r2 (by omega)
theorem Xku (p:Int):ilt p p=false:=decide_eq_false (Int.lt_irrefl p)
theorem Xun {t:Int}(h:ilt p q=true)(h2:ilt q t=true):ilt p t=true:=decide_eq_true (HR (of_decide_eq_true h) (of_decide_eq_true h2))
theorem Xpq (h:p≠q):ilt p q=true\/ilt q p=true:=(Int.lt_or_gt_of_ne h).imp (fun z=>decide_eq_true z) fun z=>decide_eq_true z
theorem Zso:∀c:List Int,Zcd c c=false
 | []=>rfl
 | p::c=>by unfold Zcd;rw [if_pos rfl];exact Zso c
theorem Zqb:∀{c d e:List Int},Zcd c d=true->Zcd d e=true->Zcd c e=true
 | [],[],_,h,_=>nomatch h
 | [],_::_,[],_,h=>nomatch h
 | [],_::_,_::_,_,_=>rfl
 | _::_,[],_,h,_=>nomatch h
 | _::_,_::_,[],_,h=>nomatch h
 | p::c,q::d,t::e,h,h2=>by unfold Zcd at *;by_cases e1:p=q;rw [if_pos e1] at h;subst e1;by_cases e2:p=t;rw [if_pos e2] at h2 ⊢;exact Zqb h h2;rw [if_neg e2] at h2 ⊢;exact h2;rw [if_neg e1] at h;by_cases e2:q=t;subst e2;rw [if_neg e1];exact h;rw [if_neg e2] at h2;have h3:=Xun h h2;rw [if_neg (fun z=>by rw [z,Xku] at h3;cases h3)];exact h3
theorem Zky:∀{c d:List Int},c≠d->Zcd c d=true\/Zcd d c=true
 | [],[],h=>absurd rfl h
 | [],_::_,_=>.inl rfl
 | _::_,[],_=>.inr rfl
 | p::c,q::d,h=>by unfold Zcd;by_cases e:p=q;rw [if_pos e,if_pos e.symm];exact Zky fun z=>h (by rw [e,z]);rw [if_neg e,if_neg (fun z=>e z.symm)];exact Xpq e
theorem Zow (h:Zcd c d=true):Zcd d c=false:=by
 cases e:Zcd d c with
 | false=>rfl
 | true=>rw [<- Zso c,<- Zqb h e]
theorem Zxl {e:List Int}(h:Zcd d c=false)(h2:Zcd e d=false):Zcd e c=false:=by
 cases q:Zcd e c with
 | false=>rfl
 | true =>by_cases e1:c=d;subst e1;rw [h2] at q;cases q;rcases Zky e1 with z | z;rw [<- h2,Zqb q z];rw [h] at z;cases z
theorem Zys (h:Zcd d c=false)(h2:Zcd c d=false):c=d:=by by_cases e:c=d;exact e;rcases Zky e with z | z;rw [h2] at z;cases z;rw [h] at z;cases z
noncomputable def Zff (h:Heap)(v:Value):List Int:=open Classical in if q:∃c as,Gi h v (lP c) as then q.choose else []
theorem Xsy (h:lP c=lP d):c=d:=by injection h with h;exact FF (fun _ _=>Xrk) |>.mp h
theorem Zib (r:Gi h v (lP c) as):Zff h v=c:=by have q:∃c as,Gi h v (lP c) as:=⟨c,as,r⟩;unfold Zff;rw [dif_pos q];obtain ⟨bs,r2⟩:=q.choose_spec;exact Xsy (Reads.unique r2 _ _ r).1
def Xcv (h:Heap)(v:Value):Prop:=∃c as,Gi h v (lP c) as/\∀p∈c,True
theorem Xcv.keeps {h h':Heap}{v:Value}(i:Xcv h v)(k:∀b o,h.get? b=some o->h'.get? b=some o):Xcv h' v/\Zff h' v=Zff h v:=by obtain ⟨c,as,r,ok⟩:=i;exact ⟨⟨c,as,KP k r,ok⟩,(Zib (KP k r)).trans (Zib r).symm⟩
theorem Xov (hu:A.units+8<Bw):Ask prog w A s oneType' (fun x=>Xcv s.heap x.1) (fun x y=>Zcd (Zff s.heap x.1) (Zff s.heap y.1)) where
 run:=fun {x y Q E} hx hy _ q=>by
  obtain ⟨c,as,ru,hc⟩:=hx;obtain ⟨d,bs,rv,hd⟩:=hy;rw [Zib ru,Zib rv] at q;obtain ⟨l,l',vl,vl',n,n',dd,dd',sl,sl',e1,e2,h1,k1,e3,e4,he,hlt⟩:=Xoe (A:=A) ru rv hc hd hu;rw [e1,e2,keyLt'_oneType,oneLt'_eq];simp only [if_true];refine Aa (wpAny_cRoomFor (by omega) ?_);have t:Xpe (fun j=>decide (c.getD j 0=d.getD j 0)) (fun j=>ilt (c.getD j 0) (d.getD j 0)) (BJ vl).size (BJ vl').size (AO (min (BJ vl).size (BJ vl').size))=Zcd c d:=by have:=Xib c d 0 (min c.length d.length) 0 (by omega);rw [Fc,Fc,Fc] at this;rw [AG,AG,e3,e4,this]
  refine Aa (wpAny_callSpecialIfBound?_slot (name:="__lt__") ⟨_,h1,rfl⟩ La (HD La ⟨_,h1,rfl⟩ F.entry_list_lt (F.args_list_lt_2 _ _) (Zvx l l' _ _ n n' dd dd' sl sl' (fun j=>decide (c.getD j 0=d.getD j 0)) (fun j=>ilt (c.getD j 0) (d.getD j 0))) ⟨h1,k1,he,hlt,?_⟩));rw [t];exact Cr q
 tr:=fun _ _ _ h1 h2=>Zxl h1 h2
 as:=fun _ _ h=>Zow h
theorem Xhq (i:Xcv h v):PySem.W.Looks M h (typeOf v) (.type "list"):=by obtain ⟨c,as,r,_⟩:=i;obtain ⟨l,o,vl,n,bs,rfl,h1,h2,_⟩:=Zkt r;have q:PySem.W.Looks M h (typeOf (.ref l)) o.cls:=(PySem.W.Looks.ld h1).andThen .now;rw [h2] at q;exact q
theorem Xjz (ho:s.heap.get? a=some (CV "list" vs.toArray n))(hI:∀s':Ah,(∀b o,b≠a->s.heap.get? b=some o->s'.heap.get? b=some o)->∀v∈vs,Xcv s'.heap v/\Zff s'.heap v=Zff s.heap v)(hm:vs.length<=Aw)(hu:A.units+8<Bw)
    (h:∀out:Array Value,out.toList.Perm vs->(out.toList.map (Zff s.heap)).Pairwise (fun c d=>Zcd d c=false)->P (.done (.ret .none)) {s with heap:=sortedHeap s.heap a vs out}) :
    wpAny (model prog w) A (D4.«list.sort» ⟨[.ref a],[]⟩) P E s:=by
  have hlt:=AW ho;obtain ⟨e0,h1⟩:∃e0,(s.heap.update a (CC fun _=>#[])).get? a=some (CV "list" #[] e0):=⟨_,get?_update_seq ho (fun _=>#[])⟩;have h6:(((s.heap.update a (CC fun _=>#[])).push (CV "tuple" vs.toArray 0)).push (CV "list" #[] 0)).get? a=some (CV "list" #[] e0):=by rw [IZ _ _ _ (BD (by rw [Hx,Gr];exact Dp hlt)),IZ _ _ _ (BD (by rw [Gr];exact hlt))];exact h1
  have keep:∀b o,b≠a->s.heap.get? b=some o->(((s.heap.update a (CC fun _=>#[])).push (CV "tuple" vs.toArray 0)).push (CV "list" #[] 0)).get? b=some o:=fun b o hb q=>by refine Ae _ (Ae _ ?_);rw [Ip _ _ _ _ hb];exact q
  have hI6:=hI {s with heap:=((s.heap.update a (CC fun _=>#[])).push (CV "tuple" vs.toArray 0)).push (CV "list" #[] 0)} keep;rw [list_sort_plain];refine Aa (listItems_at ho rfl (Aa (LL ho rfl (Aa (seqEpoch_at h1 rfl (Aa (Hw (Aa (LJ (BZ ?_))) (by simpa using hm)))))
    (by simpa using hm))))
  have fin:∀(st':BB),(Aq st').toList.Perm (vs.map fun v=>(v,v))->CS st'=none->((Aq st').toList.map fun x=>Zff s.heap x.1).Pairwise (fun c d=>Zcd d c=false)->
      wpAny (model prog w) A (do
        let touched:=(<- seqEpoch a) != e0
        Lp (.ref a) fun _=>(Aq st').map (·.2)
        if let some e:=CS st' then rule "list.sort.comparison-raised";throw e
        if touched then rule "list.sort.modified";raiseError "ValueError" "list modified during sort"
        ret .none) P E {s with heap:=((s.heap.update a (CC fun _=>#[])).push (CV "tuple" vs.toArray 0)).push (CV "list" #[] 0)}:=fun st' hp hf hs=>by
    have same:∀x∈(Aq st').toList,x.1=x.2:=fun x hx=>by obtain ⟨v,_,rfl⟩:=AE.mp (hp.mem_iff.mp hx);rfl
    refine Aa (seqEpoch_at h6 rfl (Aa (LL h6 rfl ?_ (hsz2:=by
      refine AC (Fb (Array.size_map ..)) ?_;rw [<- AN,hp.length_eq,Am];omega))))
    rw [hf];simp only [bne_self_eq_false,Bb,if_false];refine Ac (h _ ?_ ?_);rw [I0];have:=hp.map (·.2);rw [BI,show ((fun x:Ay=>x.2)∘fun v:Value=>(v,v))=id from rfl,IP] at this;exact this;rw [I0,BI];rw [CI (g:=fun x=>Zff s.heap x.1) (fun x hx=>by show Zff s.heap x.2=_;rw [same x hx])];exact hs
  by_cases h2:vs.toArray.size<2;simp only [if_pos h2];refine Aa (Ac ?_);rw [StateT.run_pure];refine Aa (Ac ?_);refine fin (KO general' (vs.toArray.zip vs.toArray) #[] 7 none) (by show (vs.toArray.zip vs.toArray).toList.Perm _;rw [Zcw]) rfl ?_;show ((vs.toArray.zip vs.toArray).toList.map fun x=>Zff s.heap x.1).Pairwise _;rw [Zcw]
  match vs,h2 with
  | [],_=>exact Dw
  | [v],_=>exact DM _ _
  | _::_::_,h2=>exact absurd h2 (by simp)
  simp only [if_neg h2];have h2':2<=vs.length:=by rw [AG] at h2;omega
  refine Aa (PySem.W.kas_kind h2' (fun v hv=>Xhq (hI6 v hv).1) (by decide) (by decide) ?_);have hne:∃x,x∈vs:=⟨vs[0],CD (by omega)⟩;obtain ⟨v0,hv0⟩:=hne;refine Aa (Cw (Xha (st:=KO oneType' (vs.toArray.zip vs.toArray) #[] 7 none) (Q:=fun _ st'=>(Aq st').toList.Perm (vs.map fun v=>(v,v))/\CS st'=none/\((Aq st').toList.map fun x=>Zff s.heap x.1).Pairwise (fun c d=>Zcd d c=false)) (v0,v0) (Xov hu) ?_ rfl rfl rfl ?_ fun st' q1 q2 q3=>⟨?_,q2,?_⟩) ?_ fun _ _ e=>e);intro x hx;have hx:x∈(vs.toArray.zip vs.toArray).toList:=hx;rw [Zcw] at hx;obtain ⟨v,hv,rfl⟩:=AE.mp hx;exact (hI6 v hv).1;show 1<=(vs.toArray.zip vs.toArray).size;rw [<- AN,Zcw,Am];omega;have q1:(Aq st').toList.Perm (vs.toArray.zip vs.toArray).toList:=q1;rw [Zcw] at q1;exact q1;have q1:(Aq st').toList.Perm (vs.toArray.zip vs.toArray).toList:=q1;rw [Zcw] at q1;refine DS.mpr (Dh (fun {x y} hx hy z=>?_) q3);obtain ⟨v,hv,rfl⟩:=AE.mp (q1.mem_iff.mp hx);obtain ⟨v',hv',rfl⟩:=AE.mp (q1.mem_iff.mp hy);have e1:=(hI6 v hv).2;have e2:=(hI6 v' hv').2;show Zcd (Zff s.heap v') (Zff s.heap v)=false;rw [<- e1,<- e2];exact z;rintro ⟨⟨⟩,st'⟩ s' ⟨rfl,q1,q2,q3⟩;exact fin st' q1 q2 q3
theorem Xbh (hl:s.heap.IsList l vs.toArray)(hI:∀v∈vs,Xcv s.heap v)(hm:vs.length<=Aw)(hu:A.units+12<Bw)
  (h:∀out:Array Value,out.toList.Perm vs->(out.toList.map (Zff s.heap)).Pairwise (fun c d=>Zcd d c=false)->Q (.ref (s.heap.objs.size+1)) {s with heap:=sortedAll s.heap vs out}) :
  wpAny (model prog w) A (call (.builtin "sorted") [.ref l]) Q E s:=by
 have hz:((s.heap.push (CV "list" #[] 0)).update s.heap.objs.size (CC (·++vs.toArray))).objs.size=s.heap.objs.size+1:=by rw [Gr,Hx]
 have hL:=Az ((s.heap.push (CV "list" #[] 0)).update s.heap.objs.size (CC (·++vs.toArray))) (o:=CV "list" vs.toArray 0) rfl;rw [hz] at hL;have keep:∀b o,s.heap.get? b=some o->(((s.heap.push (CV "list" #[] 0)).update s.heap.objs.size (CC (·++vs.toArray))).push (CV "list" vs.toArray 0)).get? b=some o:=fun b o q=>by refine Ae _ ?_;rw [Ip _ _ _ _ (BD (AW q))];exact Ae _ q
 refine Calls.call_function_entry kind_sorted plain_sorted entry_sorted (args_sorted1 _) ?_;unfold D4.«sorted»;refine Aa (m:=checkCount "sorted" 1 1 _) (Ac (Aa (collect_list hl (Aa (LJ ?_ (by simpa using hm))) hm)));simp only [hz];have hI0:∀v∈vs,Xcv (((s.heap.push (CV "list" #[] 0)).update s.heap.objs.size (CC (·++vs.toArray))).push (CV "list" vs.toArray 0)) v/\Zff (((s.heap.push (CV "list" #[] 0)).update s.heap.objs.size (CC (·++vs.toArray))).push (CV "list" vs.toArray 0)) v=Zff s.heap v:=fun v hv=>(hI v hv).keeps keep;have old:∀b o,s.heap.get? b=some o->b≠s.heap.objs.size+1:=fun b o q=>BD (Dp (AW q));refine Aa (BZ (Bg slot_list_sort ⟨_,hL,rfl⟩ entry_list_sort (Xjz hL (fun s' k v hv=>?_) hm (by show A.units+1+1+8<Bw;omega) fun out q1 q2=>⟨_,rfl,?_⟩) (args_list_sort _)));have:=(hI v hv).keeps (h':=s'.heap) fun b o q=>k b o (old b o q) (keep b o q);exact ⟨this.1,this.2.trans (hI0 v hv).2.symm⟩;refine Ac ⟨_,rfl,h out q1 ?_⟩;rw [CI (g:=Zff (((s.heap.push (CV "list" #[] 0)).update s.heap.objs.size (CC (·++vs.toArray))).push (CV "list" vs.toArray 0))) (fun v hv=>((hI0 v (q1.mem_iff.mp hv)).2).symm)];exact q2
end L2
namespace L2
open PySem PySem.Spec PyProof.Rows
open Dl (D R FE FT FA FO FS FI FB Fl Zcd)
variable {l l':List (List Int)}{X:Cx}{K:Frag}{C:String->Addr}{E:XK}{Γ Δ:List Nat}{m m1 m2:Nat}{S1 S2 S3:List (Nat×Bool)}{c:List Int}{B:List Addr}{b:Addr}{te:TE}{fe:FE}{e:Expr}
theorem Zhk (c:List Int):∀l,(Dl.Xqb c l).Perm (c::l)
 | []=>CN _
 | d::l=>by unfold Dl.Xqb;split;exact CN _;exact ((Zhk c l).cons d).trans (LU c d l)
theorem Zat:∀l,(Dl.Ji l).Perm l
 | []=>CN _
 | c::l=>(Zhk c _).trans ((Zat l).cons c)
theorem Zzu (c:List Int):∀l,l.Pairwise (fun x y=>Zcd y x=false)->(Dl.Xqb c l).Pairwise (fun x y=>Zcd y x=false)
 | [],_=>DM _ _
 | d::l,h=>by obtain ⟨h1,h2⟩:=DK.mp h;unfold Dl.Xqb;split;rename_i q;refine DK.mpr ⟨fun y hy=>?_,h⟩;rcases An.mp hy with e | e;rw [e];exact Zow q;exact Zxl (Zow q) (h1 y e);rename_i q;refine DK.mpr ⟨fun y hy=>?_,Zzu c l h2⟩;rcases An.mp ((Zhk c l).mem_iff.mp hy) with e | e;rw [e];exact Bool.eq_false_iff.mpr q;exact h1 y e
theorem Zii:∀l,(Dl.Ji l).Pairwise (fun x y=>Zcd y x=false)
 | []=>Dw
 | c::l=>Zzu c _ (Zii l)
theorem Zoa (hp:l'.Perm l)(hu:l'.Pairwise (fun x y=>Zcd y x=false)):Dl.Ji l=l':=LV (fun x y _ _ h1 h2=>Zys h1 h2) (Zii l) hu ((Zat l).trans hp.symm)
def Zsx (K:Frag):List V->Hp->VK->Prop:=fun vs H Q=>∃(a:Addr) (L:List (Addr×List Int)),vs=[.ref a]/\SqL K H a (L.map fun x=>V.ref x.1)/\(∀x∈L,Dn K H (.ref x.1) (lP x.2)/\∀p∈x.2,True)/\L.length<=1000/\
 ∀(L':List (Addr×List Int)) (r:Addr),L'.Perm L->(L'.map (·.2)).Pairwise (fun x y=>Zcd y x=false)->H r=none->Q (.ref r) (upd H r (.lst (L'.map fun x=>V.ref x.1)))
section
theorem Zut (hu:X.A.units+64<Bw):Jy X (.builtin "sorted") (Zsx X.K):=by
 intro pins s σ H xs us Q I r h;obtain ⟨a,L,rfl,hq,hL,hl,q⟩:=h;obtain ⟨u,rfl,rx⟩:=vals1 r;cases rx;obtain ⟨its,rv,p,hz⟩:=I.list hq;have rv':Yl ((L.map (·.1)).map V.ref) its:=by rw [BI];exact rv
 have ei:=Zmm rv';have rd:∀x∈L,∃as,Gi s.heap (.ref x.1) (lP x.2) as:=fun x hx=>(hL x hx).1.reads I rfl;have hI:∀v∈its,Xcv s.heap v:=fun v hv=>by rw [ei,BI] at hv;obtain ⟨x,hx,rfl⟩:=AE.mp hv;obtain ⟨as,ra⟩:=rd x hx;exact ⟨_,as,ra,(hL x hx).2⟩
 have hlen:its.length<=Aw:=by rw [ei,Am,Am,He];omega
 refine Xbh p.isList hI hlen (by omega) fun out q1 q2=>?_;obtain ⟨e,he⟩:=sortedAll_at s.heap its out;have hn:H (s.heap.objs.size+1)=none:=I.hok.fresh (IQ _);have eo:out.toList=(out.toList.map adr).map AL:=by
  rw [BI]
  conv=>lhs;rw [<- IP out.toList]
  refine CI fun v hv=>?_;have:=q1.mem_iff.mp hv;rw [ei] at this;obtain ⟨b,_,rfl⟩:=AE.mp this;rfl
 have pb:(out.toList.map adr).Perm (L.map (·.1)):=by have:=q1.map adr;rw [ei,BI,show (adr∘AL)=id from rfl,IP] at this;exact this
 have cut:∀x∈L,Zff s.heap (.ref x.1)=x.2:=fun x hx=>by obtain ⟨as,ra⟩:=rd x hx;exact Zib ra
 have eL:L=(L.map (·.1)).map fun b=>(b,Zff s.heap (.ref b)):=by
  rw [BI]
  conv=>lhs;rw [<- IP L]
  refine CI fun x hx=>?_;show x=(x.1,Zff s.heap (.ref x.1));rw [cut x hx]
 have pL:((out.toList.map adr).map fun b=>(b,Zff s.heap (.ref b))).Perm L:=by
  conv=>rhs;rw [eL]
  exact pb.map _
 have hs:(((out.toList.map adr).map fun b=>(b,Zff s.heap (.ref b))).map (·.2)).Pairwise (fun x y=>Zcd y x=false):=by rw [eo,BI] at q2;rw [BI];exact q2
 have hv:Yl ((((out.toList.map adr).map fun b=>(b,Zff s.heap (.ref b))).map fun x=>V.ref x.1)) out.toList:=by rw [BI,eo];have:=Zmi (out.toList.map adr);rw [show (HY adr (HY AL (HY adr out.toList)))=HY adr out.toList by rw [BI,show (adr∘AL)=id from rfl,IP]];exact this
 have hv2:=hv.length;have I2:=I.laid (t':=s.toks) (o:=.lst ((((out.toList.map adr).map fun b=>(b,Zff s.heap (.ref b))).map fun x=>V.ref x.1))) (h':=sortedAll s.heap its out) (fun b o q=>sortedAll_old q) (IQ _) ⟨by rw [Am,pL.length_eq];exact AC hl (by decide),out.toList,e,hv,by simpa [CV] using he⟩;exact ⟨.ref (s.heap.objs.size+1),_,I2,rfl,q _ _ pL hs hn⟩
variable {Γl Δl:List Nat}{m3 mr:Nat}{S:List (Nat×Bool)}{H:Hp}
theorem Zmj:∀{ds:List D} {c:List Int},Dl.intsOf ds=some c->ds=c.map .int
 | [],c,h=>by cases h;rfl
 | d::ds,c,h=>by
  cases d with
  | int i =>obtain ⟨r,h1,rfl⟩:=AB.mp (show (Dl.intsOf ds).map (i::·)=some c from h);rw [Zmj h1];rfl
  | _=>cases h
theorem Xcu {d:D}(h:Dl.Zzm d=some c):d=Dl.ilD c:=by
 cases d with
 | lst ds=>rw [Zmj (show Dl.intsOf ds=some c from h)];rfl
 | _=>cases h
theorem Znv:∀{ds:List D} {cs:List (List Int)},Dl.Zfs ds=some cs->ds=cs.map Dl.ilD
 | [],cs,h=>by cases h;rfl
 | d::ds,cs,h=>by obtain ⟨c,h1,h⟩:=AK.mp (show ((Dl.Zzm d).bind fun c=>(Dl.Zfs ds).bind fun cs=>some (c::cs))=some cs from h);obtain ⟨cs',h2,h⟩:=AK.mp h;cases h;rw [Xcu h1,Znv h2];rfl
theorem Zya:∀c:List Int,Dl.Zx (c.map D.int)=true
 | []=>rfl
 | p::c=>by rw [Bn,Dl.Zx,Zya c];rfl
theorem Xbz:∀c:List Int,Zcs (c.map .int)=c.map nP
 | []=>rfl
 | p::c=>by show toPy (.int p)::Zcs _=nP p::_;rw [Xbz c];rfl
theorem Xtu (c:List Int):Dl.dep (Dl.ilD c)<=2:=by
 have:∀c:List Int,Dl.Zgt (c.map .int)<=1:=fun c=>by
  induction c with
  | nil=>simp [Dl.Zgt]
  | cons p c ih=>simp [Dl.Zgt,Dl.dep];omega
 have h:=this c;unfold Dl.ilD;rw [Dl.dep];omega
theorem Rp.il {v:V}(r:Rp K C H (Dl.ilD c) v B):(∃b,v=.ref b)/\Dn K H v (lP c)/\∀p∈c,True:=by
 obtain ⟨h1,h2,_⟩:=r.dn (n:=50) (AC (Xtu c) (by decide)) (by decide);have e:toPy (Dl.ilD c)=lP c:=by show Ku (Zcs _)=Ku _;rw [Xbz]
 rw [e] at h1;refine ⟨?_,h1,fun p hp=>trivial⟩;obtain ⟨a,xs,B,rfl,_⟩:=r;exact ⟨a,rfl⟩
theorem Rp.ilA (r:Rp K C H (Dl.ilD c) (.ref b) B):B=[b]:=by obtain ⟨a,xs,B',e1,e2,e3,rfl⟩:=r;cases e1;rw [e3.flat (Zya c)]
theorem RpA.ilsA:∀{cs:List (List Int)} {xs:List V} {B:List Addr},RpA K C H (cs.map Dl.ilD) xs B->∃L:List (Addr×List Int),xs=L.map (fun x=>V.ref x.1)/\cs=L.map (·.2)/\B=L.map (·.1)/\∀x∈L,Rp K C H (Dl.ilD x.2) (.ref x.1) [x.1]
 | [],xs,B,r=>⟨[],r.1,rfl,r.2,fun _ h=>nomatch h⟩
 | c::cs,xs,B,r=>by obtain ⟨x,l,B1,B2,rfl,h1,h2,rfl⟩:=r;obtain ⟨⟨b,rfl⟩,_⟩:=Rp.il h1;obtain ⟨L,rfl,e2,e3,h3⟩:=RpA.ilsA h2;have e1:=Rp.ilA h1;subst e1;refine ⟨(b,c)::L,rfl,by rw [e2];rfl,by rw [e3];rfl,fun x hx=>?_⟩;rcases An.mp hx with z | z;subst z;exact h1;exact h3 x z
theorem RpA.pickI:∀{L:List (Addr×List Int)},(∀x∈L,Rp K C H (Dl.ilD x.2) (.ref x.1) [x.1])->RpA K C H ((L.map (·.2)).map Dl.ilD) (L.map fun x=>V.ref x.1) (L.map (·.1))
 | [],_=>⟨rfl,rfl⟩
 | x::L,h=>⟨_,_,[x.1],L.map (·.1),rfl,h x (.head _),RpA.pickI (L:=L) fun y hy=>h y (.tail _ hy),rfl⟩
theorem Xbj (he:EOk K C E Γ Δ 2 S te fe):EOk K C E Γ Δ 2 S (tCB (Zsx K) (Jz te Zmw)) (Dl.fA Dl.Zhq (Dl.Zc fe Dl.Zw)):=fun H0 Hb H σ ρ A Q I p =>
  he H0 Hb H σ ρ A _ I (by
    have p':=Xh.bind (Xh.bind p);refine Xh.imp p' (fun d q v H1 g1 r=>?_) fun c x q H' g'=>q H' g';have q:Xh (Dl.oR (Dl.Zhq [d])) (fun d=>∀v H',Xi H H'->Res K C 2 S H A d v H'->Q v H') (fun c x=>∀H',Xi H H'->EC C E c x H'):=q;obtain ⟨z,e,q⟩:=Zdf q;obtain ⟨B,r,r',_,nd⟩:=r;have nd:=nd rfl;show Zsx K [v] H1 Q;cases d with
    | lst ds =>
      obtain ⟨cs,h1,h2⟩:=AK.mp (show ((Dl.Zfs ds).bind fun cs=>if cs.length<=1000 then some (D.lst ((Dl.Ji cs).map Dl.ilD)) else none)=some z from e);split at h2;rename_i hlen;cases h2;rw [Znv h1] at r;obtain ⟨a,xs,B',rfl,e2,e3,e4⟩:=r;subst e4;obtain ⟨L,rfl,ec,eB,hL⟩:=RpA.ilsA e3;refine ⟨a,L,rfl,SqL.of e2,fun x hx=>(Rp.il (hL x hx)).2,by rw [ec,Am] at hlen;exact hlen,fun L' l pL hs hl=>?_⟩;have g2:=sameNew hl (.lst (L'.map fun x=>V.ref x.1));have es:Dl.Ji cs=L'.map (·.2):=Zoa (by rw [ec];exact pL.map _) hs;have q1:=RpA.pickI (L:=L') fun x hx=>hL x (pL.mem_iff.mp hx);have pB:(L'.map (·.1)).Perm B':=by rw [eB];exact pL.map _
      rw [es] at q;refine q _ _ (g1.trans g2) ⟨l::L'.map (·.1),⟨l,_,L'.map (·.1),rfl,Xd,q1.same g2,rfl⟩,fun b hb=>?_,(fun z=>nomatch z),fun _=>?_⟩;rcases An.mp hb with z | z;rw [z];exact .inl (g1.free hl);exact r' b (.tail _ (pB.mem_iff.mp z));refine AA.mpr ⟨fun h=>?_,pB.nodup_iff.mpr (AA.mp nd).2⟩;obtain ⟨ys,w,_⟩:=q1.isl l h;rw [w] at hl;cases hl;cases h2
    | _=>cases e)
variable {Γ' Δ':List Nat}{S:List (Nat×Bool)}{pos p:Pos}
theorem Zsk (K:Frag)(hu:X.A.units+64<Bw)(hg:Gl X "sorted")(hm:X.mg "sorted"=none)(he:JE X C E Γ Δ 2 S e te fe)(hse:Af [e] X.env=(false,eval e X.env)::Af [] X.env)(hpl:(BU pos (Af ([]:List Expr) X.env)).any (·.1)=false:=by rfl)(hK:X.K=K:=by rfl) :
  JE X C E Γ Δ 2 S (.Call (.Name "sorted" p) [e] [] pos) (tCB (Zsx K) (Jz te Zmw)) (Dl.fA Dl.Zhq (Dl.Zc fe Dl.Zw)):=by
 subst hK;exact ⟨Zkn (Zut hu) hg hm Lh (Zbb he.q Zjw hse) (by decide) (by decide) hse hpl,Xbj he.o⟩
end
end L2
namespace Dl
open PySem
variable {i j lo v m fl:Int}{n k N:Nat}{α β:Type}{xs ds T:List D}{x d z:D}{ns ms os ws ys l:List Int}{a e:FE}{b:FB}{s:FS}{P:Int->Prop}{Rr:R Fl->Prop}{ρ ρ':Env}{c:FT}{r:R Fl}{g:D->Option Int->Option Int->Option D}{F:List D->R D}{it:FI}{p:Prop}{hi:Option Int}{nm:Str}
def Zrj:FS:=
  (Xj (sIf (cOr (cE (f2 gLt (fV 1) (fC (.int 0)))) (cOr (cE (f2 gGt (fV 2) (fA Zbr (Zc (fV 0) Zw)))) (cE (f2 gGt (fV 1) (fV 2))))) Zjz sNx)
    (Zcn (fA Xqp (Zc (fSl gSl (fV 0) (Zef (fV 1)) (Zef (fV 2))) Zw))))
def Zcz (ds:List D):R D:=(run 3 Zrj ds).calm
def Zfk:FS:=
 (Xnc 1 Zup (f2 Yo (fV 2) (fC (.int 1))))
def Xcp:FS:=
  (Xj (Xw 1 (fC (.int 1)))
    (Xj (Zfe (Zed (fV 0)) (Zu 2) Zfk)
    (Zcn (fV 1))))
def Zev (ds:List D):R D:=(run 3 Xcp ds).calm
def Zea:FS:=
 (Xw 2 (f2 Zje (f2 Yo (f2 Yo (f2 Zal (fV 2) (fC (.int 48271))) (f2 Zje (fV 3) (fC (.int 1000003)))) (fC (.int 1))) (fC (.int 2147483647))))
def Zox:FS:=
  (Xj (sIf (cE (f2 gLt (fV 1) (fA Zbr (Zc (fV 0) Zw)))) (Zcn (f1 Yv (f2 gIx (fV 0) (fV 1)))) sNx)
    (Xj (Xw 2 (fC (.int 5)))
    (Xj (Zfe (Zed (fSl gSl (fV 0) Zhi (Zef (fC (.int 63))))) (Zu 3) Zea)
    (Zcn (f2 Zje (f2 Yo (fV 2) (f2 Zal (fC (.int 7919)) (fV 1))) (fC (.int 1000003)))))))
def Js (ds:List D):R D:=(run 4 Zox ds).calm
def Zus:FS:=
  (Xj (Xw 2 (f2 Zje (f2 Zkb (f2 Yo (f2 Yo (f2 Zje (fV 0) (fC (.int 2147483629))) (f2 Zal (fC (.int 1013)) (fV 1))) (fC (.int 7919))) (fC (.int 3))) (fC (.int 2147483647))))
    (Xj (Xw 3 (f2 Zje (f2 Yo (f2 Yo (f2 Zal (fV 2) (fC (.int 40699))) (f2 Zal (f2 Zal (fC (.int 3793)) (fV 1)) (fV 1))) (fC (.int 11))) (fC (.int 2147483399))))
    (Zcn (f2 Xql (fV 3) (fC (.int 101))))))
def Zam (ds:List D):R D:=(run 4 Zus ds).calm
def Zcu:FS:=
 (Zcn (fAnd (f1 (Zvi "int") (fV 0)) (f1 gNot (f1 (Zvi "bool") (fV 0)))))
def Yh (ds:List D):R D:=(run 1 Zcu ds).calm
def Zbw:FS:=
 (Zpf 1 (f2 Yo (f2 gIx (fV 1) (f1 Xcx (fC (.int 1)))) (fV 2)))
def Zhv:FS:=
  (Xj (Xw 1 (fA Je (Zc (fC (.int 0)) Zw)))
    (Xj (Zfe (Zed (fV 0)) (Zu 2) Zbw)
    (Zcn (fV 1))))
def Jt (ds:List D):R D:=(run 3 Zhv ds).calm
def Zqk:FS:=
  (Xj (Xw 3 (f2 Yo (fV 2) (f2 gIx (fV 1) (fC (.int 1)))))
    (Xj (sIf (cOr (cE (f2 gLt (fV 2) (fC (.int 0)))) (cE (f2 gGe (fV 3) (fA Zbr (Zc (fV 0) Zw))))) (Zcn (fC (.bl false))) sNx)
    (Zcn (f2 gLe (f2 Zgi (f2 gIx (fV 0) (fV 3)) (f2 gIx (fV 0) (fV 2))) (f2 gIx (fV 1) (fC (.int 3)))))))
def Zaq (ds:List D):R D:=(run 4 Zqk ds).calm
def Zlo:FS:=
 (Zcn (fA Je (Zc (Zcb 3 1 (Zed (fV 0)) (Zu 3) Zjc (fA Zew (Zc (fV 3) Zw))) (Zc (fA Zew (Zc (fV 1) Zw)) (Zc (fA Zew (Zc (fV 2) Zw)) Zw)))))
def Yt (ds:List D):R D:=(run 3 Zlo ds).calm
def Xrg:FS:=
  (Xj (Xw 3 (f2 Yo (fV 2) (f2 gIx (fV 1) (fC (.int 1)))))
    (Xj (sIf (cOr (cE (f2 gLt (fV 2) (fC (.int 0)))) (cE (f2 gGt (fV 3) (fA Zbr (Zc (fV 0) Zw))))) (Zcn (fC (.bl false))) sNx)
    (Zcn (f2 gLe (Ye Zcz (Zc (fV 0) (Zc (fV 2) (Zc (fV 3) Zw)))) (f2 gIx (fV 1) (fC (.int 3)))))))
def Zoj (ds:List D):R D:=(run 4 Xrg ds).calm
def Zck:FS:=
  (Xj (sIf (cE (fA gAny (Zc (Zcb 2 1 (Zed (fV 0)) (Zu 2) Zjc (f2 gGt (fA Zbr (Zc (fV 2) Zw)) (fC (.int 40)))) Zw))) Zjz sNx)
    (sIf (cE (f2 gGt (Ye Zev (Zc (fV 1) Zw)) (fC (.int 120)))) Zjz sNx))
def Jv (ds:List D):R D:=(run 2 Zck ds).calm
def Zfu:FS:=
  (sIf (cE (f2 gLt (fV 3) (f2 Zkb (fC (.int 10)) (fC (.int 18))))) (Zpf 5 (f2 Zje (Ye Zam (Zc (fV 3) (Zc (fV 6) Zw))) (f2 gIx (fV 2) (fV 6)))) (sIf (cE (f2 gGt (fV 4) (fC (.int 0)))) (Xj (Zpf 5 (f2 Zje (fV 4) (f2 gIx (fV 2) (fV 6))))
    (Xw 4 (f2 Xql (fV 4) (f2 gIx (fV 2) (fV 6))))) (Xj (Xw 7 (Ye Js (Zc (fV 0) (Zc (f2 Zje (f2 Yo (f2 Yo (fV 1) (fC (.int 1))) (fV 6)) (fC (.int 63))) Zw))))
    (Zpf 5 (f2 Zje (Ye Zam (Zc (fV 7) (Zc (fV 6) Zw))) (f2 gIx (fV 2) (fV 6)))))))
def Zvd:FS:=
  (Xj (Xw 3 (Ye Js (Zc (fV 0) (Zc (fV 1) Zw))))
    (Xj (Xw 4 (f1 Yv (fV 3)))
    (Xj (Xw 5 (fA Je Zw))
    (Xj (Zfe (Zgo (Zc (fA Zbr (Zc (fV 2) Zw)) Zw)) (Zu 6) Zfu)
    (Zcn (fV 5))))))
def Xn (ds:List D):R D:=(run 8 Zvd ds).calm
def Zba:FS:=
  (Xj (Xw 9 (f2 Yo (f2 Zal (fC (.int 3)) (fV 8)) (fC (.int 6))))
    (Xj (Xw 10 (f1 Yv (f2 gIx (fA Je (Zc (fC (.int 1)) (Zc (fC (.int 2)) (Zc (fC (.int 3)) (Zc (fC (.int 4)) (Zc (fC (.int 5)) (Zc (fC (.int 6)) (Zc (fC (.int 2)) (Zc (fC (.int 3)) (Zc (fC (.int 11)) (Zc (fC (.int 40)) (Zc (f2 gIx (fA Je (Zc (fC (.int 150)) (Zc (fC (.int 200)) Zw))) (f2 Zje (fV 8) (fC (.int 2)))) Zw)))))))))))) (f2 gIx (fV 4) (fV 9)))))
    (Xj (Xw 11 (f2 Yo (fC (.int 1)) (f2 gIx (fV 4) (f2 Yo (fV 9) (fC (.int 1))))))
    (Xj (sIf (cE (f2 gEq (f2 gIx (fV 4) (fC (.int 3))) (fC (.int 1)))) (Xw 11 (f2 Yo (f2 Zal (fC (.int 3)) (fV 10)) (f2 Zje (f2 gIx (fV 4) (f2 Yo (fV 9) (fC (.int 1)))) (fC (.int 4))))) sNx)
    (Xj (sIf (cE (f2 gEq (f2 gIx (fV 4) (fC (.int 3))) (fC (.int 2)))) (Xw 11 (f2 Yo (fC (.int 1)) (f2 Zje (f2 gIx (fV 4) (f2 Yo (fV 9) (fC (.int 1)))) (fC (.int 3))))) sNx)
    (Xj (sIf (cE (f2 gEq (f2 gIx (fV 4) (fC (.int 3))) (fC (.int 3)))) (Xw 11 (f1 Yv (fV 10))) sNx)
    (Xj (Xw 12 (fA Xnm (Zc (f2 Zal (f2 gIx (fA Je (Zc (fC (.int 0)) (Zc (fC (.int 0)) (Zc (fC (.int 1)) (Zc (fC (.int 2)) (Zc (fC (.int 3)) (Zc (fC (.int 12)) Zw))))))) (f2 gIx (fV 4) (f2 Yo (fV 9) (fC (.int 2))))) (fV 5)) (Zc (f2 Zgi (f2 Zkb (fC (.int 10)) (fC (.int 18))) (fC (.int 1))) Zw))))
    (Xj (Xw 13 (f1 Yv (f2 gIx (fV 3) (f2 Zje (f2 Yo (f2 gIx (fV 4) (fC (.int 4))) (f2 Zal (f2 Yo (f2 Zal (fC (.int 2)) (f2 gIx (fV 4) (fC (.int 5)))) (fC (.int 1))) (fV 8))) (fC (.int 16))))))
    (Zpf 7 (fA Zfa (Zc (f1 Yv (fV 13)) (Zc (f1 Yv (fV 10)) (Zc (fA Xnm (Zc (f2 Zal (fV 11) (fV 6)) (Zc (f2 Zkb (fC (.int 10)) (fC (.int 18))) Zw))) (Zc (f1 Yv (fV 12)) Zw))))))))))))))
def Znh:FS:=
  (Xj (Xw 3 (fA Je (Zc (fC (.str ("a":Str))) (Zc (fC (.str ("ab":Str))) (Zc (fC (.str ("abc":Str))) (Zc (fC (.str ("b":Str))) (Zc (fC (.str ("ba":Str))) (Zc (fC (.str ("z":Str))) (Zc (fC (.str ("zzzzzzzz":Str))) (Zc (fC (.str ("roll":Str))) (Zc (fC (.str ("cut":Str))) (Zc (fC (.str ("by":Str))) Zw))))))))))))
    (Xj (Xw 3 (f2 Yo (fV 3) (fA Je (Zc (fC (.str ("aab":Str))) (Zc (fC (.str ("zz":Str))) (Zc (fC (.str ("kind":Str))) (Zc (fC (.str ("qsvw":Str))) (Zc (fC (.str ("fghjmp":Str))) (Zc (fC (.str ("x":Str))) Zw)))))))))
    (Xj (Xw 4 (Ye Xn (Zc (fV 0) (Zc (fV 1) (Zc (f2 Yo (fA Je (Zc (f2 Yo (fV 2) (fC (.int 1))) (Zc (fC (.int 4)) (Zc (fC (.int 4)) (Zc (fC (.int 4)) (Zc (fC (.int 16)) (Zc (fC (.int 4)) Zw))))))) (f2 Zal (fA Je (Zc (fC (.int 11)) (Zc (fC (.int 40)) (Zc (fC (.int 6)) Zw)))) (fV 2))) Zw)))))
    (Xj (Xw 5 (f1 Yv (f2 gIx (fA Je (Zc (fC (.int 1)) (Zc (fC (.int 1)) (Zc (fC (.int 7)) (Zc (f2 Zkb (fC (.int 10)) (fC (.int 17))) Zw))))) (f2 gIx (fV 4) (fC (.int 1))))))
    (Xj (Xw 6 (f1 Yv (f2 gIx (fA Je (Zc (fC (.int 1)) (Zc (fC (.int 1)) (Zc (f2 Zkb (fC (.int 10)) (fC (.int 6))) (Zc (f2 Zal (fC (.int 25)) (f2 Zkb (fC (.int 10)) (fC (.int 15)))) Zw))))) (f2 gIx (fV 4) (fC (.int 2))))))
    (Xj (Xw 7 (fA Je Zw))
    (Xj (Zfe (Zgo (Zc (f2 gIx (fV 4) (fC (.int 0))) Zw)) (Zu 8) Zba)
    (Zcn (fV 7)))))))))
def Jd (ds:List D):R D:=(run 14 Znh ds).calm
def Zqi:FS:=
 (Zcn (f1 Yv (f2 gIx (fA Je (Zc (fC (.int 1)) (Zc (fC (.int 1)) (Zc (fC (.int 7)) (Zc (f2 Zkb (fC (.int 10)) (fC (.int 17))) Zw))))) (f2 gIx (Ye Xn (Zc (fV 0) (Zc (fV 1) (Zc (fA Je (Zc (f2 Yo (fV 2) (fC (.int 1))) (Zc (fC (.int 4)) Zw))) Zw)))) (fC (.int 1))))))
def Jq (ds:List D):R D:=(run 3 Zqi ds).calm
def Zex:FS:=
  (Xj (Xw 8 (f2 Yo (f2 Zal (fC (.int 2)) (fV 7)) (fC (.int 3))))
    (Xj (Xw 9 (fC (.int 0)))
    (Xj (sIf (cE (f2 gLt (f2 gIx (fV 4) (fV 8)) (f2 gIx (fA Je (Zc (fC (.int 0)) (Zc (fC (.int 1)) (Zc (fC (.int 3)) (Zc (fC (.int 6)) Zw))))) (f2 gIx (fV 4) (fC (.int 1)))))) (Xw 9 (f1 Yv (f2 gIx (fA Je (Zc (fV 3) (Zc (fV 3) (Zc (f2 Zal (fC (.int 2)) (fV 3)) (Zc (f2 Zal (fC (.int 3)) (fV 3)) (Zc (fV 5) Zw)))))) (f2 gIx (fV 4) (f2 Yo (fV 8) (fC (.int 1))))))) sNx)
    (Zpf 6 (f1 Yv (fV 9))))))
def Zqt:FS:=
  (Xj (Xw 4 (Ye Xn (Zc (fV 0) (Zc (fV 1) (Zc (f2 Yo (fA Je (Zc (f2 Yo (fV 2) (fC (.int 1))) (Zc (fC (.int 4)) (Zc (fC (.int 3)) Zw)))) (f2 Zal (fA Je (Zc (fC (.int 8)) (Zc (fC (.int 5)) Zw))) (fV 2))) Zw)))))
    (Xj (Xw 5 (f2 Zal (fC (.int 9)) (fV 3)))
    (Xj (sIf (cE (f2 gEq (f2 gIx (fV 4) (fC (.int 2))) (fC (.int 0)))) (Xw 5 (f2 Zkb (fC (.int 10)) (fC (.int 18)))) sNx)
    (Xj (Xw 6 (fA Je Zw))
    (Xj (Zfe (Zgo (Zc (f2 gIx (fV 4) (fC (.int 0))) Zw)) (Zu 7) Zex)
    (Zcn (fV 6)))))))
def Jb (ds:List D):R D:=(run 10 Zqt ds).calm
@[simp] theorem ev_fC (d:D)(ρ:Env):fC d ρ=.ok d:=(rfl)
@[simp] theorem ev_f1 (g:D->Option D)(a:FE)(ρ:Env):f1 g a ρ=(a ρ).bind fun x=>oR (g x):=(rfl)
@[simp] theorem ev_f2 (g:D->D->Option D)(a b:FE)(ρ:Env):f2 g a b ρ=(a ρ).bind fun x=>(b ρ).bind fun y=>oR (g x y):=(rfl)
@[simp] theorem ev_aNil (ρ:Env):Zw ρ=.ok []:=(rfl)
@[simp] theorem Xcz (a:FE)(r:FA)(ρ:Env):Zc a r ρ=(a ρ).bind fun x=>(r ρ).bind fun xs=>.ok (x::xs):=(rfl)
@[simp] theorem ev_fA (g:List D->Option D)(a:FA)(ρ:Env):fA g a ρ=(a ρ).bind fun xs=>oR (g xs):=(rfl)
@[simp] theorem Xgr (F:List D->R D)(a:FA)(ρ:Env):Ye F a ρ=(a ρ).bind F:=(rfl)
@[simp] theorem ev_fV0 (d:D)(ρ:Env):fV 0 (some d::ρ)=.ok d:=(rfl)
@[simp] theorem ev_fVs (i:Nat)(o:Option D)(ρ:Env):fV (i+1) (o::ρ)=fV i ρ:=by simp [fV]
@[simp] theorem ev_cE (a:FE)(ρ:Env):cE a ρ=(a ρ).bind fun d=>match d with | .bl b=>.ok b | _=>.bad:=(rfl)
@[simp] theorem Xlh (a:FT)(ρ:Env):Xcq a ρ=(a ρ).bind fun b=>.ok (!b):=(rfl)
@[simp] theorem Xak (a b:FT)(ρ:Env):Xmz a b ρ=(a ρ).bind fun x=>if x then b ρ else .ok false:=(rfl)
@[simp] theorem Xii (a b:FT)(ρ:Env):cOr a b ρ=(a ρ).bind fun x=>if x then .ok true else b ρ:=(rfl)
@[simp] theorem ev_cYes (ρ:Env):Zjc ρ=.ok true:=(rfl)
@[simp] theorem ev_fAnd (a b:FE)(ρ:Env):fAnd a b ρ=(a ρ).bind fun x=>match x with | .bl true=>b ρ | .bl false=>.ok (.bl false) | _=>.bad:=(rfl)
@[simp] theorem ev_fOr (a b:FE)(ρ:Env):fOr a b ρ=(a ρ).bind fun x=>match x with | .bl true=>.ok (.bl true) | .bl false=>b ρ | _=>.bad:=(rfl)
@[simp] theorem Xvd (c:FT)(a b:FE)(ρ:Env):fIf c a b ρ=(c ρ).bind fun x=>if x then a ρ else b ρ:=(rfl)
@[simp] theorem Xwr (g g':D->D->Option D)(a b c:FE)(ρ:Env):Xrs g g' a b c ρ=(a ρ).bind fun x=>(b ρ).bind fun y=>(oR (g x y)).bind fun z=>match z with | .bl true=>(c ρ).bind fun w=>oR (g' y w) | .bl false=>.ok (.bl false) | _=>.bad:=(rfl)
@[simp] theorem Xvf (g:D->Option Int->Option Int->Option D)(a:FE)(l h:FO)(ρ:Env):fSl g a l h ρ=(a ρ).bind fun x=>(l ρ).bind fun lo=>(h ρ).bind fun hi=>oR (g x lo hi):=(rfl)
@[simp] theorem ev_oNone (ρ:Env):Zhi ρ=.ok none:=(rfl)
@[simp] theorem Xhd (a:FE)(ρ:Env):Zef a ρ=(a ρ).bind fun d=>match d with | .int i=>.ok (some i) | _=>.bad:=(rfl)
@[simp] theorem Xgj (a:FE)(ρ:Env):Zed a ρ=(a ρ).bind fun d=>match d with | .lst xs=>if xs.length<=lim then .ok xs else .bad | .scr ns=>if ns.length<=lim then .ok (ns.map D.int) else .bad | _=>.bad:=(rfl)
@[simp] theorem ev_jTup (a:FE)(ρ:Env):jTup a ρ=(a ρ).bind fun d=>match d with | .tup xs=>if xs.length<=lim then .ok xs else .bad | _=>.bad:=(rfl)
@[simp] theorem Xep (a:FA)(ρ:Env):Zgo a ρ=(a ρ).bind fun ds=>match ds with | [.int j]=>if -1000000000<=j/\j<=1000000 then .ok (Zgj 0 j.toNat) else .bad | _=>.bad:=(rfl)
def Zki (ds:List D):R (List D):=match ds with
 | [.int i,.int j]=>if -1000000000<=i/\i<=1000000000/\-1000000000<=j/\j<=1000000000/\(j - i).toNat<=lim then .ok (Zgj i (j - i).toNat) else .bad
 | _=>.bad
@[simp] theorem Xdo (a:FA)(ρ:Env):Zty a ρ=(a ρ).bind Zki:=(rfl)
theorem Zmu (hn:n=(j - i).toNat)(h1:-1000000<=i)(h2:i<=1000000)(h3:-1000000<=j)(h4:j<=1000000)(h5:n<=1000000):Zki [.int i,.int j]=.ok (Zgj i n):=by subst hn;unfold Zki;simp only [];rw [if_pos ⟨by omega,by omega,by omega,by omega,h5⟩]
@[simp] theorem Xew (n k:Nat)(it:FI)(b:FB)(c:FT)(e:FE)(ρ:Env):Zcb n k it b c e ρ=if ρ.length=n then (it ρ).bind fun xs=>(Zbg k b c e ρ xs).calm.bind fun ys=>.ok (.lst ys) else .bad:=(rfl)
@[simp] theorem ev_sNx (ρ:Env):sNx ρ=.ok (.nx ρ):=(rfl)
@[simp] theorem Xuf (ρ:Env):Zjz ρ=.bad:=(rfl)
@[simp] theorem Zpi (a b:FS)(ρ:Env):Xj a b ρ=(a ρ).bind fun fl=>match fl with | .nx ρ'=>b ρ' | fl=>.ok fl:=(rfl)
@[simp] theorem Xmd (i:Nat)(e:FE)(ρ:Env):Xw i e ρ=(e ρ).bind fun d=>.ok (.nx (ρ.set i (some d))):=(rfl)
@[simp] theorem Xlm (e:FE)(ρ:Env):Zcn e ρ=(e ρ).bind fun d=>.ok (.ret d):=(rfl)
@[simp] theorem Xja (c:FT)(a b:FS)(ρ:Env):sIf c a b ρ=(c ρ).bind fun x=>if x then a ρ else b ρ:=(rfl)
@[simp] theorem Xmn (i:Nat)(e:FE)(ρ:Env):Zpf i e ρ=(fV i ρ).bind fun v=>match v with | .lst xs=>(e ρ).bind fun d=>if xs.length<lim then .ok (.nx (ρ.set i (some (.lst (xs++[d]))))) else .bad | _=>.bad:=by unfold Zpf fV;split;rename_i xs e;simp [e];rename_i h;split;rename_i d e;cases d<;>simp;rename_i xs;exact absurd e (h xs);rfl
@[simp] theorem Xws (c:String)(f:FA)(ρ:Env):Xtc c f ρ=(f ρ).bind fun _=>.err c none:=(rfl)
@[simp] theorem ev_sAug (i:Nat)(g:D->D->Option D)(e:FE)(ρ:Env):Xnc i g e ρ=(fV i ρ).bind fun x=>(e ρ).bind fun y=>(oR (g x y)).bind fun z=>.ok (.nx (ρ.set i (some z))):=by unfold Xnc fV;split;rename_i x e;simp;rfl
@[simp] theorem Xpc (it:FI)(b:FB)(s:FS)(ρ:Env):Zfe it b s ρ=(it ρ).bind fun xs=>Zhy b s xs ρ:=(rfl)
@[simp] theorem Xte (n:Nat)(c:FT)(s:FS)(ρ:Env):Xsb n c s ρ=Zru c s n ρ:=(rfl)
@[simp] theorem ev_sAsg (e:FE)(b:FB)(ρ:Env):Xqn e b ρ=(e ρ).bind fun d=>(b d ρ).calm.bind fun ρ'=>.ok (.nx ρ'):=(rfl)
@[simp] theorem ev_bName (i:Nat)(d:D)(ρ:Env):Zu i d ρ=.ok (ρ.set i (some d)):=(rfl)
@[simp] theorem ev_bNil (ρ:Env):Zge [] ρ=.ok ρ:=(rfl)
@[simp] theorem ev_bCons (b:FB)(r:List D->Env->R Env)(d:D)(ds:List D)(ρ:Env):Yf b r (d::ds) ρ=(b d ρ).bind fun ρ'=>r ds ρ':=(rfl)
@[simp] theorem ev_bTup (r:List D->Env->R Env)(ds:List D)(ρ:Env):Zgn r (.tup ds) ρ=r ds ρ:=(rfl)
@[simp] theorem ev_run (N:Nat)(b:FS)(ds:List D):run N b ds=(b (ds.map some++Ab (N - ds.length) none)).bind fun fl=>match fl with | .nx _=>.ok .non | .ret d=>.ok d | _=>.bad:=(rfl)
@[simp] theorem forD_nil (b:FB)(s:FS)(ρ:Env):Zhy b s [] ρ=.ok (.nx ρ):=(rfl)
theorem Zna (b:FB)(s:FS)(x:D)(xs:List D)(ρ:Env):Zhy b s (x::xs) ρ=(b x ρ).calm.bind fun ρ1=>(s ρ1).bind fun fl=>match fl with | .nx ρ2=>Zhy b s xs ρ2 | .cnt ρ2=>Zhy b s xs ρ2 | .brk ρ2=>.ok (.nx ρ2) | .ret d=>.ok (.ret d):=rfl
@[simp] theorem add_ii (i j:Int):Yo (.int i) (.int j)=some (.int (i+j)):=rfl
@[simp] theorem sub_ii (i j:Int):Zgi (.int i) (.int j)=some (.int (i - j)):=rfl
@[simp] theorem lt_ii (i j:Int):gLt (.int i) (.int j)=some (.bl (decide (i<j))):=rfl
@[simp] theorem le_ii (i j:Int):gLe (.int i) (.int j)=some (.bl (decide (i<=j))):=rfl
@[simp] theorem gt_ii (i j:Int):gGt (.int i) (.int j)=some (.bl (decide (j<i))):=rfl
@[simp] theorem ge_ii (i j:Int):gGe (.int i) (.int j)=some (.bl (decide (j<=i))):=rfl
@[simp] theorem neg_i (i:Int):Xcx (.int i)=some (.int (-i)):=rfl
@[simp] theorem not_b (b:Bool):gNot (.bl b)=some (.bl (!b)):=rfl
@[simp] theorem Zjj (i j:Int):gEq (.int i) (.int j)=some (.bl (decide (i=j))):=show some (D.bl (i==j))=_ from congrArg (fun b=>some (D.bl b)) (by by_cases h:i=j<;>simp [h])
@[simp] theorem eq_bb (i j:Bool):gEq (.bl i) (.bl j)=some (.bl (i==j)):=rfl
@[simp] theorem ne_bb (i j:Bool):gNe (.bl i) (.bl j)=some (.bl (!(i==j))):=rfl
theorem Xij (h:(-(2 ^ 64)<i/\i<2 ^ 64)\/(-(2 ^ 64)<j/\j<2 ^ 64)):Zal (.int i) (.int j)=some (.int (i*j)):=by
 have:(short i||short j)=true:=by simp [short];exact h
 simp [Zal,this]
theorem Zbz (h:0<j):Zje (.int i) (.int j)=some (.int (i % j)):=by simp [Zje,h]
theorem div_ii (h:0<j)(h2:j<2 ^ 200):Xql (.int i) (.int j)=some (.int (i / j)):=by simp only [Xql];rw [if_pos ⟨h,h2⟩]
theorem Znm (h:0<=j)(h2:j<=1000000)(h3:i.natAbs<2 ^ 64):Zkb (.int i) (.int j)=some (.int (i ^ j.toNat)):=by simp only [Zkb];rw [if_pos ⟨h,h2,h3⟩]
@[simp] theorem pow10_6:Zkb (.int 10) (.int 6)=some (.int 1000000):=by rw [Znm (by omega) (by omega) (by decide)];rfl
@[simp] theorem Xgc:Zkb (.int 10) (.int 15)=some (.int 1000000000000000):=by rw [Znm (by omega) (by omega) (by decide)];rfl
@[simp] theorem Zsh:Zkb (.int 10) (.int 17)=some (.int 100000000000000000):=by rw [Znm (by omega) (by omega) (by decide)];rfl
@[simp] theorem Zhf:Zkb (.int 10) (.int 18)=some (.int 1000000000000000000):=by rw [Znm (by omega) (by omega) (by decide)];rfl
@[simp] theorem flat_i (i:Int):flat (.int i)=true:=rfl
@[simp] theorem flat_b (i:Bool):flat (.bl i)=true:=rfl
@[simp] theorem flat_s (i:Str):flat (.str i)=true:=rfl
@[simp] theorem flat_n:flat .non=true:=rfl
@[simp] theorem flat_t (xs:List D):flat (.tup xs)=Zx xs:=rfl
@[simp] theorem flatA_n:Zx []=true:=rfl
@[simp] theorem flatA_c (x:D)(xs:List D):Zx (x::xs)=(flat x&&Zx xs):=rfl
theorem Zhz {α:Type}{f:α->D}(h:∀a,flat (f a)=true):∀xs:List α,Zx (xs.map f)=true
 | []=>rfl
 | x::xs=>by simp [h x,Zhz h xs]
@[simp] theorem Zfj (ns:List Int):Zx (ns.map D.int)=true:=Zhz (fun _=>rfl) ns
@[simp] theorem gFlat_i (i:Int):Yv (.int i)=some (.int i):=rfl
@[simp] theorem gFlat_b (i:Bool):Yv (.bl i)=some (.bl i):=rfl
@[simp] theorem gFlat_s (i:Str):Yv (.str i)=some (.str i):=rfl
@[simp] theorem gFlat_n:Yv .non=some .non:=rfl
@[simp] theorem ints_map (ns:List Int):intsOf (ns.map D.int)=some ns:=by
 induction ns with
 | nil=>rfl
 | cons n ns ih=>simp [intsOf,ih]
@[simp] theorem len_l (xs:List D):Zbr [.lst xs]=some (.int xs.length):=(rfl)
@[simp] theorem len_t (xs:List D):Zbr [.tup xs]=some (.int xs.length):=(rfl)
@[simp] theorem len_scr (xs:List Int):Zbr [.scr xs]=some (.int xs.length):=(rfl)
@[simp] theorem sum_ints (ns:List Int):Xqp [.lst (ns.map D.int)]=some (.int ns.sum):=by simp [Xqp]
@[simp] theorem Xjj (i j:Int):Xnm [.int i,.int j]=some (.int (min i j)):=by simp only [Xnm];congr 2;by_cases h:j<i;rw [if_pos h];omega;rw [if_neg h];omega
@[simp] theorem isI_i (c:String)(i:Int):Zvi c (.int i)=some (.bl (c=="int")):=rfl
@[simp] theorem isI_b (c:String)(i:Bool):Zvi c (.bl i)=some (.bl (c=="bool"||c=="int")):=rfl
@[simp] theorem isI_l (c:String)(i:List D):Zvi c (.lst i)=some (.bl (c=="list")):=rfl
@[simp] theorem isI_t (c:String)(i:List D):Zvi c (.tup i)=some (.bl (c=="tuple")):=rfl
@[simp] theorem isI_s (c:String)(i:Str):Zvi c (.str i)=some (.bl (c=="str")):=rfl
@[simp] theorem isI_n (c:String):Zvi c .non=some (.bl false):=rfl
theorem Zqc {xs:List α}{x:α}(e:i=(k:Int))(h:xs[k]?=some x):atD xs i=some x:=by subst e;have hk:=(Ag.mp h).1;unfold atD ixD;rw [if_pos (by omega),if_pos (by omega)];simpa using h
theorem Xdt (xs:List α)(x:α):atD (xs++[x]) (-1)=some x:=by
 unfold atD ixD;rw [if_neg (by omega),if_pos (by simp;omega)];simp only [Option.bind_some];have:(-1+(((xs++[x]).length:Nat):Int)).toNat=xs.length:=by simp;omega
 rw [this];simp
theorem Xqj (e:i=(k:Int))(h:xs[k]?=some x):gIx (.lst xs) (.int i)=some x:=Zqc e h
theorem ix_t (e:i=(k:Int))(h:xs[k]?=some x):gIx (.tup xs) (.int i)=some x:=Zqc e h
@[simp] theorem ixL_l (xs:List D)(y:D):gIxL (.lst xs) y=gIx (.lst xs) y:=(rfl)
@[simp] theorem listV_l (xs:List D):Xvz [.lst xs]=some (.lst xs):=(rfl)
@[simp] theorem Xns (xs:List D)(x:D):gIx (.lst (xs++[x])) (.int (-1))=some x:=Xdt xs x
theorem Zcf (e:i=(k:Int))(h:k<ns.length):gIx (.lst (ns.map D.int)) (.int i)=some (.int (ns.getD k 0)):=Xqj e (by simp [h,Cz])
theorem Xka (f:α->β)(xs:List α)(lo hi:Option Int):cut (xs.map f) lo hi=(cut xs lo hi).map f:=by unfold cut;rw [Am,GO,Hy]
theorem Xrh {xs:List α}{a b:Int}(h0:0<=a)(h1:a<=b)(h2:b<=xs.length):cut xs (some a) (some b)=(xs.drop a.toNat).take (b.toNat - a.toNat):=by unfold cut Zpn;simp only [];rw [if_neg (by omega),if_neg (by omega),E5 (by omega),E5 (by omega)]
theorem Xik {xs:List α}{b:Int}(h0:0<=b):cut xs none (some b)=xs.take b.toNat:=by unfold cut Zpn;simp only [];rw [if_neg (by omega),Fc,K7];by_cases h:b.toNat<=xs.length;rw [E5 h];rw [J6 (by omega),B5 (Ax _),B5 (by omega)]
theorem Xhi {xs:List α}{a:Int}(h0:0<=a):cut xs (some a) none=xs.drop a.toNat:=by unfold cut Zpn;simp only [];rw [if_neg (by omega)];by_cases h:a.toNat<=xs.length;rw [E5 h,B5 (by simp)];rw [J6 (by omega),EU (Ax _),EU (by omega)];simp
@[simp] theorem sl_ints (ns:List Int)(lo hi:Option Int):gSl (.lst (ns.map D.int)) lo hi=some (.lst ((cut ns lo hi).map D.int)):=by simp [gSl,Xka]
@[simp] theorem sl_scr (ns:List Int)(lo hi:Option Int):gSl (.scr ns) lo hi=some (.lst ((cut ns lo hi).map D.int)):=(rfl)
@[simp] theorem gLst_0:Je []=some (.lst []):=rfl
@[simp] theorem gLst_1 (a:D):Je [a]=some (.lst [a]):=rfl
@[simp] theorem gLst_2 (a b:D):Je [a,b]=some (.lst [a,b]):=rfl
@[simp] theorem gLst_3 (a b c:D):Je [a,b,c]=some (.lst [a,b,c]):=rfl
@[simp] theorem gLst_4 (a0 a1 a2 a3:D):Je [a0,a1,a2,a3]=some (.lst [a0,a1,a2,a3]):=rfl
@[simp] theorem gLst_5 (a0 a1 a2 a3 a4:D):Je [a0,a1,a2,a3,a4]=some (.lst [a0,a1,a2,a3,a4]):=rfl
@[simp] theorem gLst_6 (a0 a1 a2 a3 a4 a5:D):Je [a0,a1,a2,a3,a4,a5]=some (.lst [a0,a1,a2,a3,a4,a5]):=rfl
@[simp] theorem gLst_10 (a0 a1 a2 a3 a4 a5 a6 a7 a8 a9:D):Je [a0,a1,a2,a3,a4,a5,a6,a7,a8,a9]=some (.lst [a0,a1,a2,a3,a4,a5,a6,a7,a8,a9]):=rfl
@[simp] theorem gLst_11 (a0 a1 a2 a3 a4 a5 a6 a7 a8 a9 a10:D):Je [a0,a1,a2,a3,a4,a5,a6,a7,a8,a9,a10]=some (.lst [a0,a1,a2,a3,a4,a5,a6,a7,a8,a9,a10]):=rfl
@[simp] theorem gTup_2 (a b:D):Zfa [a,b]=some (.tup [a,b]):=rfl
@[simp] theorem gTup_3 (a b c:D):Zfa [a,b,c]=some (.tup [a,b,c]):=rfl
@[simp] theorem gTup_4 (a b c d:D):Zfa [a,b,c,d]=some (.tup [a,b,c,d]):=rfl
@[simp] theorem Zcl (a:α)(f:α->R β):((R.ok a).calm).bind f=f a:=(rfl)
theorem Zep {P:Nat->Env->Prop}(h0:P 0 ρ)
  (hs:∀i x ρ,xs[i]?=some x->P i ρ->∃ρ1,b x ρ=.ok ρ1/\((∃ρ2,(s ρ1=.ok (.nx ρ2)\/s ρ1=.ok (.cnt ρ2))/\P (i+1) ρ2)\/(∃d,s ρ1=.ok (.ret d)/\Rr (.ok (.ret d)))\/∃ρ2,s ρ1=.ok (.brk ρ2)/\Rr (.ok (.nx ρ2))))
  (hd:∀ρ,P xs.length ρ->Rr (.ok (.nx ρ))):Rr (Zhy b s xs ρ):=by
 have key:∀n i ρ,n+i=xs.length->P i ρ->Rr (Zhy b s (xs.drop i) ρ):=by
  intro n
  induction n with
  | zero =>
   intro i ρ hn p;rw [EU (by omega)];have e:i=xs.length:=by omega
   subst e;exact hd ρ p
  | succ n ih =>
   intro i ρ hn p;have hi:i<xs.length:=by omega
   rw [AY hi,Zna];obtain ⟨ρ1,e1,h⟩:=hs i xs[i] ρ (Ad hi) p;rw [e1,Zcl];rcases h with ⟨ρ2,e2 | e2,p2⟩ | ⟨d,e2,p2⟩ | ⟨ρ2,e2,p2⟩;rw [e2];exact ih (i+1) ρ2 (by omega) p2;rw [e2];exact ih (i+1) ρ2 (by omega) p2;rw [e2];exact p2;rw [e2];exact p2
 have:=key xs.length 0 ρ (by omega) h0;simpa using this
theorem Xoh (st:Nat->Env)(h0:st 0=ρ)(hs:∀i x,xs[i]?=some x->∃ρ1,b x (st i)=.ok ρ1/\s ρ1=.ok (.nx (st (i+1)))):Zhy b s xs ρ=.ok (.nx (st xs.length)):=by refine Zep (P:=fun i ρ=>ρ=st i) (Rr:=fun r=>r=.ok (.nx (st xs.length))) h0.symm (fun i x ρ hx e=>?_) (fun ρ e=>by rw [e]);subst e;obtain ⟨ρ1,e1,e2⟩:=hs i x hx;exact ⟨ρ1,e1,.inl ⟨_,.inl e2,rfl⟩⟩
theorem Xdf {i:Nat}(h:i<n):(Zgj lo n)[i]?=some (.int (lo+i)):=by simp [Zgj,h]
theorem Zot {i:Nat}(h:(Zgj lo n)[i]?=some x):i<n/\x=.int (lo+i):=by
 have hi:=(Ag.mp h).1;have hn:i<n:=by simpa [Zgj] using hi
 rw [Xdf hn] at h;exact ⟨hn,(AU h).symm⟩
@[simp] theorem Zbt (lo:Int)(n:Nat):(Zgj lo n).length=n:=by simp [Zgj]
theorem Zzn {enc:α->D}{ρ1:α->Env}{p:α->Bool}{v:α->D}{xs:List α}(h:∀x∈xs,b (enc x) (ρ++Ab k none)=.ok (ρ1 x)/\c (ρ1 x)=.ok (p x)/\(p x=true->e (ρ1 x)=.ok (v x))):Zbg k b c e ρ (xs.map enc)=.ok ((xs.filter p).map v):=by
 induction xs with
 | nil=>rfl
 | cons x xs ih =>
  obtain ⟨h0,h1,h2⟩:=h x (.head _);have ih:=ih fun y hy=>h y (.tail _ hy);rw [Bn];unfold Zbg;rw [h0,Zcl,h1];cases hp:p x with
  | false=>simp [ih,hp]
  | true=>simp [ih,hp,h2 hp]
theorem comp1 {enc:α->D}{p:α->Bool}{v:α->D}{xs:List α}(hn:ρ.length=n)(h:∀x∈xs,c (ρ++[some (enc x)])=.ok (p x)/\(p x=true->e (ρ++[some (enc x)])=.ok (v x))):Zbg 1 (Zu n) c e ρ (xs.map enc)=.ok ((xs.filter p).map v):=
  Zzn (ρ1:=fun x=>ρ++[some (enc x)]) fun x hx=>⟨by
    show R.ok ((ρ++[none]).set n (some (enc x)))=_;rw [<- hn,CF _ _ (Ax _),Ek];rfl,h x hx⟩
theorem Xah {enc:α->D}{v:α->D}{xs:List α}(hn:ρ.length=n)(h:∀x∈xs,e (ρ++[some (enc x)])=.ok (v x)):Zbg 1 (Zu n) Zjc e ρ (xs.map enc)=.ok (xs.map v):=by have:=comp1 (p:=fun _=>true) (c:=Zjc) hn (xs:=xs) (enc:=enc) (e:=e) (v:=v) fun x hx=>⟨rfl,fun _=>h x hx⟩;rw [this,Il.mpr fun _ _=>rfl]
theorem comp2 {f g:α->D}{p:α->Bool}{v:α->D}{xs:List α}(hn:ρ.length=n)(h:∀x∈xs,c (ρ++[some (f x),some (g x)])=.ok (p x)/\(p x=true->e (ρ++[some (f x),some (g x)])=.ok (v x))) :
    Zbg 2 (Zgn (Yf (Zu n) (Yf (Zu (n+1)) Zge))) c e ρ (xs.map fun x=>.tup [f x,g x])=.ok ((xs.filter p).map v):=
  Zzn (enc:=fun x=>D.tup [f x,g x]) (ρ1:=fun x=>ρ++[some (f x),some (g x)]) fun x hx=>⟨by
    show R.ok (((ρ++[none,none]).set n (some (f x))).set (n+1) (some (g x)))=_;rw [<- hn,CF _ _ (Ax _),Ek,CF _ _ (by omega)];simp,h x hx⟩
theorem Xuh {f g:α->D}{v:α->D}{xs:List α}(hn:ρ.length=n)(h:∀x∈xs,e (ρ++[some (f x),some (g x)])=.ok (v x)) :
  Zbg 2 (Zgn (Yf (Zu n) (Yf (Zu (n+1)) Zge))) Zjc e ρ (xs.map fun x=>.tup [f x,g x])=.ok (xs.map v):=by
 have:=comp2 (p:=fun _=>true) (c:=Zjc) hn (xs:=xs) (f:=f) (g:=g) (e:=e) (v:=v) fun x hx=>⟨rfl,fun _=>h x hx⟩;rw [this,Il.mpr fun _ _=>rfl]
theorem Zy {i:Nat}(h:e ρ=.ok d):Xw i e ρ=.ok (.nx (ρ.set i (some d))):=by rw [Xmd,h];rfl
theorem Zo {a b:FS}(h:a ρ=.ok (.nx ρ'))(h2:b ρ'=r):Xj a b ρ=r:=by rw [Zpi,h];exact h2
theorem Zez {g:D->Option D}(ha:a ρ=.ok x)(h:g x=some z):f1 g a ρ=.ok z:=by rw [ev_f1,ha];show oR (g x)=_;rw [h];rfl
theorem Zm {g:D->D->Option D}{b:FE}{y:D}(ha:a ρ=.ok x)(hb:b ρ=.ok y)(h:g x y=some z):f2 g a b ρ=.ok z:=by rw [ev_f2,ha,hb];show oR (g x y)=_;rw [h];rfl
theorem Jl {g:List D->Option D}{a:FA}(ha:a ρ=.ok xs)(h:g xs=some z):fA g a ρ=.ok z:=by rw [ev_fA,ha];show oR (g xs)=_;rw [h];rfl
theorem Zd {r:FA}(ha:a ρ=.ok x)(hr:r ρ=.ok xs):Zc a r ρ=.ok (x::xs):=by rw [Xcz,ha,hr];rfl
theorem Xo {a:FA}(ha:a ρ=.ok xs)(h:F xs=.ok d):Ye F a ρ=.ok d:=by rw [Xgr,ha];exact h
theorem Yp {b:Bool}(h:a ρ=.ok (.bl b)):cE a ρ=.ok b:=by rw [ev_cE,h];rfl
theorem Zad {a b:FS}(hc:c ρ=.ok true)(h:a ρ=r):sIf c a b ρ=r:=by rw [Xja,hc];exact h
theorem Ym {a b:FS}(hc:c ρ=.ok false)(h:b ρ=r):sIf c a b ρ=r:=by rw [Xja,hc];exact h
theorem Zmq {i:Nat}(hv:fV i ρ=.ok (.lst xs))(h:e ρ=.ok d)(hl:xs.length<lim):Zpf i e ρ=.ok (.nx (ρ.set i (some (.lst (xs++[d]))))):=by rw [Xmn,hv,h];exact if_pos hl
theorem Zaj (h:e ρ=.ok d):Zcn e ρ=.ok (.ret d):=by rw [Xlm,h];rfl
theorem Zuw {a:FA}(h:a ρ=.ok [.int j])(h1:-1000000000<=j/\j<=1000000):Zgo a ρ=.ok (Zgj 0 j.toNat):=by rw [Xep,h];exact if_pos h1
theorem Zbh (h:it ρ=.ok xs)(h2:Zhy b s xs ρ=r):Zfe it b s ρ=r:=by rw [Xpc,h];exact h2
theorem Jp {q:FS}(h:q (ds.map some++Ab (N - ds.length) none)=.ok (.ret d)):(run N q ds).calm=.ok d:=by unfold run;rw [h];rfl
theorem Zqm {a b:Int}(h0:0<=a)(h1:a<=1000000):Zal (.int a) (.int b)=some (.int (a*b)):=Xij (.inl ⟨by omega,by omega⟩)
theorem Zmh {a b:FS}(h:a ρ=.ok (.ret d)):Xj a b ρ=.ok (.ret d):=by rw [Zpi,h];rfl
theorem mulR {a b:Int}(h0:0<=b)(h1:b<=1000000):Zal (.int a) (.int b)=some (.int (a*b)):=Xij (.inr ⟨by omega,by omega⟩)
theorem Zdr (h:a ρ=.ok (.lst xs))(hl:xs.length<=lim):Zed a ρ=.ok xs:=by rw [Xgj,h];exact if_pos hl
theorem r_aug {i:Nat}{g:D->D->Option D}{v:D}(hv:fV i ρ=.ok v)(he:e ρ=.ok d)(h:g v d=some z):Xnc i g e ρ=.ok (.nx (ρ.set i (some z))):=by simp [hv,he,h]
theorem Zxd {a b:FT}{r:R Bool}(h:a ρ=.ok true)(h2:b ρ=r):Xmz a b ρ=r:=by rw [Xak,h];exact h2
theorem Xoi {a b:FT}(h:a ρ=.ok false):Xmz a b ρ=.ok false:=by rw [Xak,h];rfl
theorem Zrs [Decidable p](h:p):some (D.bl (decide p))=some (D.bl true):=congrArg (fun b=>some (D.bl b)) (decide_eq_true h)
theorem Zmb [Decidable p](h:¬p):some (D.bl (decide p))=some (D.bl false):=congrArg (fun b=>some (D.bl b)) (decide_eq_false h)
theorem Zmt {a:FT}{b:Bool}(h:a ρ=.ok b):Xcq a ρ=.ok (!b):=by rw [Xlh,h];rfl
theorem Zdl {a b:FT}{r:R Bool}(h:a ρ=.ok false)(h2:b ρ=r):cOr a b ρ=r:=by rw [Xii,h];exact h2
theorem r_asg (h:e ρ=.ok d)(hb:b d ρ=.ok ρ'):Xqn e b ρ=.ok (.nx ρ'):=by unfold Xqn;rw [h];show (b d ρ).calm.bind _=_;rw [hb];rfl
theorem r_sl {l h:FO}{lo:Option Int}(ha:a ρ=.ok x)(hl:l ρ=.ok lo)(hh:h ρ=.ok hi)(hg:g x lo hi=some z):fSl g a l h ρ=.ok z:=by rw [Xvf,ha];show (l ρ).bind _=_;rw [hl];show (h ρ).bind _=_;rw [hh];show oR (g x lo hi)=_;rw [hg];rfl
theorem Xjb {a:FA}(h:a ρ=.ok ds)(h1:Zki ds=.ok xs):Zty a ρ=.ok xs:=by rw [Xdo,h];exact h1
theorem Zne {ys:List D}(hn:ρ.length=n)(h:it ρ=.ok xs)(h1:Zbg k b c e ρ xs=.ok ys):Zcb n k it b c e ρ=.ok (.lst ys):=by rw [Xew,if_pos hn,h];show (Zbg k b c e ρ xs).calm.bind _=_;rw [h1];rfl
theorem Zqy {a b:FT}(h:a ρ=.ok true):cOr a b ρ=.ok true:=by rw [Xii,h];rfl
theorem Zwq (h:a ρ=.ok (.int i)):Zef a ρ=.ok (some i):=by rw [Xhd,h];rfl
set_option genInjectivity true in
structure Kd where
 name:Str
 w:Int
 wo:Int
 al:Int
def kD (k:Kd):D:=.tup [.str k.name,.int k.w,.int k.wo,.int k.al]
def iD (ns:List Int):D:=.lst (ns.map D.int)
def tD (ks:List Kd):D:=.lst (ks.map kD)
def pD (p:Int×Str):D:=.tup [.int p.1,.str p.2]
@[simp] theorem flat_kD (k:Kd):flat (kD k)=true:=rfl
@[simp] theorem flat_pD (k:Int×Str):flat (pD k)=true:=rfl
@[simp] theorem gFlat_kD (k:Kd):Yv (kD k)=some (kD k):=rfl
@[simp] theorem gFlat_pD (k:Int×Str):Yv (pD k)=some (pD k):=rfl
@[simp] theorem flatA_kD (ks:List Kd):Zx (ks.map kD)=true:=Zhz (fun _=>rfl) ks
@[simp] theorem kD_0 (k:Kd):gIx (kD k) (.int 0)=some (.str k.name):=ix_t (k:=0) rfl rfl
@[simp] theorem Xjg (k:Kd):gIx (kD k) (.int 1)=some (.int k.w):=ix_t (k:=1) rfl rfl
@[simp] theorem kD_3 (k:Kd):gIx (kD k) (.int 3)=some (.int k.al):=ix_t (k:=3) rfl rfl
def pre (ns:List Int)(i:Nat):Int:=(ns.take i).sum
theorem Xkg (ns:List Int)(a b:Nat)(h:a<=b):((ns.drop a).take (b - a)).sum=pre ns b - pre ns a:=by
 unfold pre;have e:ns.take b=ns.take a++(ns.drop a).take (b - a):=by have:=List.take_add (l:=ns) (i:=a) (j:=b - a);rw [show a+(b - a)=b by omega] at this;exact this
 rw [e,D9];omega
theorem Xdk {i:Nat}{x:Int}(h:ns[i]?=some x):pre ns (i+1)=pre ns i+x:=by unfold pre;rw [FX,h,D9];simp
def good (ns:List Int)(k:Kd)(p:Int):Bool:=decide (0<=p/\p+k.w<=ns.length/\pre ns (p+k.w).toNat - pre ns p.toNat<=k.al)
theorem Zvu {b e:Int}(h0:0<=b)(h1:b<=e)(h2:e<=ns.length):Zcz [iD ns,.int b,.int e]=.ok (.int (pre ns e.toNat - pre ns b.toNat)):=by
 have a1:¬b<0:=by omega
 have a2:¬(ns.length:Int)<e:=by omega
 have a3:¬e<b:=by omega
 simp [-GO,-Hy,Zcz,Zrj,iD,a1,a2,a3,Xrh h0 h1 h2,Xkg _ _ _ (show b.toNat<=e.toNat by omega)]
theorem Xae (ns:List Int)(k:Kd)(p:Int)(hw:1<=k.w):Zoj [iD ns,kD k,.int p]=.ok (.bl (good ns k p)):=by
 have l1:Zbr [iD ns]=some (.int ns.length):=by simp [iD]
 by_cases h0:p<0;have e:good ns k p=false:=decide_eq_false (by omega);rw [e];exact Jp (Zo (Zy (Zm rfl (Zm rfl rfl (Xjg k)) rfl)) (Zmh (Zad (Zqy (Yp (Zm rfl rfl (Zrs h0)))) (Zaj rfl))));by_cases h1:(ns.length:Int)<p+k.w;have e:good ns k p=false:=decide_eq_false (by omega);rw [e];exact Jp (Zo (Zy (Zm rfl (Zm rfl rfl (Xjg k)) rfl)) (Zmh (Zad (Zdl (Yp (Zm rfl rfl (Zmb h0))) (Yp (Zm rfl (Jl (Zd rfl rfl) l1) (Zrs h1)))) (Zaj rfl))));have hs:=Zvu (ns:=ns) (b:=p) (e:=p+k.w) (by omega) (by omega) (by omega);have e:good ns k p=decide (pre ns (p+k.w).toNat - pre ns p.toNat<=k.al):=by unfold good;apply decide_eq_decide.mpr;constructor;exact fun z=>z.2.2;exact fun z=>⟨by omega,by omega,z⟩
 rw [e];exact Jp (Zo (Zy (Zm rfl (Zm rfl rfl (Xjg k)) rfl)) (Zo (Ym (Zdl (Yp (Zm rfl rfl (Zmb h0))) (Yp (Zm rfl (Jl (Zd rfl rfl) l1) (Zmb h1)))) rfl) (Zaj (Zm (Xo (Zd rfl (Zd rfl (Zd rfl rfl))) hs) (Zm rfl rfl (kD_3 k)) rfl))))
def Jn (ns:List Int):List Int:=(AO (ns.length+1)).map (pre ns)
theorem Ztn (ns:List Int):(Jn ns).length=ns.length+1:=by simp [Jn]
theorem Xkm (ns:List Int)(h:k<=ns.length):(Jn ns).getD k 0=pre ns k:=by
 unfold Jn;have h':k<ns.length+1:=by omega
 simp [Cz,h']
theorem Xjy (ns:List Int)(h:ns.length<=1000):Jt [iD ns]=.ok (iD (Jn ns)):=by
  have hl:ns.length<=lim:=by show _<=1000000;omega
  have hf:=Xoh (b:=Zu 2) (s:=Zbw) (xs:=ns.map D.int) (ρ:=[some (iD ns),some (.lst [.int 0]),none])
    (fun i=>[some (iD ns),some (.lst (((AO i).map (pre ns)).map D.int++[.int (pre ns i)])),match i with | 0=>none | i+1=>some (.int (ns.getD i 0))]) rfl (fun i x hx=>by
      rw [Bk] at hx;obtain ⟨y,hy,rfl⟩:=AB.mp hx;have hi:=(Ag.mp hy).1;refine ⟨_,rfl,?_⟩;have hlen:i+1<1000000:=by omega
      simp [-BI,Zbw,hlen,Xdk hy,GF,hy])
  simp only [Am] at hf;simp [Jt,Zhv,iD,hl] at hf ⊢;simp [hf,Jn,GF]
theorem Zyz (ns:List Int)(k:Kd)(p:Int)(hw:1<=k.w):Zaq [iD (Jn ns),kD k,.int p]=.ok (.bl (good ns k p)):=by
 have hsl:=Ztn ns;have l1:Zbr [iD (Jn ns)]=some (.int (Jn ns).length):=by simp [iD]
 by_cases h0:p<0;have e:good ns k p=false:=decide_eq_false (by omega);rw [e];exact Jp (Zo (Zy (Zm rfl (Zm rfl rfl (Xjg k)) rfl)) (Zmh (Zad (Zqy (Yp (Zm rfl rfl (Zrs h0)))) (Zaj rfl))));by_cases h1:((Jn ns).length:Int)<=p+k.w;have e:good ns k p=false:=decide_eq_false (by omega);rw [e];exact Jp (Zo (Zy (Zm rfl (Zm rfl rfl (Xjg k)) rfl)) (Zmh (Zad (Zdl (Yp (Zm rfl rfl (Zmb h0))) (Yp (Zm rfl (Jl (Zd rfl rfl) l1) (Zrs h1)))) (Zaj rfl))));have e:good ns k p=decide (pre ns (p+k.w).toNat - pre ns p.toNat<=k.al):=by unfold good;apply decide_eq_decide.mpr;constructor;exact fun z=>z.2.2;exact fun z=>⟨by omega,by omega,z⟩
 have i1:=Zcf (ns:=Jn ns) (i:=p+k.w) (k:=(p+k.w).toNat) (by omega) (by omega);have i2:=Zcf (ns:=Jn ns) (i:=p) (k:=p.toNat) (by omega) (by omega);rw [Xkm ns (by omega)] at i1 i2;rw [e];exact Jp (Zo (Zy (Zm rfl (Zm rfl rfl (Xjg k)) rfl)) (Zo (Ym (Zdl (Yp (Zm rfl rfl (Zmb h0))) (Yp (Zm rfl (Jl (Zd rfl rfl) l1) (Zmb h1)))) rfl) (Zaj (Zm (Zm (Zm rfl rfl i1) (Zm rfl rfl i2) rfl) (Zm rfl rfl (kD_3 k)) rfl))))
theorem Xgs (i:Int):Yh [.int i]=.ok (.bl true):=by simp [Yh,Zcu]
theorem Zxe (ns:List Int)(hn:ns.length<=63)(h0:0<=i)(h1:i<1000000):∃n:Int,Js [.scr ns,.int i]=.ok (.int n):=by
 have c:(cE (f2 gLt (fV 1) (fA Zbr (Zc (fV 0) Zw)))) [some (.scr ns),some (.int i),none,none]=.ok (decide (i<ns.length)):=Yp (Zm rfl (Jl (Zd rfl rfl) rfl) rfl);by_cases h:i<ns.length;have hi:i.toNat<ns.length:=(Ej h0).mpr h;have e:gIx (.scr ns) (.int i)=some (.int (ns.getD i.toNat 0)):=congrArg (KR D.int) (Zqc (k:=i.toNat) (CP h0).symm (by simp [Cz,hi]));exact ⟨_,Jp (Zmh (Zad (c.trans (congrArg Dl.R.ok (decide_eq_true h))) (Zaj (Zez (Zm rfl rfl e) rfl))))⟩;have key:∃seed:Int,∃o,Zhy (Zu 3) Zea ((ns.take 63).map D.int) [some (.scr ns),some (.int i),some (.int 5),none]=.ok (.nx [some (.scr ns),some (.int i),some (.int seed),o]):=by refine Zep (P:=fun _ ρ=>∃seed:Int,∃o,ρ=[some (.scr ns),some (.int i),some (.int seed),o]) (Rr:=fun r=>∃seed:Int,∃o,r=.ok (.nx [some (.scr ns),some (.int i),some (.int seed),o])) ⟨5,none,rfl⟩ ?_ ?_;rintro j x ρ hx ⟨seed,o,rfl⟩;rw [Bk] at hx;obtain ⟨y,hy,rfl⟩:=AB.mp hx;exact ⟨_,rfl,.inl ⟨_,.inl (Zy (Zm (Zm (Zm (Zm rfl rfl (mulR (by decide) (by decide))) (Zm rfl rfl (Zbz (by decide))) rfl) rfl rfl) rfl (Zbz (by decide)))),_,_,rfl⟩⟩;rintro ρ ⟨seed,o,rfl⟩;exact ⟨seed,o,rfl⟩
 obtain ⟨seed,o,e⟩:=key;have hc:cut ns none (some 63)=ns.take 63:=Xik (by decide);have hl:(Zed (fSl gSl (fV 0) Zhi (Zef (fC (.int 63))))) [some (.scr ns),some (.int i),some (.int 5),none]=.ok ((ns.take 63).map D.int):=by
  have hm:min 63 ns.length<=lim:=by show _<=1000000;omega
  simp [-GO,hc,hm]
 exact ⟨_,Jp (Zo (Ym (c.trans (congrArg Dl.R.ok (decide_eq_false h))) rfl) (Zo (Zy rfl) (Zo (Zbh hl e) (Zaj (Zm (Zm rfl (Zm rfl rfl (Zqm (by decide) (by decide))) rfl) rfl (Zbz (by decide)))))))⟩
theorem Xix (c:Int){k:Int}(h0:0<=k)(h1:k<1000000):∃n:Int,Zam [.int c,.int k]=.ok (.int n):=by have n0:0<=c % 2147483629+1013*k+7919:=G7 (G7 (C9 _ (by decide)) (Fj (by decide) h0)) (by decide);have n1:c % 2147483629+1013*k+7919<2147483629+1013*1000000+7919:=Int.add_lt_add_right (Int.add_lt_add_of_lt_of_le (C2 _ (by decide)) (Ci (En h1) (by decide))) _;have b:(c % 2147483629+1013*k+7919).natAbs<2 ^ 64:=Cc.mp (by rw [Int.natAbs_of_nonneg n0];exact HR n1 (by decide));have e1:=Znm (i:=c % 2147483629+1013*k+7919) (j:=3) (by decide) (by decide) b;exact ⟨_,Jp (Zo (Zy (Zm (Zm (Zm (Zm (Zm rfl rfl (Zbz (by decide))) (Zm rfl rfl (Zqm (by decide) (by decide))) rfl) rfl rfl) rfl e1) rfl (Zbz (by decide)))) (Zo (Zy (Zm (Zm (Zm (Zm rfl rfl (mulR (by decide) (by decide))) (Zm (Zm rfl rfl (Zqm (by decide) (by decide))) rfl (mulR h0 (En h1))) rfl) rfl rfl) rfl (Zbz (by decide)))) (Zaj (Zm rfl rfl (div_ii (by decide) (by decide))))))⟩
structure Row (ms os:List Int):Prop where
 len:os.length=ms.length
 at_:∀k,k<ms.length->0<=os.getD k 0/\os.getD k 0<ms.getD k 0
theorem Row.nil (ms:List Int):Row (ms.take 0) []:=⟨by simp,fun k hk=>by simp at hk⟩
theorem Row.all (h:Row (ms.take ms.length) os):Row ms os:=by rw [JF] at h;exact h
theorem Row.push (h:Row (ms.take k) os)(hk:k<ms.length)(h0:0<=v)(h1:v<ms.getD k 0):Row (ms.take (k+1)) (os++[v]):=by
 have hl:=h.len;rw [B9] at hl;have hm:min k ms.length=k:=by omega
 have hm':min (k+1) ms.length=k+1:=by omega
 refine ⟨by rw [Ai,B9,hm',HN];omega,fun j hj=>?_⟩;rw [B9,hm'] at hj;by_cases e:j=k;subst e;have e1:(os++[v]).getD j 0=v:=by
  have:os.length=j:=by omega
  simp [Cz,<- this]
 have e2:(ms.take (j+1)).getD j 0=ms.getD j 0:=by simp [Cz,Eg]
 rw [e1,e2];exact ⟨h0,h1⟩;have hj':j<k:=by omega
 have q:=h.at_ j (by rw [B9];omega);have e1:(os++[v]).getD j 0=os.getD j 0:=by
  have:j<os.length:=by omega
  simp [Cz,AH this]
 have e2:(ms.take (k+1)).getD j 0=(ms.take k).getD j 0:=by
  have h1:j<k+1:=by omega
  simp [Cz,Eg,hj',h1]
 rw [e1,e2];exact q
theorem Zax {i:Nat}(h:∀w∈ws,P w)(hi:i<ws.length):P (ws.getD i 0):=by
 have e:ws.getD i 0=ws[i]:=by simp [Cz,hi]
 rw [e];exact h _ (CD hi)
theorem Xkj (ns:List Int)(hn:ns.length<=63)(h0:0<=i)(h1:i<1000)(ms:List Int)(hm:ms.length<=2000)(hms:∀m∈ms,0<m/\m<2 ^ 200):∃os,Xn [.scr ns,.int i,iD ms]=.ok (iD os)/\Row ms os:=by
 obtain ⟨c,hc⟩:=Zxe ns hn h0 (show i<1000000 by omega);have key:=Zep (b:=Zu 6) (s:=Zfu) (xs:=Zgj 0 ms.length) (ρ:=[some (.scr ns),some (.int i),some (iD ms),some (.int c),some (.int c),some (.lst []),none,none])
  (P:=fun k ρ=>∃(l:Int) (os:List Int) (o6 o7:Option D),Row (ms.take k) os/\ρ=[some (.scr ns),some (.int i),some (iD ms),some (.int c),some (.int l),some (iD os),o6,o7])
  (Rr:=fun r=>∃(l:Int) (os:List Int) (o6 o7:Option D),Row ms os/\r=.ok (.nx [some (.scr ns),some (.int i),some (iD ms),some (.int c),some (.int l),some (iD os),o6,o7]))
  ⟨c,[],none,none,Row.nil ms,rfl⟩ ?_ ?_
 obtain ⟨l,os,o6,o7,hr,e⟩:=key;refine ⟨os,?_,hr⟩;have b1:-1000000000<=(ms.length:Int)/\(ms.length:Int)<=1000000:=by omega
 have gl:Zbr [iD ms]=some (.int ms.length):=by simp [iD]
 exact Jp (Zo (Zy (Xo (Zd rfl (Zd rfl rfl)) hc)) (Zo (Zy (Zez rfl rfl)) (Zo (Zy rfl) (Zo (Zbh (Zuw (Zd (Jl (Zd rfl rfl) gl) rfl) b1) e) (Zaj rfl)))));rintro k x ρ hx ⟨l,os,o6,o7,hr,rfl⟩;obtain ⟨hk,rfl⟩:=Zot hx;rw [Gc];have hol:os.length=k:=by have:=hr.len;rw [B9] at this;omega
 have hlim:(os.map D.int).length<lim:=by rw [Am];show _<1000000;omega
 have c1:∀o5:Option D,(cE (f2 gLt (fV 3) (f2 Zkb (fC (.int 10)) (fC (.int 18))))) [some (.scr ns),some (.int i),some (iD ms),some (.int c),some (.int l),o5,some (.int k),o7]=.ok (decide (c<1000000000000000000)):=fun _=>Yp (Zm rfl (Zm rfl rfl Zhf) rfl);have ap:∀v:Int,iD (os++[v])=.lst (os.map D.int++[.int v]):=fun v=>congrArg D.lst Bc;have hmk:=Zax hms hk;have ix:=Zcf (ns:=ms) (i:=(k:Int)) (k:=k) rfl hk;have md:∀z:Int,Zje (.int z) (.int (ms.getD k 0))=some (.int (z % ms.getD k 0)):=fun z=>Zbz hmk.1;have nn:∀z:Int,0<=z % ms.getD k 0/\z % ms.getD k 0<ms.getD k 0:=fun z=>⟨C9 _ (K9 hmk.1),C2 _ hmk.1⟩;have k0:0<=(k:Int)/\(k:Int)<1000000:=by omega
 obtain ⟨x1,hx1⟩:=Xix c k0.1 k0.2;obtain ⟨c2,hc2⟩:=Zxe ns hn (i:=(i+1+k) % 63) (C9 _ (by decide)) (HR (C2 _ (by decide)) (by decide));obtain ⟨x2,hx2⟩:=Xix c2 k0.1 k0.2;refine ⟨_,rfl,.inl ?_⟩;by_cases a1:c<1000000000000000000;refine ⟨[some (.scr ns),some (.int i),some (iD ms),some (.int c),some (.int l),some (iD (os++[x1 % ms.getD k 0])),some (.int k),o7],.inl ?_,l,_,_,o7,hr.push hk (nn x1).1 (nn x1).2,rfl⟩;rw [ap];exact Zad ((c1 _).trans (congrArg Dl.R.ok (decide_eq_true a1))) (Zmq rfl (Zm (Xo (Zd rfl (Zd rfl rfl)) hx1) (Zm rfl rfl ix) (md x1)) hlim);by_cases a2:0<l;refine ⟨[some (.scr ns),some (.int i),some (iD ms),some (.int c),some (.int (l / ms.getD k 0)),some (iD (os++[l % ms.getD k 0])),some (.int k),o7],.inl ?_,_,_,_,o7,hr.push hk (nn l).1 (nn l).2,rfl⟩;rw [ap];exact Ym ((c1 _).trans (congrArg Dl.R.ok (decide_eq_false a1))) (Zad (Yp (Zm rfl rfl (congrArg (fun b=>some (D.bl b)) (decide_eq_true a2)))) (Zo (Zmq rfl (Zm rfl (Zm rfl rfl ix) (md l)) hlim) (Zy (Zm rfl (Zm rfl rfl ix) (div_ii hmk.1 hmk.2)))));refine ⟨[some (.scr ns),some (.int i),some (iD ms),some (.int c),some (.int l),some (iD (os++[x2 % ms.getD k 0])),some (.int k),some (.int c2)],.inl ?_,l,_,_,_,hr.push hk (nn x2).1 (nn x2).2,rfl⟩;rw [ap];exact Ym ((c1 _).trans (congrArg Dl.R.ok (decide_eq_false a1))) (Ym (Yp (Zm rfl rfl (congrArg (fun b=>some (D.bl b)) (decide_eq_false a2)))) (Zo (Zy (Xo (Zd rfl (Zd (Zm (Zm (Zm rfl rfl rfl) rfl rfl) rfl (Zbz (by decide))) rfl)) hc2)) (Zmq rfl (Zm (Xo (Zd rfl (Zd rfl rfl)) hx2) (Zm rfl rfl ix) (md x2)) hlim)));rintro ρ ⟨l,os,o6,o7,hr,rfl⟩;rw [Zbt] at hr;exact ⟨l,os,o6,o7,hr.all,rfl⟩
theorem Znj (ns:List Int)(hn:ns.length<=63)(h0:0<=i)(h1:i<1000)(ms:List Int)(hm:ms.length<=1000)(hms:∀m∈ms,0<m/\m<2 ^ 200):∃os,Xn [.scr ns,.int i,iD ms]=.ok (iD os)/\Row ms os:=Xkj ns hn h0 h1 ms (AC hm (by decide)) hms
theorem Zgd (ws:List Int)(h0:0<=i)(h1:i<ws.length):gIx (.lst (ws.map D.int)) (.int i)=some (.int (ws.getD i.toNat 0)):=Zcf (by omega) (by omega)
theorem Zia (l:List Int):∀n:Nat,(Ab n l).flatten.length=n*l.length
 | 0=>by simp
 | n+1=>by rw [Bi,Ba,Ai,Zia l n,HJ,HM]
theorem Xpp (l:List Int)(n:Nat):(Ab n (l.map D.int)).flatten=(Ab n l).flatten.map D.int:=by rw [List.map_flatten,List.map_replicate]
theorem Zln (h0:0<=m)(h1:m<=200)(hl:ws.length<=1000):Zal (.lst (ws.map D.int)) (.int m)=some (iD (Ab m.toNat ws).flatten):=by
  simp only [Zal];rw [if_pos ⟨by omega,by
    rw [Am];show ws.length*m.toNat<=1000000;have:ws.length*m.toNat<=1000*200:=Kx hl (by omega);omega,by omega,Zfj ws⟩,Xpp]
  rfl
theorem Zma {xs:List Int}(h:xs.length+ys.length<=1000000):Yo (iD xs) (iD ys)=some (iD (xs++ys)):=by show (if (xs.map D.int).length+(ys.map D.int).length<=lim/\Zx (xs.map D.int)/\Zx (ys.map D.int) then some (D.lst (xs.map D.int++ys.map D.int)) else none)=_;rw [if_pos ⟨by rw [Am,Am];exact h,Zfj _,Zfj _⟩,<- Bc];rfl
theorem Zrr (x y:Int):∀(n k:Nat),k<n->(Ab n [x,y]).flatten.getD (2*k) 0=x/\(Ab n [x,y]).flatten.getD (2*k+1) 0=y
 | 0,k,h=>by omega
 | n+1,0,_=>by simp [Bi,Ba,Cz]
 | n+1,k+1,h=>by
  have q:=Zrr x y n k (by omega);have e1:2*(k+1)=2*k+2:=by omega
  rw [Bi,Ba,e1];exact q
theorem Ztl (x y z:Int):∀(n k:Nat),k<n->(Ab n [x,y,z]).flatten.getD (3*k) 0=x/\(Ab n [x,y,z]).flatten.getD (3*k+1) 0=y/\(Ab n [x,y,z]).flatten.getD (3*k+2) 0=z
 | 0,k,h=>by omega
 | n+1,0,_=>by simp [Bi,Ba,Cz]
 | n+1,k+1,h=>by
  have q:=Ztl x y z n k (by omega);have e1:3*(k+1)=3*k+3:=by omega
  rw [Bi,Ba,e1];exact q
theorem Xbp {z:Int}(h:z∈(Ab n l).flatten):z∈l:=by
 obtain ⟨l',hl,hz⟩:=List.mem_flatten.mp h
 rwa [(EY.mp hl).2] at hz
def Zbd:List Str:=["a","ab","abc","b","ba","z","zzzzzzzz","roll","cut","by","aab","zz","kind","qsvw","fghjmp","x"]
theorem Xhn:∀j:Nat,j<16->∀k:Nat,k<16->Zbd.getD j ""=Zbd.getD k ""->j=k:=by decide +kernel
def nameAt (s4 s5:Int)(k:Nat):Str:=Zbd.getD ((s4+(2*s5+1)*(k:Int)) % 16).toNat ""
theorem Xgm:∀t:Nat,t<4->∀j:Nat,j<8->∀k:Nat,k<8->((2*(t:Int)+1)*j - (2*(t:Int)+1)*k) % 16=0->j=k:=by decide +kernel
theorem Ztr {s4 s5:Int}(h0:0<=s5)(h1:s5<4){j:Nat}(hj:j<8)(hk:k<8)(e:nameAt s4 s5 j=nameAt s4 s5 k):j=k:=by have lt:∀x:Int,(x % 16).toNat<16:=fun x=>(Ej (C9 x (by decide))).mpr (C2 x (by decide));have q:=congrArg Int.ofNat (Xhn _ (lt _) _ (lt _) e);have q1:(s4+(2*s5+1)*(j:Int)) % 16=(s4+(2*s5+1)*(k:Int)) % 16:=(CP (C9 _ (by decide))).symm.trans (q.trans (CP (C9 _ (by decide))));have q2:=Int.emod_eq_emod_iff_emod_sub_eq_zero.mp q1;rw [Int.add_sub_add_left] at q2;obtain ⟨t,rfl⟩:=EN h0;exact Xgm t (Cc.mp h1) j hj k hk q2
theorem Ztt (s4 s5:Int)(k:Nat):nameAt s4 s5 k∈Zbd:=by
 unfold nameAt;have h:((s4+(2*s5+1)*(k:Int)) % 16).toNat<Zbd.length:=by show _<16;omega
 have e:Zbd.getD ((s4+(2*s5+1)*(k:Int)) % 16).toNat ""=Zbd[((s4+(2*s5+1)*(k:Int)) % 16).toNat]:=by simp [Cz,h]
 rw [e];exact CD h
structure Zte (k:Kd):Prop where
 nm:k.name∈Zbd
 w1:1<=k.w
 w2:k.w<=200
 o1:1<=k.wo
 o2:k.wo<=1000000000000000000
 a1:0<=k.al
 a2:k.al<1000000000000000000
structure Xtm (ks:List Kd):Prop where
 ok:∀k∈ks,Zte k
 nd:(ks.map (·.name)).Nodup
theorem Xlk (h0:0<=i)(h1:i<16):gIx (.lst (Zbd.map D.str)) (.int i)=some (.str (Zbd.getD i.toNat "")):=Xqj (k:=i.toNat) (by omega) (by
  have h:i.toNat<Zbd.length:=by show _<16;omega
  simp [Cz,h])
theorem Zph (h:∀m∈ms,0<m/\m<=1000000):∀m∈ms,0<m/\m<2 ^ 200:=fun m hm=>⟨(h m hm).1,FR (h m hm).2 (by decide)⟩
theorem four {x:Int}(h:0<=x/\x<4):x=0\/x=1\/x=2\/x=3:=by
 obtain ⟨n,rfl⟩:=EN h.1
 match n,Cc.mp h.2 with
 | 0,_=>exact .inl rfl
 | 1,_=>exact .inr (.inl rfl)
 | 2,_=>exact .inr (.inr (.inl rfl))
 | 3,_=>exact .inr (.inr (.inr rfl))
theorem Zsi {x:Int}(hm:0<m):0<=x % m/\x % m<m:=⟨C9 _ (K9 hm),C2 _ hm⟩
theorem Xeq {d0 d1 d2 o9 o10 o11 o12 o13:Option D}{O:D}{gn bw wd am x3 x4 x5 x6 x7 x8:Int}
    (j0:gIx O (.int (3*(k:Int)+6))=some (.int x6)) (j1:gIx O (.int (3*(k:Int)+6+1))=some (.int x7)) (j2:gIx O (.int (3*(k:Int)+6+2))=some (.int x8))
    (j3:gIx O (.int 3)=some (.int x3)) (j4:gIx O (.int 4)=some (.int x4)) (j5:gIx O (.int 5)=some (.int x5))
    (ib:gIx (.lst [.int 150,.int 200]) (.int ((k:Int) % 2))=some (.int bw))
    (iw:gIx (.lst [.int 1,.int 2,.int 3,.int 4,.int 5,.int 6,.int 2,.int 3,.int 11,.int 40,.int bw]) (.int x6)=some (.int wd))
    (ia:gIx (.lst [.int 0,.int 0,.int 1,.int 2,.int 3,.int 12]) (.int x8)=some (.int am))
    (iN:gIx (.lst (Zbd.map D.str)) (.int ((x4+(2*x5+1)*(k:Int)) % 16))=some (.str nm))
    (w1:1<=wd/\wd<=200) (c7:0<=x7/\x7<40) (c3:0<=x3/\x3<4) (c5:0<=x5/\x5<4) (m1:0<=am/\am<=12) (sl:T.length<lim) :
    ∃wo:Int,(1<=wo/\wo<=1000)/\Zba [d0,d1,d2,some (.lst (Zbd.map D.str)),some O,some (.int fl),some (.int gn),some (.lst T),some (.int k),o9,o10,o11,o12,o13] =
      .ok (.nx [d0,d1,d2,some (.lst (Zbd.map D.str)),some O,some (.int fl),some (.int gn),some (.lst (T++[.tup [.str nm,.int wd,.int (min (wo*gn) 1000000000000000000),.int (min (am*fl) 999999999999999999)]])),some (.int k),some (.int (3*(k:Int)+6)),some (.int wd),some (.int wo),some (.int (min (am*fl) 999999999999999999)),some (.str nm)]):=by
  obtain ⟨wo,hb,mid⟩:∃wo:Int,(1<=wo/\wo<=1000)/\∀Q:FS,(Xj (sIf (cE (f2 gEq (f2 gIx (fV 4) (fC (.int 3))) (fC (.int 1)))) (Xw 11 (f2 Yo (f2 Zal (fC (.int 3)) (fV 10)) (f2 Zje (f2 gIx (fV 4) (f2 Yo (fV 9) (fC (.int 1)))) (fC (.int 4))))) sNx)
    (Xj (sIf (cE (f2 gEq (f2 gIx (fV 4) (fC (.int 3))) (fC (.int 2)))) (Xw 11 (f2 Yo (fC (.int 1)) (f2 Zje (f2 gIx (fV 4) (f2 Yo (fV 9) (fC (.int 1)))) (fC (.int 3))))) sNx)
    (Xj (sIf (cE (f2 gEq (f2 gIx (fV 4) (fC (.int 3))) (fC (.int 3)))) (Xw 11 (f1 Yv (fV 10))) sNx) Q))) [d0,d1,d2,some (.lst (Zbd.map D.str)),some O,some (.int fl),some (.int gn),some (.lst T),some (.int k),some (.int (3*(k:Int)+6)),some (.int wd),some (.int (1+x7)),o12,o13] =
      Q [d0,d1,d2,some (.lst (Zbd.map D.str)),some O,some (.int fl),some (.int gn),some (.lst T),some (.int k),some (.int (3*(k:Int)+6)),some (.int wd),some (.int wo),o12,o13]:=by
    rcases four c3 with rfl | rfl | rfl | rfl;exact ⟨1+x7,⟨G6 c7.1,AS (IH (En c7.2) 1) (by decide)⟩,fun Q=>Zo (Ym (Yp (Zm (Zm rfl rfl j3) rfl rfl)) rfl) (Zo (Ym (Yp (Zm (Zm rfl rfl j3) rfl rfl)) rfl) (Zo (Ym (Yp (Zm (Zm rfl rfl j3) rfl rfl)) rfl) rfl))⟩;exact ⟨3*wd+x7 % 4,⟨AS (show (1:Int)<=3*1+0 by decide) (Kz (Ci w1.1 (by decide)) (Zsi (by decide)).1),AS (Kz (Ci w1.2 (by decide)) (En (Zsi (by decide)).2)) (by decide)⟩,fun Q=>Zo (Zad (Yp (Zm (Zm rfl rfl j3) rfl rfl)) (Zy (Zm (Zm rfl rfl (Zqm (by decide) (by decide))) (Zm (Zm rfl (Zm rfl rfl rfl) j1) rfl (Zbz (by decide))) rfl))) (Zo (Ym (Yp (Zm (Zm rfl rfl j3) rfl rfl)) rfl) (Zo (Ym (Yp (Zm (Zm rfl rfl j3) rfl rfl)) rfl) rfl))⟩;exact ⟨1+x7 % 3,⟨G6 (Zsi (by decide)).1,AS (IH (En (Zsi (by decide)).2) 1) (by decide)⟩,fun Q=>Zo (Ym (Yp (Zm (Zm rfl rfl j3) rfl rfl)) rfl) (Zo (Zad (Yp (Zm (Zm rfl rfl j3) rfl rfl)) (Zy (Zm rfl (Zm (Zm rfl (Zm rfl rfl rfl) j1) rfl (Zbz (by decide))) rfl))) (Zo (Ym (Yp (Zm (Zm rfl rfl j3) rfl rfl)) rfl) rfl))⟩;exact ⟨wd,⟨w1.1,AS w1.2 (by decide)⟩,fun Q=>Zo (Ym (Yp (Zm (Zm rfl rfl j3) rfl rfl)) rfl) (Zo (Ym (Yp (Zm (Zm rfl rfl j3) rfl rfl)) rfl) (Zo (Zad (Yp (Zm (Zm rfl rfl j3) rfl rfl)) (Zy (Zez rfl rfl))) rfl))⟩
  exact ⟨wo,hb,Zo (Zy (Zm (Zm rfl rfl (Zqm (by decide) (by decide))) rfl rfl)) (Zo (Zy (Zez (Zm (Jl (Zd rfl (Zd rfl (Zd rfl (Zd rfl (Zd rfl (Zd rfl (Zd rfl (Zd rfl (Zd rfl (Zd rfl (Zd (Zm rfl (Zm rfl rfl (Zbz (by decide))) ib) rfl))))))))))) rfl) (Zm rfl rfl j0) iw) rfl)) (Zo (Zy (Zm rfl (Zm rfl (Zm rfl rfl rfl) j1) rfl)) ((mid _).trans
    (Zo (Zy (Jl (Zd (Zm (Zm rfl (Zm rfl (Zm rfl rfl rfl) j2) ia) rfl (Zqm m1.1 (AS m1.2 (by decide)))) (Zd (Zm (Zm rfl rfl Zhf) rfl (show Zgi (.int 1000000000000000000) (.int 1)=some (.int 999999999999999999) from rfl)) rfl)) (Xjj _ _)))
    (Zo (Zy (Zez (Zm rfl (Zm (Zm (Zm rfl rfl j4) (Zm (Zm (Zm rfl (Zm rfl rfl j5) (Zqm (by decide) (by decide))) rfl rfl) rfl (Zqm (G7 (Fj (by decide) c5.1) (by decide)) (AS (Io (Ci (En c5.2) (by decide)) 1) (by decide)))) rfl) rfl (Zbz (by decide))) iN) rfl))
    (Zmq rfl (Jl (Zd (Zez rfl rfl) (Zd (Zez rfl rfl) (Zd (Jl (Zd (Zm rfl rfl (Zqm (AS (by decide) hb.1) (AS hb.2 (by decide)))) (Zd (Zm rfl rfl Zhf) rfl)) (Xjj _ _)) (Zd (Zez rfl rfl) rfl)))) rfl) sl))))))⟩
theorem under {x:Int}(h:k<x.toNat)(hx:x<m+1):k<m.toNat:=by omega
theorem Xhc {b:Int}(h:∀z∈l,P z)(hb:P b):∀z∈l++[b],P z:=ET.mpr ⟨h,fun _ hz=>Ao.mp hz▸hb⟩
theorem Xwp {j m:Nat}(h:k<m)(hj:j<3):3*k+(j+6)<6+m*3:=by omega
theorem Xdl (ns:List Int)(hn:ns.length<=63)(h0:0<=i)(h1:i<1000)(m0:0<=m)(m1:m<=8):∃ks,Jd [.scr ns,.int i,.int m]=.ok (tD ks)/\(ks.length:Int)<=m/\Xtm ks:=by
  have m8:m.toNat<=8:=K8.mpr m1;have m24:6+m.toNat*3<=30:=Nat.add_le_add_left (Nat.mul_le_mul_right 3 m8) 6;have ms_eq:Yo (iD [m+1,4,4,4,16,4]) (iD (Ab m.toNat [11,40,6]).flatten)=some (iD ([m+1,4,4,4,16,4]++(Ab m.toNat [11,40,6]).flatten)):=Zma (by
    rw [Zia];exact AC m24 (by decide))
  have mr:=Zln (ws:=[11,40,6]) m0 (AS m1 (by decide)) (by decide);have hml:([m+1,4,4,4,16,4]++(Ab m.toNat [(11:Int),40,6]).flatten).length=6+m.toNat*3:=by rw [Ai,Zia];rfl
  obtain ⟨os,hos,R⟩:=Znj ns hn h0 h1 ([m+1,4,4,4,16,4]++(Ab m.toNat [11,40,6]).flatten) (by rw [hml];exact AC m24 (by decide)) (Zph (ET.mpr ⟨A8.mpr ⟨⟨Int.lt_add_one_of_le m0,AS (Io m1 1) (by decide)⟩,by decide⟩,fun z hz=>(by decide:∀z∈[(11:Int),40,6],0<z/\z<=1000000) z (Xbp hz)⟩));have hol:os.length=6+m.toNat*3:=by rw [R.len,hml]
  have hlt:∀{j:Nat},j<6->j<([m+1,4,4,4,16,4]++(Ab m.toNat [(11:Int),40,6]).flatten).length:=fun h=>by rw [hml];exact AF h (CB _ _)
  have hlo:∀{j:Nat},j<6->j<os.length:=fun h=>by rw [hol];exact AF h (CB _ _)
  have tri:∀k j:Nat,k<m.toNat->j<3->3*k+(j+6)<6+m.toNat*3:=fun _ _ h hj=>Xwp h hj;have a0:0<=os.getD 0 0/\os.getD 0 0<m+1:=R.at_ 0 (hlt (by decide));have a1:0<=os.getD 1 0/\os.getD 1 0<4:=R.at_ 1 (hlt (by decide));have a2:0<=os.getD 2 0/\os.getD 2 0<4:=R.at_ 2 (hlt (by decide));have a3:0<=os.getD 3 0/\os.getD 3 0<4:=R.at_ 3 (hlt (by decide));have a4:0<=os.getD 4 0/\os.getD 4 0<16:=R.at_ 4 (hlt (by decide));have a5:0<=os.getD 5 0/\os.getD 5 0<4:=R.at_ 5 (hlt (by decide));have b3:∀k:Nat,k<m.toNat->(0<=os.getD (3*k+6) 0/\os.getD (3*k+6) 0<11)/\(0<=os.getD (3*k+7) 0/\os.getD (3*k+7) 0<40)/\(0<=os.getD (3*k+8) 0/\os.getD (3*k+8) 0<6):=fun k hk=>by obtain ⟨g1,g2,g3⟩:=Ztl 11 40 6 m.toNat k hk;have e:∀j:Nat,([m+1,4,4,4,16,4]++(Ab m.toNat [(11:Int),40,6]).flatten).getD (j+6) 0=(Ab m.toNat [(11:Int),40,6]).flatten.getD j 0:=fun j=>rfl;have r1:=R.at_ (3*k+6) (by rw [hml];exact tri k 0 hk (by decide));have r2:=R.at_ (3*k+7) (by rw [hml];exact tri k 1 hk (by decide));have r3:=R.at_ (3*k+8) (by rw [hml];exact tri k 2 hk (by decide));rw [e (3*k),g1] at r1;rw [show 3*k+7=(3*k+1)+6 from rfl,e (3*k+1),g2] at r2;rw [show 3*k+8=(3*k+2)+6 from rfl,e (3*k+2),g3] at r3;exact ⟨r1,r2,r3⟩
  have ix:∀k:Nat,k<os.length->∀j:Int,j=(k:Int)->gIx (.lst (os.map D.int)) (.int j)=some (.int (os.getD k 0)):=fun k hk j e=>Zcf e hk;obtain ⟨fl,hfl⟩:∃fl,fl=([1,1,7,100000000000000000]:List Int).getD (os.getD 1 0).toNat 0:=⟨_,rfl⟩;obtain ⟨gn,hgn⟩:∃gn,gn=([1,1,1000000,25000000000000000]:List Int).getD (os.getD 2 0).toNat 0:=⟨_,rfl⟩;have fl1:1<=fl/\fl<=100000000000000000:=by rw [hfl];exact Zax (P:=fun z=>1<=z/\z<=100000000000000000) (by decide) (show _<4 from (Ej a1.1).mpr a1.2)
  have gn1:1<=gn/\gn<=25000000000000000:=by rw [hgn];exact Zax (P:=fun z=>1<=z/\z<=25000000000000000) (by decide) (show _<4 from (Ej a2.1).mpr a2.2)
  have i1:gIx (.lst [.int 1,.int 1,.int 7,.int 100000000000000000]) (.int (os.getD 1 0))=some (.int fl):=by rw [hfl];exact Zgd [1,1,7,100000000000000000] a1.1 a1.2
  have i2:gIx (.lst [.int 1,.int 1,.int 1000000,.int 25000000000000000]) (.int (os.getD 2 0))=some (.int gn):=by rw [hgn];exact Zgd [1,1,1000000,25000000000000000] a2.1 a2.2
  have key:=Zep (b:=Zu 8) (s:=Zba) (xs:=Zgj 0 (os.getD 0 0).toNat) (ρ:=[some (.scr ns),some (.int i),some (.int m),some (.lst (Zbd.map D.str)),some (iD os),some (.int fl),some (.int gn),some (.lst []),none,none,none,none,none,none])
    (P:=fun k ρ=>∃(ks:List Kd) (o8 o9 o10 o11 o12 o13:Option D),ks.length=k/\(∀x∈ks,Zte x)/\ks.map (·.name)=(AO k).map (nameAt (os.getD 4 0) (os.getD 5 0))/\ρ=[some (.scr ns),some (.int i),some (.int m),some (.lst (Zbd.map D.str)),some (iD os),some (.int fl),some (.int gn),some (tD ks),o8,o9,o10,o11,o12,o13])
    (Rr:=fun r=>∃(ks:List Kd) (o8 o9 o10 o11 o12 o13:Option D),ks.length=(os.getD 0 0).toNat/\(∀x∈ks,Zte x)/\ks.map (·.name)=(AO ks.length).map (nameAt (os.getD 4 0) (os.getD 5 0))/\r=.ok (.nx [some (.scr ns),some (.int i),some (.int m),some (.lst (Zbd.map D.str)),some (iD os),some (.int fl),some (.int gn),some (tD ks),o8,o9,o10,o11,o12,o13]))
    ⟨[],none,none,none,none,none,none,rfl,(fun _ h=>nomatch h),rfl,rfl⟩ ?_ ?_
  · obtain ⟨ks,o8,o9,o10,o11,o12,o13,kl,kok,knm,e⟩:=key;have k8:ks.length<=8:=by rw [kl];exact K8.mpr (AS (FU.mp a0.2) m1)
    refine ⟨ks,?_,by rw [kl,CP a0.1];exact FU.mp a0.2,kok,?_⟩
    · have b1:-1000000000<=os.getD 0 0/\os.getD 0 0<=1000000:=⟨AS (by decide) a0.1,AS (FU.mp a0.2) (AS m1 (by decide))⟩;have hp:Yo (.lst [.str ("a":Str),.str ("ab":Str),.str ("abc":Str),.str ("b":Str),.str ("ba":Str),.str ("z":Str),.str ("zzzzzzzz":Str),.str ("roll":Str),.str ("cut":Str),.str ("by":Str)]) (.lst [.str ("aab":Str),.str ("zz":Str),.str ("kind":Str),.str ("qsvw":Str),.str ("fghjmp":Str),.str ("x":Str)])=some (.lst (Zbd.map D.str)):=rfl;have mr':Zal (.lst [.int 11,.int 40,.int 6]) (.int m)=_:=mr;have ms':Yo (.lst [.int (m+1),.int 4,.int 4,.int 4,.int 16,.int 4]) (iD (Ab m.toNat [11,40,6]).flatten)=_:=ms_eq;generalize iD ([m+1,4,4,4,16,4]++(Ab m.toNat [11,40,6]).flatten)=Mv at hos ms';generalize iD (Ab m.toNat [11,40,6]).flatten=Mw at mr' ms';exact Jp (Zo (Zy rfl) (Zo (Zy (Zm rfl rfl hp)) (Zo (Zy (Xo (Zd rfl (Zd rfl (Zd (Zm (Jl (Zd (Zm rfl rfl rfl) rfl) rfl) (Zm rfl rfl mr') ms') rfl))) hos))
        (Zo (Zy (Zez (Zm (Jl (Zd rfl (Zd rfl (Zd rfl (Zd (Zm rfl rfl Zsh) rfl)))) rfl) (Zm rfl rfl (ix 1 (hlo (by decide)) 1 rfl)) i1) rfl))
        (Zo (Zy (Zez (Zm (Jl (Zd rfl (Zd rfl (Zd (Zm rfl rfl (show Zkb (.int 10) (.int 6)=some (.int 1000000) by simp)) (Zd (Zm rfl (Zm rfl rfl Xgc) (show Zal (.int 25) (.int 1000000000000000)=some (.int 25000000000000000) from Zqm (by decide) (by decide))) rfl)))) rfl) (Zm rfl rfl (ix 2 (hlo (by decide)) 2 rfl)) i2) rfl))
        (Zo (Zy rfl) (Zo (Zbh (Zuw (Zd (Zm rfl rfl (ix 0 (hlo (by decide)) 0 rfl)) rfl) b1) e) (Zaj rfl))))))))
    rw [knm,GX,DS];refine Dh ?_ (GX.mp List.nodup_range);intro i j hi hj hij e;have hi:=BO.mp hi;have hj:=BO.mp hj;exact hij (Ztr a5.1 a5.2 (AF hi (AC k8 (by decide))) (AF hj (AC k8 (by decide))) e)
  rintro k x ρ hx ⟨ks,o8,o9,o10,o11,o12,o13,kl,kok,knm,rfl⟩;obtain ⟨hk,rfl⟩:=Zot hx;rw [Gc];have hkm:k<m.toNat:=under hk a0.2;obtain ⟨c1,c2,c3⟩:=b3 k hkm;have j0:=ix (3*k+6) (by rw [hol];exact tri k 0 hkm (by decide)) (3*k+6) rfl;have j1:=ix (3*k+7) (by rw [hol];exact tri k 1 hkm (by decide)) (3*k+6+1) (Hq _ 6 1);have j2:=ix (3*k+8) (by rw [hol];exact tri k 2 hkm (by decide)) (3*k+6+2) (Hq _ 6 2);have j3:=ix 3 (hlo (by decide)) 3 rfl;have j4:=ix 4 (hlo (by decide)) 4 rfl;have j5:=ix 5 (hlo (by decide)) 5 rfl;obtain ⟨bw,hbw⟩:∃bw,bw=([150,200]:List Int).getD ((k:Int) % 2).toNat 0:=⟨_,rfl⟩;have k2:0<=(k:Int) % 2/\(k:Int) % 2<2:=⟨C9 _ (by decide),C2 _ (by decide)⟩;have bw1:1<=bw/\bw<=200:=by rw [hbw];exact Zax (P:=fun z=>1<=z/\z<=200) (by decide) (show _<2 from (Ej k2.1).mpr k2.2)
  have ib:gIx (.lst [.int 150,.int 200]) (.int ((k:Int) % 2))=some (.int bw):=by rw [hbw];exact Zgd [150,200] k2.1 k2.2
  obtain ⟨wd,hwd⟩:∃wd,wd=([1,2,3,4,5,6,2,3,11,40,bw]:List Int).getD (os.getD (3*k+6) 0).toNat 0:=⟨_,rfl⟩;have wd1:1<=wd/\wd<=200:=by rw [hwd];exact Zax (P:=fun z=>1<=z/\z<=200) (Xhc (l:=[1,2,3,4,5,6,2,3,11,40]) (by decide) bw1) (show _<11 from (Ej c1.1).mpr c1.2)
  have iw:gIx (.lst [.int 1,.int 2,.int 3,.int 4,.int 5,.int 6,.int 2,.int 3,.int 11,.int 40,.int bw]) (.int (os.getD (3*k+6) 0))=some (.int wd):=by rw [hwd];exact Zgd [1,2,3,4,5,6,2,3,11,40,bw] c1.1 c1.2
  obtain ⟨am,ham⟩:∃am,am=([0,0,1,2,3,12]:List Int).getD (os.getD (3*k+8) 0).toNat 0:=⟨_,rfl⟩;have am1:0<=am/\am<=12:=by rw [ham];exact Zax (P:=fun z=>0<=z/\z<=12) (by decide) (show _<6 from (Ej c3.1).mpr c3.2)
  have ia:gIx (.lst [.int 0,.int 0,.int 1,.int 2,.int 3,.int 12]) (.int (os.getD (3*k+8) 0))=some (.int am):=by rw [ham];exact Zgd [0,0,1,2,3,12] c3.1 c3.2
  have iN:=Xlk (i:=(os.getD 4 0+(2*os.getD 5 0+1)*(k:Int)) % 16) (C9 _ (by decide)) (C2 _ (by decide));have sl:(ks.map kD).length<lim:=by rw [Am,kl];exact AF hkm (AC m8 (by decide))
  obtain ⟨wo,wo1,turn⟩:=Xeq (d0:=some (.scr ns)) (d1:=some (.int i)) (d2:=some (.int m)) (o9:=o9) (o10:=o10) (o11:=o11) (o12:=o12) (o13:=o13) (fl:=fl) (gn:=gn) j0 j1 j2 j3 j4 j5 ib iw ia iN wd1 c2 a3 a5 am1 sl;have pr:0<=am*fl:=Fj am1.1 (AS (by decide) fl1.1);have wg:1<=wo*gn:=Ky wo1.1 gn1.1 (by decide) (AS (by decide) wo1.1);have kd:Zte ⟨nameAt (os.getD 4 0) (os.getD 5 0) k,wd,min (wo*gn) 1000000000000000000,min (am*fl) 999999999999999999⟩:=⟨Ztt _ _ _,wd1.1,wd1.2,IY.mpr ⟨wg,by decide⟩,Ka _ _,IY.mpr ⟨pr,by decide⟩,FR (Ka _ _) (by decide)⟩;refine ⟨_,rfl,.inl ⟨[some (.scr ns),some (.int i),some (.int m),some (.lst (Zbd.map D.str)),some (iD os),some (.int fl),some (.int gn),some (tD (ks++[⟨nameAt (os.getD 4 0) (os.getD 5 0) k,wd,min (wo*gn) 1000000000000000000,min (am*fl) 999999999999999999⟩])),some (.int k),some (.int (3*k+6)),some (.int wd),some (.int wo),some (.int (min (am*fl) 999999999999999999)),some (.str (nameAt (os.getD 4 0) (os.getD 5 0) k))],.inl ?_,_,_,_,_,_,_,_,?_,?_,?_,rfl⟩⟩;rw [show tD (ks++[⟨nameAt (os.getD 4 0) (os.getD 5 0) k,wd,min (wo*gn) 1000000000000000000,min (am*fl) 999999999999999999⟩])=.lst (ks.map kD++[.tup [.str (nameAt (os.getD 4 0) (os.getD 5 0) k),.int wd,.int (min (wo*gn) 1000000000000000000),.int (min (am*fl) 999999999999999999)]]) from congrArg D.lst Bc];exact turn;rw [Ai,kl];rfl;intro x hx;rcases Au.mp hx with h | h;exact kok x h;rw [Ao.mp h];exact kd;rw [Bc,knm,GF,Bc];rfl;rintro ρ ⟨ks,o8,o9,o10,o11,o12,o13,kl,kok,knm,rfl⟩;rw [Zbt] at kl;exact ⟨ks,o8,o9,o10,o11,o12,o13,kl,kok,by rw [kl];rw [Zbt] at knm;exact knm,rfl⟩
theorem Xkh (ns:List Int)(hn:ns.length<=63)(h0:0<=i)(h1:i<1000)(m0:0<=m)(m1:m<=1000):∃fl:Int,Jq [.scr ns,.int i,.int m]=.ok (.int fl)/\1<=fl/\fl<=100000000000000000:=by
 obtain ⟨os,hos,R⟩:=Znj ns hn h0 h1 [m+1,4] (by decide:2<=1000) (Zph (A8.mpr ⟨⟨by omega,by omega⟩,by decide⟩));have hol:os.length=2:=R.len;have a1:0<=os.getD 1 0/\os.getD 1 0<4:=R.at_ 1 (by decide:1<2);obtain ⟨fl,hfl⟩:∃fl,fl=([1,1,7,100000000000000000]:List Int).getD (os.getD 1 0).toNat 0:=⟨_,rfl⟩;have fl1:1<=fl/\fl<=100000000000000000:=by rw [hfl];exact Zax (P:=fun z=>1<=z/\z<=100000000000000000) (by decide) (show _<4 from (Ej a1.1).mpr a1.2)
 have i1:gIx (.lst [.int 1,.int 1,.int 7,.int 100000000000000000]) (.int (os.getD 1 0))=some (.int fl):=by rw [hfl];exact Zgd [1,1,7,100000000000000000] a1.1 a1.2
 have i0:=Zcf (ns:=os) (i:=1) (k:=1) rfl (by rw [hol];decide);exact ⟨fl,Jp (Zaj (Zez (Zm (Jl (Zd rfl (Zd rfl (Zd rfl (Zd (Zm rfl rfl Zsh) rfl)))) rfl) (Zm (Xo (Zd rfl (Zd rfl (Zd (Jl (Zd (Zm rfl rfl rfl) rfl) rfl) rfl))) hos) rfl i0) i1) rfl)),fl1⟩
theorem Xlo (ns:List Int)(hn:ns.length<=63)(h0:0<=i)(h1:i<1000)(m0:0<=m)(m1:m<=200)(f0:1<=fl)(f1:fl<=100000000000000000):∃ws,Jb [.scr ns,.int i,.int m,.int fl]=.ok (iD ws)/\(ws.length:Int)<=m/\∀w∈ws,0<=w/\w<=1000000000000000000:=by
  have ms_eq:Yo (iD [m+1,4,3]) (iD (Ab m.toNat [8,5]).flatten)=some (iD ([m+1,4,3]++(Ab m.toNat [8,5]).flatten)):=Zma (by
    rw [Zia];show 3+m.toNat*2<=1000000;omega)
  have mr:=Zln (ws:=[8,5]) m0 (show m<=200 by omega) (by decide);have hml:([m+1,4,3]++(Ab m.toNat [(8:Int),5]).flatten).length=3+m.toNat*2:=by rw [Ai,Zia];rfl
  obtain ⟨os,hos,R⟩:=Znj ns hn h0 h1 ([m+1,4,3]++(Ab m.toNat [8,5]).flatten) (by omega) (Zph (ET.mpr ⟨A8.mpr ⟨⟨by omega,by omega⟩,by decide⟩,fun z hz=>(by decide:∀z∈[(8:Int),5],0<z/\z<=1000000) z (Xbp hz)⟩));have hol:os.length=3+m.toNat*2:=by rw [R.len,hml]
  have hlt:∀{j:Nat},j<3->j<([m+1,4,3]++(Ab m.toNat [(8:Int),5]).flatten).length:=fun h=>by rw [hml];exact AF h (CB _ _)
  have hlo:∀{j:Nat},j<3->j<os.length:=fun h=>by rw [hol];exact AF h (CB _ _)
  have tri:∀k j:Nat,k<m.toNat->j<2->2*k+(j+3)<3+m.toNat*2:=fun k j h hj=>by omega
  have a0:0<=os.getD 0 0/\os.getD 0 0<m+1:=R.at_ 0 (hlt (by decide));have a1:0<=os.getD 1 0/\os.getD 1 0<4:=R.at_ 1 (hlt (by decide));have a2:0<=os.getD 2 0/\os.getD 2 0<3:=R.at_ 2 (hlt (by decide));have b2:∀k:Nat,k<m.toNat->(0<=os.getD (2*k+3) 0/\os.getD (2*k+3) 0<8)/\(0<=os.getD (2*k+4) 0/\os.getD (2*k+4) 0<5):=fun k hk=>by obtain ⟨g1,g2⟩:=Zrr 8 5 m.toNat k hk;have e:∀j:Nat,([m+1,4,3]++(Ab m.toNat [(8:Int),5]).flatten).getD (j+3) 0=(Ab m.toNat [(8:Int),5]).flatten.getD j 0:=fun j=>rfl;have r1:=R.at_ (2*k+3) (by rw [hml];exact tri k 0 hk (by decide));have r2:=R.at_ (2*k+4) (by rw [hml];exact tri k 1 hk (by decide));rw [e (2*k),g1] at r1;rw [show 2*k+4=(2*k+1)+3 from rfl,e (2*k+1),g2] at r2;exact ⟨r1,r2⟩
  have ix:∀k:Nat,k<os.length->∀j:Int,j=(k:Int)->gIx (.lst (os.map D.int)) (.int j)=some (.int (os.getD k 0)):=fun k hk j e=>Zcf e hk;obtain ⟨gr,hgr,gr1⟩:∃gr:Int,gr=(if os.getD 2 0=0 then 1000000000000000000 else 9*fl)/\0<=gr/\gr<=1000000000000000000:=by refine ⟨_,rfl,?_⟩;split;exact ⟨by decide,by decide⟩;exact ⟨Fj (by decide) (AS (by decide) f0),AS (Ci f1 (by decide)) (by decide)⟩
  obtain ⟨th,hth⟩:∃th,th=([0,1,3,6]:List Int).getD (os.getD 1 0).toNat 0:=⟨_,rfl⟩;have ith:gIx (.lst [.int 0,.int 1,.int 3,.int 6]) (.int (os.getD 1 0))=some (.int th):=by rw [hth];exact Zgd [0,1,3,6] a1.1 a1.2
  have key:=Zep (b:=Zu 7) (s:=Zex) (xs:=Zgj 0 (os.getD 0 0).toNat) (ρ:=[some (.scr ns),some (.int i),some (.int m),some (.int fl),some (iD os),some (.int gr),some (.lst []),none,none,none])
    (P:=fun k ρ=>∃(ws:List Int) (o7 o8 o9:Option D),ws.length=k/\(∀x∈ws,0<=x/\x<=1000000000000000000)/\ρ=[some (.scr ns),some (.int i),some (.int m),some (.int fl),some (iD os),some (.int gr),some (iD ws),o7,o8,o9])
    (Rr:=fun r=>∃(ws:List Int) (o7 o8 o9:Option D),ws.length=(os.getD 0 0).toNat/\(∀x∈ws,0<=x/\x<=1000000000000000000)/\r=.ok (.nx [some (.scr ns),some (.int i),some (.int m),some (.int fl),some (iD os),some (.int gr),some (iD ws),o7,o8,o9]))
    ⟨[],none,none,none,rfl,(fun _ h=>nomatch h),rfl⟩ ?_ ?_
  obtain ⟨ws,o7,o8,o9,wl,wok,e⟩:=key;refine ⟨ws,?_,by omega,wok⟩;have b1:-1000000000<=os.getD 0 0/\os.getD 0 0<=1000000:=by omega
  have mr':Zal (.lst [.int 8,.int 5]) (.int m)=_:=mr;have ms':Yo (.lst [.int (m+1),.int 4,.int 3]) (iD (Ab m.toNat [8,5]).flatten)=_:=ms_eq;generalize iD ([m+1,4,3]++(Ab m.toNat [8,5]).flatten)=Mv at hos ms';generalize iD (Ab m.toNat [8,5]).flatten=Mw at mr' ms';have t1:Zal (.int 9) (.int fl)=some (.int (9*fl)):=Zqm (by decide) (by decide);have body:∀Q r,Q [some (.scr ns),some (.int i),some (.int m),some (.int fl),some (iD os),some (.int gr),none,none,none,none]=r->(Xj (Xw 5 (f2 Zal (fC (.int 9)) (fV 3))) (Xj (sIf (cE (f2 gEq (f2 gIx (fV 4) (fC (.int 2))) (fC (.int 0)))) (Xw 5 (f2 Zkb (fC (.int 10)) (fC (.int 18)))) sNx) Q)) [some (.scr ns),some (.int i),some (.int m),some (.int fl),some (iD os),none,none,none,none,none]=r:=fun Q r h=>by have c:∀z:Option D,(cE (f2 gEq (f2 gIx (fV 4) (fC (.int 2))) (fC (.int 0)))) [some (.scr ns),some (.int i),some (.int m),some (.int fl),some (iD os),z,none,none,none,none]=.ok (os.getD 2 0==0):=fun z=>Yp (Zm (Zm rfl rfl (ix 2 (hlo (by decide)) 2 rfl)) rfl rfl);by_cases d:os.getD 2 0=0;rw [if_pos d] at hgr;exact Zo (Zy (Zm rfl rfl t1)) (Zo (Zad ((c _).trans (by rw [d];rfl)) (Zy (Zm rfl rfl Zhf))) (by rw [hgr] at h;exact h));rw [if_neg d] at hgr;exact Zo (Zy (Zm rfl rfl t1)) (Zo (Ym ((c _).trans (congrArg Dl.R.ok (beq_false_of_ne d))) rfl) (by rw [hgr] at h;exact h))
  exact Jp (Zo (Zy (Xo (Zd rfl (Zd rfl (Zd (Zm (Jl (Zd (Zm rfl rfl rfl) rfl) rfl) (Zm rfl rfl mr') ms') rfl))) hos)) (body _ _ (Zo (Zy rfl) (Zo (Zbh (Zuw (Zd (Zm rfl rfl (ix 0 (hlo (by decide)) 0 rfl)) rfl) b1) e) (Zaj rfl)))));rintro k x ρ hx ⟨ws,o7,o8,o9,wl,wok,rfl⟩;obtain ⟨hk,rfl⟩:=Zot hx;rw [Gc];have hkm:k<m.toNat:=under hk a0.2;obtain ⟨c1,c2⟩:=b2 k hkm;have j0:=ix (2*k+3) (by rw [hol];exact tri k 0 hkm (by decide)) (2*k+3) rfl;have j1:=ix (2*k+4) (by rw [hol];exact tri k 1 hkm (by decide)) (2*k+3+1) (Hq _ 3 1);have jj:=ix 1 (hlo (by decide)) 1 rfl;have sl:ws.length<lim:=by show _<1000000;omega
  obtain ⟨wt,hwt⟩:∃wt,wt=([fl,fl,2*fl,3*fl,gr]:List Int).getD (os.getD (2*k+4) 0).toNat 0:=⟨_,rfl⟩;have wt1:0<=wt/\wt<=1000000000000000000:=by rw [hwt];have g:∀n:Int,1<=n->n<=3->0<=n*fl/\n*fl<=1000000000000000000:=fun n n0 n1=>⟨Fj (AS (by decide) n0) (AS (by decide) f0),AS (Ky n1 f1 (AS (by decide) f0) (by decide)) (by decide)⟩;have g1:0<=fl/\fl<=1000000000000000000:=⟨AS (by decide) f0,AS f1 (by decide)⟩;exact Zax (P:=fun z=>0<=z/\z<=1000000000000000000) (A8.mpr ⟨g1,A8.mpr ⟨g1,A8.mpr ⟨g 2 (by decide) (by decide),A8.mpr ⟨g 3 (by decide) (by decide),A8.mpr ⟨gr1,fun _ h=>nomatch h⟩⟩⟩⟩⟩) (show _<5 from (Ej c2.1).mpr c2.2)
  have iw:gIx (.lst [.int fl,.int fl,.int (2*fl),.int (3*fl),.int gr]) (.int (os.getD (2*k+4) 0))=some (.int wt):=by rw [hwt];exact Zgd [fl,fl,2*fl,3*fl,gr] c2.1 c2.2
  have t1:Zal (.int 2) (.int fl)=some (.int (2*fl)):=Zqm (by decide) (by decide);have t2:Zal (.int 3) (.int fl)=some (.int (3*fl)):=Zqm (by decide) (by decide);have t3:Zal (.int 2) (.int (k:Int))=some (.int (2*k)):=Zqm (by decide) (by decide);have c:(cE (f2 gLt (f2 gIx (fV 4) (fV 8)) (f2 gIx (fA Je (Zc (fC (.int 0)) (Zc (fC (.int 1)) (Zc (fC (.int 3)) (Zc (fC (.int 6)) Zw))))) (f2 gIx (fV 4) (fC (.int 1)))))) [some (.scr ns),some (.int i),some (.int m),some (.int fl),some (iD os),some (.int gr),some (iD ws),some (.int k),some (.int (2*k+3)),some (.int 0)]=.ok (decide (os.getD (2*k+3) 0<th)):=Yp (Zm (Zm rfl rfl j0) (Zm rfl (Zm rfl rfl jj) ith) (by simp));have sl':(ws.map D.int).length<lim:=by rw [Am];exact sl
  have all:∀z:Int,0<=z/\z<=1000000000000000000->∀x∈ws++[z],0<=x/\x<=1000000000000000000:=fun z hz x hx=>by rcases Au.mp hx with h | h;exact wok x h;rw [Ao.mp h];exact hz
  refine ⟨_,rfl,.inl ?_⟩;by_cases d:os.getD (2*k+3) 0<th;refine ⟨[some (.scr ns),some (.int i),some (.int m),some (.int fl),some (iD os),some (.int gr),some (iD (ws++[wt])),some (.int k),some (.int (2*k+3)),some (.int wt)],.inl ?_,_,_,_,_,by rw [Ai,wl];rfl,all wt wt1,rfl⟩;rw [show iD (ws++[wt])=.lst (ws.map D.int++[.int wt]) from congrArg D.lst Bc];exact Zo (Zy (Zm (Zm rfl rfl t3) rfl rfl)) (Zo (Zy rfl) (Zo (Zad (c.trans (congrArg Dl.R.ok (decide_eq_true d))) (Zy (Zez (Zm (Jl (Zd rfl (Zd rfl (Zd (Zm rfl rfl t1) (Zd (Zm rfl rfl t2) rfl)))) rfl) (Zm rfl (Zm rfl rfl rfl) j1) iw) rfl))) (Zmq rfl (Zez rfl rfl) sl')));refine ⟨[some (.scr ns),some (.int i),some (.int m),some (.int fl),some (iD os),some (.int gr),some (iD (ws++[0])),some (.int k),some (.int (2*k+3)),some (.int 0)],.inl ?_,_,_,_,_,by rw [Ai,wl];rfl,all 0 ⟨by decide,by decide⟩,rfl⟩;rw [show iD (ws++[0])=.lst (ws.map D.int++[.int 0]) from congrArg D.lst Bc];exact Zo (Zy (Zm (Zm rfl rfl t3) rfl rfl)) (Zo (Zy rfl) (Zo (Ym (c.trans (congrArg Dl.R.ok (decide_eq_false d))) rfl) (Zmq rfl (Zez rfl rfl) sl')));rintro ρ ⟨ws,o7,o8,o9,wl,wok,rfl⟩;rw [Zbt] at wl;exact ⟨ws,o7,o8,o9,wl,wok,rfl⟩
end Dl
namespace Dl
def S:Nat->(Nat->Int)->Int
 | 0,_=>0
 | n+1,f=>S n f+f n
def pth (e:Nat->Nat->Int)(a:Nat):Nat->List Int
 | 0=>[1]
 | d+1=>pth e a d++[S (d+1) fun i=>e (a+i) (a+d+1)*(pth e a d).getD i 0]
def W (e:Nat->Nat->Int)(a d:Nat):Int:=(pth e a d).getD d 0
end Dl
namespace Dl
open PySem
variable {d v d':D}{ns ws r:List Int}{ks:List Kd}{α:Type}{n m e j x i u N lm:Nat}{k b l c o os:List Nat}{ρ ρ':Env}{a:FE}{cs ca cr cl cc cs':List (List Nat)}{ps ps':List (Int×Str)}{rs L:List (List Int)}{pl pl':List (List (Int×Str))}{S':List Nat->Prop}{W':List Nat->D->Prop}{xs ys ds xa xr Rs xl xc:List D}{s:FS}{q:List (Int ⊕ Str)}{G:List D->R (D×D)}{p:R (D×Env)}{d0 d1 d4:Option D}{Pr':List Nat->List Nat->Prop}
def Xnt (ns:List Int)(ks:List Kd)(cs:List Int):Int:=cs.getD (cs.length - 1) 0+((ks.filter fun k=>good ns k ((cs.length:Int) - k.w)).map fun k=>cs.getD ((cs.length:Int) - k.w).toNat 0).sum
def cnts (ns:List Int)(ks:List Kd):Nat->List Int
 | 0=>[1]
 | j+1=>cnts ns ks j++[Xnt ns ks (cnts ns ks j)]
def cnt (ns:List Int)(ks:List Kd)(j:Nat):Int:=(cnts ns ks j).getD j 0
abbrev Cut:=List (Int×Str)×Int
def addK (ns:List Int)(rows:List (List Cut))(e:Nat)(k:Kd):List Cut:=if good ns k ((e:Int) - k.w)=true then (rows.getD ((e:Int) - k.w).toNat []).map fun c=>(c.1++[((e:Int) - k.w,k.name)],c.2+k.wo) else []
def rowOf (ns:List Int)(ks:List Kd)(rows:List (List Cut)):List Cut:=rows.getD (rows.length - 1) []++(ks.map (addK ns rows rows.length)).flatten
def Xtd (ns:List Int)(ks:List Kd):Nat->List (List Cut)
 | 0=>[[([],0)]]
 | j+1=>Xtd ns ks j++[rowOf ns ks (Xtd ns ks j)]
mutual
theorem Zsr:∀d:D,dep d<=20->eqv d d=true
 | .non,_=>rfl
 | .bl b,_=>beq_self_eq_true b
 | .int b,_=>beq_self_eq_true b
 | .str b,_=>beq_self_eq_true b
 | .lst xs,h=>Zik xs (JD h)
 | .tup xs,h=>Zik xs (JD h)
 | .scr _,h=>absurd h (by decide:¬100<=20)
 | .rng _ _,h=>absurd h (by decide:¬100<=20)
 | .exc _ _,h=>absurd h (by decide:¬100<=20)
 | .obj _ _ _,h=>absurd h (by decide:¬100<=20)
 | .dct _ _,h=>absurd h (by decide:¬100<=20)
 | .dtt _ _,h=>absurd h (by decide:¬100<=20)
 | .flst _,h=>absurd h (by decide:¬100<=20)
 | .fdt _ _,h=>absurd h (by decide:¬100<=20)
theorem Zik:∀xs:List D,Zgt xs<=20->Xlu xs xs=true
 | [],_=>rfl
 | x::xs,h=>by have a:dep x<=20/\Zgt xs<=20:=Nat.max_le.mp h;show (eqv x x&&Xlu xs xs)=true;rw [Zsr x a.1,Zik xs a.2];rfl
end
theorem Zrm (h:dep d<=20):gEq d d=some (.bl true):=by unfold gEq;rw [if_pos ⟨h,h⟩,Zsr d h]
theorem Zhe {α:Type}{f:α->D}{n:Nat}(h:∀a,dep (f a)<=n):∀xs:List α,Zgt (xs.map f)<=n
 | []=>Dt _
 | x::xs=>by rw [Bn,Zgt];have:=h x;have:=Zhe h xs;omega
theorem Xbc (ns:List Int):dep (iD ns)<=1:=by rw [iD,dep];have:=Zhe (f:=D.int) (n:=0) (fun _=>by simp [dep]) ns;omega
theorem Xqy (k:Kd):dep (kD k)<=1:=by simp [kD,dep,Zgt]
theorem Xrv (ks:List Kd):dep (tD ks)<=2:=by rw [tD,dep];have:=Zhe (f:=kD) Xqy ks;omega
def hStep (ns:List Int)(ks:List Kd)(ts:List Int):Int:=maxL (ts.getD (ts.length - 1) 0::(ks.filter fun k=>good ns k ((ts.length:Int) - k.w)).map fun k=>ts.getD ((ts.length:Int) - k.w).toNat 0+k.wo)
def hts (ns:List Int)(ks:List Kd):Nat->List Int
 | 0=>[0]
 | j+1=>hts ns ks j++[hStep ns ks (hts ns ks j)]
def ht (ns:List Int)(ks:List Kd)(j:Nat):Int:=(hts ns ks j).getD j 0
theorem eq_str (a b:Str):gEq (.str a) (.str b)=some (.bl (a==b)):=rfl
theorem eq_int (a b:Int):gEq (.int a) (.int b)=some (.bl (a==b)):=rfl
theorem ne_int (a b:Int):gNe (.int a) (.int b)=some (.bl (!(a==b))):=rfl
inductive Way (ns:List Int)(ks:List Kd):Nat->Nat->Int->Prop where
 | nil (a:Nat):Way ns ks a a 0
 | skip {a b:Nat} {w:Int}:Way ns ks a b w->b+1<=ns.length->Way ns ks a (b+1) w
 | piece {a b:Nat} {w:Int} {k:Kd}:Way ns ks a b w->k∈ks->good ns k (b:Int)=true->Way ns ks a (b+k.w.toNat) (w+k.wo)
def V {α:Type}:R α->(α->Prop)->Prop
 | .ok a,Q=>Q a
 | .err _ _,_=>False
 | .bad,_=>False
@[simp] theorem V_ok (a:α)(Q:α->Prop):V (.ok a) Q=Q a:=(rfl)
def turn (b:FB)(s:FS)(x:D)(ρ:Env):R Fl:=(b x ρ).calm.bind s
def Tn (P:Env->Prop)(Q:Fl->Prop):Fl->Prop
 | .nx ρ=>P ρ
 | .cnt ρ=>P ρ
 | .brk ρ=>Q (.nx ρ)
 | .ret d=>Q (.ret d)
@[simp] theorem Tn_nx (P:Env->Prop)(Q:Fl->Prop)(ρ:Env):Tn P Q (.nx ρ)=P ρ:=(rfl)
@[simp] theorem Tn_cnt (P:Env->Prop)(Q:Fl->Prop)(ρ:Env):Tn P Q (.cnt ρ)=P ρ:=(rfl)
@[simp] theorem Tn_brk (P:Env->Prop)(Q:Fl->Prop)(ρ:Env):Tn P Q (.brk ρ)=Q (.nx ρ):=(rfl)
@[simp] theorem Tn_ret (P:Env->Prop)(Q:Fl->Prop)(d:D):Tn P Q (.ret d)=Q (.ret d):=(rfl)
@[simp] theorem Xsq (i:Nat)(s:FS)(x:D)(ρ:Env):turn (Zu i) s x ρ=s (ρ.set i (some x)):=(rfl)
@[simp] theorem ev_fJoin (a b:FE)(ρ:Env):fJoin a b ρ=(a ρ).bind fun x=>match x with | .str s=>(b ρ).bind fun y=>oR (Xra (.str s) y) | _=>.bad:=(rfl)
@[simp] theorem calm_bad :(R.bad:R α).calm=.bad:=(rfl)
@[simp] theorem gLst_7 (a0 a1 a2 a3 a4 a5 a6:D):Je [a0,a1,a2,a3,a4,a5,a6]=some (.lst [a0,a1,a2,a3,a4,a5,a6]):=rfl
@[simp] theorem gLst_8 (a0 a1 a2 a3 a4 a5 a6 a7:D):Je [a0,a1,a2,a3,a4,a5,a6,a7]=some (.lst [a0,a1,a2,a3,a4,a5,a6,a7]):=rfl
@[simp] theorem gLst_9 (a0 a1 a2 a3 a4 a5 a6 a7 a8:D):Je [a0,a1,a2,a3,a4,a5,a6,a7,a8]=some (.lst [a0,a1,a2,a3,a4,a5,a6,a7,a8]):=rfl
theorem add_str {x y:Str}(h:plain n x=true)(g:plain m y=true)(e:n+m<=1000):Yo (.str x) (.str y)=some (.str (x++y)):=by unfold Yo;simp only [];unfold plain at h g;rw [A9] at h g;have:=of_decide_eq_true h.1;have:=of_decide_eq_true g.1;rw [if_pos (by show _<=1000000;omega)]
@[simp] theorem Xtp (i j:Nat)(g:D->D->Option D)(a:FE)(ρ:Env):Xrn i j g a ρ=(a ρ).bind fun x=>Xut i j g x ρ:=(rfl)
@[simp] theorem ev_sDrop (e:FE)(ρ:Env):Zvg e ρ=(e ρ).bind fun _=>.ok (.nx ρ):=(rfl)
@[simp] theorem Xsi (a b:FE)(ρ:Env):Xwv a b ρ=(a ρ).bind fun x=>match x with | .lst ds=>(b ρ).bind fun y=>oR (Xil (.lst ds) y) | _=>.bad:=(rfl)
theorem Zwe (f:α->D)(xs:List α):Zlm (xs.map f)=xs.zipIdx.map fun x=>.tup [.int (x.2:Int),f x.1]:=by unfold Zlm;rw [List.mapIdx_eq_zipIdx_map,List.zipIdx_map,BI];rfl
def rsD (rs:List (List Int)):D:=.lst (rs.map iD)
theorem Zqp (rs:List (List Int)):dep (rsD rs)<=2:=by rw [rsD,dep];have:=Zhe (f:=iD) Xbc rs;omega
theorem Zxg (ws:List Int):Zew [iD ws]=some (iD ws):=by simp [Zew,iD]
theorem Xna (ks:List Kd):Zew [tD ks]=some (tD ks):=by simp [Zew,tD]
theorem Xal (ks:List Kd):Zbr [tD ks]=some (.int ks.length):=by simp [tD]
theorem Xkr (rs:List (List Int)):Zbr [rsD rs]=some (.int rs.length):=by simp [rsD]
theorem Zze {k:Nat}(h:k<ws.length):gIx (iD ws) (.int (k:Int))=some (.int (ws.getD k 0)):=Zcf rfl h
def few (need:Int):List Int->Int->Int->Int
 | [],n,t=>if need<=t then n else n+1
 | x::r,n,t=>if need<=t then n else few need r (n+1) (t+x)
def eL:Nat->List Int->List D
 | _,[]=>[]
 | k,w::r=>.tup [.int (k:Int),.int w]::eL (k+1) r
theorem neX (h:dep d<=20):gNe d d=some (.bl false):=by
 have hs:=Zrm h;simp only [gEq] at hs;rw [if_pos ⟨h,h⟩] at hs;have:eqv d d=true:=by simpa using hs
 simp only [gNe];rw [if_pos ⟨h,h⟩,this];rfl
def rg (k n:Nat):List D:=(List.range' k n).map fun (j:Nat)=>D.int (0+(j:Int))
theorem Zkl {e:FE}(h:e ρ=.ok (iD ws)):fA Zbr (Zc e Zw) ρ=.ok (.int ws.length):=Jl (Zd h rfl) (by simp [iD,Zbr])
def Zou (acc h:Nat):Nat:=((((acc+h*14029467366897019727) % 18446744073709551616*2147483648) % 18446744073709551616+(acc+h*14029467366897019727) % 18446744073709551616 / 8589934592)*11400714785074694791) % 18446744073709551616
inductive Tr where
 | no:Tr
 | one:Nat->Tr
 | two:Tr->Tr->Tr
def Zuk:Nat->Nat->Nat->Nat->Option Tr
 | 0,_,_,_=>none
 | f+1,d,a,b=>match Ds a d,Ds b d with
  | true,false=>some (.two (.one b) (.one a))
  | false,true=>some (.two (.one a) (.one b))
  | true,true=>(Zuk f (d+1) a b).map fun t=>.two .no t
  | false,false=>(Zuk f (d+1) a b).map fun t=>.two t .no
def Zux (k:Nat):Nat->Tr->Option Tr
 | _,.no=>some (.one k)
 | d,.one a=>Zuk 64 d a k
 | d,.two l r=>match Ds k d with
  | true=>(Zux k (d+1) r).map fun t=>.two l t
  | false=>(Zux k (d+1) l).map fun t=>.two t r
def Zdc (k:Nat):Nat->Tr->Bool
 | _,.no=>false
 | _,.one a=>a==k
 | d,.two l r=>match Ds k d with
  | true=>Zdc k (d+1) r
  | false=>Zdc k (d+1) l
theorem Zkk:∀{f d a b:Nat} {t:Tr},Zuk f d a b=some t->a≠b/\Zdc a d t=true/\Zdc b d t=true
 | 0,_,_,_,_,h=>by cases h
 | f+1,d,a,b,t,h=>by unfold Zuk at h;cases ea:Ds a d<;>cases eb:Ds b d<;>rw [ea,eb] at h<;>simp only at h;obtain ⟨t',h1,rfl⟩:=AB.mp h;obtain ⟨q1,q2,q3⟩:=Zkk h1;exact ⟨q1,by unfold Zdc;rw [ea];exact q2,by unfold Zdc;rw [eb];exact q3⟩;cases h;exact ⟨(fun z=>by rw [z,eb] at ea;cases ea),by unfold Zdc;rw [ea];simp [Zdc],by unfold Zdc;rw [eb];simp [Zdc]⟩;cases h;exact ⟨(fun z=>by rw [z,eb] at ea;cases ea),by unfold Zdc;rw [ea];simp [Zdc],by unfold Zdc;rw [eb];simp [Zdc]⟩;obtain ⟨t',h1,rfl⟩:=AB.mp h;obtain ⟨q1,q2,q3⟩:=Zkk h1;exact ⟨q1,by unfold Zdc;rw [ea];exact q2,by unfold Zdc;rw [eb];exact q3⟩
theorem Zql {k:Nat}:∀{t t':Tr} {d:Nat},Zux k d t=some t'->Zdc k d t=false/\Zdc k d t'=true/\∀x,Zdc x d t=true->Zdc x d t'=true
  | .no,t',d,h=>by cases h;exact ⟨rfl,by simp [Zdc],fun x z=>by cases z⟩
  | .one a,t',d,h=>by
    obtain ⟨q1,q2,q3⟩:=Zkk (show Zuk 64 d a k=some t' from h);exact ⟨by simpa [Zdc] using q1,q3,fun x z=>by
      have:a=x:=by simpa [Zdc] using z
      rw [<- this];exact q2⟩
  | .two l r,t',d,h=>by unfold Zux at h;cases e:Ds k d<;>rw [e] at h<;>simp only at h;obtain ⟨t1,h1,rfl⟩:=AB.mp h;obtain ⟨q1,q2,q3⟩:=Zql h1;refine ⟨by unfold Zdc;rw [e];exact q1,by unfold Zdc;rw [e];exact q2,fun x z=>?_⟩;unfold Zdc at z ⊢;cases ex:Ds x d<;>rw [ex] at z<;>simp only at z ⊢;exact q3 x z;exact z;obtain ⟨t1,h1,rfl⟩:=AB.mp h;obtain ⟨q1,q2,q3⟩:=Zql h1;refine ⟨by unfold Zdc;rw [e];exact q1,by unfold Zdc;rw [e];exact q2,fun x z=>?_⟩;unfold Zdc at z ⊢;cases ex:Ds x d<;>rw [ex] at z<;>simp only at z ⊢;exact z;exact q3 x z
def Zae:List Nat->Tr->Option Tr
 | [],t=>some t
 | k::r,t=>(Zux k 0 t).bind (Zae r)
theorem Zcy:∀(a b:List Nat) (t:Tr),Zae (a++b) t=(Zae a t).bind (Zae b)
 | [],b,t=>rfl
 | k::r,b,t=>by
  show (Zux k 0 t).bind (Zae (r++b))=((Zux k 0 t).bind (Zae r)).bind (Zae b);cases Zux k 0 t with
  | none=>rfl
  | some t'=>exact Zcy r b t'
theorem Zno:∀{a:List Nat} {t t':Tr},Zae a t=some t'->a.Nodup/\(∀x∈a,Zdc x 0 t=false)/\(∀x,Zdc x 0 t=true->Zdc x 0 t'=true)
 | [],t,t',h=>by cases h;exact ⟨Be,(fun _ z=>nomatch z),fun _ z=>z⟩
 | k::r,t,t',h=>by
  obtain ⟨t1,h1,h2⟩:=AK.mp (show (Zux k 0 t).bind (Zae r)=some t' from h);obtain ⟨q1,q2,q3⟩:=Zql h1;obtain ⟨p1,p2,p3⟩:=Zno h2;refine ⟨AA.mpr ⟨(fun z=>by rw [p2 k z] at q2;cases q2),p1⟩,fun x hx=>?_,fun x z=>p3 x (q3 x z)⟩;rcases An.mp hx with rfl | z;exact q1;cases e:Zdc x 0 t with
  | false=>rfl
  | true=>rw [<- p2 x z,q3 x e]
def Zeh:Nat->Nat->List (List Nat)
 | 0,_=>[[]]
 | n+1,p=>(Zeh n p).map (0::·)++((if E2 (p*2) 120 then (Zeh n (p*2)).map (1::·) else [])++((if E2 (p*3) 120 then (Zeh n (p*3)).map (2::·) else [])++(if E2 (p*4) 120 then (Zeh n (p*4)).map (3::·) else [])))
def goT:Nat->Nat->Nat->Tr->Option Tr
 | 0,_,acc,t=>Zux acc 0 t
 | n+1,p,acc,t =>
  (goT n p (Zou acc 0) t).bind fun t =>
  (if E2 (p*2) 120 then goT n (p*2) (Zou acc 1) t else some t).bind fun t =>
  (if E2 (p*3) 120 then goT n (p*3) (Zou acc 2) t else some t).bind fun t =>
  (if E2 (p*4) 120 then goT n (p*4) (Zou acc 3) t else some t)
theorem Zzh:∀(n p acc:Nat) (t:Tr),goT n p acc t=Zae ((Zeh n p).map fun c=>c.foldl Zou acc) t
 | 0,p,acc,t=>by show Zux acc 0 t=(Zux acc 0 t).bind (Zae []);cases Zux acc 0 t<;>rfl
 | n+1,p,acc,t=>by
  have one:∀(q h:Nat) (t:Tr),(if E2 q 120 then goT n q (Zou acc h) t else some t)=Zae ((if E2 q 120 then (Zeh n q).map (h::·) else []).map fun c=>c.foldl Zou acc) t:=fun q h t=>by split;rw [Zzh,BI];rfl;rfl
  have z:goT n p (Zou acc 0) t=Zae (((Zeh n p).map (0::·)).map fun c=>c.foldl Zou acc) t:=by rw [Zzh,BI];rfl
  unfold goT Zeh;rw [Bc,Zcy,Bc,Bc,z];congr 1;funext t1;rw [Zcy,one];congr 1;funext t2;rw [Zcy,one];congr 1;funext t3;exact one _ _ _
theorem Zio:∀{n p:Nat} {c:List Nat},c.length=n->(∀x∈c,x<=3)->(c.map (·+1)).foldl (·*·) p<=120->1<=p->c∈Zeh n p
 | 0,p,c,hl,_,_,_=>by rw [BF.mp hl];exact .head _
 | n+1,p,[],hl,_,_,_=>by cases hl
 | n+1,p,x::c,hl,hx,hp,h1=>by
  have up:∀(l:List Nat) (q:Nat),(∀y∈l,1<=y)->q<=l.foldl (·*·) q:=fun l=>by
   induction l with
   | nil=>exact fun q _=>Ax q
   | cons y l ih=>exact fun q hy=>AC (DN q (hy y (.head _))) (ih (q*y) fun z hz=>hy z (.tail _ hz))
  have hp':(c.map (·+1)).foldl (·*·) (p*(x+1))<=120:=hp;have hq:p*(x+1)<=120:=AC (up _ _ fun y hy=>by obtain ⟨z,_,rfl⟩:=AE.mp hy;exact E8 z) hp';have ih:=Zio (n:=n) (p:=p*(x+1)) (c:=c) (by simpa using hl) (fun y hy=>hx y (.tail _ hy)) hp' (Lm h1 (E8 x));have hb:E2 (p*(x+1)) 120=true:=Nat.ble_eq.mpr hq;have h3:=hx x (.head _);unfold Zeh
  match x,h3 with
  | 0,_=>exact AJ _ (AE.mpr ⟨c,by simpa using ih,rfl⟩)
  | 1,_=>exact As _ (AJ _ (by rw [if_pos hb];exact AE.mpr ⟨c,ih,rfl⟩))
  | 2,_=>exact As _ (As _ (AJ _ (by rw [if_pos hb];exact AE.mpr ⟨c,ih,rfl⟩)))
  | 3,_=>exact As _ (As _ (As _ (by rw [if_pos hb];exact AE.mpr ⟨c,ih,rfl⟩)))
theorem Xjm {α β:Type}{f:α->β}:∀{l:List α},(l.map f).Nodup->∀a∈l,∀b∈l,f a=f b->a=b
 | [],_,_,ha,_,_,_=>nomatch ha
 | x::l,h,a,ha,b,hb,e=>by obtain ⟨h1,h2⟩:=AA.mp (show (f x::l.map f).Nodup from h);rcases An.mp ha with ea | ha'<;>rcases An.mp hb with eb | hb';rw [ea,eb];rw [ea] at e;exact absurd (AE.mpr ⟨b,hb',e.symm⟩) h1;rw [eb] at e;exact absurd (AE.mpr ⟨a,ha',e⟩) h1;exact Xjm h2 a ha' b hb' e
def Xqk (c:List Nat):Nat:=c.foldl Zou 2870177450012600261
def Xul (n acc:Nat):Int:=
 let a:=(acc+(n ^^^ (2870177450012600261 ^^^ 3527539))) % 18446744073709551616
 if a==18446744073709551615 then 1546275796 else if a<9223372036854775808 then a else (a:Int) - 18446744073709551616
theorem Xmg (a x:Nat):Zou a x<18446744073709551616:=mod_lt _ (by decide)
theorem Zlv:∀(c:List Nat) (a:Nat),a<18446744073709551616->c.foldl Zou a<18446744073709551616
 | [],_,h=>h
 | x::c,a,_=>Zlv c (Zou a x) (Xmg a x)
theorem Zsd:∀(c:List Nat) (a:Nat),(∀x∈c,x<1000)->(c.map fun x:Nat=>(x:Int)).foldl (fun acc h =>
    let acc:=(acc+(h % ((2 ^ 64:Nat):Int)).toNat*14029467366897019727) % (2 ^ 64)
    let acc:=(acc*2 ^ 31) % (2 ^ 64)+acc / 2 ^ 33
    (acc*11400714785074694791) % (2 ^ 64)) a=c.foldl Zou a
  | [],_,_=>rfl
  | x::c,a,h=>by
    have hx:((x:Int) % ((2 ^ 64:Nat):Int)).toNat=x:=by have:=h x (.head _);rw [JL (IW x) (by norm_cast;omega)];rfl
    rw [Bn,DT,DT,<- Zsd c (Zou a x) fun y hy=>h y (.tail _ hy)];simp only [hx];rfl
theorem Xba (c:List Nat)(h:∀x∈c,x<1000):thK (c.map fun x:Nat=>(.inl (x:Int):Int ⊕ Str))=Dz (Xul c.length (Xqk c)):=by
 have e:(c.map fun x:Nat=>(Fs (x:Int):Int ⊕ Str)).map vlK=c.map fun x:Nat=>(x:Int):=by rw [BI];rfl
 unfold thK;rw [e];unfold C5;have f:=Zsd c 2870177450012600261 h;simp only [Am] at f ⊢;rw [f];rfl
theorem Xlz {a b:Nat}(ha:a<18446744073709551616)(hb:b<18446744073709551616)(na:(a+(n ^^^ (2870177450012600261 ^^^ 3527539))) % 18446744073709551616≠18446744073709551615)(nb:(b+(n ^^^ (2870177450012600261 ^^^ 3527539))) % 18446744073709551616≠18446744073709551615)
  (h:Dz (Xul n a)=Dz (Xul n b)):a=b:=by
 have red:∀{x:Nat},x<18446744073709551616->x≠18446744073709551615->Dz (if x==18446744073709551615 then 1546275796 else if x<9223372036854775808 then (x:Int) else (x:Int) - 18446744073709551616)=if x<9223372036854775808 then (x:Int) else (x:Int) - 18446744073709551616:=fun {x} h1 h2=>by rw [if_neg (by simpa using h2)];unfold Dz;split;rename_i hx;rw [if_pos (by simp<;>omega),if_neg (by simp<;>omega)];rename_i hx;rw [if_pos (by simp<;>omega),if_neg (by simp<;>omega)]
 have e1:Dz (Xul n a)=_:=red (mod_lt _ (by decide)) na;have e2:Dz (Xul n b)=_:=red (mod_lt _ (by decide)) nb;rw [e1,e2] at h;generalize (n ^^^ (2870177450012600261 ^^^ 3527539))=k at na nb h;have h':(a+k) % 18446744073709551616=(b+k) % 18446744073709551616:=by split at h<;>split at h<;>omega
 omega
def Xnr (n:Nat):Nat:=(18446744073709551615+18446744073709551616 - (n ^^^ (2870177450012600261 ^^^ 3527539))) % 18446744073709551616
def Xgv (n:Nat):Bool:=(goT n 1 2870177450012600261 (.one (Xnr n))).isSome
def rowT (n:Nat):List (List Nat):=(AO 120).map fun k=>k::Ab n 0
def Xvu (n:Nat):Bool:=(Zae ((rowT n).map Xqk) (.one (Xnr (n+1)))).isSome
theorem Xrc (hn:n<=8){a:Nat}(h:(a+(n ^^^ (2870177450012600261 ^^^ 3527539))) % 18446744073709551616=18446744073709551615)(ha:a<18446744073709551616):a=Xnr n:=by have hk:n ^^^ (2870177450012600261 ^^^ 3527539)<18446744073709551616:=Nat.xor_lt_two_pow (n:=64) (by omega) (by decide);unfold Xnr;generalize (n ^^^ (2870177450012600261 ^^^ 3527539))=k at h hk;omega
theorem Zvv {l:List (List Nat)}{t:Tr}(hn:n<=8)(h:Zae (l.map Xqk) (.one (Xnr n))=some t)(hl:∀c∈l,c.length=n/\∀x∈c,x<1000):∀a∈l,∀b∈l,thK (a.map fun x:Nat=>(.inl (x:Int):Int ⊕ Str))=thK (b.map fun x:Nat=>(.inl (x:Int):Int ⊕ Str))->a=b:=fun a ha b hb e=>by
 obtain ⟨q1,q2,_⟩:=Zno h;have nb:∀c∈l,(Xqk c+(n ^^^ (2870177450012600261 ^^^ 3527539))) % 18446744073709551616≠18446744073709551615:=fun c hc z=>by have:=q2 (Xqk c) (AE.mpr ⟨c,hc,rfl⟩);rw [Xrc hn z (Zlv c _ (by decide))] at this;simp [Zdc] at this
 rw [Xba a (hl a ha).2,Xba b (hl b hb).2,(hl a ha).1,(hl b hb).1] at e;exact Xjm q1 a ha b hb (Xlz (Zlv a _ (by decide)) (Zlv b _ (by decide)) (nb a ha) (nb b hb) e)
set_option maxRecDepth 1000000 in
theorem Xwb:∀n,n<=7->Xgv n=true:=fun n hn=>by
 have:(AO 8).all Xgv=true:=by decide +kernel
 exact BV.mp this n (BO.mpr (by omega))
set_option maxRecDepth 1000000 in
theorem Xwo:∀n,n<=7->Xvu n=true:=fun n hn=>by
 have:(AO 8).all Xvu=true:=by decide +kernel
 exact BV.mp this n (BO.mpr (by omega))
set_option maxRecDepth 1000000 in
theorem un_8:Xgv 8=true:=by decide +kernel
theorem Zmc:∀{n p:Nat} {c:List Nat},c∈Zeh n p->c.length=n/\∀x∈c,x<1000
 | 0,p,c,h=>by rw [Ao.mp h];exact ⟨rfl,fun _ z=>nomatch z⟩
 | n+1,p,c,h=>by
  have one:∀{q k:Nat},k<1000->c∈(Zeh n q).map (k::·)->c.length=n+1/\∀x∈c,x<1000:=fun {q k} hk hc=>by obtain ⟨d,hd,rfl⟩:=AE.mp hc;obtain ⟨q1,q2⟩:=Zmc hd;exact ⟨by rw [AX,q1],fun x hx=>(An.mp hx).elim (fun z=>by rw [z];exact hk) (q2 x)⟩
  unfold Zeh at h;rcases Au.mp h with h | h;exact one (by decide) h;rcases Au.mp h with h | h;split at h;exact one (by decide) h;cases h;rcases Au.mp h with h | h;split at h;exact one (by decide) h;cases h;split at h;exact one (by decide) h;cases h
theorem Xgx (hn:n<=8){a:List Nat}(la:a.length=n)(lb:b.length=n)(sa:∀x∈a,x<=3)(sb:∀x∈b,x<=3)(pa:(a.map (·+1)).foldl (·*·) 1<=120)(pb:(b.map (·+1)).foldl (·*·) 1<=120)
  (e:thK (a.map fun x:Nat=>(.inl (x:Int):Int ⊕ Str))=thK (b.map fun x:Nat=>(.inl (x:Int):Int ⊕ Str))):a=b:=by
 have h:Xgv n=true:=by by_cases z:n<=7;exact Xwb n z;rw [show n=8 by omega];exact un_8
 obtain ⟨t,ht⟩:=Ey.mp (show (goT n 1 2870177450012600261 (.one (Xnr n))).isSome=true from h);rw [Zzh] at ht;exact Zvv (l:=Zeh n 1) hn ht (fun c hc=>Zmc hc) a (Zio la sa pa (Ax 1)) b (Zio lb sb pb (Ax 1)) e
theorem Xfs {k:Nat}(hn:n<=7)(hj:j<120)(hk:k<120)(e:thK ((j::Ab n 0).map fun x:Nat=>(.inl (x:Int):Int ⊕ Str))=thK ((k::Ab n 0).map fun x:Nat=>(.inl (x:Int):Int ⊕ Str))):j=k:=by
  obtain ⟨t,ht⟩:=Ey.mp (show (Zae ((rowT n).map Xqk) (.one (Xnr (n+1)))).isSome=true from Xwo n hn);have:=Zvv (l:=rowT n) (n:=n+1) (by omega) ht (fun c hc=>by
    obtain ⟨i,hi,rfl⟩:=AE.mp hc;refine ⟨by rw [AX,Cg],fun x hx=>?_⟩;rcases An.mp hx with z | z;rw [z];exact Hz (BO.mp hi) (by decide)
    · rw [(EY.mp z).2];decide) (j::Ab n 0) (AE.mpr ⟨j,BO.mpr hj,rfl⟩) (k::Ab n 0) (AE.mpr ⟨k,BO.mpr hk,rfl⟩) e
  exact (GC this).1
theorem Zhl:∀c:List Int,intsOf (c.map D.int)=some c
 | []=>rfl
 | i::c=>by show (intsOf (c.map D.int)).map (i::·)=_;rw [Zhl c];rfl
theorem Zkh:∀cs:List (List Int),Zfs (cs.map ilD)=some cs
 | []=>rfl
 | c::cs=>by show (Zzm (ilD c)).bind (fun a=>(Zfs (cs.map ilD)).bind fun l=>some (a::l))=_;rw [show Zzm (ilD c)=some c from Zhl c,Zkh cs];rfl
theorem Xbw {cs:List (List Int)}(h:cs.length<=1000):Zhq [.lst (cs.map ilD)]=some (.lst ((Ji cs).map ilD)):=by show (Zfs (cs.map ilD)).bind _=_;rw [Zkh];show (if cs.length<=1000 then _ else none)=_;rw [if_pos h]
def kyN (c:List Nat):List (Int ⊕ Str):=c.map fun x:Nat=>(.inl (x:Int):Int ⊕ Str)
theorem Zqd {a:List Nat}(h:kyN a=kyN b):a=b:=by refine (FF (f:=fun x:Nat=>(.inl (x:Int):Int ⊕ Str)) (fun x y e=>?_)).mp h;exact Ho.mp (Kf e)
theorem Xvx (h:∀x∈c,x<1000):(kyN c).all smK=true:=by refine BV.mpr fun k hk=>?_;obtain ⟨x,hx,rfl⟩:=AE.mp hk;have:=h x hx;show (decide (0<=(x:Int))&&decide ((x:Int)<1000))=true;rw [decide_eq_true (IW x),decide_eq_true (by omega)];rfl
theorem Ztx (hn:n<=8)(nd:cs.Nodup)(h:∀c∈cs,c.length=n/\(∀x∈c,x<=3)/\(c.map (·+1)).foldl (·*·) 1<=120):((cs.map kyN).map thK).Nodup:=by rw [BI];refine DS.mpr (Dh (fun {a b} ha hb hab e=>hab ?_) nd);obtain ⟨a1,a2,a3⟩:=h a ha;obtain ⟨b1,b2,b3⟩:=h b hb;exact Xgx hn a1 b1 a2 b2 a3 b3 e
def RowOk (n:Nat)(c:List Nat):Prop:=∃k,k<120/\c=k::Ab n 0
theorem Zqh (hn:n<=7)(nd:cs.Nodup)(h:∀c∈cs,RowOk n c):((cs.map kyN).map thK).Nodup:=by rw [BI];refine DS.mpr (Dh (fun {a b} ha hb hab e=>hab ?_) nd);obtain ⟨j,hj,rfl⟩:=h a ha;obtain ⟨k,hk,rfl⟩:=h b hb;rw [Xfs hn hj hk e]
def tyN (c:List Nat):D:=.tup (c.map fun x:Nat=>.int (x:Int))
theorem Zrq (c:List Nat):Zij (kyN c)=tyN c:=by unfold Zij kyN tyN;rw [BI];rfl
theorem Zrh:∀c:List Nat,Zvj (c.map fun x:Nat=>.int (x:Int))=some (kyN c)
 | []=>rfl
 | x::c=>by have:=Zrh c;simp only [Bn,Zvj,keyD,this,kyN];rfl
theorem Zdn (c:List Nat):Xej (tyN c)=some (kyN c):=Zrh c
theorem Xip :Xmh (cs.map kyN) (kyN c)=decide (c∈cs):=by rw [DI,decide_eq_true_iff];unfold Xmh;rw [DZ];constructor;rintro ⟨k,hk,e⟩;obtain ⟨d,hd,rfl⟩:=AE.mp hk;rw [<- Zqd (of_decide_eq_true e)];exact hd;exact fun h=>⟨kyN c,AE.mpr ⟨c,h,rfl⟩,decide_eq_true rfl⟩
def LeC (c o:List Nat):Prop:=c.length=o.length/\∀i,c.getD i 0<=o.getD i 0
def Zgg (c:List Nat)(i:Nat):List Nat:=c.set i (c.getD i 0+1)
def sbC (l c:List Nat):List Nat:=Bf (fun a b=>a - b) l c
def adC (l c:List Nat):List Nat:=Bf (fun a b=>a+b) l c
def Xm:List Nat->Nat
 | []=>1
 | x::r=>(x+1)*Xm r
theorem LeC.refl (c:List Nat):LeC c c:=⟨rfl,fun _=>Ax _⟩
theorem LeC.trans {a b c:List Nat}(h:LeC a b)(g:LeC b c):LeC a c:=⟨h.1.trans g.1,fun i=>AC (h.2 i) (g.2 i)⟩
theorem LeC.cons {y:Nat}{a:List Nat}:LeC (x::a) (y::b)↔x<=y/\LeC a b:=by
 constructor;intro h;exact ⟨h.2 0,BW h.1,fun i=>h.2 (i+1)⟩;intro h;refine ⟨congrArg LS h.2.1,fun i=>?_⟩;cases i with
 | zero=>exact h.1
 | succ i=>exact h.2.2 i
theorem Zvw (h:l.length<=i):l.getD i 0=0:=by rw [AI,HQ h];rfl
theorem Zlr {a:List Nat}(hl:a.length=b.length)(h:∀i,a.getD i 0=b.getD i 0):a=b:=by refine List.ext_getElem hl fun i h1 h2=>?_;have:=h i;rw [AI,AI,Ad h1,Ad h2] at this;exact this
theorem Zrt (c:List Nat)(i:Nat):(Zgg c i).length=c.length:=DC
theorem Zvz (hi:i<c.length)(j:Nat):(Zgg c i).getD j 0=c.getD j 0+if j=i then 1 else 0:=by unfold Zgg;rw [AI,List.getElem?_set];by_cases e:j=i;subst e;rw [if_pos rfl,if_pos hi,if_pos rfl];rfl;rw [if_neg (fun z=>e z.symm),if_neg e,<- AI];rfl
theorem Zrd (h:c.length=l.length):(sbC l c).length=l.length:=by unfold sbC;rw [CJ];omega
theorem Zwh (h:c.length=l.length):(adC l c).length=l.length:=by unfold adC;rw [CJ];omega
theorem Ziw:∀{l c:List Nat},c.length=l.length->∀i,(sbC l c).getD i 0=l.getD i 0 - c.getD i 0
 | [],[],_,i=>rfl
 | x::l,y::c,h,0=>rfl
 | x::l,y::c,h,i+1=>Ziw (l:=l) (c:=c) (BW h) i
 | [],_::_,h,_=>nomatch h
 | _::_,[],h,_=>nomatch h
theorem Zla:∀{l c:List Nat},c.length=l.length->∀i,(adC l c).getD i 0=l.getD i 0+c.getD i 0
 | [],[],_,i=>rfl
 | x::l,y::c,h,0=>rfl
 | x::l,y::c,h,i+1=>Zla (l:=l) (c:=c) (BW h) i
 | [],_::_,h,_=>nomatch h
 | _::_,[],h,_=>nomatch h
def boxC:List Nat->List (List Nat)
 | []=>[[]]
 | x::r=>(AO (x+1)).flatMap fun y=>(boxC r).map (y::·)
theorem Zsf:∀{o c:List Nat},LeC c o->c∈boxC o
 | [],[],_=>.head _
 | x::o,y::c,h=>by obtain ⟨h1,h2⟩:=LeC.cons.mp h;exact DY.mpr ⟨y,BO.mpr (by omega),AE.mpr ⟨c,Zsf h2,rfl⟩⟩
 | [],_::_,h=>nomatch h.1
 | _::_,[],h=>nomatch h.1
theorem Znk {α β:Type}{f:α->List β}{n:Nat}:∀(l:List α),(∀x∈l,(f x).length=n)->(l.flatMap f).length=l.length*n
 | [],_=>(Nat.zero_mul n).symm
 | x::l,h=>by rw [List.flatMap_cons,Ai,h x (.head _),Znk l fun y hy=>h y (.tail _ hy),AX,HJ,HM]
theorem Zth:∀o:List Nat,(boxC o).length=Xm o
 | []=>rfl
 | x::o=>by show ((AO (x+1)).flatMap _).length=(x+1)*Xm o;rw [Znk (n:=Xm o) _ fun y _=>by rw [Am,Zth o],Dc]
theorem Xjl {α:Type}[DecidableEq α]:∀{a b:List α},a.Nodup->(∀x∈a,x∈b)->a.length<=b.length
 | [],_,_,_=>Dt _
 | x::a,b,nd,h=>by have hx:=h x (.head _);have hn:=AA.mp nd;have ih:=Xjl (a:=a) (b:=b.erase x) hn.2 fun y hy=>(List.mem_erase_of_ne (a:=y) (b:=x) fun z=>hn.1 (by rw [<- z];exact hy)).mpr (h y (.tail _ hy));have p:0<b.length:=List.length_pos_of_mem hx;rw [List.length_erase_of_mem hx] at ih;rw [AX];omega
theorem Xtf (nd:cs.Nodup)(h:∀c∈cs,LeC c o):cs.length<=Xm o:=by rw [<- Zth];exact Xjl nd fun c hc=>Zsf (h c hc)
theorem Zci:∀o:List Nat,1<=Xm o
 | []=>Ax _
 | x::o=>by show 1<=(x+1)*Xm o;exact Lm (E8 x) (Zci o)
theorem Ztg:∀{o:List Nat} {x:Nat},x∈o->x+1<=Xm o
 | y::o,x,h=>by show x+1<=(y+1)*Xm o;rcases An.mp h with e | e;rw [e];exact DN _ (Zci o);exact AC (Ztg e) (HL _ (E8 y))
inductive Ct (ns:List Int)(ks:List Kd):Nat->List Nat->List (Int×Str)->Prop
 | zero:Ct ns ks 0 (Ab ks.length 0) []
 | skip {e:Nat} {c:List Nat} {ps:List (Int×Str)}:Ct ns ks e c ps->Ct ns ks (e+1) c ps
 | cut {b i:Nat} {c:List Nat} {ps:List (Int×Str)} {k:Kd}:Ct ns ks b c ps->ks[i]?=some k->good ns k (b:Int)=true->Ct ns ks (b+k.w.toNat) (Zgg c i) (ps++[((b:Int),k.name)])
theorem Ct.len (h:Ct ns ks e c ps):c.length=ks.length:=by
 induction h with
 | zero=>exact Cg
 | skip _ ih=>exact ih
 | cut _ _ _ ih=>rw [Zrt,ih]
theorem Ct.few (h:Ct ns ks e c ps)(hw:∀k∈ks,1<=k.w):ps.length<=e:=by
 induction h with
 | zero=>exact Ax _
 | skip _ ih=>omega
 | cut _ hk _ ih =>have:=hw _ (Al hk);rw [Ai];show _+1<=_;omega
theorem Zdm:∀n:Nat,(Ab n 0).sum=0
 | 0=>rfl
 | n+1=>by rw [Bi,FK,Zdm n]
theorem Xih:∀{c:List Nat} {i:Nat},i<c.length->(Zgg c i).sum=c.sum+1
 | x::c,0,_=>by show ((x+1)::c).sum=_;rw [FK,FK];omega
 | x::c,i+1,h=>by show (x::Zgg c i).sum=_;rw [FK,FK,Xih (Nat.lt_of_succ_lt_succ h)];omega
theorem Ct.sum {ns:List Int}{ks:List Kd}{e:Nat}{c:List Nat}{ps:List (Int×Str)}(h:Ct ns ks e c ps):c.sum=ps.length:=by
 induction h with
 | zero=>exact Zdm _
 | skip _ ih=>exact ih
 | cut h hk _ ih =>have:=(Ag.mp hk).1;rw [Xih (by rw [h.len];exact this),ih,Ai];rfl
theorem Ct.none (ns:List Int)(ks:List Kd):∀e:Nat,Ct ns ks e (Ab ks.length 0) []
 | 0=>.zero
 | e+1=>.skip (Ct.none ns ks e)
theorem Ct.inv (h:Ct ns ks (e+1) c ps)(hw:∀k∈ks,1<=k.w):Ct ns ks e c ps\/∃(i:Nat) (k:Kd) (b:Nat) (c':List Nat) (ps':List (Int×Str)),ks[i]?=some k/\(b:Int)=(e:Int)+1 - k.w/\good ns k (b:Int)=true/\Ct ns ks b c' ps'/\c=Zgg c' i:=by
 generalize hE:e+1=E at h;cases h with
 | zero=>cases hE
 | skip h =>cases BW hE;exact .inl h
 | cut h hk hg =>have:=hw _ (Al hk);exact .inr ⟨_,_,_,_,_,hk,by omega,hg,h,rfl⟩
def KS (ns:List Int)(ks:List Kd)(os:List Nat)(e:Nat)(c:List Nat):Prop:=LeC c os/\∃ps,Ct ns ks e c ps
def StS (ns:List Int)(ks:List Kd)(os:List Nat)(e i:Nat)(c:List Nat):Prop:=KS ns ks os e c\/∃(i':Nat) (k:Kd) (b:Nat) (c':List Nat),i'<i/\ks[i']?=some k/\(b:Int)=(e:Int)+1 - k.w/\good ns k (b:Int)=true/\KS ns ks os b c'/\c'.getD i' 0<os.getD i' 0/\c=Zgg c' i'
theorem LeC.up (h:LeC c os)(hi:c.getD i 0<os.getD i 0):LeC (Zgg c i) os:=by
 have hl:i<c.length:=Nat.lt_of_not_le fun z=>by rw [Zvw (l:=os) (by rw [<- h.1];exact z)] at hi;exact GQ _ hi
 refine ⟨by rw [Zrt];exact h.1,fun j=>?_⟩;rw [Zvz hl];split;rename_i e;rw [e];exact hi;exact h.2 j
theorem LeC.un (h:LeC (Zgg c i) os)(hi:i<c.length):LeC c os/\c.getD i 0<os.getD i 0:=by
 have g:∀j,c.getD j 0+(if j=i then 1 else 0)<=os.getD j 0:=fun j=>by rw [<- Zvz hi];exact h.2 j
 refine ⟨⟨by rw [<- Zrt c i];exact h.1,fun j=>AC (CB _ _) (g j)⟩,?_⟩;have:=g i;rw [if_pos rfl] at this;exact this
theorem StS.all (hw:∀k∈ks,1<=k.w):StS ns ks os e ks.length c↔KS ns ks os (e+1) c:=by
 constructor;rintro (⟨h,ps,g⟩ | ⟨i',k,b,c',h1,h2,h3,h4,⟨h5,ps,h6⟩,h7,rfl⟩);exact ⟨h,ps,.skip g⟩;refine ⟨h5.up h7,ps++[((b:Int),k.name)],?_⟩;have:=Ct.cut h6 h2 h4;have w:=hw _ (Al h2);have e:b+k.w.toNat=e+1:=by omega
 rw [e] at this;exact this;rintro ⟨h,ps,g⟩;rcases g.inv hw with g | ⟨i,k,b,c',ps',h2,h3,h4,h5,rfl⟩;exact .inl ⟨h,ps,g⟩;have hi:=(Ag.mp h2).1;obtain ⟨u1,u2⟩:=h.un (by rw [h5.len];exact hi);exact .inr ⟨i,k,b,c',hi,h2,h3,h4,⟨u1,ps',h5⟩,u2,rfl⟩
inductive Pln (ks:List Kd)(os:List Nat):List (List Int)->List Nat->Nat->List (List (Int×Str))->Prop
 | nil:Pln ks os [] os 0 []
 | snoc {rs:List (List Int)} {l:List Nat} {u:Nat} {pl:List (List (Int×Str))} {r:List Int} {c:List Nat} {ps:List (Int×Str)}:Pln ks os rs l u pl->Ct r ks r.length c ps->LeC c l->Pln ks os (rs++[r]) (sbC l c) (u+if ps=[] then 0 else 1) (pl++[ps])
theorem Xtk (h:c.length=l.length):LeC (sbC l c) l:=⟨Zrd h,fun i=>by rw [Ziw h];omega⟩
theorem Pln.le (h:Pln ks os rs l u pl):LeC l os:=by
 induction h with
 | nil=>exact LeC.refl _
 | snoc _ _ hl ih=>exact (Xtk hl.1).trans ih
theorem Pln.plen (h:Pln ks os rs l u pl):pl.length=rs.length:=by
 induction h with
 | nil=>rfl
 | snoc _ _ _ ih=>rw [Ai,Ai,ih];rfl
theorem Pln.inv (h:Pln ks os (rs++[r]) l u pl):∃l' u' pl' c ps,Pln ks os rs l' u' pl'/\Ct r ks r.length c ps/\LeC c l'/\l=sbC l' c/\u=u'+if ps=[] then 0 else 1:=by
 generalize hE:rs++[r]=E at h;cases h with
 | nil=>exact absurd (congrArg EB hE) (by rw [Ai];exact J4 _)
 | snoc h1 h2 h3 =>obtain ⟨e1,e2⟩:=List.append_inj' hE rfl;obtain ⟨e2,-⟩:=GC e2;subst e1 e2;exact ⟨_,_,_,_,_,h1,h2,h3,rfl,rfl⟩
def Xsn (ks:List Kd)(rs:List (List Int))(xs:List (List Int×List Nat)):Prop:=xs.map (·.1)=rs/\∀p∈xs,∃ps,Ct p.1 ks p.1.length p.2 ps
def Zwp (os:List Nat)(xs:List (List Int×List Nat))(l:List Nat):Prop:=l.length=os.length/\∀i,l.getD i 0+(xs.map fun p=>p.2.getD i 0).sum=os.getD i 0
def Zis (xs:List (List Int×List Nat)):Nat:=(xs.map fun p=>if p.2.sum=0 then 0 else 1).sum
theorem Pln.cuts (h:Pln ks os rs l u pl):∃xs,Xsn ks rs xs/\Zwp os xs l/\u=Zis xs:=by
 induction h with
 | nil=>exact ⟨[],⟨rfl,fun _ z=>nomatch z⟩,⟨rfl,fun _=>rfl⟩,rfl⟩
 | @snoc rs l u pl r c ps h1 h2 h3 ih =>obtain ⟨xs,⟨e1,e2⟩,⟨e3,e4⟩,e5⟩:=ih;refine ⟨xs++[(r,c)],⟨by rw [Bc,e1];rfl,fun p hp=>?_⟩,⟨by rw [Zrd h3.1,e3],fun i=>?_⟩,?_⟩;rcases Au.mp hp with q | q;exact e2 p q;rw [Ao.mp q];exact ⟨ps,h2⟩;have:=e4 i;have g:=h3.2 i;rw [Ziw h3.1,Bc,D9];show _+(_+(c.getD i 0+0))=_;omega;unfold Zis at e5 ⊢;rw [e5,Bc,D9];show _=_+((if c.sum=0 then 0 else 1)+0);rw [h2.sum];cases ps<;>rfl
theorem Pln.ofCuts {ks:List Kd}{os:List Nat}(ho:os.length=ks.length):∀{n:Nat} {xs:List (List Int×List Nat)} {rs:List (List Int)} {l:List Nat},xs.length=n->Xsn ks rs xs->Zwp os xs l->∃pl,Pln ks os rs l (Zis xs) pl
  | 0,xs,rs,l,hn,⟨e1,e2⟩,⟨e3,e4⟩=>by
    cases xs with
    | nil =>subst e1;have:l=os:=Zlr e3 fun i=>e4 i;subst this;exact ⟨[],.nil⟩
    | cons _ _=>cases hn
  | n+1,xs,rs,l,hn,⟨e1,e2⟩,⟨e3,e4⟩=>by
    have hne:xs≠[]:=fun z=>by rw [z] at hn;cases hn
    obtain ⟨ys,p,rfl⟩:∃ys p,xs=ys++[p]:=⟨xs.dropLast,xs.getLast hne,(D7 hne).symm⟩;rw [Bc] at e1;subst e1;obtain ⟨ps,hp⟩:=e2 p (As _ (.head _));have hl:p.2.length=l.length:=by rw [hp.len,e3,ho]
    have lf:Zwp os ys (adC l p.2):=⟨by rw [Zwh hl,e3],fun i=>by
      have:=e4 i;rw [Bc,D9] at this;rw [Zla hl];have q:_+(_+(p.2.getD i 0+0))=_:=this;omega⟩
    obtain ⟨pl,hpl⟩:=Pln.ofCuts ho (n:=n) (xs:=ys) (rs:=ys.map (·.1)) (l:=adC l p.2) (by rw [Ai] at hn;exact BW hn) ⟨rfl,fun q hq=>e2 q (AJ _ hq)⟩ lf;have le:LeC p.2 (adC l p.2):=⟨by rw [Zwh hl,hl],fun i=>by rw [Zla hl];omega⟩;have h:=hpl.snoc hp le;have e:sbC (adC l p.2) p.2=l:=by refine Zlr (by rw [Zrd le.1,Zwh hl]) fun i=>?_;rw [Ziw le.1,Zla hl];omega
    have eu:Zis (ys++[p])=Zis ys+if ps=[] then 0 else 1:=by unfold Zis;rw [Bc,D9];show _+((if p.2.sum=0 then 0 else 1)+0)=_;rw [hp.sum];cases ps<;>rfl
    rw [e,<- eu] at h;exact ⟨_,h⟩
theorem Zpl {α:Type}(f:α->Nat):∀xs:List α,(xs.reverse.map f).sum=(xs.map f).sum
 | []=>rfl
 | x::xs=>by rw [EA,Bc,D9,Zpl f xs,Bn (a:=x) (l:=xs),FK];show _+(f x+0)=_;omega
theorem Pln.rev (ho:os.length=ks.length)(h:Pln ks os rs l u pl):∃pl',Pln ks os rs.reverse l u pl':=by obtain ⟨xs,⟨e1,e2⟩,⟨e3,e4⟩,rfl⟩:=h.cuts;have:=Pln.ofCuts ho (xs:=xs.reverse) (rs:=rs.reverse) (l:=l) rfl ⟨by rw [JK,e1],fun p hp=>e2 p (JH.mp hp)⟩ ⟨e3,fun i=>by rw [Zpl];exact e4 i⟩;unfold Zis at this ⊢;rw [Zpl] at this;exact this
structure Dkt (S:List Nat->Prop)(W:List Nat->D->Prop)(cs:List (List Nat))(xs:List D):Prop where
 nd:cs.Nodup
 ln:xs.length=cs.length
 fl:Zx xs=true
 ky:∀c,c∈cs↔S c
 vl:∀p∈cs.zip xs,W p.1 p.2
theorem Dkt.imp {S:List Nat->Prop}{W:List Nat->D->Prop}(h:Dkt S W cs xs)(hS:∀c,S c↔S' c)(hW:∀c x,S c->W c x->W' c x):Dkt S' W' cs xs:=⟨h.nd,h.ln,h.fl,fun c=>(h.ky c).trans (hS c),fun p hp=>hW _ _ ((h.ky _).mp (DA hp).1) (h.vl p hp)⟩
theorem Dkt.one {S:List Nat->Prop}{W:List Nat->D->Prop}{x:D}(hS:∀c',S c'↔c'=c)(hf:flat x=true)(hW:W c x):Dkt S W [c] [x]:=
  ⟨AA.mpr ⟨(fun z=>nomatch z),Be⟩,rfl,by simp [Zx,hf],fun c'=>by rw [Ao];exact (hS c').symm,fun p hp=>by
    rw [Ao.mp hp];exact hW⟩
theorem Dkt.nil {S:List Nat->Prop}{W:List Nat->D->Prop}(hS:∀c,¬S c):Dkt S W [] []:=⟨Be,rfl,rfl,fun c=>⟨(fun z=>nomatch z),fun z=>absurd z (hS c)⟩,fun _ z=>nomatch z⟩
theorem Zlt {d:D}(hd:flat d=true):∀(xs:List D),Zx xs=true->Zx (xs++[d])=true
 | [],_=>by simp [Zx,hd]
 | x::xs,h=>by simp only [Zx,A9,ER] at h ⊢;exact ⟨h.1,Zlt hd xs h.2⟩
theorem Zwi {k:List (Int ⊕ Str)}{d:D}(hd:flat d=true):∀(ks:List (List (Int ⊕ Str))) (xs:List D),Zx xs=true->Zx (Bf (fun j x=>if j=k then d else x) ks xs)=true
 | [],_,_=>rfl
 | _::_,[],_=>rfl
 | j::ks,x::xs,h=>by simp only [Zx,A9] at h;rw [DR];simp only [Zx,A9];refine ⟨?_,Zwi hd ks xs h.2⟩;split;exact hd;exact h.1
theorem Zkf {k:List Nat}{v:D}{p:List Nat×D}:∀(cs:List (List Nat)) (xs:List D),p∈cs.zip (Bf (fun j x=>if j=kyN k then v else x) (cs.map kyN) xs)->(p.1=k/\p.2=v)\/(p.1≠k/\p∈cs.zip xs)
 | [],_,h=>nomatch h
 | _::_,[],h=>nomatch h
 | c::cs,x::xs,h=>by rw [Bn,DR,CU] at h;rcases An.mp h with e | e;by_cases q:c=k;subst q;rw [if_pos rfl] at e;rw [e];exact .inl ⟨rfl,rfl⟩;rw [if_neg fun z=>q (Zqd z)] at e;rw [e];exact .inr ⟨q,.head _⟩;rcases Zkf cs xs e with h | ⟨h1,h2⟩;exact .inl h;exact .inr ⟨h1,.tail _ h2⟩
theorem Dkt.put {S:List Nat->Prop}{W:List Nat->D->Prop}(h:Dkt S W cs xs)(hv:flat v=true)(hS:∀c,S' c↔S c\/c=k)(hW:∀c x,S c->c≠k->W c x->W' c x)(hk:W' k v):∃cs' xs',Xpx (cs.map kyN) xs (kyN k) v=.dtt (cs'.map kyN) xs'/\Dkt S' W' cs' xs':=by unfold Xpx;rw [Xip];by_cases q:k∈cs;rw [if_pos (decide_eq_true q)];refine ⟨cs,_,rfl,h.nd,by rw [CJ,Am,h.ln,HK],Zwi hv _ _ h.fl,fun c=>?_,fun p hp=>?_⟩;rw [h.ky c,hS c];exact ⟨.inl,fun z=>z.elim id fun e=>e▸(h.ky k).mp q⟩;rcases Zkf _ _ hp with ⟨e1,e2⟩ | ⟨e1,e2⟩;rw [e1,e2];exact hk;exact hW _ _ ((h.ky _).mp (DA e2).1) e1 (h.vl p e2);rw [if_neg fun z=>q (of_decide_eq_true z)];refine ⟨cs++[k],xs++[v],by rw [Bc];rfl,?_,by rw [Ai,Ai,h.ln];rfl,Zlt hv _ h.fl,fun c=>?_,fun p hp=>?_⟩;refine A3.mpr ⟨h.nd,AA.mpr ⟨(fun z=>nomatch z),Be⟩,fun a ha b hb e=>?_⟩;rw [Ao.mp hb] at e;exact q (e▸ha);rw [Au,Ao,h.ky c,hS c];rw [GD h.ln.symm] at hp;rcases Au.mp hp with e | e;have m:=(DA e).1;exact hW _ _ ((h.ky _).mp m) (fun z=>q (z▸m)) (h.vl p e);rw [Ao.mp e];exact hk
theorem Zrk {k:List Nat}:∀(cs:List (List Nat)) (xs:List D),xs.length=cs.length->k∈cs->∃x,tAt (cs.map kyN) xs (kyN k)=some x/\(k,x)∈cs.zip xs
 | [],_,_,h=>nomatch h
 | c::cs,x::xs,hl,h=>by by_cases e:c=k;subst e;exact ⟨x,if_pos rfl,.head _⟩;obtain ⟨y,h1,h2⟩:=Zrk cs xs (BW hl) ((An.mp h).resolve_left fun z=>e z.symm);exact ⟨y,(if_neg fun z=>e (Zqd z)).trans h1,.tail _ h2⟩
 | _::_,[],hl,_=>nomatch hl
theorem Dkt.at {S:List Nat->Prop}{W:List Nat->D->Prop}(h:Dkt S W cs xs)(hk:S k):∃x,tAt (cs.map kyN) xs (kyN k)=some x/\W k x:=by obtain ⟨x,h1,h2⟩:=Zrk cs xs h.ln ((h.ky k).mpr hk);exact ⟨x,h1,h.vl _ h2⟩
structure Zcc (os:List Nat):Prop where
 pr:Xm os<=120
 ha:∀cs:List (List Nat),cs.Nodup->(∀c∈cs,LeC c os)->((cs.map kyN).map thK).Nodup
theorem mem_getD (h:x∈c):∃i,i<c.length/\x=c.getD i 0:=by obtain ⟨i,hi,e⟩:=Fg.mp h;exact ⟨i,hi,by rw [AI,Ad hi,<- e];rfl⟩
theorem Zcc.small (h:Zcc os)(hc:LeC c os):∀x∈c,x<120:=fun x hx=>by
 obtain ⟨i,hi,rfl⟩:=mem_getD hx;have:=hc.2 i;have hi':i<os.length:=by rw [<- hc.1];exact hi
 have m:os.getD i 0∈os:=by rw [AI,Ad hi'];exact CD hi'
 have:=Ztg m;have:=h.pr;omega
theorem Dkt.few {S:List Nat->Prop}{W:List Nat->D->Prop}(h:Dkt S W cs xs)(ho:Zcc os)(hS:∀c,S c->LeC c os):cs.length<=120:=AC (Xtf h.nd fun c hc=>hS c ((h.ky c).mp hc)) ho.pr
theorem Xth :(kyN c).all kOk=true:=by refine BV.mpr fun k hk=>?_;obtain ⟨x,-,rfl⟩:=AE.mp hk;rfl
theorem Zyc :((cs.map kyN).all fun k=>k.all kOk)=true:=by refine BV.mpr fun k hk=>?_;obtain ⟨c,-,rfl⟩:=AE.mp hk;exact Xth
theorem Zwb:∀(cs:List (List Nat)) (xs:List D),Bf (fun k x=>D.tup [Zij k,x]) (cs.map kyN) xs=(cs.zip xs).map fun p=>.tup [tyN p.1,p.2]
 | [],_=>rfl
 | _::_,[]=>rfl
 | c::cs,x::xs=>by rw [Bn,DR,CU,Bn,Zwb cs xs,Zrq]
theorem Zpo (h:a ρ=.ok (.fdt (cs.map kyN) xs))(hl:cs.length<=120):Zin a ρ=.ok ((cs.zip xs).map fun p=>.tup [tyN p.1,p.2]):=by unfold Zin;rw [h];show (if (cs.map kyN).length<=lim/\_ then _ else _)=_;rw [if_pos ⟨by rw [Am];exact AC hl (by decide),Zyc⟩];exact congrArg R.ok (Zwb cs xs)
theorem Zlj (h:a ρ=.ok (.fdt (cs.map kyN) xs))(hl:cs.length<=120):Zdg a ρ=.ok (cs.map tyN):=by unfold Zdg;rw [h];show (if (cs.map kyN).length<=lim/\_ then _ else _)=_;rw [if_pos ⟨by rw [Am];exact AC hl (by decide),Zyc⟩,BI];refine congrArg R.ok (CI fun c _=>Zrq c)
theorem Dkt.dict {S:List Nat->Prop}{W:List Nat->D->Prop}(h:Dkt S W cs xs)(ho:Zcc os)(hS:∀c,S c->LeC c os)(hc:S c):Zti [.fdt (cs.map kyN) xs]=some (.dtt (cs.map kyN) xs):=by have le:∀c∈cs,LeC c os:=fun c hc=>hS c ((h.ky c).mp hc);refine if_pos ⟨fun z=>?_,BV.mpr fun k hk=>?_,ho.ha cs h.nd le,h.fl⟩;rw [List.map_eq_nil_iff.mp z] at h;exact nomatch (h.ky c).mpr hc;obtain ⟨c,hc,rfl⟩:=AE.mp hk;exact Xvx fun x hx=>Hz (ho.small (le c hc) x hx) (by decide)
theorem Xsu {α:Type}{enc:α->D}{b:FB}{s:FS}{P:List α->Env->Prop}{xs:List α}(step:∀l x r ρ,xs=l++x::r->P l ρ->∃ρ',(turn b s (enc x) ρ=.ok (.nx ρ')\/turn b s (enc x) ρ=.ok (.cnt ρ'))/\P (l++[x]) ρ'):∀{r l:List α} {ρ:Env},xs=l++r->P l ρ->∃ρ',P xs ρ'/\Zhy b s (r.map enc) ρ=.ok (.nx ρ')
 | [],l,ρ,e,h=>⟨ρ,by rw [e,CK];exact h,rfl⟩
 | x::r,l,ρ,e,h=>by
  obtain ⟨ρ1,t,h1⟩:=step l x r ρ e h;obtain ⟨ρ2,h2,t2⟩:=Xsu step (r:=r) (l:=l++[x]) (ρ:=ρ1) (by rw [e,AD];rfl) h1;refine ⟨ρ2,h2,?_⟩;rw [Bn,Zna];unfold turn at t;cases hb:(b (enc x) ρ).calm with
  | ok ρ' =>rw [hb,Zar] at t;rw [Zar];rcases t with t | t;rw [t];exact t2;rw [t];exact t2
  | err _ _=>rw [hb] at t;rcases t with t | t<;>cases t
  | bad=>rw [hb] at t;rcases t with t | t<;>cases t
theorem Zah {enc:α->D}{b:FB}{P:List α->Env->Prop}{xs:List α}(h0:P [] ρ)(step:∀l x r ρ,xs=l++x::r->P l ρ->∃ρ',(turn b s (enc x) ρ=.ok (.nx ρ')\/turn b s (enc x) ρ=.ok (.cnt ρ'))/\P (l++[x]) ρ'):∃ρ',P xs ρ'/\Zhy b s (xs.map enc) ρ=.ok (.nx ρ'):=Xsu step (l:=[]) rfl h0
theorem Zvp (h:i<c.length):gIx (tyN c) (.int (i:Int))=some (.int ((c.getD i 0:Nat):Int)):=ix_t (k:=i) rfl (by rw [Bk,AI,Ad h];rfl)
theorem Jg:∀c:List Nat,Zx (c.map fun x:Nat=>D.int (x:Int))=true
 | []=>rfl
 | _::c=>by rw [Bn];show (true&&Zx _)=true;rw [Jg c];rfl
theorem Xwz (h:i<c.length):Xcb (tyN c) none (some (i:Int))=some (tyN (c.take i))/\Xcb (tyN c) (some ((i:Int)+1)) none=some (tyN (c.drop (i+1))):=by
 have hl:(c.map fun x:Nat=>D.int (x:Int)).length=c.length:=Am ..;constructor;have hc:¬(Zpn (c.map fun x:Nat=>D.int (x:Int)).length 0 none=0/\Zpn (c.map fun x:Nat=>D.int (x:Int)).length (c.map fun x:Nat=>D.int (x:Int)).length (some (i:Int))=(c.map fun x:Nat=>D.int (x:Int)).length):=fun z=>by have:=z.2;unfold Zpn at this;simp only [] at this;rw [if_neg (by omega),hl] at this;omega
 refine (if_pos ⟨Jg c,hc⟩).trans ?_;rw [Xik (by omega),<- GO];rfl;have hc:¬(Zpn (c.map fun x:Nat=>D.int (x:Int)).length 0 (some ((i:Int)+1))=0/\Zpn (c.map fun x:Nat=>D.int (x:Int)).length (c.map fun x:Nat=>D.int (x:Int)).length none=(c.map fun x:Nat=>D.int (x:Int)).length):=fun z=>by have:=z.1;unfold Zpn at this;simp only [] at this;rw [if_neg (by omega),hl] at this;omega
 refine (if_pos ⟨Jg c,hc⟩).trans ?_;rw [Xhi (by omega),<- Hy];rfl
theorem Xsj (h:i<c.length)(hl:c.length<=1000):Zkj (tyN (c.take i)) (.tup [.int ((c.getD i 0:Nat)+1)])=some (tyN (c.take i++[c.getD i 0+1]))/\Zkj (tyN (c.take i++[c.getD i 0+1])) (tyN (c.drop (i+1)))=some (tyN (Zgg c i)):=by
 have e:Zgg c i=c.take i++[c.getD i 0+1]++c.drop (i+1):=by unfold Zgg;rw [List.set_eq_take_append_cons_drop,if_pos h,AD];rfl
 constructor;have h1:((c.take i).map fun x:Nat=>D.int (x:Int)).length+1<=1000000:=by rw [Am,B9];omega
 refine (if_pos ⟨h1,Jg _,rfl⟩).trans ?_;unfold tyN;rw [Bc];rfl;have h1:((c.take i++[c.getD i 0+1]).map fun x:Nat=>D.int (x:Int)).length+((c.drop (i+1)).map fun x:Nat=>D.int (x:Int)).length<=lim:=by rw [Am,Am,<- Ai,<- e,Zrt];exact AC hl (by decide)
 refine (if_pos ⟨h1,Jg _,Jg _⟩).trans ?_;rw [<- Bc,<- e];rfl
theorem r_up {e i:FE}(he:e ρ=.ok (tyN c))(hi:i ρ=.ok (.int (j:Int)))(h:j<c.length)(hl:c.length<=1000):f2 Zkj (f2 Zkj (fSl Xcb e Zhi (Zef i)) (fA Zfa (Zc (f2 Yo (f2 gIx e i) (fC (.int 1))) Zw))) (fSl Xcb e (Zef (f2 Yo i (fC (.int 1)))) Zhi) ρ=.ok (tyN (Zgg c j)):=Zm (Zm (r_sl he rfl (Zwq hi) (Xwz h).1) (Jl (Zd (Zm (Zm he hi (Zvp h)) rfl rfl) rfl) rfl) (Xsj h hl).1) (r_sl he (Zwq (Zm hi rfl rfl)) rfl (Xwz h).2) (Xsj h hl).2
def Zaf:FS:=
 (sIf (cE (f2 gLt (f2 gIx (fV 5) (fV 2)) (fV 3))) (Xj (Xw 7 (f2 Zkj (f2 Zkj (fSl Xcb (fV 5) Zhi (Zef (fV 2))) (fA Zfa (Zc (f2 Yo (f2 gIx (fV 5) (fV 2)) (fC (.int 1))) Zw))) (fSl Xcb (fV 5) (Zef (f2 Yo (fV 2) (fC (.int 1)))) Zhi))) (sIf (cE (f2 Zfo (fV 7) (fV 0))) (Zjd 0 (fV 7) (f1 Xjn (f2 Zuz (fV 6) (fA Je (Zc (fV 4) Zw))))) sNx)) sNx)
def Zel:FM:=
 (Xpk (Zfe (Zin (fV 1)) (Zgn (Yf (Zu 5) (Yf (Zu 6) Zge))) (Zpr Zaf)))
def Yd (ds:List D):R (D×D):=(Xsk 8 Zel ds).calm
def Zak:FS:=
  (Xj (Xw 7 (fA Zee (Zc (Zcb 9 2 (Zlg (fV 3) (fV 5)) (Zgn (Yf (Zu 9) (Yf (Zu 10) Zge))) Zjc (f2 Zgi (fV 9) (fV 10))) Zw)))
    (Xj (sIf (cE (f2 gLt (Zpg (fV 7) (fC (.int 0))) (fC (.int 0)))) sCnt sNx)
    (Xj (Xw 8 (fIf (Zvm (fV 6)) (f2 Yo (f2 gIx (fV 4) (fC (.int 0))) (fC (.int 1))) (f1 Yv (f2 gIx (fV 4) (fC (.int 0))))))
    (sIf (cOr (cE (f2 Zfo (fV 7) (fV 2))) (cE (f2 gLt (fV 8) (f2 gIx (f2 Xqe (fV 2) (fV 7)) (fC (.int 0)))))) (Zjd 2 (fV 7) (fA Zfa (Zc (fV 8) (Zc (f1 Xjn (f2 Zuz (f2 gIx (fV 4) (fC (.int 1))) (fA Je (Zc (fV 6) Zw)))) Zw)))) sNx))))
def Zeq:FS:=
 (Zfe (Zin (fV 1)) (Zgn (Yf (Zu 5) (Yf (Zu 6) Zge))) Zak)
def Zpw:FS:=
  (Xj (Xw 2 (fC (.dtt [] [])))
    (Xj (Zfe (Zin (fV 0)) (Zgn (Yf (Zu 3) (Yf (Zu 4) Zge))) Zeq)
    (Zkc 2)))
def Zao (ds:List D):R D:=(run 9 Zpw ds).calm
def Zap:FS:=
  (sIf (cE (f2 gLt (f2 gIx (fV 9) (fV 7)) (f2 gIx (fV 2) (fV 7)))) (Xj (Xw 10 (f2 Zkj (f2 Zkj (fSl Xcb (fV 9) Zhi (Zef (fV 7))) (fA Zfa (Zc (f2 Yo (f2 gIx (fV 9) (fV 7)) (fC (.int 1))) Zw))) (fSl Xcb (fV 9) (Zef (f2 Yo (fV 7) (fC (.int 1)))) Zhi)))
    (Zjd 6 (fV 10) (fC (.bl true)))) sNx)
def Zcg:FS:=
  (Xj (Xw 8 (f2 Zgi (fV 5) (f2 gIx (f2 gIx (fV 1) (fV 7)) (fC (.int 1)))))
    (sIf (cE (Ye Zaq (Zc (fV 3) (Zc (f2 gIx (fV 1) (fV 7)) (Zc (fV 8) Zw))))) (Zfe (Zdg (f2 gIx (fV 4) (fV 8))) (Zu 9) Zap) sNx))
def Zau:FS:=
  (Xj (Xw 6 (fA Zti (Zc (f2 gIx (fV 4) (f1 Xcx (fC (.int 1)))) Zw)))
    (Xj (Zfe (Zgo (Zc (fA Zbr (Zc (fV 1) Zw)) Zw)) (Zu 7) Zcg)
    (Zif 4 6)))
def Zko:FS:=
  (Xj (Xw 3 (Ye Jt (Zc (fV 0) Zw)))
    (Xj (Xw 4 (fA Je (Zc (f1 Xms (Zfx (fA Zee (Zc (f2 Zal (fA Je (Zc (fC (.int 0)) Zw)) (fA Zbr (Zc (fV 1) Zw))) Zw)) (fC (.bl true)))) Zw)))
    (Xj (Zfe (Zty (Zc (fC (.int 1)) (Zc (fA Zbr (Zc (fV 3) Zw)) Zw))) (Zu 5) Zau)
    (Zcn (f1 Yv (f2 gIx (fV 4) (f1 Xcx (fC (.int 1)))))))))
def Jj (ds:List D):R D:=(run 11 Zko ds).calm
def Ju:FS:=
 (sIf (Xcq (cE (Ye Yh (Zc (fV 3) Zw)))) (Zcn (fC (.bl false))) sNx)
def Zbc:FS:=
  (Xj (sIf (Xcq (cE (f1 (Zvi "list") (fV 2)))) (Zcn (fC (.bl false))) sNx)
    (Zfe (Zed (fV 2)) (Zu 3) Ju))
def Znb:FS:=
  (Xj (sIf (cOr (Xcq (cE (f1 (Zvi "list") (fV 0)))) (cE (f2 gNe (fV 0) (fV 1)))) (Zcn (fC (.bl false))) sNx)
    (Xj (Zfe (Zed (fV 0)) (Zu 2) Zbc)
    (Zcn (fC (.bl true)))))
def Yr (ds:List D):R D:=(run 4 Znb ds).calm
def Zig:FS:=
  (Xj (Xw 8 (f2 Zgi (fV 4) (f2 gIx (fV 7) (fC (.int 1)))))
    (sIf (cE (Ye Zoj (Zc (fV 0) (Zc (fV 7) (Zc (fV 8) Zw))))) (Zmg (Zjk 5 Yd (Zc (f2 gIx (fV 3) (fV 8)) (Zc (fV 6) (Zc (f2 gIx (fV 2) (fV 6)) (Zc (fA Zfa (Zc (fV 8) (Zc (f2 gIx (fV 7) (fC (.int 0))) Zw))) Zw)))))) sNx))
def Zdq:FS:=
  (Xj (Xw 5 (fA Zti (Zc (f2 gIx (fV 3) (f1 Xcx (fC (.int 1)))) Zw)))
    (Xj (Zfe (Xkv (fV 1)) (Zgn (Yf (Zu 6) (Yf (Zu 7) Zge))) Zig)
    (Zif 3 5)))
def Xca:FS:=
  (Xj (Xw 3 (fA Je (Zc (f1 Xms (Zfx (fA Zee (Zc (f2 Zal (fA Je (Zc (fC (.int 0)) Zw)) (fA Zbr (Zc (fV 2) Zw))) Zw)) (f1 Xjn (fA Je Zw)))) Zw)))
    (Xj (Zfe (Zty (Zc (fC (.int 1)) (Zc (f2 Yo (fA Zbr (Zc (fV 0) Zw)) (fC (.int 1))) Zw))) (Zu 4) Zdq)
    (Zcn (f1 Yv (f2 gIx (fV 3) (f1 Xcx (fC (.int 1))))))))
def Zco (ds:List D):R D:=(run 9 Xca ds).calm
def Zdk:FS:=
  (Xj (Xw 9 (f1 Yv (f2 gIx (fV 5) (fV 8))))
    (Xj (sIf (Xmz (cE (f2 gEq (fV 8) (fC (.int 0)))) (cE (f2 gEq (f2 gIx (fV 5) (fC (.int 8))) (fC (.int 0))))) (Xw 9 (f2 Zgi (fV 4) (fC (.int 1)))) sNx)
    (Xj (sIf (cE (f2 gGt (f2 Zal (fV 7) (f2 Yo (fV 9) (fC (.int 1)))) (fV 4))) (Xw 9 (fC (.int 0))) sNx)
    (Xj (Xw 7 (f2 Zal (fV 7) (f2 Yo (fV 9) (fC (.int 1)))))
    (Zpf 6 (f1 Yv (fV 9)))))))
def Zns:FS:=
  (Xj (Xw 5 (Ye Xn (Zc (fV 0) (Zc (fV 1) (Zc (f2 Yo (f2 Zal (fA Je (Zc (f2 Yo (fV 3) (fC (.int 1))) Zw)) (fC (.int 8))) (fA Je (Zc (fC (.int 16)) Zw))) Zw)))))
    (Xj (Xw 6 (fA Je Zw))
    (Xj (Xw 7 (fC (.int 1)))
    (Xj (Zfe (Zgo (Zc (fA Zbr (Zc (fV 2) Zw)) Zw)) (Zu 8) Zdk)
    (Zcn (fV 6))))))
def Jx (ds:List D):R D:=(run 10 Zns ds).calm
def Zaa:FS:=
  (Xj (Xw 9 (fA Zee (Zc (Zcb 10 2 (Zlg (fV 7) (fV 8)) (Zgn (Yf (Zu 10) (Yf (Zu 11) Zge))) Zjc (f2 Zgi (fV 10) (fV 11))) Zw)))
    (sIf (cOr (cE (f2 gEq (fA Zbr (Zc (fV 9) Zw)) (fC (.int 0)))) (cE (f2 gGe (fA Zyu (Zc (fV 9) Zw)) (fC (.int 0))))) (Zjd 6 (fV 9) (fC (.bl true))) sNx))
def Zac:FS:=
 (Zfe (Zdg (fV 5)) (Zu 8) Zaa)
def Zca:FS:=
  (Xj (Xw 5 (Ye Jj (Zc (fV 4) (Zc (fV 1) (Zc (fV 2) Zw)))))
    (Xj (Xw 6 (fC (.dtt [] [])))
    (Xj (Zfe (Zdg (fV 3)) (Zu 7) Zac)
    (Zjq 3 6))))
def Zjh:FS:=
  (Xj (Xw 3 (f1 Xms (Zfx (fA Zee (Zc (fV 2) Zw)) (fC (.bl true)))))
    (Xj (Zfe (Zed (fV 0)) (Zu 4) Zca)
    (Zcn (fV 3))))
def Yx (ds:List D):R D:=(run 10 Zjh ds).calm
def Zbl:FS:=
 (Xw 3 (Ye Zao (Zc (fV 3) (Zc (Ye Zco (Zc (fV 4) (Zc (fV 1) (Zc (fV 2) Zw)))) Zw))))
def Zhw:FS:=
  (Xj (Zvg (Ye Jv (Zc (fV 0) (Zc (fV 2) Zw))))
    (Xj (Xw 3 (f1 Xms (Zfx (fA Zee (Zc (fV 2) Zw)) (fA Zfa (Zc (fC (.int 0)) (Zc (f1 Xjn (fA Je Zw)) Zw))))))
    (Xj (Zfe (Zed (fV 0)) (Zu 4) Zbl)
    (Zcn (fV 3)))))
def Ys (ds:List D):R D:=(run 5 Zhw ds).calm
def Znn:FS:=
  (Xj (Xw 5 (Ye Jq (Zc (fV 0) (Zc (fV 1) (Zc (fV 4) Zw)))))
    (Xj (Xw 6 (Ye Jd (Zc (fV 0) (Zc (fV 1) (Zc (fV 4) Zw)))))
    (Xj (Xw 7 (Ye Xn (Zc (fV 0) (Zc (f2 Yo (fV 1) (fC (.int 1))) (Zc (fA Je (Zc (f2 Yo (fV 2) (fC (.int 1))) (Zc (fC (.int 8)) (Zc (fC (.int 4)) Zw)))) Zw)))))
    (Xj (Xw 8 (f1 Yv (f2 gIx (fV 7) (fC (.int 0)))))
    (Xj (sIf (cE (f2 gLt (f2 gIx (fV 7) (fC (.int 1))) (fC (.int 2)))) (Xj (Xw 8 (f2 Zgi (fC (.int 12)) (f2 gIx (fV 7) (fC (.int 2)))))
    (Xw 3 (fC (.int 10)))) sNx)
    (Xj (sIf (cE (f2 gEq (f2 gIx (fV 7) (fC (.int 1))) (fC (.int 2)))) (Xj (Xw 8 (fA Xnm (Zc (fV 8) (Zc (fC (.int 2)) Zw))))
    (Xw 3 (fC (.int 40)))) sNx)
    (Xj (Xw 9 (Zcb 10 1 (Zgo (Zc (fV 8) Zw)) (Zu 10) Zjc (Ye Jb (Zc (fV 0) (Zc (f2 Yo (f2 Yo (fV 1) (fC (.int 2))) (fV 10)) (Zc (fV 3) (Zc (fV 5) Zw)))))))
    (Zcn (fA Zfa (Zc (fV 9) (Zc (fV 6) Zw)))))))))))
def Jw (ds:List D):R D:=(run 10 Znn ds).calm
def Ztp:FS:=
 (Zcn (fA Zhq (Zc (Zcb 3 1 (Zdg (Ye Ys (Zc (fV 0) (Zc (fV 1) (Zc (fV 2) Zw))))) (Zu 3) Zjc (fA Zew (Zc (fV 3) Zw))) Zw)))
def Jr (ds:List D):R D:=(run 3 Ztp ds).calm
def q_law:FS:=
  (Xj (Xqn (Ye Jw (Zc (fV 0) (Zc (fC (.int 0)) (Zc (fC (.int 4)) (Zc (fC (.int 16)) (Zc (fC (.int 8)) Zw)))))) (Zgn (Yf (Zu 1) (Yf (Zu 2) Zge))))
    (Xj (Xw 3 (Ye Jx (Zc (fV 0) (Zc (fC (.int 30)) (Zc (fV 2) (Zc (fC (.int 3)) (Zc (f2 gIx (fA Je (Zc (fC (.int 120)) (Zc (fC (.int 60)) (Zc (fC (.int 24)) Zw)))) (f2 Yo (fA Xkb (Zc (f2 gGt (fA Zbr (Zc (fV 1) Zw)) (fC (.int 2))) Zw)) (fA Xkb (Zc (f2 gGt (fA Zbr (Zc (fV 1) Zw)) (fC (.int 5))) Zw)))) Zw)))))))
    (Xj (Xw 4 (fA Zhq (Zc (Zcb 8 1 (Zdg (Ye Yx (Zc (fV 1) (Zc (fV 2) (Zc (fV 3) Zw))))) (Zu 8) Zjc (fA Zew (Zc (fV 8) Zw))) Zw)))
    (Xj (Xw 5 (Ye Yt (Zc (fV 1) (Zc (fV 2) (Zc (fV 3) Zw)))))
    (Xj (Xw 6 (Ye Jr (Zc (f2 gIx (fV 5) (fC (.int 0))) (Zc (f2 gIx (fV 5) (fC (.int 1))) (Zc (f2 gIx (fV 5) (fC (.int 2))) Zw)))))
    (Xj (sIf (cOr (Xcq (cE (Ye Yr (Zc (fV 6) (Zc (fV 4) Zw))))) (cOr (cE (f2 gNe (fV 5) (fA Je (Zc (fV 1) (Zc (fV 2) (Zc (fV 3) Zw)))))) (cE (f2 Zra (fV 3) (fV 6))))) (Zcn (fC (.bl false))) sNx)
    (Xj (Zvo 6 (Zc (fC (.int 0)) Zw) (fC (.int 5)))
    (Xj (Zpf 6 (fA Je Zw))
    (Xj (Xw 7 (Ye Yt (Zc (f2 Xbd (fV 1) (f1 Xcx (fC (.int 1)))) (Zc (fV 2) (Zc (fV 3) Zw)))))
    (Xj (sIf (Xcq (cE (Ye Yr (Zc (Ye Jr (Zc (f2 gIx (fV 7) (fC (.int 0))) (Zc (f2 gIx (fV 7) (fC (.int 1))) (Zc (f2 gIx (fV 7) (fC (.int 2))) Zw)))) (Zc (fV 4) Zw))))) (Zcn (fC (.bl false))) sNx)
    (Zcn (Ye Yr (Zc (Ye Jr (Zc (f2 gIx (fV 5) (fC (.int 0))) (Zc (f2 gIx (fV 5) (fC (.int 1))) (Zc (f2 gIx (fV 5) (fC (.int 2))) Zw)))) (Zc (fV 4) Zw))))))))))))))
def Xom (ds:List D):R D:=(run 8 q_law ds).calm
def oD (os:List Nat):D:=iD (os.map fun x:Nat=>(x:Int))
def fps (ps:List (Int×Str)):D:=.flst (ps.map pD)
def WC (ns:List Int)(ks:List Kd)(e:Nat)(c:List Nat)(x:D):Prop:=∃ps,x=fps ps/\Ct ns ks e c ps
def WT (_:List Nat)(x:D):Prop:=x=.bl true
theorem Zlh {α:Type}{f:α->D}(h:∀x,flat (f x)=true):∀l:List α,Zx (l.map f)=true
 | []=>rfl
 | x::l=>by rw [Bn];show (flat (f x)&&Zx _)=true;rw [h x,Zlh h l];rfl
theorem Xrr (ps:List (Int×Str)):Zx (ps.map pD)=true:=Zlh (fun _=>rfl) ps
theorem Zxo {f:FS}(h:f ρ=.ok (.nx ρ')):Zpr f ρ=.ok (.nx ρ'):=by unfold Zpr;rw [h];rfl
theorem Zsn {k e:FE}{ks:List (List (Int ⊕ Str))}{z:D}(he:e ρ=.ok d)(hi:ρ[i]?=some (some (.dtt ks xs)))(hk:k ρ=.ok z)(hz:Xej z=some q)(hd:flat d=true)(hx:Zx xs=true)(hl:ks.length<lim)(hp:Xpx ks xs q d=d'):Zjd i k e ρ=.ok (.nx (ρ.set i (some d'))):=by unfold Zjd;rw [he,Zar,hi];show (k ρ).bind _=_;rw [hk,Zar,hz,<- hp];exact if_pos ⟨hd,hx,hl⟩
theorem Xkl {args:FA}{d0:D}(hi:ρ[i]?=some (some d0))(ha:args ρ=.ok ys)(h:G (d0::ys)=.ok (d,d')):Zmg (Zjk i G args) ρ=.ok (.nx (ρ.set i (some d'))):=by unfold Zmg Zjk;rw [hi];show ((args ρ).bind _).bind _=_;rw [ha];show ((G (d0::ys)).bind _).bind _=_;rw [h];rfl
theorem Xbe {ks:List (List (Int ⊕ Str))}(hi:ρ[i]?=some (some (.lst xs)))(hj:ρ[j]?=some (some (.dtt ks ds)))(h1:Zx ds=true)(h2:Zx xs=true)(hn:i≠j)(hl:xs.length<lim):Zif i j ρ=.ok (.nx ((ρ.set j none).set i (some (.lst (xs++[.fdt ks ds]))))):=by unfold Zif;rw [hi,hj];exact if_pos ⟨h1,h2,hn,hl⟩
theorem Zzd :Zfo (tyN c) (.dtt (cs.map kyN) xs)=some (.bl (!decide (c∈cs))):=by show (Xej (tyN c)).map _=_;rw [Zdn];show some (D.bl (!Xmh (cs.map kyN) (kyN c)))=_;rw [Xip]
theorem Zei (hl:xs.length=cs.length)(h:c∈cs):∃x,(c,x)∈cs.zip xs:=by obtain ⟨x,-,h⟩:=Zrk cs xs hl h;exact ⟨x,h⟩
theorem Zxq {ks:List α}{l r:List (α×Nat)}{x:α×Nat}(e:ks.zipIdx=l++x::r):x.2=l.length/\ks[l.length]?=some x.1:=by
 have h:(ks.zipIdx)[l.length]?=some x:=by rw [e];simp
 rw [List.getElem?_zipIdx] at h;cases q:ks[l.length]? with
 | none=>rw [q] at h;cases h
 | some k =>rw [q] at h;cases h;exact ⟨EG _,rfl⟩
theorem Zgu {r:List Nat}(e:AO n=l++x::r):x=l.length/\l.length<n:=by
 have h:(AO n)[l.length]?=some x:=by rw [e];simp
 obtain ⟨h1,h2⟩:=Ag.mp h;rw [IE] at h2;rw [Dc] at h1;exact ⟨h2.symm,h1⟩
theorem Xgb {x:D}(hl:xs.length=e+1)(h:xs[e]?=some x):gIx (.lst xs) (.int (-1))=some x:=by
 have hne:xs≠[]:=fun z=>by rw [z] at hl;cases hl
 have q:=D7 hne;have g:xs.getLast hne=x:=by rw [List.getLast_eq_getElem];have:=(Ag.mp h).2;rw [<- this];congr 1;omega
 rw [<- q,g];exact Xns _ _
theorem r_mbZ {r:FM}(h:s ρ=.ok (.nx ρ'))(h2:r ρ'=p):Xbx s r ρ=p:=by unfold Xbx;rw [h];exact h2
theorem Xrl {G:FM}{o:D}(h:G (ds.map some++Ab (N - ds.length) none)=.ok (d,ρ))(h0:ρ[0]?=some (some o)):(Xsk N G ds).calm=.ok (d,o):=by unfold Xsk;rw [h];show (match ρ[0]? with | some (some d')=>R.ok (d,d') | _=>.bad).calm=_;rw [h0];rfl
theorem StS.le (h:StS ns ks os e i c):LeC c os:=by rcases h with h | ⟨i',k,b,c',h1,h2,h3,h4,h5,h6,rfl⟩;exact h.1;exact h5.1.up h6
theorem StS.zero :StS ns ks os e 0 c↔KS ns ks os e c:=by constructor;rintro (h | ⟨i',_,_,_,h,_⟩);exact h;exact absurd h (GQ _);exact .inl
theorem StS.same {k:Kd}(hk:ks[i]?=some k)(h:good ns k ((e:Int)+1 - k.w)=false):StS ns ks os e i c↔StS ns ks os e (i+1) c:=by constructor;rintro (h | ⟨i',k,b,c',h1,h2⟩);exact .inl h;exact .inr ⟨i',k,b,c',Dp h1,h2⟩;rintro (h | ⟨i',k',b,c',h1,h2,h3,h4,h5⟩);exact .inl h;rcases Hm.mp h1 with q | q;exact .inr ⟨i',k',b,c',q,h2,h3,h4,h5⟩;subst q;rw [hk] at h2;cases h2;rw [h3,h] at h4;cases h4
theorem StS.more {b:Nat}{k:Kd}(hk:ks[i]?=some k)(hb:(b:Int)=(e:Int)+1 - k.w)(h:good ns k (b:Int)=true):StS ns ks os e (i+1) c↔StS ns ks os e i c\/∃c',KS ns ks os b c'/\c'.getD i 0<os.getD i 0/\c=Zgg c' i:=by
 constructor;rintro (h | ⟨i',k',b',c',h1,h2,h3,h4,h5⟩);exact .inl (.inl h);rcases Hm.mp h1 with q | q;exact .inl (.inr ⟨i',k',b',c',q,h2,h3,h4,h5⟩);subst q;rw [hk] at h2;cases h2;have:b'=b:=by omega
 subst this;exact .inr ⟨c',h5⟩;rintro ((h | ⟨i',k,b,c',h1,h2⟩) | ⟨c',h1⟩);exact .inl h;exact .inr ⟨i',k,b,c',Dp h1,h2⟩;exact .inr ⟨i,k,b,c',GA _,hk,hb,h,h1⟩
theorem Znr (h:KS ns ks os e c):c.length=ks.length:=h.2.elim fun _ g=>g.len
abbrev Xsg (cs:List (List Nat))(xs:List D)(ca:List (List Nat))(xa:List D)(i:Nat)(os:List Nat)(b:Nat)(k:Kd)(o5 o6 o7:Option D):Env:=[some (.dtt (cs.map kyN) xs),some (.fdt (ca.map kyN) xa),some (.int (i:Int)),some (.int (os.getD i 0:Nat)),some (pD ((b:Int),k.name)),o5,o6,o7]
theorem Zuh (ho:Zcc os)(hlk:ks.length<=8)(hw:∀k∈ks,1<=k.w)(hn:ns.length<=1000){b:Nat}{k:Kd}(he:e<=1000)(hk:ks[i]?=some k)(hb:(b:Int)=(e:Int)+1 - k.w)(hg:good ns k (b:Int)=true)(ha:Dkt (KS ns ks os b) (WC ns ks b) ca xa)(hr:Dkt (StS ns ks os e i) (WC ns ks (e+1)) cr xr) :
  ∃cr' xr',Yd [.dtt (cr.map kyN) xr,.fdt (ca.map kyN) xa,.int (i:Int),.int (os.getD i 0:Nat),pD ((b:Int),k.name)]=.ok (.non,.dtt (cr'.map kyN) xr')/\Dkt (StS ns ks os e (i+1)) (WC ns ks (e+1)) cr' xr':=by
 have hi:=(Ag.mp hk).1;have wk:=hw k (Al hk)
 let S':List (List Nat×D)->List Nat->Prop:=fun l c=>StS ns ks os e i c\/∃p∈l,p.1.getD i 0<os.getD i 0/\c=Zgg p.1 i
 have sub:∀p∈ca.zip xa,KS ns ks os b p.1:=fun p hp=>(ha.ky _).mp (DA hp).1;have sle:∀l,(∀p∈l,p∈ca.zip xa)->∀c,S' l c->LeC c os:=by rintro l hl c (h | ⟨p,hp,h,rfl⟩);exact h.le;exact (sub p (hl p hp)).1.up h
 have loop:=Zah (enc:=fun p:List Nat×D=>D.tup [tyN p.1,p.2]) (b:=Zgn (Yf (Zu 5) (Yf (Zu 6) Zge))) (s:=Zpr Zaf) (xs:=ca.zip xa) (ρ:=(Xsg cr xr ca xa i os b k none none none))
  (P:=fun l ρ=>∃(cs:List (List Nat)) (xs:List D) (o5 o6 o7:Option D),ρ=(Xsg cs xs ca xa i os b k o5 o6 o7)/\Dkt (S' l) (WC ns ks (e+1)) cs xs)
  ⟨cr,xr,none,none,none,rfl,hr.imp (fun c=>⟨.inl,fun h=>h.elim id fun ⟨_,z,_⟩=>nomatch z⟩) fun _ _ _ h=>h⟩ ?_
 obtain ⟨ρ',⟨cs,xs,o5,o6,o7,rfl,hd⟩,t⟩:=loop;refine ⟨cs,xs,Xrl (r_mbZ (Zbh (Zpo rfl (ha.few ho fun c h=>h.1)) t) rfl) rfl,hd.imp (fun c=>?_) fun _ _ _ h=>h⟩;rw [StS.more hk hb hg];constructor;rintro (h | ⟨p,hp,h⟩);exact .inl h;exact .inr ⟨p.1,sub p hp,h⟩;rintro (h | ⟨c',h1,h⟩);exact .inl h;obtain ⟨x,hx⟩:=Zei ha.ln ((ha.ky c').mpr h1);exact .inr ⟨(c',x),hx,h⟩;rintro l ⟨c,x⟩ r ρ e1 ⟨cs,xs,o5,o6,o7,rfl,hd⟩;have hx:(c,x)∈ca.zip xa:=by rw [e1];simp
 have hl:∀p∈l,p∈ca.zip xa:=fun p hp=>by rw [e1];exact AJ _ hp
 have kc:KS ns ks os b c:=sub _ hx;have hil:i<c.length:=by rw [Znr kc];exact hi
 obtain ⟨ps,rfl,hct⟩:WC ns ks b c x:=ha.vl _ hx;have up1:=r_up (e:=fV 5) (i:=fV 2) (ρ:=(Xsg cs xs ca xa i os b k (some (tyN c)) (some (fps ps)) o7)) (c:=c) (j:=i) rfl rfl hil (by rw [Znr kc];omega);have snoc:∀c',S' (l++[(c,fps ps)]) c'↔S' l c'\/(c.getD i 0<os.getD i 0/\c'=Zgg c i):=fun c'=>by constructor;rintro (h | ⟨p,hp,h⟩);exact .inl (.inl h);rcases Au.mp hp with q | q;exact .inl (.inr ⟨p,q,h⟩);rw [Ao.mp q] at h;exact .inr h;rintro ((h | ⟨p,hp,h⟩) | h);exact .inl h;exact .inr ⟨p,AJ _ hp,h⟩;exact .inr ⟨_,As _ (.head _),h⟩
 by_cases q:c.getD i 0<os.getD i 0;by_cases m:Zgg c i∈cs;refine ⟨(Xsg cs xs ca xa i os b k (some (tyN c)) (some (fps ps)) (some (tyN (Zgg c i)))),.inl ?_,⟨cs,xs,_,_,_,rfl,hd.imp (fun c'=>?_) fun _ _ _ h=>h⟩⟩;exact Zxo (Zad (Yp (Zm (Zm rfl rfl (Zvp hil)) rfl (Zrs (Cc.mpr q)))) (Zo (Zy up1) (Ym (Yp (Zm rfl rfl (Zzd.trans (by rw [decide_eq_true m];rfl)))) rfl)));rw [snoc c'];refine ⟨.inl,fun h=>h.elim id fun h=>?_⟩;rw [h.2];exact (hd.ky _).mp m;have fl:flat (fps (ps++[((b:Int),k.name)]))=true:=rfl;have wv:WC ns ks (e+1) (Zgg c i) (fps (ps++[((b:Int),k.name)])):=by have:=Ct.cut hct hk hg;rw [show b+k.w.toNat=e+1 by omega] at this;exact ⟨_,rfl,this⟩
 obtain ⟨cs',xs',e2,hd'⟩:=hd.put (S':=S' (l++[(c,fps ps)])) (W':=WC ns ks (e+1)) (k:=Zgg c i) fl (fun c'=>by rw [snoc c'];exact ⟨fun h=>h.imp id fun h=>h.2,fun h=>h.imp id fun h=>⟨q,h⟩⟩) (fun _ _ _ _ h=>h) wv;refine ⟨[some (.dtt (cs'.map kyN) xs'),some (.fdt (ca.map kyN) xa),some (.int (i:Int)),some (.int (os.getD i 0:Nat)),some (pD ((b:Int),k.name)),some (tyN c),some (fps ps),some (tyN (Zgg c i))],.inl ?_,⟨cs',xs',_,_,_,rfl,hd'⟩⟩;have lp:ps.length<=b:=hct.few hw;have ad:Zuz (fps ps) (.lst [pD ((b:Int),k.name)])=some (.lst ((ps++[((b:Int),k.name)]).map pD)):=by refine (if_pos ⟨?_,rfl⟩).trans (by rw [Bc];rfl);rw [Am];show _+1<=1000000;omega
 have fz:Xjn (.lst ((ps++[((b:Int),k.name)]).map pD))=some (fps (ps++[((b:Int),k.name)])):=if_pos (Xrr _);have nl:=hd.few ho (sle l hl);exact Zxo (Zad (Yp (Zm (Zm rfl rfl (Zvp hil)) rfl (Zrs (Cc.mpr q)))) (Zo (Zy up1) (Zad (Yp (Zm rfl rfl (Zzd.trans (by rw [decide_eq_false m];rfl)))) (Zsn (Zez (Zm rfl (Jl (Zd rfl rfl) rfl) ad) fz) rfl rfl (Zdn _) fl hd.fl (by rw [Am];exact DB nl (by decide)) e2))));refine ⟨(Xsg cs xs ca xa i os b k (some (tyN c)) (some (fps ps)) o7),.inl ?_,⟨cs,xs,_,_,_,rfl,hd.imp (fun c'=>?_) fun _ _ _ h=>h⟩⟩;exact Zxo (Ym (Yp (Zm (Zm rfl rfl (Zvp hil)) rfl (Zmb fun z=>q (Cc.mp z)))) rfl);rw [snoc c'];exact ⟨.inl,fun h=>h.elim id fun h=>absurd h.1 q⟩
structure Rws (ns:List Int)(ks:List Kd)(os:List Nat)(W:Nat->List Nat->D->Prop)(e:Nat)(Rs:List D):Prop where
 ln:Rs.length=e+1
 fl:Zx Rs=true
 rw_:∀j,j<=e->∃cs xs,Rs[j]?=some (.fdt (cs.map kyN) xs)/\Dkt (KS ns ks os j) (W j) cs xs
theorem Rws.snoc {W:Nat->List Nat->D->Prop}(h:Rws ns ks os W e Rs)(hd:Dkt (KS ns ks os (e+1)) (W (e+1)) cs xs):Rws ns ks os W (e+1) (Rs++[.fdt (cs.map kyN) xs]):=by
 refine ⟨by rw [Ai,h.ln];rfl,Zlt rfl _ h.fl,fun j hj=>?_⟩;rcases Nat.lt_or_ge e j with q | q;have:j=e+1:=by omega
 subst this;exact ⟨cs,xs,by rw [<- h.ln,List.getElem?_concat_length],hd⟩;obtain ⟨cs',xs',h1,h2⟩:=h.rw_ j q;exact ⟨cs',xs',by rw [AH (by rw [h.ln];omega)];exact h1,h2⟩
theorem le_zero (ho:os.length=ks.length):LeC (Ab ks.length 0) os:=⟨by rw [Cg,ho],fun i=>by rw [AI,EM];split<;>exact Dt _⟩
theorem KS.nothing (ho:os.length=ks.length)(e:Nat):KS ns ks os e (Ab ks.length 0):=⟨le_zero ho,[],Ct.none ns ks e⟩
theorem KS.zero (ho:os.length=ks.length)(hw:∀k∈ks,1<=k.w)(c:List Nat):KS ns ks os 0 c↔c=Ab ks.length 0:=by
 constructor;rintro ⟨-,ps,h⟩;generalize hE:0=E at h;cases h with
 | zero=>rfl
 | skip _=>cases hE
 | cut h hk hg =>have:=hw _ (Al hk);omega
 rintro rfl;exact KS.nothing ho 0
theorem Zng:∀n:Nat,(Ab n [(0:Int)]).flatten=(Ab n 0).map fun x:Nat=>(x:Int)
 | 0=>rfl
 | n+1=>by rw [Bi,Ba,Zng n,Bi];rfl
theorem Xbm {e:FE}(h:e ρ=.ok (.int (n:Int)))(hn:n<=200):fA Zee (Zc (f2 Zal (fA Je (Zc (fC (.int 0)) Zw)) e) Zw) ρ=.ok (tyN (Ab n 0)):=by
 have m:Zal (.lst ([0].map D.int)) (.int (n:Int))=some (iD ((Ab n 0).map fun x:Nat=>(x:Int))):=by rw [Zln (by omega) (by omega) (by decide),Dm,Zng]
 refine Jl (Zd (Zm (Jl (Zd rfl rfl) rfl) h m) rfl) ?_;unfold iD;rw [BI];exact if_pos (Jg (Ab n 0))
theorem Zrb {b:FE}(ha:a ρ=.ok (tyN c))(hb:b ρ=.ok v)(hv:flat v=true):f1 Xms (Zfx a b) ρ=.ok (.fdt ([c].map kyN) [v]):=by refine Zez (x:=.dtt [kyN c] [v]) ?_ (if_pos (by simp [Zx,hv]));unfold Zfx;rw [ha,Zar,hb,Zar,Zdn];exact if_pos hv
theorem o_len (os:List Nat):Zbr [oD os]=some (.int (os.length:Int)):=by show some (D.int (((os.map fun x:Nat=>(x:Int)).map D.int).length:Nat))=_;rw [Am,Am]
theorem o_ix (h:i<os.length):gIx (oD os) (.int (i:Int))=some (.int ((os.getD i 0:Nat):Int)):=Xqj (k:=i) rfl (by rw [Bk,Bk,AI,Ad h];rfl)
theorem Zto {W:Nat->List Nat->D->Prop}(h:Rws ns ks os W e Rs):∃cs xs,gIx (.lst Rs) (.int (-1))=some (.fdt (cs.map kyN) xs)/\Dkt (KS ns ks os e) (W e) cs xs:=by obtain ⟨cs,xs,h1,h2⟩:=h.rw_ e (Ax _);exact ⟨cs,xs,Xgb h.ln h1,h2⟩
theorem WC.skip {e:Nat}{c:List Nat}{x:D}(h:WC ns ks e c x):WC ns ks (e+1) c x:=h.imp fun _ h=>⟨h.1,.skip h.2⟩
abbrev Xqf (ns:List Int)(ks:List Kd)(os:List Nat)(Rs:List D)(e:Nat)(o5 o6 o7 o8:Option D):Env:=[some (iD ns),some (tD ks),some (oD os),some (.lst Rs),some (.int (1+(e:Int))),o5,o6,o7,o8]
theorem Zzt (ho:Zcc os)(hol:os.length=ks.length)(hlk:ks.length<=8)(hw:∀k∈ks,1<=k.w)(hn:ns.length<=1000)(he:e<ns.length)(hR:Rws ns ks os (WC ns ks) e Rs)(o5 o6 o7 o8:Option D) :
  ∃cs xs p6 p7 p8,Zdq (Xqf ns ks os Rs e o5 o6 o7 o8)=.ok (.nx (Xqf ns ks os ((Rs++[.fdt (cs.map kyN) xs])) e none p6 p7 p8))/\Dkt (KS ns ks os (e+1)) (WC ns ks (e+1)) cs xs:=by
 obtain ⟨c0,x0,hl0,hd0⟩:=Zto hR;have loop:=Zah (enc:=fun x:Kd×Nat=>D.tup [.int (x.2:Int),kD x.1]) (b:=Zgn (Yf (Zu 6) (Yf (Zu 7) Zge))) (s:=Zig) (xs:=ks.zipIdx) (ρ:=(Xqf ns ks os Rs e (some (.dtt (c0.map kyN) x0)) o6 o7 o8))
  (P:=fun l ρ=>∃(cs:List (List Nat)) (xs:List D) (o6 o7 o8:Option D),ρ=(Xqf ns ks os Rs e (some (.dtt (cs.map kyN) xs)) o6 o7 o8)/\Dkt (StS ns ks os e l.length) (WC ns ks (e+1)) cs xs)
  ⟨c0,x0,o6,o7,o8,rfl,hd0.imp (fun c=>StS.zero.symm) fun _ _ _ h=>h.skip⟩ ?_
 obtain ⟨ρ',⟨cs,xs,p6,p7,p8,rfl,hd⟩,t⟩:=loop;have hd:Dkt (KS ns ks os (e+1)) (WC ns ks (e+1)) cs xs:=hd.imp (fun c=>by rw [List.length_zipIdx];exact StS.all hw) fun _ _ _ h=>h;refine ⟨cs,xs,p6,p7,p8,Zo (Zy (Jl (Zd (Zm rfl rfl hl0) rfl) (hd0.dict ho (fun c h=>h.1) (KS.nothing hol e)))) (Zo (Zbh (xs:=ks.zipIdx.map fun x:Kd×Nat=>D.tup [.int (x.2:Int),kD x.1]) ?_ t) ?_),hd⟩;show (if (ks.map kD).length<=lim then R.ok (Zlm (ks.map kD)) else .bad)=_;rw [if_pos (by rw [Am];exact AC hlk (by decide)),Zwe];exact Xbe rfl rfl hd.fl hR.fl (by decide) (by rw [hR.ln];show _<1000000;omega);rintro l ⟨k,i⟩ r ρ e1 ⟨cs,xs,p6,p7,p8,rfl,hd⟩;obtain ⟨rfl,hk⟩:=Zxq e1;have hi:=(Ag.mp hk).1;have wk:=hw k (Al hk);have set8:∀z:Int,z=1+(e:Int) - k.w->Xw 8 (f2 Zgi (fV 4) (f2 gIx (fV 7) (fC (.int 1)))) (Xqf ns ks os Rs e (some (.dtt (cs.map kyN) xs)) (some (.int (l.length:Int))) (some (kD k)) p8)=.ok (.nx (Xqf ns ks os Rs e (some (.dtt (cs.map kyN) xs)) (some (.int (l.length:Int))) (some (kD k)) (some (.int z)))):=fun z hz=>by rw [hz];exact Zy (Zm rfl (Zm rfl rfl (Xjg k)) rfl)
 cases g:good ns k (1+(e:Int) - k.w) with
 | false =>refine ⟨_,.inl (Zo (set8 _ rfl) (Ym (Yp (Xo (Zd rfl (Zd rfl (Zd rfl rfl))) ((Xae ns k _ wk).trans (by rw [g])))) rfl)),⟨cs,xs,_,_,_,rfl,hd.imp (fun c=>?_) fun _ _ _ h=>h⟩⟩;rw [Ai];exact StS.same hk (by rw [show (e:Int)+1 - k.w=1+(e:Int) - k.w by omega];exact g)
 | true =>obtain ⟨b,hb⟩:∃b:Nat,1+(e:Int) - k.w=(b:Int):=⟨(1+(e:Int) - k.w).toNat,(CP (of_decide_eq_true g).1).symm⟩;rw [hb] at g;obtain ⟨ca,xa,hra,hda⟩:=hR.rw_ b (by omega);obtain ⟨cr,xr,hF,hd'⟩:=Zuh ho hlk hw hn (e:=e) (i:=l.length) (b:=b) (k:=k) (by omega) hk (by omega) g hda hd;refine ⟨_,.inl (Zo (set8 _ hb.symm) (Zad (Yp (Xo (Zd rfl (Zd rfl (Zd rfl rfl))) ((Xae ns k _ wk).trans (by rw [g])))) (Xkl rfl (Zd (Zm rfl rfl (Xqj (k:=b) rfl hra)) (Zd rfl (Zd (Zm rfl rfl (o_ix (by rw [hol];exact hi))) (Zd (Jl (Zd rfl (Zd (Zm rfl rfl (kD_0 k)) rfl)) rfl) rfl)))) hF))),⟨cr,xr,_,_,_,rfl,?_⟩⟩;rw [Ai];exact hd'
theorem Xlj (ho:Zcc os)(hol:os.length=ks.length)(hlk:ks.length<=8)(hw:∀k∈ks,1<=k.w)(hn:ns.length<=1000):∃cs xs,Zco [iD ns,tD ks,oD os]=.ok (.fdt (cs.map kyN) xs)/\Dkt (KS ns ks os ns.length) (WC ns ks ns.length) cs xs:=by
  have loop:=Zah (enc:=fun k:Nat=>D.int (1+(k:Int))) (b:=Zu 4) (s:=Zdq) (xs:=AO ns.length) (ρ:=[some (iD ns),some (tD ks),some (oD os),some (.lst [.fdt ([Ab ks.length 0].map kyN) [fps []]]),none,none,none,none,none])
    (P:=fun l ρ=>∃(Rs:List D) (o4 o5 o6 o7 o8:Option D),ρ=[some (iD ns),some (tD ks),some (oD os),some (.lst Rs),o4,o5,o6,o7,o8]/\Rws ns ks os (WC ns ks) l.length Rs)
    ⟨_,_,_,_,_,_,rfl,rfl,rfl,fun j hj=>⟨[Ab ks.length 0],[fps []],by
      cases Fn.mp hj;rfl,by
      cases Fn.mp hj;exact Dkt.one (KS.zero hol hw) rfl ⟨[],rfl,.zero⟩⟩⟩ ?_
  obtain ⟨ρ',⟨Rs,o4,o5,o6,o7,o8,rfl,hR⟩,t⟩:=loop;rw [Dc] at hR;obtain ⟨cs,xs,hl,hd⟩:=Zto hR;have z0:fA Zee (Zc (f2 Zal (fA Je (Zc (fC (.int 0)) Zw)) (fA Zbr (Zc (fV 2) Zw))) Zw) [some (iD ns),some (tD ks),some (oD os),none,none,none,none,none,none]=.ok (tyN (Ab ks.length 0)):=Xbm (Jl (Zd rfl rfl) (by rw [<- hol];exact o_len os)) (by omega);have rg:Zki [.int 1,.int ((ns.length:Int)+1)]=.ok (Zgj 1 ns.length):=Zmu (by omega) (by omega) (by omega) (by omega) (by omega) (by omega);refine ⟨cs,xs,Jp (Zo (Zy (Jl (Zd (Zrb z0 (Zez rfl rfl) rfl) rfl) rfl)) (Zo (Zbh (Xjb (Zd rfl (Zd (Zm (Zkl rfl) rfl rfl) rfl)) rg) t) (Zaj (Zez (Zm rfl rfl hl) rfl)))),hd⟩;rintro l x r ρ e1 ⟨Rs,o4,o5,o6,o7,o8,rfl,hR⟩;obtain ⟨rfl,hlt⟩:=Zgu e1;obtain ⟨cs,xs,p6,p7,p8,t,hd⟩:=Zzt ho hol hlk hw hn hlt hR o5 o6 o7 o8;refine ⟨_,.inl t,⟨_,_,_,_,_,_,rfl,?_⟩⟩;rw [Ai];exact hR.snoc hd
abbrev Xmv (ns:List Int)(ks:List Kd)(os:List Nat)(Rs:List D)(e:Nat)(o6 o7 o8 o9 o10:Option D):Env:=[some (iD ns),some (tD ks),some (oD os),some (iD (Jn ns)),some (.lst Rs),some (.int (1+(e:Int))),o6,o7,o8,o9,o10]
abbrev eD63 (d0 d1:Option D)(os:List Nat)(d3 d4 d5:Option D)(cs:List (List Nat))(xs:List D)(i:Nat)(d8 o9 o10:Option D):Env:=[d0,d1,some (oD os),d3,d4,d5,some (.dtt (cs.map kyN) xs),some (.int (i:Int)),d8,o9,o10]
theorem Xnb (n:Nat):Zgj 0 n=(AO n).map fun k:Nat=>D.int (k:Int):=CI fun k _=>by rw [Gc]
theorem Xdh (ho:Zcc os)(hol:os.length=ks.length)(hlk:ks.length<=8){b:Nat}{k:Kd}(hk:ks[i]?=some k)(hb:(b:Int)=(e:Int)+1 - k.w)(hg:good ns k (b:Int)=true)(ha:Dkt (KS ns ks os b) WT ca xa)(hr:Dkt (StS ns ks os e i) WT cr xr){d3 d5 d8:Option D}(o9 o10:Option D) :
    ∃cr' xr' p9 p10,Zhy (Zu 9) Zap (ca.map tyN) (eD63 d0 d1 os d3 d4 d5 cr xr i d8 o9 o10)=.ok (.nx (eD63 d0 d1 os d3 d4 d5 cr' xr' i d8 p9 p10))/\Dkt (StS ns ks os e (i+1)) WT cr' xr':=by
  have hi:=(Ag.mp hk).1
  let S':List (List Nat)->List Nat->Prop:=fun l c=>StS ns ks os e i c\/∃p∈l,p.getD i 0<os.getD i 0/\c=Zgg p i
  have sub:∀p∈ca,KS ns ks os b p:=fun p hp=>(ha.ky _).mp hp;have loop:=Zah (enc:=tyN) (b:=Zu 9) (s:=Zap) (xs:=ca) (ρ:=(eD63 d0 d1 os d3 d4 d5 cr xr i d8 o9 o10))
    (P:=fun l ρ=>∃(cs:List (List Nat)) (xs:List D) (o9 o10:Option D),ρ=(eD63 d0 d1 os d3 d4 d5 cs xs i d8 o9 o10)/\Dkt (S' l) WT cs xs)
    ⟨cr,xr,o9,o10,rfl,hr.imp (fun c=>⟨.inl,fun h=>h.elim id fun ⟨_,z,_⟩=>nomatch z⟩) fun _ _ _ h=>h⟩ ?_
  obtain ⟨ρ',⟨cs,xs,p9,p10,rfl,hd⟩,t⟩:=loop;refine ⟨cs,xs,p9,p10,t,hd.imp (fun c=>?_) fun _ _ _ h=>h⟩;rw [StS.more hk hb hg];exact or_congr_right ⟨fun ⟨p,hp,h⟩=>⟨p,sub p hp,h⟩,fun ⟨p,hp,h⟩=>⟨p,(ha.ky p).mpr hp,h⟩⟩
  · rintro l c r ρ e1 ⟨cs,xs,p9,p10,rfl,hd⟩;have hx:c∈ca:=by rw [e1];simp
    have hl:∀p∈l,p∈ca:=fun p hp=>by rw [e1];exact AJ _ hp
    have kc:KS ns ks os b c:=sub _ hx;have hil:i<c.length:=by rw [Znr kc];exact hi
    have snoc:∀c',S' (l++[c]) c'↔S' l c'\/(c.getD i 0<os.getD i 0/\c'=Zgg c i):=fun c'=>by constructor;rintro (h | ⟨p,hp,h⟩);exact .inl (.inl h);rcases Au.mp hp with q | q;exact .inl (.inr ⟨p,q,h⟩);rw [Ao.mp q] at h;exact .inr h;rintro ((h | ⟨p,hp,h⟩) | h);exact .inl h;exact .inr ⟨p,AJ _ hp,h⟩;exact .inr ⟨_,As _ (.head _),h⟩
    by_cases q:c.getD i 0<os.getD i 0
    · obtain ⟨cs',xs',e2,hd'⟩:=hd.put (S':=S' (l++[c])) (W':=WT) (k:=Zgg c i) (v:=.bl true) rfl (fun c'=>by rw [snoc c'];exact ⟨fun h=>h.imp id fun h=>h.2,fun h=>h.imp id fun h=>⟨q,h⟩⟩) (fun _ _ _ _ h=>h) rfl;have nl:=hd.few ho (fun c' h=>by
        rcases h with h | ⟨p,hp,h,rfl⟩;exact h.le
        · exact (sub p (hl p hp)).1.up h)
      refine ⟨_,.inl (Zad (Yp (Zm (Zm rfl rfl (Zvp hil)) (Zm rfl rfl (o_ix (by rw [hol];exact hi))) (Zrs (Cc.mpr q)))) (Zo (Zy (r_up (c:=c) (j:=i) rfl rfl hil (by rw [Znr kc];omega))) (Zsn rfl rfl rfl (Zdn _) rfl hd.fl (by rw [Am];exact DB nl (by decide)) e2))),⟨cs',xs',_,_,rfl,hd'⟩⟩
    refine ⟨_,.inl (Ym (Yp (Zm (Zm rfl rfl (Zvp hil)) (Zm rfl rfl (o_ix (by rw [hol];exact hi))) (Zmb fun z=>q (Cc.mp z)))) rfl),⟨cs,xs,_,_,rfl,hd.imp (fun c'=>?_) fun _ _ _ h=>h⟩⟩;rw [snoc c'];exact ⟨.inl,fun h=>h.elim id fun h=>absurd h.1 q⟩
theorem Xpd (ho:Zcc os)(hol:os.length=ks.length)(hlk:ks.length<=8)(hw:∀k∈ks,1<=k.w)(hn:ns.length<=1000)(he:e<ns.length)(hR:Rws ns ks os (fun _=>WT) e Rs)(o6 o7 o8 o9 o10:Option D) :
  ∃cs xs p7 p8 p9 p10,Zau (Xmv ns ks os Rs e o6 o7 o8 o9 o10)=.ok (.nx (Xmv ns ks os ((Rs++[.fdt (cs.map kyN) xs])) e none p7 p8 p9 p10))/\Dkt (KS ns ks os (e+1)) WT cs xs:=by
 obtain ⟨c0,x0,hl0,hd0⟩:=Zto hR;have loop:=Zah (enc:=fun k:Nat=>D.int (k:Int)) (b:=Zu 7) (s:=Zcg) (xs:=AO ks.length) (ρ:=(Xmv ns ks os Rs e (some (.dtt (c0.map kyN) x0)) o7 o8 o9 o10))
  (P:=fun l ρ=>∃(cs:List (List Nat)) (xs:List D) (o7 o8 o9 o10:Option D),ρ=(Xmv ns ks os Rs e (some (.dtt (cs.map kyN) xs)) o7 o8 o9 o10)/\Dkt (StS ns ks os e l.length) WT cs xs)
  ⟨c0,x0,o7,o8,o9,o10,rfl,hd0.imp (fun c=>StS.zero.symm) fun _ _ _ h=>h⟩ ?_
 obtain ⟨ρ',⟨cs,xs,p7,p8,p9,p10,rfl,hd⟩,t⟩:=loop;have hd:Dkt (KS ns ks os (e+1)) WT cs xs:=hd.imp (fun c=>by rw [Dc];exact StS.all hw) fun _ _ _ h=>h;have rg:Zgo (Zc (fA Zbr (Zc (fV 1) Zw)) Zw) (Xmv ns ks os Rs e (some (.dtt (c0.map kyN) x0)) o7 o8 o9 o10)=.ok ((AO ks.length).map fun k:Nat=>D.int (k:Int)):=by rw [<- Xnb];exact Zuw (j:=(ks.length:Int)) (Zd (Jl (Zd rfl rfl) (Xal ks)) rfl) (by omega)
 exact ⟨cs,xs,p7,p8,p9,p10,Zo (Zy (Jl (Zd (Zm rfl rfl hl0) rfl) (hd0.dict ho (fun c h=>h.1) (KS.nothing hol e)))) (Zo (Zbh rg t) (Xbe rfl rfl hd.fl hR.fl (by decide) (by rw [hR.ln];show _<1000000;omega))),hd⟩;rintro l i r ρ e1 ⟨cs,xs,p7,p8,p9,p10,rfl,hd⟩;obtain ⟨rfl,hi⟩:=Zgu e1;have hk:ks[l.length]?=some ks[l.length]:=Ad hi;generalize ks[l.length]=k at hk;have wk:=hw k (Al hk);have tk:gIx (tD ks) (.int (l.length:Int))=some (kD k):=Xqj (k:=l.length) rfl (by rw [Bk,hk];rfl);have set8:∀z:Int,z=1+(e:Int) - k.w->Xw 8 (f2 Zgi (fV 5) (f2 gIx (f2 gIx (fV 1) (fV 7)) (fC (.int 1)))) (Xmv ns ks os Rs e (some (.dtt (cs.map kyN) xs)) (some (.int (l.length:Int))) p8 p9 p10)=.ok (.nx (Xmv ns ks os Rs e (some (.dtt (cs.map kyN) xs)) (some (.int (l.length:Int))) (some (.int z)) p9 p10)):=fun z hz=>by rw [hz];exact Zy (Zm rfl (Zm (Zm rfl rfl tk) rfl (Xjg k)) rfl)
 cases g:good ns k (1+(e:Int) - k.w) with
 | false =>refine ⟨_,.inl (Zo (set8 _ rfl) (Ym (Yp (Xo (Zd rfl (Zd (Zm rfl rfl tk) (Zd rfl rfl))) ((Zyz ns k _ wk).trans (by rw [g])))) rfl)),⟨cs,xs,_,_,_,_,rfl,hd.imp (fun c=>?_) fun _ _ _ h=>h⟩⟩;rw [Ai];exact StS.same hk (by rw [show (e:Int)+1 - k.w=1+(e:Int) - k.w by omega];exact g)
 | true =>obtain ⟨b,hb⟩:∃b:Nat,1+(e:Int) - k.w=(b:Int):=⟨(1+(e:Int) - k.w).toNat,(CP (of_decide_eq_true g).1).symm⟩;rw [hb] at g;obtain ⟨ca,xa,hra,hda⟩:=hR.rw_ b (by omega);obtain ⟨cr,xr,q9,q10,hF,hd'⟩:=Xdh ho hol hlk (e:=e) (i:=l.length) (b:=b) (k:=k) hk (by omega) g hda hd (d0:=some (iD ns)) (d1:=some (tD ks)) (d3:=some (iD (Jn ns))) (d4:=some (.lst Rs)) (d5:=some (.int (1+(e:Int)))) (d8:=some (.int (b:Int))) p9 p10;refine ⟨_,.inl (Zo (set8 _ hb.symm) (Zad (Yp (Xo (Zd rfl (Zd (Zm rfl rfl tk) (Zd rfl rfl))) ((Zyz ns k _ wk).trans (by rw [g])))) (Zbh (Zlj (Zm rfl rfl (Xqj (k:=b) rfl hra)) (hda.few ho fun c h=>h.1)) hF))),⟨cr,xr,_,_,_,_,rfl,?_⟩⟩;rw [Ai];exact hd'
theorem Zuo (ho:Zcc os)(hol:os.length=ks.length)(hlk:ks.length<=8)(hw:∀k∈ks,1<=k.w)(hn:ns.length<=900):∃cs xs,Jj [iD ns,tD ks,oD os]=.ok (.fdt (cs.map kyN) xs)/\Dkt (KS ns ks os ns.length) WT cs xs:=by
  have loop:=Zah (enc:=fun k:Nat=>D.int (1+(k:Int))) (b:=Zu 5) (s:=Zau) (xs:=AO ns.length) (ρ:=[some (iD ns),some (tD ks),some (oD os),some (iD (Jn ns)),some (.lst [.fdt ([Ab ks.length 0].map kyN) [.bl true]]),none,none,none,none,none,none])
    (P:=fun l ρ=>∃(Rs:List D) (o5 o6 o7 o8 o9 o10:Option D),ρ=[some (iD ns),some (tD ks),some (oD os),some (iD (Jn ns)),some (.lst Rs),o5,o6,o7,o8,o9,o10]/\Rws ns ks os (fun _=>WT) l.length Rs)
    ⟨_,_,_,_,_,_,_,rfl,rfl,rfl,fun j hj=>⟨[Ab ks.length 0],[.bl true],by
      cases Fn.mp hj;rfl,by
      cases Fn.mp hj;exact Dkt.one (KS.zero hol hw) rfl rfl⟩⟩ ?_
  obtain ⟨ρ',⟨Rs,o5,o6,o7,o8,o9,o10,rfl,hR⟩,t⟩:=loop;rw [Dc] at hR;obtain ⟨cs,xs,hl,hd⟩:=Zto hR;have z0:fA Zee (Zc (f2 Zal (fA Je (Zc (fC (.int 0)) Zw)) (fA Zbr (Zc (fV 1) Zw))) Zw) [some (iD ns),some (tD ks),some (oD os),some (iD (Jn ns)),none,none,none,none,none,none,none]=.ok (tyN (Ab ks.length 0)):=Xbm (Jl (Zd rfl rfl) (Xal ks)) (by omega);have sl:=Ztn ns;have rg:Zki [.int 1,.int ((Jn ns).length:Int)]=.ok (Zgj 1 ns.length):=Zmu (by omega) (by omega) (by omega) (by omega) (by omega) (by omega);refine ⟨cs,xs,Jp (Zo (Zy (Xo (Zd rfl rfl) (Xjy ns (by omega)))) (Zo (Zy (Jl (Zd (Zrb z0 rfl rfl) rfl) rfl)) (Zo (Zbh (Xjb (Zd rfl (Zd (Zkl rfl) rfl)) rg) t) (Zaj (Zez (Zm rfl rfl hl) rfl))))),hd⟩;rintro l x r ρ e1 ⟨Rs,o5,o6,o7,o8,o9,o10,rfl,hR⟩;obtain ⟨rfl,hlt⟩:=Zgu e1;obtain ⟨cs,xs,p7,p8,p9,p10,t,hd⟩:=Xpd ho hol hlk hw (by omega) hlt hR o6 o7 o8 o9 o10;refine ⟨_,.inl t,⟨_,_,_,_,_,_,_,rfl,?_⟩⟩;rw [Ai];exact hR.snoc hd
def vP (u:Nat)(pl:List (List (Int×Str))):D:=.tup [.int (u:Int),.flst (pl.map fps)]
def RS (ks:List Kd)(os:List Nat)(rs:List (List Int))(l:List Nat):Prop:=∃u pl,Pln ks os rs l u pl
def WP (ks:List Kd)(os:List Nat)(rs:List (List Int))(l:List Nat)(x:D):Prop:=∃u pl,x=vP u pl/\Pln ks os rs l u pl/\∀u' pl',Pln ks os rs l u' pl'->u<=u'
def nzP (ps:List (Int×Str)):Nat:=if ps=[] then 0 else 1
theorem Zqw {u':Nat}(h:vP u pl=vP u' pl'):u=u':=by exact Ho.mp (D.int.inj (GC (D.tup.inj h)).1)
theorem Zyh (h:fps ps=fps ps'):nzP ps=nzP ps':=by have:=congrArg EB (D.flst.inj h);rw [Am,Am] at this;unfold nzP;cases ps<;>cases ps'<;>first | rfl | cases this
def rIv (l c:List Nat):List Int:=(l.zip c).map fun p=>(p.1:Int) - (p.2:Int)
theorem Zye:∀{l c:List Nat},LeC c l->(rIv l c).map D.int=(sbC l c).map fun x:Nat=>D.int (x:Int)
 | [],[],_=>rfl
 | x::l,y::c,h=>by obtain ⟨h1,h2⟩:=LeC.cons.mp h;show D.int ((x:Int) - (y:Int))::(rIv l c).map D.int=D.int ((x - y:Nat):Int)::(sbC l c).map _;rw [Zye h2,KW h1]
 | [],_::_,h=>nomatch h.1
 | _::_,[],h=>nomatch h.1
theorem Zoz:∀{l c:List Nat},c.length=l.length->(LeC c l↔∀x∈rIv l c,0<=x)
 | [],[],_=>⟨fun _ _ z=>(nomatch z),fun _=>LeC.refl _⟩
 | x::l,y::c,h=>by rw [LeC.cons,Zoz (l:=l) (c:=c) (BW h)];show _↔∀z∈((x:Int) - (y:Int))::rIv l c,0<=z;rw [A8];exact and_congr_left fun _=>by omega
 | [],_::_,h=>nomatch h
 | _::_,[],h=>nomatch h
theorem Zyl (l:List Int):∀a:Int,0<=l.foldl min a↔0<=a/\∀x∈l,0<=x:=by
 induction l with
 | nil=>exact fun a=>⟨fun h=>⟨h,fun _ z=>nomatch z⟩,fun h=>h.1⟩
 | cons x l ih =>intro a;rw [DT,ih,A8,IY];exact and_assoc
theorem Xel {l:List Int}(h:l≠[]):0<=Zvs l↔∀x∈l,0<=x:=by
 cases l with
 | nil=>exact absurd rfl h
 | cons x l=>rw [A8];exact Zyl l x
theorem Zsu (l:List Int):0<=(if l=[] then 0 else Zvs l)↔∀x∈l,0<=x:=by split;rename_i h;rw [h];exact ⟨fun _ _ z=>(nomatch z),fun _=>Fp _⟩;rename_i h;exact Xel h
theorem Zkw:∀c:List Int,intsOf (c.map D.int)=some c
 | []=>rfl
 | i::c=>by show (intsOf (c.map D.int)).map (i::·)=_;rw [Zkw c];rfl
theorem Xsd {b:FE}(ha:a ρ=.ok (tyN l))(hb:b ρ=.ok (tyN c))(hl:l.length<=1000):Zlg a b ρ=.ok ((l.zip c).map fun p=>.tup [.int (p.1:Int),.int (p.2:Int)]):=by unfold Zlg;rw [ha,Zar,hb,Zar];refine (if_pos ⟨by rw [Am];exact AC hl (by decide),Jg l,Jg c⟩).trans (congrArg R.ok ?_);rw [List.zipWith_map,List.zip,List.map_zipWith]
theorem Xiq {b:FE}(hn:ρ.length=n)(ha:a ρ=.ok (tyN l))(hb:b ρ=.ok (tyN c))(hl:l.length<=1000):fA Zee (Zc (Zcb n 2 (Zlg a b) (Zgn (Yf (Zu n) (Yf (Zu (n+1)) Zge))) Zjc (f2 Zgi (fV n) (fV (n+1)))) Zw) ρ=.ok (.tup ((rIv l c).map D.int)):=by refine Jl (Zd (Zne hn (Xsd ha hb hl) (Xuh (f:=fun p:Nat×Nat=>D.int (p.1:Int)) (g:=fun p:Nat×Nat=>D.int (p.2:Int)) (v:=fun p=>D.int ((p.1:Int) - (p.2:Int))) hn fun p _=>?_)) rfl) ?_;refine Zm (x:=.int (p.1:Int)) (y:=.int (p.2:Int)) ?_ ?_ rfl;subst hn;unfold fV;rw [AR (Ax _),Ek];rfl;subst hn;unfold fV;rw [AR (IQ _),show ρ.length+1 - ρ.length=1 by omega];rfl;unfold rIv;rw [BI];exact if_pos (Zlh (fun _=>rfl) _)
theorem Xsc {b:FE}{l:List Int}{i:Int}(ha:a ρ=.ok (.tup (l.map D.int)))(hb:b ρ=.ok (.int i)):Zpg a b ρ=.ok (.int (if l=[] then i else Zvs l)):=by unfold Zpg;rw [ha];simp only [Zar];rw [Zkw];simp only [];rw [hb];rfl
theorem Xwq {c:FT}{b:FE}{t:Bool}{x y:D}(hc:c ρ=.ok t)(ha:t=true->a ρ=.ok x)(hb:t=false->b ρ=.ok y):fIf c a b ρ=.ok (if t=true then x else y):=by rw [Xvd,hc,Zar];cases t;exact hb rfl;exact ha rfl
theorem Xwj (ha:a ρ=.ok (.flst xs)):Zvm a ρ=.ok (!xs.isEmpty):=by unfold Zvm;rw [ha];rfl
theorem Xky {ks:List (List (Int ⊕ Str))}(h:ρ[i]?=some (some (.dtt ks ds)))(hf:Zx ds=true):Zkc i ρ=.ok (.ret (.fdt ks ds)):=by unfold Zkc;rw [h];exact if_pos hf
theorem Xww {a b:FS}(h:a ρ=.ok (.cnt ρ')):Xj a b ρ=.ok (.cnt ρ'):=by rw [Zpi,h];rfl
theorem Xid {p q:List Nat×D}:∀{cs:List (List Nat)} {xs:List D},cs.Nodup->p∈cs.zip xs->q∈cs.zip xs->p.1=q.1->p.2=q.2
 | [],_,_,h,_,_=>nomatch h
 | _::_,[],_,h,_,_=>nomatch h
 | c::cs,x::xs,nd,h1,h2,e=>by have hn:=AA.mp nd;rw [CU] at h1 h2;rcases An.mp h1 with q1 | q1;rcases An.mp h2 with q2 | q2;rw [q1,q2];exact absurd (DA q2).1 (by rw [<- e,q1];exact hn.1);rcases An.mp h2 with q2 | q2;exact absurd (DA q1).1 (by rw [e,q2];exact hn.1);exact Xid hn.2 q1 q2 e
abbrev Kv:=List Nat×D
def PrX (Pr:Kv->Kv->Prop)(p0 q0 p q:Kv):Prop:=Pr p q\/(p=p0/\q=q0)
def SM (Pr:Kv->Kv->Prop)(c:List Nat):Prop:=∃p q,Pr p q/\LeC q.1 p.1/\c=sbC p.1 q.1
def WM (ks:List Kd)(os:List Nat)(rs:List (List Int))(Pr:Kv->Kv->Prop)(c:List Nat)(x:D):Prop:=∃u pl,x=vP u pl/\Pln ks os rs c u pl/\∀p q,Pr p q->LeC q.1 p.1->c=sbC p.1 q.1->∀u0 pl0 ps0,p.2=vP u0 pl0->q.2=fps ps0->u<=u0+nzP ps0
abbrev Zuf (d0 d1:Option D)(cs:List (List Nat))(xs:List D)(l:List Nat)(u:Nat)(pl:List (List (Int×Str)))(c:List Nat)(ps:List (Int×Str))(o7 o8:Option D):Env:=[d0,d1,some (.dtt (cs.map kyN) xs),some (tyN l),some (vP u pl),some (tyN c),some (fps ps),o7,o8]
def WrT (ks:List Kd)(os:List Nat)(rs:List (List Int))(r:List Int)(Pr:Kv->Kv->Prop)(d0 d1:Option D)(cs:List (List Nat))(xs:List D)(l:List Nat)(u:Nat)(pl:List (List (Int×Str)))(c:List Nat)(ps:List (Int×Str))(o7 o8:Option D):Prop:=∃cs' xs' p7 p8,(Zak (Zuf d0 d1 cs xs l u pl c ps o7 o8)=.ok (.nx (Zuf d0 d1 cs' xs' l u pl c ps p7 p8))\/Zak (Zuf d0 d1 cs xs l u pl c ps o7 o8)=.ok (.cnt (Zuf d0 d1 cs' xs' l u pl c ps p7 p8)))/\Dkt (SM (PrX Pr (l,vP u pl) (c,fps ps))) (WM ks os (rs++[r]) (PrX Pr (l,vP u pl) (c,fps ps))) cs' xs'
theorem Xki (ho:Zcc os)(hol:os.length=ks.length)(hlk:ks.length<=8)(hr:rs.length<=1000){Pr:Kv->Kv->Prop}(hp:Pln ks os rs l u pl)(hc:Ct r ks r.length c ps)(hd:Dkt (SM Pr) (WM ks os (rs++[r]) Pr) cs xs)(d0 d1 o7 o8:Option D) :
    WrT ks os rs r Pr d0 d1 cs xs l u pl c ps o7 o8:=by
  have ll:l.length=ks.length:=hp.le.1.trans hol;have lc:c.length=l.length:=hc.len.trans ll.symm;have s7:Xw 7 (fA Zee (Zc (Zcb 9 2 (Zlg (fV 3) (fV 5)) (Zgn (Yf (Zu 9) (Yf (Zu 10) Zge))) Zjc (f2 Zgi (fV 9) (fV 10))) Zw)) (Zuf d0 d1 cs xs l u pl c ps o7 o8)=.ok (.nx (Zuf d0 d1 cs xs l u pl c ps (some (.tup ((rIv l c).map D.int))) o8)):=Zy (Xiq (n:=9) rfl rfl rfl (by omega));have mn:∀z:Option D,f2 gLt (Zpg (fV 7) (fC (.int 0))) (fC (.int 0)) (Zuf d0 d1 cs xs l u pl c ps (some (.tup ((rIv l c).map D.int))) z)=.ok (.bl (decide ((if rIv l c=[] then 0 else Zvs (rIv l c))<0))):=fun z=>Zm (Xsc rfl rfl) rfl rfl;have le_iff:=(Zoz lc).trans (Zsu (rIv l c)).symm;by_cases le:LeC c l
  · have ge:=le_iff.mp le;have t1:sIf (cE (f2 gLt (Zpg (fV 7) (fC (.int 0))) (fC (.int 0)))) sCnt sNx (Zuf d0 d1 cs xs l u pl c ps (some (.tup ((rIv l c).map D.int))) o8)=.ok (.nx (Zuf d0 d1 cs xs l u pl c ps (some (.tup ((rIv l c).map D.int))) o8)):=Ym (Yp ((mn o8).trans (by rw [decide_eq_false (by omega)]))) rfl;have er:D.tup ((rIv l c).map D.int)=tyN (sbC l c):=congrArg D.tup (Zye le);rw [er] at s7 t1;have tr:(!(ps.map pD).isEmpty)=!ps.isEmpty:=by cases ps<;>rfl
    have us:∀z:Option D,fIf (Zvm (fV 6)) (f2 Yo (f2 gIx (fV 4) (fC (.int 0))) (fC (.int 1))) (f1 Yv (f2 gIx (fV 4) (fC (.int 0)))) (Zuf d0 d1 cs xs l u pl c ps (some (tyN (sbC l c))) z)=.ok (.int ((u+nzP ps:Nat):Int)):=fun z=>by
      have e0:D.int ((u+nzP ps:Nat):Int)=if (!ps.isEmpty)=true then .int ((u:Int)+1) else .int (u:Int):=by cases ps<;>rfl
      rw [e0];exact Xwq ((Xwj rfl).trans (by rw [tr])) (fun _=>Zm (Zm rfl rfl rfl) rfl rfl) (fun _=>Zez (Zm rfl rfl rfl) rfl)
    have s8:=Zy (i:=8) (us o8);have pn:Pln ks os (rs++[r]) (sbC l c) (u+nzP ps) (pl++[ps]):=hp.snoc hc le;have fv:flat (vP (u+nzP ps) (pl++[ps]))=true:=rfl;have nl:=hd.few ho (fun c' ⟨p,q,h1,h2,h3⟩=>by
      obtain ⟨x,-,u',pl',-,h,-⟩:=hd.at ⟨p,q,h1,h2,h3⟩;exact h.le)
    have tv:fA Zfa (Zc (fV 8) (Zc (f1 Xjn (f2 Zuz (f2 gIx (fV 4) (fC (.int 1))) (fA Je (Zc (fV 6) Zw)))) Zw)) (Zuf d0 d1 cs xs l u pl c ps (some (tyN (sbC l c))) (some (.int ((u+nzP ps:Nat):Int))))=.ok (vP (u+nzP ps) (pl++[ps])):=by
      have ad:Zuz (.flst (pl.map fps)) (.lst [fps ps])=some (.lst ((pl++[ps]).map fps)):=by refine (if_pos ⟨?_,rfl⟩).trans (by rw [Bc];rfl);rw [Am,hp.plen];show _+1<=1000000;omega
      exact Jl (Zd rfl (Zd (Zez (Zm (Zm rfl rfl rfl) (Jl (Zd rfl rfl) rfl) ad) (if_pos (Zlh (fun _=>rfl) _))) rfl)) rfl
    have putting:cOr (cE (f2 Zfo (fV 7) (fV 2))) (cE (f2 gLt (fV 8) (f2 gIx (f2 Xqe (fV 2) (fV 7)) (fC (.int 0))))) (Zuf d0 d1 cs xs l u pl c ps (some (tyN (sbC l c))) (some (.int ((u+nzP ps:Nat):Int))))=.ok true->(∀u1 pl1,sbC l c∈cs->tAt (cs.map kyN) xs (kyN (sbC l c))=some (vP u1 pl1)->u+nzP ps<=u1)->WrT ks os rs r Pr d0 d1 cs xs l u pl c ps o7 o8:=fun tc low=>by
      obtain ⟨cs',xs',e2,hd'⟩:=hd.put (S':=SM (PrX Pr (l,vP u pl) (c,fps ps))) (W':=WM ks os (rs++[r]) (PrX Pr (l,vP u pl) (c,fps ps))) (k:=sbC l c) fv (fun c'=>by
          constructor;rintro ⟨p,q,h1 | ⟨rfl,rfl⟩,h2,h3⟩;exact .inl ⟨p,q,h1,h2,h3⟩;exact .inr h3
          · rintro (⟨p,q,h1,h2,h3⟩ | h);exact ⟨p,q,.inl h1,h2,h3⟩
            · exact ⟨_,_,.inr ⟨rfl,rfl⟩,le,h⟩) (fun c' x _ hne ⟨u1,pl1,h1,h2,h3⟩=>⟨u1,pl1,h1,h2,fun p q hpq h4 h5=>by
          rcases hpq with h | ⟨rfl,rfl⟩;exact h3 p q h h4 h5
          · exact absurd h5 hne⟩) ⟨_,_,rfl,pn,fun p q hpq h4 h5 u0 pl0 ps0 e3 e4=>by
          rcases hpq with h | ⟨rfl,rfl⟩;obtain ⟨x,hx,u1,pl1,rfl,h1,h2⟩:=hd.at (k:=sbC l c) ⟨p,q,h,h4,h5⟩;exact AC (low u1 pl1 ((hd.ky _).mpr ⟨p,q,h,h4,h5⟩) hx) (h2 p q h h4 h5 u0 pl0 ps0 e3 e4)
          · rw [Zqw e3,Zyh e4];exact Ax _⟩
      exact ⟨cs',xs',_,_,.inl (Zo s7 (Zo t1 (Zo s8 (Zad tc (Zsn tv rfl rfl (Zdn _) fv hd.fl (by rw [Am];exact DB nl (by decide)) e2))))),hd'⟩
    by_cases m:sbC l c∈cs;obtain ⟨x,hx,u1,pl1,rfl,h1,h2⟩:=hd.at ((hd.ky _).mp m);have ta:Xqe (.dtt (cs.map kyN) xs) (tyN (sbC l c))=some (vP u1 pl1):=by refine (if_pos hd.fl).trans ?_;rw [Zdn];exact hx
    have tl:f2 gLt (fV 8) (f2 gIx (f2 Xqe (fV 2) (fV 7)) (fC (.int 0))) (Zuf d0 d1 cs xs l u pl c ps (some (tyN (sbC l c))) (some (.int ((u+nzP ps:Nat):Int))))=.ok (.bl (decide (((u+nzP ps:Nat):Int)<(u1:Int)))):=Zm rfl (Zm (Zm rfl rfl ta) rfl rfl) rfl;by_cases lt:u+nzP ps<u1;refine putting (Zdl (Yp (Zm rfl rfl (Zzd.trans (by rw [decide_eq_true m];rfl)))) (Yp (tl.trans (by rw [decide_eq_true (Cc.mpr lt)])))) fun u2 pl2 _ h=>?_;rw [hx] at h;rw [<- Zqw (AU h)];omega;refine ⟨cs,xs,_,_,.inl (Zo s7 (Zo t1 (Zo s8 (Ym (Zdl (Yp (Zm rfl rfl (Zzd.trans (by rw [decide_eq_true m];rfl)))) (Yp (tl.trans (by rw [decide_eq_false fun z=>lt (Cc.mp z)])))) rfl)))),⟨hd.nd,hd.ln,hd.fl,fun c'=>?_,fun p hp=>?_⟩⟩;rw [hd.ky c'];constructor;rintro ⟨p,q,h1,h2,h3⟩;exact ⟨p,q,.inl h1,h2,h3⟩;rintro ⟨p,q,h1 | ⟨rfl,rfl⟩,h2,h3⟩;exact ⟨p,q,h1,h2,h3⟩;rw [h3];exact (hd.ky _).mp m;obtain ⟨u3,pl3,e3,h3,h4⟩:=hd.vl p hp;refine ⟨u3,pl3,e3,h3,fun p' q hpq h5 h6 u0 pl0 ps0 e5 e6=>?_⟩;rcases hpq with h | ⟨rfl,rfl⟩;exact h4 p' q h h5 h6 u0 pl0 ps0 e5 e6;have mz:(sbC l c,vP u1 pl1)∈cs.zip xs:=by obtain ⟨y,hy,hm⟩:=Zrk cs xs hd.ln m;rw [hx] at hy;rw [AU hy];exact hm
    have:p.2=vP u1 pl1:=Xid hd.nd hp mz h6;rw [this] at e3;rw [<- Zqw e3,<- Zqw e5,<- Zyh e6];exact J7 lt;exact putting (Zqy (Yp (Zm rfl rfl (Zzd.trans (by rw [decide_eq_false m];rfl))))) fun _ _ h=>absurd h m
  refine ⟨cs,xs,_,_,.inr (Zo s7 (Xww (Zad (Yp ((mn o8).trans (by rw [decide_eq_true (Int.lt_of_not_ge fun z=>le (le_iff.mpr z))]))) rfl))),hd.imp (fun c'=>?_) fun c' x _ ⟨u1,pl1,h1,h2,h3⟩=>⟨u1,pl1,h1,h2,fun p q hpq h4 h5=>?_⟩⟩;constructor;rintro ⟨p,q,h1,h2,h3⟩;exact ⟨p,q,.inl h1,h2,h3⟩;rintro ⟨p,q,h1 | ⟨rfl,rfl⟩,h2,h3⟩;exact ⟨p,q,h1,h2,h3⟩;exact absurd h2 le;rcases hpq with h | ⟨rfl,rfl⟩;exact h3 p q h h4 h5;exact absurd h4 le
theorem Xop (h:Ct r ks r.length c ps)(h':Ct r ks r.length c ps'):nzP ps=nzP ps':=by have:=h.sum.symm.trans h'.sum;unfold nzP;cases ps<;>cases ps'<;>first | rfl | cases this
theorem Zkz {Pr Pr':Kv->Kv->Prop}(e:∀p q,Pr p q↔Pr' p q)(h:Dkt (SM Pr) (WM ks os rs Pr) cs xs):Dkt (SM Pr') (WM ks os rs Pr') cs xs:=by have:Pr=Pr':=funext fun p=>funext fun q=>propext (e p q);rw [<- this];exact h
theorem Xjo (ho:Zcc os)(hol:os.length=ks.length)(hlk:ks.length<=8)(hr:rs.length<=1000)(hl:Dkt (RS ks os rs) (WP ks os rs) cl xl)(hc:Dkt (KS r ks os r.length) (WC r ks r.length) cc xc):∃cs xs,Zao [.fdt (cl.map kyN) xl,.fdt (cc.map kyN) xc]=.ok (.fdt (cs.map kyN) xs)/\Dkt (RS ks os (rs++[r])) (WP ks os (rs++[r])) cs xs:=by
 have loop:=Zah (enc:=fun p:Kv=>D.tup [tyN p.1,p.2]) (b:=Zgn (Yf (Zu 3) (Yf (Zu 4) Zge))) (s:=Zeq) (xs:=cl.zip xl) (ρ:=[some (.fdt (cl.map kyN) xl),some (.fdt (cc.map kyN) xc),some (.dtt [] []),none,none,none,none,none,none])
  (P:=fun l ρ=>∃(cs:List (List Nat)) (xs:List D) (o3 o4 o5 o6 o7 o8:Option D),ρ=[some (.fdt (cl.map kyN) xl),some (.fdt (cc.map kyN) xc),some (.dtt (cs.map kyN) xs),o3,o4,o5,o6,o7,o8]/\Dkt (SM fun p q=>p∈l/\q∈cc.zip xc) (WM ks os (rs++[r]) fun p q=>p∈l/\q∈cc.zip xc) cs xs)
  ⟨[],[],none,none,none,none,none,none,rfl,Dkt.nil fun c ⟨p,q,h,_⟩=>nomatch h.1⟩ ?_
 obtain ⟨ρ',⟨cs,xs,o3,o4,o5,o6,o7,o8,rfl,hd⟩,t⟩:=loop;refine ⟨cs,xs,Jp (Zo (Zy rfl) (Zo (Zbh (Zpo rfl (hl.few ho fun c ⟨_,_,h⟩=>h.le)) t) (Xky rfl hd.fl))),hd.imp (fun c=>?_) fun c x _ ⟨u,pl,h1,h2,h3⟩=>⟨u,pl,h1,h2,fun u' pl' h=>?_⟩⟩;constructor;rintro ⟨p,q,⟨h1,h2⟩,h3,rfl⟩;obtain ⟨u,pl,-,hp,-⟩:=hl.vl p h1;obtain ⟨ps,-,hq⟩:=hc.vl q h2;exact ⟨_,_,hp.snoc hq h3⟩;rintro ⟨u,pl,h⟩;obtain ⟨l',u',pl',c',ps,h1,h2,h3,rfl,-⟩:=h.inv;obtain ⟨x,hx⟩:=Zei hl.ln ((hl.ky l').mpr ⟨_,_,h1⟩);obtain ⟨y,hy⟩:=Zei hc.ln ((hc.ky c').mpr ⟨h3.trans h1.le,_,h2⟩);exact ⟨(l',x),(c',y),⟨hx,hy⟩,h3,rfl⟩;obtain ⟨l',u0,pl0,c',ps,h4,h5,h6,rfl,rfl⟩:=h.inv;obtain ⟨x',hx⟩:=Zei hl.ln ((hl.ky l').mpr ⟨_,_,h4⟩);obtain ⟨y,hy⟩:=Zei hc.ln ((hc.ky c').mpr ⟨h6.trans h4.le,_,h5⟩);obtain ⟨u1,pl1,e1,h7,h8⟩:=hl.vl _ hx;obtain ⟨ps1,e2,h9⟩:=hc.vl _ hy;have:=h3 (l',x') (c',y) ⟨hx,hy⟩ h6 rfl u1 pl1 ps1 e1 e2;have e3:=Xop h9 h5;have:=h8 u0 pl0 h4;show u<=u0+nzP ps;omega;rintro l ⟨ll,x⟩ rr ρ e1 ⟨cs,xs,o3,o4,o5,o6,o7,o8,rfl,hd⟩;have hx:(ll,x)∈cl.zip xl:=by rw [e1];simp
 obtain ⟨u,pl,rfl,hp,-⟩:=hl.vl _ hx;have inner:=Zah (enc:=fun p:Kv=>D.tup [tyN p.1,p.2]) (b:=Zgn (Yf (Zu 5) (Yf (Zu 6) Zge))) (s:=Zak) (xs:=cc.zip xc) (ρ:=[some (.fdt (cl.map kyN) xl),some (.fdt (cc.map kyN) xc),some (.dtt (cs.map kyN) xs),some (tyN ll),some (vP u pl),o5,o6,o7,o8])
  (P:=fun m ρ=>∃(cs:List (List Nat)) (xs:List D) (o5 o6 o7 o8:Option D),ρ=[some (.fdt (cl.map kyN) xl),some (.fdt (cc.map kyN) xc),some (.dtt (cs.map kyN) xs),some (tyN ll),some (vP u pl),o5,o6,o7,o8]/\Dkt (SM fun p q=>(p∈l/\q∈cc.zip xc)\/(p=(ll,vP u pl)/\q∈m)) (WM ks os (rs++[r]) fun p q=>(p∈l/\q∈cc.zip xc)\/(p=(ll,vP u pl)/\q∈m)) cs xs)
  ⟨cs,xs,o5,o6,o7,o8,rfl,Zkz (fun p q=>⟨.inl,fun h=>h.elim id fun h=>nomatch h.2⟩) hd⟩ ?_
 obtain ⟨ρ',⟨cs,xs,p5,p6,p7,p8,rfl,hd⟩,t⟩:=inner;refine ⟨_,.inl (Zbh (Zpo rfl (hc.few ho fun c h=>h.1)) t),⟨cs,xs,_,_,_,_,_,_,rfl,Zkz (fun p q=>?_) hd⟩⟩;rw [Au,Ao];exact ⟨fun h=>h.elim (fun h=>⟨.inl h.1,h.2⟩) fun h=>⟨.inr h.1,h.2⟩,fun ⟨h1,h2⟩=>h1.elim (fun h=>.inl ⟨h,h2⟩) fun h=>.inr ⟨h,h2⟩⟩;rintro m ⟨c,y⟩ rr' ρ e2 ⟨cs,xs,p5,p6,p7,p8,rfl,hd⟩;have hy:(c,y)∈cc.zip xc:=by rw [e2];simp
 obtain ⟨ps,rfl,hq⟩:=hc.vl _ hy;obtain ⟨cs',xs',q7,q8,t,hd'⟩:=Xki ho hol hlk hr hp hq hd (some (.fdt (cl.map kyN) xl)) (some (.fdt (cc.map kyN) xc)) p7 p8;refine ⟨_,t,⟨cs',xs',_,_,_,_,rfl,Zkz (fun p q=>?_) hd'⟩⟩;rw [Au,Ao];exact ⟨fun h=>h.elim (fun h=>h.imp id fun h=>⟨h.1,.inl h.2⟩) fun h=>.inr ⟨h.1,.inr h.2⟩,fun h=>h.elim (fun h=>.inl (.inl h)) fun ⟨h1,h2⟩=>h2.elim (fun h=>.inl (.inr ⟨h1,h⟩)) fun h=>.inr ⟨h1,h⟩⟩
theorem Zbm:∀a b:List Nat,Xm (a++b)=Xm a*Xm b
 | [],b=>(Ll _).symm
 | x::a,b=>by show (x+1)*Xm (a++b)=(x+1)*Xm a*Xm b;rw [Zbm a b,Hl]
theorem Xby (h:m<=120):m<2 ^ 4000:=AF (show m<2 ^ 7 by omega) (Nat.pow_le_pow_right (by omega) (by omega))
theorem Xft (h:Xm os<=120)(hl:os.length<=1000):Zev [oD os]=.ok (.int (Xm os:Nat)):=by
 have loop:=Zah (enc:=fun x:Nat=>D.int (x:Int)) (b:=Zu 2) (s:=Zfk) (xs:=os) (ρ:=[some (oD os),some (.int 1),none])
  (P:=fun l ρ=>∃o:Option D,ρ=[some (oD os),some (.int (Xm l:Nat)),o]) ⟨none,rfl⟩ ?_
 obtain ⟨ρ',⟨o,rfl⟩,t⟩:=loop;refine Jp (Zo (Zy rfl) (Zo (Zbh (Zdr rfl ?_) (by rw [BI];exact t)) (Zaj rfl)));rw [Am,Am];exact AC hl (by decide);rintro l x r ρ e ⟨o,rfl⟩;have h1:Xm l*(x+1)<=120:=by have p:=Zci r;rw [e,Zbm] at h;have h:Xm l*((x+1)*Xm r)<=120:=h;rw [<- Hl] at h;exact AC (DN _ p) h
 have h2:Xm l<=120:=AC (DN _ (E8 x)) h1;have h3:x+1<=120:=AC (HL _ (Zci l)) h1;have e3:Xm (l++[x])=Xm l*(x+1):=by rw [Zbm];show Xm l*((x+1)*1)=_;rw [GN]
 have m:Zup (.int (Xm l:Nat)) (.int ((x:Int)+1))=some (.int ((Xm l:Nat)*((x:Int)+1))):=if_pos ⟨by rw [IX];exact Xby h2,by rw [show ((x:Int)+1).natAbs=x+1 by omega];exact Xby h3⟩;have t:Zfk [some (oD os),some (.int (Xm l:Nat)),some (.int (x:Int))]=.ok (.nx [some (oD os),some (.int ((Xm l:Nat)*((x:Int)+1))),some (.int (x:Int))]):=r_aug rfl (Zm rfl rfl rfl) m;refine ⟨_,.inl t,⟨some (.int (x:Int)),?_⟩⟩;rw [e3,Kh];rfl
theorem Xtg (h:Xm os<=120)(hol:os.length<=1000)(hr:rs.length<=1000)(h40:∀r∈rs,r.length<=40):Jv [rsD rs,oD os]=.ok .non:=by
 have cp:Zbg 1 (Zu 2) Zjc (f2 gGt (fA Zbr (Zc (fV 2) Zw)) (fC (.int 40))) [some (rsD rs),some (oD os)] (rs.map iD)=.ok (rs.map fun _=>D.bl false):=Xah rfl fun r hr=>Zm (Zkl rfl) rfl (Zmb (by have:=h40 r hr;omega));have an:gAny [.lst (rs.map fun _=>D.bl false)]=some (.bl false):=by
  have:∀l:List (List Int),bools (l.map fun _=>D.bl false)=some (l.map fun _=>false):=fun l=>by
   induction l with
   | nil=>rfl
   | cons x l ih=>show (bools (l.map fun _=>D.bl false)).map (false::·)=_;rw [ih];rfl
  show (bools (rs.map fun _=>D.bl false)).bind _=_;rw [this];show some (D.bl ((rs.map fun _=>false).any id))=_;rw [List.any_map];simp
 have q:Zck [some (rsD rs),some (oD os)]=.ok (.nx [some (rsD rs),some (oD os)]):=Zo (Ym (Yp (Jl (Zd (Zne rfl (Zdr rfl (by rw [Am];exact AC hr (by decide))) cp) rfl) an)) rfl) (Ym (Yp (Zm (Xo (Zd rfl rfl) (Xft h hol)) rfl (Zmb (by omega)))) rfl);show (run 2 Zck [rsD rs,oD os]).calm=_;unfold run;rw [show ([rsD rs,oD os]:List D).map some++Ab (2 - [rsD rs,oD os].length) none=[some (rsD rs),some (oD os)] from rfl,q];rfl
theorem Xol {e:FE}(h:e ρ=.ok d):Zvg e ρ=.ok (.nx ρ):=by unfold Zvg;rw [h];rfl
theorem Xvn (os:List Nat):Zee [oD os]=some (tyN os):=by unfold oD iD;rw [BI];exact if_pos (Jg os)
theorem Pln.nil_iff :RS ks os [] l↔l=os:=by
 constructor;rintro ⟨u,pl,h⟩;generalize hE:([]:List (List Int))=E at h;cases h with
 | nil=>rfl
 | snoc _ _ _=>exact absurd (congrArg EB hE) (by rw [Ai];exact (J4 _).symm)
 rintro rfl;exact ⟨0,[],.nil⟩
theorem Xdw (ho:Zcc os)(hol:os.length=ks.length)(hlk:ks.length<=8)(hw:∀k∈ks,1<=k.w)(hr:rs.length<=900)(h40:∀r∈rs,r.length<=40):∃cs xs,Ys [rsD rs,tD ks,oD os]=.ok (.fdt (cs.map kyN) xs)/\Dkt (RS ks os rs) (WP ks os rs) cs xs:=by
 have loop:=Zah (enc:=iD) (b:=Zu 4) (s:=Zbl) (xs:=rs) (ρ:=[some (rsD rs),some (tD ks),some (oD os),some (.fdt ([os].map kyN) [vP 0 []]),none])
  (P:=fun l ρ=>∃(cs:List (List Nat)) (xs:List D) (o:Option D),ρ=[some (rsD rs),some (tD ks),some (oD os),some (.fdt (cs.map kyN) xs),o]/\Dkt (RS ks os l) (WP ks os l) cs xs) ⟨[os],[vP 0 []],none,rfl,Dkt.one (fun c=>Pln.nil_iff) rfl ⟨0,[],rfl,.nil,fun _ _ _=>Dt _⟩⟩ ?_
 obtain ⟨ρ',⟨cs,xs,o,rfl,hd⟩,t⟩:=loop;exact ⟨cs,xs,Jp (Zo (Xol (Xo (Zd rfl (Zd rfl rfl)) (Xtg ho.pr (by omega) (by omega) h40))) (Zo (Zy (Zrb (Jl (Zd rfl rfl) (Xvn os)) (Jl (Zd rfl (Zd (Zez rfl rfl) rfl)) rfl) rfl)) (Zo (Zbh (Zdr rfl (by rw [Am];exact AC hr (by decide))) t) (Zaj rfl)))),hd⟩;rintro l r rr ρ e ⟨cs,xs,o,rfl,hd⟩;have hm:r∈rs:=by rw [e];simp
 have hll:l.length<=900:=by have:=congrArg EB e;rw [Ai] at this;omega
 obtain ⟨cc,xc,h1,h2⟩:=Xlj (ns:=r) ho hol hlk hw (by have:=h40 r hm;omega);obtain ⟨cs',xs',h3,h4⟩:=Xjo ho hol hlk (by omega) hd h2;exact ⟨_,.inl (Zy (Xo (Zd rfl (Zd (Xo (Zd rfl (Zd rfl (Zd rfl rfl))) h1) rfl)) h3)),⟨cs',xs',_,rfl,h4⟩⟩
theorem Xnd {ks:List (List (Int ⊕ Str))}(hj:ρ[j]?=some (some (.dtt ks ds)))(h1:Zx ds=true)(hn:i≠j)(hl:i<ρ.length):Zjq i j ρ=.ok (.nx ((ρ.set j none).set i (some (.fdt ks ds)))):=by unfold Zjq;rw [hj];exact if_pos ⟨h1,hn,hl⟩
theorem Xnu {l:List Int}(h:l≠[]):Zyu [.tup (l.map D.int)]=some (.int (Zvs l)):=by show (intsOf (l.map D.int)).bind _=_;rw [Zkw];exact if_neg h
def SR (Pr:List Nat->List Nat->Prop)(c:List Nat):Prop:=∃p q,Pr p q/\LeC q p/\c=sbC p q
theorem Zll {Pr:List Nat->List Nat->Prop}(e:∀p q,Pr p q↔Pr' p q)(h:Dkt (SR Pr) WT cs xs):Dkt (SR Pr') WT cs xs:=by have:Pr=Pr':=funext fun p=>funext fun q=>propext (e p q);rw [<- this];exact h
abbrev Xqi (d0 d1 d2 d3 d4 d5:Option D)(cs:List (List Nat))(xs:List D)(l c:List Nat)(o9:Option D):Env:=[d0,d1,d2,d3,d4,d5,some (.dtt (cs.map kyN) xs),some (tyN l),some (tyN c),o9]
theorem Xnn (ho:Zcc os)(hol:os.length=ks.length)(hlk:ks.length<=8){Pr:List Nat->List Nat->Prop}(hl:LeC l os)(hc:c.length=ks.length)(hPr:∀p q,Pr p q->LeC p os)(hd:Dkt (SR Pr) WT cs xs)(d0 d1 d2 d3 d4 d5 o9:Option D) :
    ∃cs' xs' p9,Zaa (Xqi d0 d1 d2 d3 d4 d5 cs xs l c o9)=.ok (.nx (Xqi d0 d1 d2 d3 d4 d5 cs' xs' l c p9))/\Dkt (SR fun p q=>Pr p q\/(p=l/\q=c)) WT cs' xs':=by
  have ll:l.length=ks.length:=hl.1.trans hol;have lc:c.length=l.length:=hc.trans ll.symm;have s9:Xw 9 (fA Zee (Zc (Zcb 10 2 (Zlg (fV 7) (fV 8)) (Zgn (Yf (Zu 10) (Yf (Zu 11) Zge))) Zjc (f2 Zgi (fV 10) (fV 11))) Zw)) (Xqi d0 d1 d2 d3 d4 d5 cs xs l c o9)=.ok (.nx (Xqi d0 d1 d2 d3 d4 d5 cs xs l c (some (.tup ((rIv l c).map D.int))))):=Zy (Xiq (n:=10) rfl rfl rfl (by omega));have le_iff:=(Zoz lc).trans (Zsu (rIv l c)).symm;have len0:fA Zbr (Zc (fV 9) Zw) (Xqi d0 d1 d2 d3 d4 d5 cs xs l c (some (.tup ((rIv l c).map D.int))))=.ok (.int ((rIv l c).length:Nat)):=Jl (Zd rfl rfl) (by show some (D.int _)=_;rw [Am]);have tc:cOr (cE (f2 gEq (fA Zbr (Zc (fV 9) Zw)) (fC (.int 0)))) (cE (f2 gGe (fA Zyu (Zc (fV 9) Zw)) (fC (.int 0)))) (Xqi d0 d1 d2 d3 d4 d5 cs xs l c (some (.tup ((rIv l c).map D.int))))=.ok (decide (0<=(if rIv l c=[] then 0 else Zvs (rIv l c)))):=by by_cases e:rIv l c=[];rw [if_pos e];exact Zqy (Yp (Zm len0 rfl ((Zjj _ _).trans (Zrs (by rw [e];rfl)))));rw [if_neg e];refine Zdl (Yp (Zm len0 rfl ((Zjj _ _).trans (Zmb fun z=>e (BF.mp (by omega)))))) (Yp (Zm (Jl (Zd rfl rfl) (Xnu e)) rfl rfl))
  have nl:=hd.few ho (fun c' ⟨p,q,h1,h2,h3⟩=>by
    rw [h3];exact (Xtk h2.1).trans (hPr p q h1))
  by_cases le:LeC c l
  · have er:D.tup ((rIv l c).map D.int)=tyN (sbC l c):=congrArg D.tup (Zye le);rw [decide_eq_true (le_iff.mp le)] at tc;rw [er] at s9 tc;obtain ⟨cs',xs',e2,hd'⟩:=hd.put (S':=SR fun p q=>Pr p q\/(p=l/\q=c)) (W':=WT) (k:=sbC l c) (v:=.bl true) rfl (fun c'=>by
      constructor;rintro ⟨p,q,h1 | ⟨rfl,rfl⟩,h2,h3⟩;exact .inl ⟨p,q,h1,h2,h3⟩;exact .inr h3
      · rintro (⟨p,q,h1,h2,h3⟩ | h);exact ⟨p,q,.inl h1,h2,h3⟩
        · exact ⟨_,_,.inr ⟨rfl,rfl⟩,le,h⟩) (fun _ _ _ _ h=>h) rfl
    exact ⟨cs',xs',_,Zo s9 (Zad tc (Zsn rfl rfl rfl (Zdn _) rfl hd.fl (by rw [Am];exact DB nl (by decide)) e2)),hd'⟩
  rw [decide_eq_false fun z=>le (le_iff.mpr z)] at tc;refine ⟨cs,xs,_,Zo s9 (Ym tc rfl),hd.imp (fun c'=>?_) fun _ _ _ h=>h⟩;constructor;rintro ⟨p,q,h1,h2,h3⟩;exact ⟨p,q,.inl h1,h2,h3⟩;rintro ⟨p,q,h1 | ⟨rfl,rfl⟩,h2,h3⟩;exact ⟨p,q,h1,h2,h3⟩;exact absurd h2 le
theorem Xgd (ho:Zcc os)(hol:os.length=ks.length)(hlk:ks.length<=8)(hl:Dkt (RS ks os rs) WT cl xl)(hc:Dkt (KS r ks os r.length) WT cc xc){d2 o7 o8 o9:Option D}:∃cs xs p7 p8 p9,Zhy (Zu 7) Zac (cl.map tyN) [d0,d1,d2,some (.fdt (cl.map kyN) xl),d4,some (.fdt (cc.map kyN) xc),some (.dtt [] []),o7,o8,o9]=.ok (.nx [d0,d1,d2,some (.fdt (cl.map kyN) xl),d4,some (.fdt (cc.map kyN) xc),some (.dtt (cs.map kyN) xs),p7,p8,p9])/\Dkt (RS ks os (rs++[r])) WT cs xs:=by
  have lle:∀p∈cl,LeC p os:=fun p hp=>((hl.ky p).mp hp).elim fun _ ⟨_,h⟩=>h.le;have loop:=Zah (enc:=tyN) (b:=Zu 7) (s:=Zac) (xs:=cl) (ρ:=[d0,d1,d2,some (.fdt (cl.map kyN) xl),d4,some (.fdt (cc.map kyN) xc),some (.dtt [] []),o7,o8,o9])
    (P:=fun l ρ=>∃(cs:List (List Nat)) (xs:List D) (o7 o8 o9:Option D),ρ=[d0,d1,d2,some (.fdt (cl.map kyN) xl),d4,some (.fdt (cc.map kyN) xc),some (.dtt (cs.map kyN) xs),o7,o8,o9]/\Dkt (SR fun p q=>p∈l/\q∈cc) WT cs xs)
    ⟨[],[],o7,o8,o9,rfl,Dkt.nil fun c ⟨p,q,h,_⟩=>nomatch h.1⟩ ?_
  obtain ⟨ρ',⟨cs,xs,p7,p8,p9,rfl,hd⟩,t⟩:=loop;refine ⟨cs,xs,p7,p8,p9,t,hd.imp (fun c=>?_) fun _ _ _ h=>h⟩;constructor;rintro ⟨p,q,⟨h1,h2⟩,h3,rfl⟩;obtain ⟨u,pl,hp⟩:=(hl.ky p).mp h1;obtain ⟨-,ps,hq⟩:=(hc.ky q).mp h2;exact ⟨_,_,hp.snoc hq h3⟩;rintro ⟨u,pl,h⟩;obtain ⟨l',u',pl',c',ps,h1,h2,h3,rfl,-⟩:=h.inv;exact ⟨l',c',⟨(hl.ky l').mpr ⟨_,_,h1⟩,(hc.ky c').mpr ⟨h3.trans h1.le,_,h2⟩⟩,h3,rfl⟩
  · rintro l ll rr ρ e1 ⟨cs,xs,p7,p8,p9,rfl,hd⟩;have hx:ll∈cl:=by rw [e1];simp
    have hll:∀p∈l,p∈cl:=fun p hp=>by rw [e1];exact AJ _ hp
    have inner:=Zah (enc:=tyN) (b:=Zu 8) (s:=Zaa) (xs:=cc) (ρ:=[d0,d1,d2,some (.fdt (cl.map kyN) xl),d4,some (.fdt (cc.map kyN) xc),some (.dtt (cs.map kyN) xs),some (tyN ll),p8,p9])
      (P:=fun m ρ=>∃(cs:List (List Nat)) (xs:List D) (o8 o9:Option D),ρ=[d0,d1,d2,some (.fdt (cl.map kyN) xl),d4,some (.fdt (cc.map kyN) xc),some (.dtt (cs.map kyN) xs),some (tyN ll),o8,o9]/\Dkt (SR fun p q=>(p∈l/\q∈cc)\/(p=ll/\q∈m)) WT cs xs)
      ⟨cs,xs,p8,p9,rfl,Zll (fun p q=>⟨.inl,fun h=>h.elim id fun h=>nomatch h.2⟩) hd⟩ ?_
    obtain ⟨ρ',⟨cs,xs,q8,q9,rfl,hd⟩,t⟩:=inner;refine ⟨_,.inl (Zbh (Zlj rfl (hc.few ho fun c h=>h.1)) t),⟨cs,xs,_,_,_,rfl,Zll (fun p q=>?_) hd⟩⟩;rw [Au,Ao];exact ⟨fun h=>h.elim (fun h=>⟨.inl h.1,h.2⟩) fun h=>⟨.inr h.1,h.2⟩,fun ⟨h1,h2⟩=>h1.elim (fun h=>.inl ⟨h,h2⟩) fun h=>.inr ⟨h,h2⟩⟩
    · rintro m c rr' ρ e2 ⟨cs,xs,q8,q9,rfl,hd⟩;have hy:c∈cc:=by rw [e2];simp
      obtain ⟨cs',xs',z9,t,hd'⟩:=Xnn ho hol hlk (lle ll hx) (Znr ((hc.ky c).mp hy)) (fun p q h=>by
        rcases h with h | h;exact lle p (hll p h.1)
        · rw [h.1];exact lle ll hx) hd d0 d1 d2 (some (.fdt (cl.map kyN) xl)) d4 (some (.fdt (cc.map kyN) xc)) q9
      refine ⟨_,.inl t,⟨cs',xs',_,_,rfl,Zll (fun p q=>?_) hd'⟩⟩;rw [Au,Ao];exact ⟨fun h=>h.elim (fun h=>h.imp id fun h=>⟨h.1,.inl h.2⟩) fun h=>.inr ⟨h.1,.inr h.2⟩,fun h=>h.elim (fun h=>.inl (.inl h)) fun ⟨h1,h2⟩=>h2.elim (fun h=>.inl (.inr ⟨h1,h⟩)) fun h=>.inr ⟨h1,h⟩⟩
theorem Zun (ho:Zcc os)(hol:os.length=ks.length)(hlk:ks.length<=8)(hw:∀k∈ks,1<=k.w)(hr:rs.length<=900)(h40:∀r∈rs,r.length<=40):∃cs xs,Yx [rsD rs,tD ks,oD os]=.ok (.fdt (cs.map kyN) xs)/\Dkt (RS ks os rs) WT cs xs:=by
 have loop:=Zah (enc:=iD) (b:=Zu 4) (s:=Zca) (xs:=rs) (ρ:=[some (rsD rs),some (tD ks),some (oD os),some (.fdt ([os].map kyN) [.bl true]),none,none,none,none,none,none])
  (P:=fun l ρ=>∃(cs:List (List Nat)) (xs:List D) (o4 o5 o6 o7 o8 o9:Option D),ρ=[some (rsD rs),some (tD ks),some (oD os),some (.fdt (cs.map kyN) xs),o4,o5,o6,o7,o8,o9]/\Dkt (RS ks os l) WT cs xs) ⟨[os],[.bl true],none,none,none,none,none,none,rfl,Dkt.one (fun c=>Pln.nil_iff) rfl rfl⟩ ?_
 obtain ⟨ρ',⟨cs,xs,o4,o5,o6,o7,o8,o9,rfl,hd⟩,t⟩:=loop;exact ⟨cs,xs,Jp (Zo (Zy (Zrb (Jl (Zd rfl rfl) (Xvn os)) rfl rfl)) (Zo (Zbh (Zdr rfl (by rw [Am];exact AC hr (by decide))) t) (Zaj rfl))),hd⟩;rintro l r rr ρ e ⟨cs,xs,o4,o5,o6,o7,o8,o9,rfl,hd⟩;have hm:r∈rs:=by rw [e];simp
 obtain ⟨cc,xc,h1,h2⟩:=Zuo (ns:=r) ho hol hlk hw (by have:=h40 r hm;omega);obtain ⟨cs',xs',p7,p8,p9,h3,h4⟩:=Xgd ho hol hlk hd h2 (d0:=some (rsD rs)) (d1:=some (tD ks)) (d2:=some (oD os)) (d4:=some (iD r)) (o7:=o7) (o8:=o8) (o9:=o9);exact ⟨_,.inl (Zo (Zy (Xo (Zd rfl (Zd rfl (Zd rfl rfl))) h1)) (Zo (Zy rfl) (Zo (Zbh (Zlj rfl (hd.few ho fun c ⟨_,_,h⟩=>h.le)) h3) (Xnd rfl h4.fl (by decide) (by show 3<10;decide))))),⟨cs',xs',_,_,_,_,_,_,rfl,h4⟩⟩
theorem Xab {n:Nat}{e:FE}{ρ:Env}{α β:Type}{enc:α->D}{f:β->D}{Q:β->Prop}(hn:ρ.length=n):∀{xs:List α},(∀x∈xs,∃v,e (ρ++[some (enc x)])=.ok (f v)/\Q v)->∃vs:List β,Zbg 1 (Zu n) Zjc e ρ (xs.map enc)=.ok (vs.map f)/\vs.length=xs.length/\∀v∈vs,Q v
 | [],_=>⟨[],rfl,rfl,fun _ z=>nomatch z⟩
 | x::xs,h=>by
  obtain ⟨v,h1,h2⟩:=h x (.head _);obtain ⟨vs,g1,g2,g3⟩:=Xab hn (xs:=xs) (f:=f) (Q:=Q) fun y hy=>h y (.tail _ hy);refine ⟨v::vs,?_,congrArg LS g2,A8.mpr ⟨h2,g3⟩⟩;rw [Bn];unfold Zbg;have hb:Zu n (enc x) (ρ++Ab 1 none)=.ok (ρ++[some (enc x)]):=by show R.ok ((ρ++[none]).set n (some (enc x)))=_;rw [<- hn,CF _ _ (Ax _),Ek];rfl
  rw [hb,Zcl];show (e (ρ++[some (enc x)])).bind _=_;rw [h1,Zar,g1];rfl
theorem three {x m:Int}{os:List Int}(h:Row [m,8,4] os):0<=os.getD 0 0/\os.getD 0 0<m/\0<=os.getD 1 0/\os.getD 1 0<8/\0<=os.getD 2 0/\os.getD 2 0<4/\os.length=3:=by have h0:=h.at_ 0 (by show 0<3;decide);have h1:=h.at_ 1 (by show 1<3;decide);have h2:=h.at_ 2 (by show 2<3;decide);exact ⟨h0.1,h0.2,h1.1,h1.2,h2.1,h2.2,h.len⟩
theorem Xay (ns:List Int)(hn:ns.length<=63){m c:Int}(m0:0<=m)(m1:m<=12)(c0:0<=c)(c1:c<=40):∃rs ks,Jw [.scr ns,.int 0,.int m,.int c,.int 8]=.ok (.tup [rsD rs,tD ks])/\rs.length<=12/\(∀r∈rs,r.length<=40)/\ks.length<=8/\Xtm ks:=by
  obtain ⟨fl,hf,ff0,ff1⟩:=Xkh ns hn (i:=0) (m:=8) (by decide) (by decide) (by decide) (by decide);obtain ⟨ks,ht,hk,tk⟩:=Xdl ns hn (i:=0) (m:=8) (by decide) (by decide) (by decide) (by decide);obtain ⟨os,hr,ro⟩:=Znj ns hn (i:=1) (by decide) (by decide) [m+1,8,4] (by show 3<=1000;decide) (fun x hx=>by
    rcases An.mp hx with e | e;rw [e];exact ⟨by omega,FR (show m+1<=13 by omega) (by decide)⟩
    · have g:∀y∈[(8:Int),4],0<y/\y<2 ^ 200:=by decide
      exact g x e)
  obtain ⟨a0,a1,b0,b1,c0',c1',hl⟩:=three (x:=0) ro;have i0:gIx (iD os) (.int 0)=some (.int (os.getD 0 0)):=Zze (k:=0) (by omega);have i1:gIx (iD os) (.int 1)=some (.int (os.getD 1 0)):=Zze (k:=1) (by omega);have i2:gIx (iD os) (.int 2)=some (.int (os.getD 2 0)):=Zze (k:=2) (by omega);generalize os.getD 0 0=s0 at *;generalize os.getD 1 0=s1 at *;generalize os.getD 2 0=s2 at *;have fin:∀(n cc:Int),0<=n->n<=12->0<=cc->cc<=40->∃rs,rs.length<=12/\(∀r∈rs,r.length<=40)/\(Xj (Xw 9 (Zcb 10 1 (Zgo (Zc (fV 8) Zw)) (Zu 10) Zjc (Ye Jb (Zc (fV 0) (Zc (f2 Yo (f2 Yo (fV 1) (fC (.int 2))) (fV 10)) (Zc (fV 3) (Zc (fV 5) Zw))))))) (Zcn (fA Zfa (Zc (fV 9) (Zc (fV 6) Zw))))) [some (.scr ns),some (.int 0),some (.int m),some (.int cc),some (.int 8),some (.int fl),some (tD ks),some (iD os),some (.int n),none]=.ok (.ret (.tup [rsD rs,tD ks])):=fun n cc n0 n1 cc0 cc1=>by
    obtain ⟨rs,h1,h2,h3⟩:=Xab (n:=10) (e:=Ye Jb (Zc (fV 0) (Zc (f2 Yo (f2 Yo (fV 1) (fC (.int 2))) (fV 10)) (Zc (fV 3) (Zc (fV 5) Zw))))) (ρ:=[some (.scr ns),some (.int 0),some (.int m),some (.int cc),some (.int 8),some (.int fl),some (tD ks),some (iD os),some (.int n),none]) (enc:=fun k:Nat=>D.int (k:Int)) (f:=iD) (Q:=fun r:List Int=>r.length<=40) rfl (xs:=AO n.toNat) fun k hk=>by have hk:=BO.mp hk;obtain ⟨ws,w1,w2,-⟩:=Xlo ns hn (i:=0+2+(k:Int)) (m:=cc) (fl:=fl) (by omega) (by omega) cc0 (by omega) ff0 ff1;exact ⟨ws,Xo (Zd rfl (Zd (Zm (Zm rfl rfl rfl) rfl rfl) (Zd rfl (Zd rfl rfl)))) w1,by omega⟩
    refine ⟨rs,by rw [h2,Dc];omega,h3,Zo (Zy (Zne rfl ((Zuw (Zd rfl rfl) (by omega)).trans (congrArg R.ok (Xnb _))) h1)) (Zaj (Jl (Zd rfl (Zd rfl rfl)) rfl))⟩
  have pre:∀(s:FS) (d:D),s [some (.scr ns),some (.int 0),some (.int m),some (.int c),some (.int 8),some (.int fl),some (tD ks),some (iD os),some (.int s0),none]=.ok (.ret d)->Xj (Xw 5 (Ye Jq (Zc (fV 0) (Zc (fV 1) (Zc (fV 4) Zw))))) (Xj (Xw 6 (Ye Jd (Zc (fV 0) (Zc (fV 1) (Zc (fV 4) Zw))))) (Xj (Xw 7 (Ye Xn (Zc (fV 0) (Zc (f2 Yo (fV 1) (fC (.int 1))) (Zc (fA Je (Zc (f2 Yo (fV 2) (fC (.int 1))) (Zc (fC (.int 8)) (Zc (fC (.int 4)) Zw)))) Zw))))) (Xj (Xw 8 (f1 Yv (f2 gIx (fV 7) (fC (.int 0))))) s))) [some (.scr ns),some (.int 0),some (.int m),some (.int c),some (.int 8),none,none,none,none,none]=.ok (.ret d):=fun s d h=>Zo (Zy (Xo (Zd rfl (Zd rfl (Zd rfl rfl))) hf)) (Zo (Zy (Xo (Zd rfl (Zd rfl (Zd rfl rfl))) ht)) (Zo (Zy (Xo (Zd rfl (Zd (Zm rfl rfl rfl) (Zd (Jl (Zd (Zm rfl rfl rfl) (Zd rfl (Zd rfl rfl))) rfl) rfl))) hr)) (Zo (Zy (Zez (Zm rfl rfl i0) rfl)) h)));by_cases q1:s1<2;obtain ⟨rs,h1,h2,h3⟩:=fin (12 - s2) 10 (by omega) (by omega) (by omega) (by omega);exact ⟨rs,ks,Jp (pre _ _ (Zo (Zad (Yp (Zm (Zm rfl rfl i1) rfl (Zrs q1))) (Zo (Zy (Zm rfl (Zm rfl rfl i2) rfl)) (Zy rfl))) (Zo (Ym (Yp (Zm (Zm rfl rfl i1) rfl ((Zjj _ _).trans (Zmb (by omega))))) rfl) h3))),h1,h2,by omega,tk⟩;by_cases q2:s1=2;obtain ⟨rs,h1,h2,h3⟩:=fin (if 2<s0 then 2 else s0) 40 (by split<;>omega) (by split<;>omega) (by omega) (by omega);exact ⟨rs,ks,Jp (pre _ _ (Zo (Ym (Yp (Zm (Zm rfl rfl i1) rfl (Zmb q1))) rfl) (Zo (Zad (Yp (Zm (Zm rfl rfl i1) rfl ((Zjj _ _).trans (Zrs q2)))) (Zo (Zy (Jl (Zd rfl (Zd rfl rfl)) rfl)) (Zy rfl))) h3))),h1,h2,by omega,tk⟩;obtain ⟨rs,h1,h2,h3⟩:=fin s0 c (by omega) (by omega) c0 c1;exact ⟨rs,ks,Jp (pre _ _ (Zo (Ym (Yp (Zm (Zm rfl rfl i1) rfl (Zmb q1))) rfl) (Zo (Ym (Yp (Zm (Zm rfl rfl i1) rfl ((Zjj _ _).trans (Zmb q2)))) rfl) h3))),h1,h2,by omega,tk⟩
def ShO (lim:Nat)(l:List Nat):Prop:=Xm l<=lim/\((∀x∈l,x<=3)\/∃m,l=(lim - 1)::Ab m 0)
theorem Zkg:∀m:Nat,Xm (Ab m 0)=1
 | 0=>rfl
 | m+1=>by show (0+1)*Xm (Ab m 0)=1;rw [Zkg m]
theorem ShO.zero {lim:Nat}(h:ShO lim l):ShO lim (l++[0]):=by obtain ⟨h1,h2⟩:=h;refine ⟨by rw [Zbm];show _*1<=_;rw [GN];exact h1,h2.imp (fun h x hx=>?_) fun ⟨m,e⟩=>⟨m+1,by rw [e,List.replicate_succ',ER]⟩⟩;rcases Au.mp hx with q | q;exact h x q;rw [Ao.mp q];decide
theorem Zzl (ns:List Int)(hn:ns.length<=63){i:Int}(i0:0<=i)(i1:i<1000)(hk:ks.length<=8)(l0:1<=lm)(l1:lm<=120):∃os,Jx [.scr ns,.int i,tD ks,.int 3,.int (lm:Int)]=.ok (oD os)/\os.length=ks.length/\ShO lm os:=by
  obtain ⟨qs,hrow,hqs⟩:=Znj ns hn (i:=i) i0 i1 ((Ab 8 [(4:Int)]).flatten++[16]) (by decide) (by decide);have hql:qs.length=9:=hqs.len;have bq:∀k:Nat,k<8->0<=qs.getD k 0/\qs.getD k 0<4:=fun k hk=>by
    have:=hqs.at_ k (by show k<9;omega);have e:∀k:Nat,k<8->((Ab 8 [(4:Int)]).flatten++[16]).getD k 0=4:=by decide
    rw [e k hk] at this;exact this
  have loop:=Zah (enc:=fun k:Nat=>D.int (k:Int)) (b:=Zu 8) (s:=Zdk) (xs:=AO ks.length) (ρ:=[some (.scr ns),some (.int i),some (tD ks),some (.int 3),some (.int (lm:Int)),some (iD qs),some (oD []),some (.int 1),none,none])
    (P:=fun l ρ=>∃(os:List Nat) (o8 o9:Option D),ρ=[some (.scr ns),some (.int i),some (tD ks),some (.int 3),some (.int (lm:Int)),some (iD qs),some (oD os),some (.int (Xm os:Nat)),o8,o9]/\os.length=l.length/\ShO lm os) ⟨[],none,none,rfl,rfl,l0,.inl fun _ z=>nomatch z⟩ ?_
  obtain ⟨ρ',⟨os,o8,o9,rfl,h1,h2⟩,t⟩:=loop;rw [Dc] at h1;have m8:Zal (.lst ([4].map D.int)) (.int 8)=some (iD (Ab 8 [(4:Int)]).flatten):=Zln (ws:=[4]) (m:=8) (by decide) (by decide) (by decide);have a8:Yo (iD (Ab 8 [(4:Int)]).flatten) (iD [16])=some (iD ((Ab 8 [(4:Int)]).flatten++[16])):=Zma (by decide);exact ⟨os,Jp (Zo (Zy (Xo (Zd rfl (Zd rfl (Zd (Zm (Zm (Jl (Zd (Zm rfl rfl rfl) rfl) rfl) rfl m8) (Jl (Zd rfl rfl) rfl) a8) rfl))) hrow)) (Zo (Zy rfl) (Zo (Zy rfl) (Zo (Zbh ((Zuw (j:=(ks.length:Int)) (Zd (Jl (Zd rfl rfl) (Xal ks)) rfl) (by omega)).trans (congrArg R.ok (Xnb _))) t) (Zaj rfl))))),h1,h2⟩
  · rintro l k r ρ e1 ⟨os,o8,o9,rfl,h1,h2⟩;obtain ⟨rfl,hlt⟩:=Zgu e1;have b:=bq l.length (by omega);have ix:gIx (iD qs) (.int (l.length:Int))=some (.int (qs.getD l.length 0)):=Zze (by omega);have ix8:gIx (iD qs) (.int 8)=some (.int (qs.getD 8 0)):=Zze (k:=8) (by omega);obtain ⟨w,hw⟩:∃w:Nat,qs.getD l.length 0=(w:Int):=⟨(qs.getD l.length 0).toNat,(CP b.1).symm⟩;rw [hw] at ix b;have s1:Xw 9 (f1 Yv (f2 gIx (fV 5) (fV 8))) [some (.scr ns),some (.int i),some (tD ks),some (.int 3),some (.int (lm:Int)),some (iD qs),some (oD os),some (.int (Xm os:Nat)),some (.int (l.length:Int)),o9]=.ok (.nx [some (.scr ns),some (.int i),some (tD ks),some (.int 3),some (.int (lm:Int)),some (iD qs),some (oD os),some (.int (Xm os:Nat)),some (.int (l.length:Int)),some (.int (w:Int))]):=Zy (Zez (Zm rfl rfl ix) rfl);obtain ⟨v,s2,hv⟩:∃v:Nat,sIf (Xmz (cE (f2 gEq (fV 8) (fC (.int 0)))) (cE (f2 gEq (f2 gIx (fV 5) (fC (.int 8))) (fC (.int 0))))) (Xw 9 (f2 Zgi (fV 4) (fC (.int 1)))) sNx [some (.scr ns),some (.int i),some (tD ks),some (.int 3),some (.int (lm:Int)),some (iD qs),some (oD os),some (.int (Xm os:Nat)),some (.int (l.length:Int)),some (.int (w:Int))]=.ok (.nx [some (.scr ns),some (.int i),some (tD ks),some (.int 3),some (.int (lm:Int)),some (iD qs),some (oD os),some (.int (Xm os:Nat)),some (.int (l.length:Int)),some (.int (v:Int))])/\((v<=3)\/(l.length=0/\v=lm - 1)):=by by_cases q:(l.length:Int)=0/\qs.getD 8 0=0;refine ⟨lm - 1,Zad (Zxd (Yp (Zm rfl rfl ((Zjj _ _).trans (Zrs q.1)))) (Yp (Zm (Zm rfl rfl ix8) rfl ((Zjj _ _).trans (Zrs q.2))))) (Zy (Zm rfl rfl ?_)),.inr ⟨by omega,rfl⟩⟩;show some (D.int ((lm:Int) - 1))=_;rw [KW l0];rfl;refine ⟨w,Ym ?_ rfl,.inl (by omega)⟩;by_cases q1:(l.length:Int)=0;exact Zxd (Yp (Zm rfl rfl ((Zjj _ _).trans (Zrs q1)))) (Yp (Zm (Zm rfl rfl ix8) rfl ((Zjj _ _).trans (Zmb fun z=>q ⟨q1,z⟩))));exact Xoi (Yp (Zm rfl rfl ((Zjj _ _).trans (Zmb q1))))
    have vb:v<=120:=by omega
    have pb:Xm os<=120:=AC h2.1 l1;have mu:∀x:Nat,x<=120->Zal (.int (Xm os:Nat)) (.int ((x:Int)+1))=some (.int ((Xm os*(x+1):Nat):Int)):=fun x hx=>by rw [Zqm (by omega) (by omega),Kh];rfl
    have last:∀x:Nat,x<=120->ShO lm (os++[x])->∃ρ',(Xj (Xw 7 (f2 Zal (fV 7) (f2 Yo (fV 9) (fC (.int 1))))) (Zpf 6 (f1 Yv (fV 9)))) [some (.scr ns),some (.int i),some (tD ks),some (.int 3),some (.int (lm:Int)),some (iD qs),some (oD os),some (.int (Xm os:Nat)),some (.int (l.length:Int)),some (.int (x:Int))]=.ok (.nx ρ')/\∃(os:List Nat) (o8 o9:Option D),ρ'=[some (.scr ns),some (.int i),some (tD ks),some (.int 3),some (.int (lm:Int)),some (iD qs),some (oD os),some (.int (Xm os:Nat)),o8,o9]/\os.length=(l++[l.length]).length/\ShO lm os:=fun x hx hs=>by
      have e3:Xm (os++[x])=Xm os*(x+1):=by rw [Zbm];show Xm os*((x+1)*1)=_;rw [GN]
      refine ⟨[some (.scr ns),some (.int i),some (tD ks),some (.int 3),some (.int (lm:Int)),some (iD qs),some (oD (os++[x])),some (.int (Xm (os++[x]):Nat)),some (.int (l.length:Int)),some (.int (x:Int))],?_,os++[x],_,_,rfl,by rw [Ai,Ai,h1];rfl,hs⟩;have ap:oD (os++[x])=.lst ((os.map fun x:Nat=>(x:Int)).map D.int++[.int (x:Int)]):=by unfold oD iD;rw [Bc,Bc];rfl
      rw [e3,ap];exact Zo (Zy (Zm rfl (Zm rfl rfl rfl) (mu x hx))) (Zmq rfl (Zez rfl rfl) (by rw [Am,Am,h1];show _<1000000;omega))
    by_cases big:lm<Xm os*(v+1);obtain ⟨ρ',t,hP⟩:=last 0 (by omega) h2.zero;exact ⟨ρ',.inl (Zo s1 (Zo s2 (Zo (Zad (Yp (Zm (Zm rfl (Zm rfl rfl rfl) (mu v vb)) rfl (Zrs (Cc.mpr big)))) (Zy rfl)) t))),hP⟩
    · obtain ⟨ρ',t,hP⟩:=last v vb ⟨by rw [Zbm];show Xm os*((v+1)*1)<=_;rw [GN];omega,by
        rcases h2.2 with h | ⟨m,h⟩;rcases hv with hv | ⟨hv1,hv2⟩;exact .inl fun x hx=>(Au.mp hx).elim (h x) fun z=>by rw [Ao.mp z];exact hv
        have:os=[]:=BF.mp (h1.trans hv1);exact .inr ⟨0,by rw [this,hv2];rfl⟩
        · have v0:v=0:=by rw [h] at big;have big:¬lm<(lm - 1+1)*Xm (Ab m 0)*(v+1):=big;rw [Zkg,GN,Nat.sub_add_cancel l0] at big;rcases Nat.eq_zero_or_pos v with z | z;exact z;exact absurd (AF (show lm<lm*2 by omega) (Nat.mul_le_mul_left lm (show 2<=v+1 by omega))) big
          rw [v0];exact (ShO.zero ⟨h2.1,.inr ⟨m,h⟩⟩).2⟩
      exact ⟨ρ',.inl (Zo s1 (Zo s2 (Zo (Ym (Yp (Zm (Zm rfl (Zm rfl rfl rfl) (mu v vb)) rfl (Zmb fun z=>big (Cc.mp z)))) rfl) t))),hP⟩
theorem Zjv:∀{c o:List Nat},LeC c o->Xm c<=Xm o
 | [],[],_=>Ax _
 | x::c,y::o,h=>by obtain ⟨h1,h2⟩:=LeC.cons.mp h;exact Kx (Nat.succ_le_succ h1) (Zjv h2)
 | [],_::_,h=>nomatch h.1
 | _::_,[],h=>nomatch h.1
theorem Zhu:∀(c:List Nat) (a:Nat),(c.map (·+1)).foldl (·*·) a=a*Xm c
 | [],a=>(GN a).symm
 | x::c,a=>by rw [Bn,DT,Zhu c];show a*(x+1)*Xm c=a*((x+1)*Xm c);rw [Hl]
theorem Zwt:∀{m:Nat} {c:List Nat},LeC c (Ab m 0)->c=Ab m 0
 | 0,[],_=>rfl
 | m+1,x::c,h=>by obtain ⟨h1,h2⟩:=LeC.cons.mp (show LeC (x::c) (0::Ab m 0) from h);rw [Zwt h2,Fn.mp h1];rfl
 | 0,_::_,h=>nomatch h.1
 | _+1,[],h=>nomatch h.1
theorem ShO.ok (h:ShO lm os)(hl:os.length<=8)(l1:lm<=120):Zcc os:=by
 refine ⟨AC h.1 l1,fun cs nd hc=>?_⟩;rcases h.2 with g | ⟨m,rfl⟩;refine Ztx hl nd fun c hcm=>⟨(hc c hcm).1,fun x hx=>?_,?_⟩;obtain ⟨i,hi,rfl⟩:=mem_getD hx;have hi':i<os.length:=by rw [<- (hc c hcm).1];exact hi
 have m:os.getD i 0∈os:=by rw [AI,Ad hi'];exact CD hi'
 exact AC ((hc c hcm).2 i) (g _ m);rw [Zhu,Ll];exact AC (Zjv (hc c hcm)) (AC h.1 l1);have hm:m<=7:=by rw [AX,Cg] at hl;omega
 have l0:1<=lm:=AC (Zci _) h.1;refine Zqh hm nd fun c hcm=>?_;have hcc:=hc c hcm;cases c with
 | nil=>exact nomatch hcc.1
 | cons x c =>obtain ⟨h1,h2⟩:=LeC.cons.mp hcc;exact ⟨x,by omega,by rw [Zwt h2]⟩
theorem Zpz {a b:List (List Int)}(ha:a.Nodup)(hb:b.Nodup)(h:∀x,x∈a↔x∈b):Ji a=Ji b:=L2.Zoa (((L2.Zat b).trans ((List.perm_ext_iff_of_nodup hb ha).mpr fun x=>(h x).symm))) (L2.Zii b)
theorem Zju {a:List (List Int)}{x:List Int}:x∈Ji a↔x∈a:=(L2.Zat a).mem_iff
def toI (c:List Nat):List Int:=c.map fun x:Nat=>(x:Int)
theorem Xoc {a:List Nat}(h:toI a=toI b):a=b:=(FF (f:=fun x:Nat=>(x:Int)) fun _ _ e=>Ho.mp e).mp h
theorem Xjk (h:cs.Nodup):(cs.map toI).Nodup:=DS.mpr (h.imp fun h e=>h (Xoc e))
theorem Xmt (c:List Nat):Zew [tyN c]=some (ilD (toI c)):=by refine (if_pos (Jg c)).trans ?_;unfold ilD toI;rw [BI];rfl
theorem Zyp {e:FE}(hn:ρ.length=n)(he:e ρ=.ok (.fdt (cs.map kyN) xs))(hl:cs.length<=120):fA Zhq (Zc (Zcb n 1 (Zdg e) (Zu n) Zjc (fA Zew (Zc (fV n) Zw))) Zw) ρ=.ok (rsD (Ji (cs.map toI))):=by
 refine Jl (Zd (Zne hn (Zlj he hl) (Xah (v:=fun c=>ilD (toI c)) hn fun c _=>Jl (Zd ?_ rfl) (Xmt c))) rfl) ?_;subst hn;unfold fV;rw [AR (Ax _),Ek];rfl;have e:cs.map (fun c=>ilD (toI c))=(cs.map toI).map ilD:=by rw [BI];rfl
 rw [e];exact Xbw (by rw [Am];omega)
theorem Zmn {S:List Nat->Prop}(h1:cs.Nodup)(h2:cs'.Nodup)(h3:∀c,c∈cs↔S c)(h4:∀c,c∈cs'↔S c):Ji (cs.map toI)=Ji (cs'.map toI):=by refine Zpz (Xjk h1) (Xjk h2) fun x=>?_;rw [AE,AE];exact exists_congr fun c=>and_congr_left fun _=>(h3 c).trans (h4 c).symm
theorem Xtr (hn:ρ.length=n)(rs:List (List Int)):Zbg 1 (Zu n) Zjc (fA Zew (Zc (fV n) Zw)) ρ (rs.map iD)=.ok (rs.map iD):=Xah hn fun r _=>Jl (Zd (by
    subst hn;unfold fV;rw [AR (Ax _),Ek];rfl) rfl) (Zxg r)
theorem Zjo (rs:List (List Int))(ks:List Kd)(ws:List Int)(hr:rs.length<=1000):Yt [rsD rs,tD ks,iD ws]=.ok (.lst [rsD rs,tD ks,iD ws]):=Jp (Zaj (Jl (Zd (Zne rfl (Zdr rfl (by rw [Am];exact AC hr (by decide))) (Xtr (n:=3) (by rfl) rs)) (Zd (Jl (Zd rfl rfl) (Xna ks)) (Zd (Jl (Zd rfl rfl) (Zxg ws)) rfl))) rfl))
theorem Zps {L T X:Option D}(ws:List Int)(o:Option D):∃o',Zhy (Zu 3) Ju (ws.map D.int) [L,T,X,o]=.ok (.nx [L,T,X,o']):=by
  obtain ⟨ρ',⟨o',rfl⟩,t⟩:=Zah (enc:=D.int) (b:=Zu 3) (s:=Ju) (xs:=ws) (ρ:=[L,T,X,o]) (P:=fun _ ρ=>∃o:Option D,ρ=[L,T,X,o]) ⟨o,rfl⟩ (by
    rintro l x r ρ e ⟨o,rfl⟩;have t:Ju [L,T,X,some (.int x)]=.ok (.nx [L,T,X,some (.int x)]):=Ym (Zmt (b:=true) (Yp (Xo (Zd rfl rfl) (Xgs x)))) rfl;exact ⟨_,.inl t,_,rfl⟩)
  exact ⟨o',t⟩
theorem Xap (L:List (List Int))(hL:L.length<=1000)(hw:∀l∈L,l.length<=1000):Yr [rsD L,rsD L]=.ok (.bl true):=by
  obtain ⟨ρ',⟨o2,o3,rfl⟩,t⟩:=Zah (enc:=iD) (b:=Zu 2) (s:=Zbc) (xs:=L) (ρ:=[some (rsD L),some (rsD L),none,none]) (P:=fun _ ρ=>∃o2 o3:Option D,ρ=[some (rsD L),some (rsD L),o2,o3]) ⟨none,none,rfl⟩ (by
    rintro l x r ρ e ⟨o2,o3,rfl⟩;have hx:x∈L:=by rw [e];simp
    obtain ⟨o',t⟩:=Zps (L:=some (rsD L)) (T:=some (rsD L)) (X:=some (iD x)) x o3;have t':Zbc [some (rsD L),some (rsD L),some (iD x),o3]=.ok (.nx [some (rsD L),some (rsD L),some (iD x),o']):=Zo (Ym (Zmt (b:=true) (Yp (Zez rfl rfl))) rfl) (Zbh (Zdr rfl (by rw [Am];exact AC (hw x hx) (by decide))) t);exact ⟨_,.inl t',_,_,rfl⟩)
  have ne:gNe (rsD L) (rsD L)=some (.bl false):=neX (AC (Zqp L) (by decide));exact Jp (Zo (Ym (Zdl (Zmt (b:=true) (Yp (Zez rfl rfl))) (Yp (Zm rfl rfl ne))) rfl) (Zo (Zbh (Zdr rfl (by rw [Am];exact AC hL (by decide))) t) (Zaj rfl)))
theorem Zyf (h:l.length=n):LeC (Ab n 0) l/\sbC l (Ab n 0)=l:=by
 have z:∀i,(Ab n 0).getD i 0=0:=fun i=>by rw [AI,EM];split<;>rfl
 have le:LeC (Ab n 0) l:=⟨by rw [Cg,h],fun i=>by rw [z i];exact Dt _⟩;refine ⟨le,Zlr (Zrd le.1) fun i=>?_⟩;rw [Ziw le.1,z i];exact K7 _
theorem RS.self (ho:os.length=ks.length):∀{n:Nat} {rs:List (List Int)},rs.length=n->RS ks os rs os
 | 0,rs,h=>by rw [BF.mp h];exact ⟨0,[],.nil⟩
 | n+1,rs,h=>by
  have hne:rs≠[]:=fun z=>by rw [z] at h;cases h
  obtain ⟨ys,p,rfl⟩:∃ys p,rs=ys++[p]:=⟨rs.dropLast,rs.getLast hne,(D7 hne).symm⟩;obtain ⟨u,pl,hp⟩:=RS.self ho (n:=n) (rs:=ys) (by rw [Ai] at h;exact BW h);have:=hp.snoc (Ct.none p ks p.length) (Zyf ho).1;rw [(Zyf ho).2] at this;exact ⟨_,_,this⟩
theorem Zyk (ho:Zcc os)(hol:os.length=ks.length)(hlk:ks.length<=8)(hw:∀k∈ks,1<=k.w)(hr:rs.length<=900)(h40:∀r∈rs,r.length<=40):∃cs:List (List Nat),Jr [rsD rs,tD ks,oD os]=.ok (rsD (Ji (cs.map toI)))/\cs.Nodup/\(∀c,c∈cs↔RS ks os rs c):=by obtain ⟨cs,xs,h,hd⟩:=Xdw ho hol hlk hw hr h40;exact ⟨cs,Jp (Zaj (Zyp rfl (Xo (Zd rfl (Zd rfl (Zd rfl rfl))) h) (hd.few ho fun c ⟨_,_,h⟩=>h.le))),hd.nd,hd.ky⟩
theorem upd0 (hne:L≠[])(hw:∀l∈L,l.length<=1000):∃ds,ds.length=L.length/\Zvr (Xck (.int 5)) [0] (rsD L)=some (.lst ds):=by
 cases L with
 | nil=>exact absurd rfl hne
 | cons x L =>
  refine ⟨.lst (x.map D.int++[.int 5])::L.map iD,by rw [AX,Am];rfl,?_⟩;have a:Xck (.int 5) (x.map D.int)=some (x.map D.int++[.int 5]):=if_pos (by rw [Am];have:=hw x (.head _);show _<1000000;omega);show (ixD ((iD x)::L.map iD).length 0).bind _=_;have ix:ixD ((iD x)::L.map iD).length 0=some 0:=by unfold ixD;rw [if_pos (Fp _),if_pos (by rw [AX];omega)];rfl
  rw [ix];show ((Xck (.int 5) (x.map D.int)).map D.lst).map _=_;rw [a];rfl
theorem Ztu (ns:List Int)(hn:ns.length<=63):Xom [.scr ns]=.ok (.bl true):=by
  obtain ⟨rs,ks,hrolls,hr,h40,hk,tk⟩:=Xay ns hn (m:=4) (c:=16) (by decide) (by decide) (by decide) (by decide);obtain ⟨lm,hlm,lm0,lm1⟩:∃lm:Nat,f2 gIx (fA Je (Zc (fC (.int 120)) (Zc (fC (.int 60)) (Zc (fC (.int 24)) Zw)))) (f2 Yo (fA Xkb (Zc (f2 gGt (fA Zbr (Zc (fV 1) Zw)) (fC (.int 2))) Zw)) (fA Xkb (Zc (f2 gGt (fA Zbr (Zc (fV 1) Zw)) (fC (.int 5))) Zw))) [some (.scr ns),some (rsD rs),some (tD ks),none,none,none,none,none]=.ok (.int (lm:Int))/\1<=lm/\lm<=120:=by
    have l1:fA Zbr (Zc (fV 1) Zw) [some (.scr ns),some (rsD rs),some (tD ks),none,none,none,none,none]=.ok (.int (rs.length:Int)):=Jl (Zd rfl rfl) (Xkr rs);have g:∀n:Int,fA Xkb (Zc (f2 gGt (fA Zbr (Zc (fV 1) Zw)) (fC (.int n))) Zw) [some (.scr ns),some (rsD rs),some (tD ks),none,none,none,none,none]=.ok (.int (if n<(rs.length:Int) then 1 else 0)):=fun n=>Jl (Zd (Zm l1 rfl rfl) rfl) (by
      show some (D.int (if decide (n<(rs.length:Int))=true then 1 else 0))=_;by_cases q:n<(rs.length:Int);rw [decide_eq_true q,if_pos q];rfl
      · rw [decide_eq_false q,if_neg q];rfl)
    by_cases a:(2:Int)<rs.length;by_cases b:(5:Int)<rs.length;exact ⟨24,Zm (Jl (Zd rfl (Zd rfl (Zd rfl rfl))) rfl) (Zm (g 2) (g 5) (by rw [if_pos a,if_pos b];rfl)) rfl,by decide,by decide⟩;exact ⟨60,Zm (Jl (Zd rfl (Zd rfl (Zd rfl rfl))) rfl) (Zm (g 2) (g 5) (by rw [if_pos a,if_neg b];rfl)) rfl,by decide,by decide⟩;exact ⟨120,Zm (Jl (Zd rfl (Zd rfl (Zd rfl rfl))) rfl) (Zm (g 2) (g 5) (by rw [if_neg a,if_neg (by omega)];rfl)) rfl,by decide,by decide⟩
  obtain ⟨os,hord,hol,sho⟩:=Zzl ns hn (i:=30) (by decide) (by decide) hk lm0 lm1;have ho:=sho.ok (by omega) lm1;have hw:∀k∈ks,1<=k.w:=fun k hk=>(tk.ok k hk).w1;obtain ⟨cr,xr,hreach,hdr⟩:=Zun ho hol hk hw (by omega) h40;obtain ⟨c1,hl1,n1,m1⟩:=Zyk ho hol hk hw (by omega) h40;obtain ⟨c2,hl2,n2,m2⟩:=Zyk (rs:=rs.reverse) ho hol hk hw (by rw [Fu];omega) (fun r hr=>h40 r (JH.mp hr));rw [Zmn n1 hdr.nd m1 hdr.ky] at hl1;have rv:∀c,RS ks os rs.reverse c↔RS ks os rs c:=fun c=>⟨fun ⟨u,pl,h⟩=>by
    have:=h.rev hol;rw [Ff] at this;exact ⟨u,this⟩,fun ⟨u,pl,h⟩=>⟨u,h.rev hol⟩⟩
  rw [Zmn n2 hdr.nd m2 (fun c=>(hdr.ky c).trans (rv c).symm)] at hl2;have few:=hdr.few ho fun c ⟨_,_,h⟩=>h.le;have hmem:toI os∈Ji (cr.map toI):=Zju.mpr (AE.mpr ⟨os,(hdr.ky os).mpr (RS.self hol rfl),rfl⟩);have hlen:∀l∈Ji (cr.map toI),l.length<=1000:=fun l hl=>by obtain ⟨c,hc,rfl⟩:=AE.mp (Zju.mp hl);obtain ⟨u,pl,h⟩:=(hdr.ky c).mp hc;unfold toI;rw [Am,h.le.1];omega
  have hL:(Ji (cr.map toI)).length<=1000:=by rw [(L2.Zat _).length_eq,Am];omega
  generalize hLL:Ji (cr.map toI)=L at *;have rt:=Xap L hL hlen;obtain ⟨ds,hds,hup⟩:=upd0 (L:=L) (fun z=>by rw [z] at hmem;exact nomatch hmem) hlen;have cp:=Zjo rs ks (toI os) (by omega);have cp2:=Zjo rs.reverse ks (toI os) (by rw [Fu];omega);have d1:dep (.lst [rsD rs,tD ks,oD os])<=20:=by have h1:=Zqp rs;have h2:=Xrv ks;have h3:dep (oD os)<=1:=Xbc _;simp only [dep,Zgt];omega
  have ne:gNe (.lst [rsD rs,tD ks,oD os]) (.lst [rsD rs,tD ks,oD os])=some (.bl false):=neX d1;have nin:Zra (oD os) (rsD L)=some (.bl false):=by
    have h3:dep (oD os)<=20:=AC (Xbc _) (by decide);have h4:dep (rsD L)<=2:=Zqp L;have h5:Zgt (L.map iD)<=20:=by unfold rsD at h4;simp only [dep] at h4;omega
    refine (if_pos ⟨h3,h5⟩).trans ?_;have e1:eqv (oD os) (oD os)=true:=by have:=Zrm h3;unfold gEq at this;rw [if_pos ⟨h3,h3⟩] at this;exact D.bl.inj (AU this)
    have:((L.map iD).any fun y=>eqv y (oD os))=true:=DZ.mpr ⟨oD os,AE.mpr ⟨toI os,hmem,rfl⟩,e1⟩;rw [this];rfl
  have pth:Zvo 6 (Zc (fC (.int 0)) Zw) (fC (.int 5)) [some (.scr ns),some (rsD rs),some (tD ks),some (oD os),some (rsD L),some (.lst [rsD rs,tD ks,oD os]),some (rsD L),none]=.ok (.nx [some (.scr ns),some (rsD rs),some (tD ks),some (oD os),some (rsD L),some (.lst [rsD rs,tD ks,oD os]),some (.lst ds),none]):=by show (match Zvr (Xck (.int 5)) [0] (rsD L) with | some d'=>_ | none=>_)=_;rw [hup];rfl
  have rvl:Xbd (rsD rs) (.int (-1))=some (rsD rs.reverse):=by show some (D.lst (rs.map iD).reverse)=_;rw [<- JK];rfl
  exact Jp (Zo (r_asg (Xo (Zd rfl (Zd rfl (Zd rfl (Zd rfl (Zd rfl rfl))))) hrolls) rfl)
    (Zo (Zy (Xo (Zd rfl (Zd rfl (Zd rfl (Zd rfl (Zd hlm rfl))))) hord))
    (Zo (Zy (hLL▸Zyp rfl (Xo (Zd rfl (Zd rfl (Zd rfl rfl))) hreach) few))
    (Zo (Zy (Xo (Zd rfl (Zd rfl (Zd rfl rfl))) cp))
    (Zo (Zy (Xo (Zd (Zm rfl rfl rfl) (Zd (Zm rfl rfl rfl) (Zd (Zm rfl rfl rfl) rfl))) hl1))
    (Zo (Ym (Zdl (Zmt (b:=true) (Yp (Xo (Zd rfl (Zd rfl rfl)) rt))) (Zdl (Yp (Zm rfl (Jl (Zd rfl (Zd rfl (Zd rfl rfl))) rfl) ne)) (Yp (Zm rfl rfl nin)))) rfl)
    (Zo pth
    (Zo (Zmq rfl (Jl rfl rfl) (by rw [hds];show _<1000000;omega))
    (Zo (Zy (Xo (Zd (Zm rfl (Zez rfl rfl) rvl) (Zd rfl (Zd rfl rfl))) cp2))
    (Zo (Ym (Zmt (b:=true) (Yp (Xo (Zd (Xo (Zd (Zm rfl rfl rfl) (Zd (Zm rfl rfl rfl) (Zd (Zm rfl rfl rfl) rfl))) hl2) (Zd rfl rfl)) rt))) rfl)
    (Zaj (Xo (Zd (Xo (Zd (Zm rfl rfl rfl) (Zd (Zm rfl rfl rfl) (Zd (Zm rfl rfl rfl) rfl))) hl1) (Zd rfl rfl)) rt))))))))))))
end Dl
set_option maxHeartbeats 4000000
namespace K63
open PySem PySem.Spec PyProof.Rows L2
open Dl (D R FE FT FA FO FS FI FB Fl)
variable {P q:AZ}{w:BC}{K:Frag}{C:String->Addr}{mg:Str->Option Value}{base h:Heap}{f a:Addr}{fd:C4}{xs:List V}{l:PySem.W.OpenLaw}{loose:List Str}{XP:(Str->Option Value)->Heap->Prop}{YP:BC->Heap->Prop}{d:DefRec}
def top (i:Nat):Stmt:=PySem.Challenge.pw_selvage_k63_all_leavings.main.body.getD i (.Pass ⟨0,0,0,0⟩)
abbrev Zpv:Stmt:=top 5
abbrev Xpi:Stmt:=top 7
abbrev Zov:Stmt:=top 9
abbrev Zby:Stmt:=top 13
abbrev Zdi:Stmt:=top 14
abbrev Zli:Stmt:=top 15
abbrev Zda:Stmt:=top 16
abbrev Zbf:Stmt:=top 17
abbrev Zem:Stmt:=top 18
abbrev Zfc:Stmt:=top 20
abbrev Ziu:Stmt:=top 21
abbrev Zil:Stmt:=top 22
abbrev Zdw:Stmt:=top 23
abbrev Zfm:Stmt:=top 24
abbrev Zfh:Stmt:=top 25
abbrev Zfi:Stmt:=top 26
abbrev Zfp:Stmt:=top 27
abbrev Zaz:Stmt:=top 28
abbrev Zbx:Stmt:=top 29
abbrev Zdu:Stmt:=top 30
abbrev Zcq:Stmt:=top 31
abbrev Zai:Stmt:=top 32
abbrev Zaw:Stmt:=top 33
abbrev Zds:Stmt:=top 34
abbrev Xmq:Stmt:=top 35
abbrev Jo:Stmt:=top 14
theorem Zsz:Xg ["roll","begin","end"] ["roll","begin","end"] (Zn Zpv):=⟨rfl,rfl,rfl,by decide +kernel,rfl,by decide +kernel,by decide +kernel⟩
theorem Xig:Xg ["roll","kind","place","end"] ["roll","kind","place"] (Zn Xpi):=⟨rfl,rfl,rfl,by decide +kernel,rfl,by decide +kernel,by decide +kernel⟩
theorem Zsa:Xg ["order","product","number"] ["order"] (Zn Zov):=⟨rfl,rfl,rfl,by decide +kernel,rfl,by decide +kernel,by decide +kernel⟩
theorem Zfr:Xg ["rolls","order"] ["rolls","order"] (Zn Zby):=⟨rfl,rfl,rfl,by decide +kernel,rfl,by decide +kernel,by decide +kernel⟩
theorem Zwm:Xg ["row","ahead","place","wanted","piece","cut","cutting","more"] ["row","ahead","place","wanted","piece"] (Zn Zdi):=⟨rfl,rfl,rfl,by decide +kernel,rfl,by decide +kernel,by decide +kernel⟩
theorem Zop:Xg ["roll","table","order","rows","end","row","place","kind","begin"] ["roll","table","order"] (Zn Zli):=⟨rfl,rfl,rfl,by decide +kernel,rfl,by decide +kernel,by decide +kernel⟩
theorem Zid:Xg ["plans","cuts","more","left","ahead","cut","cutting","rest","used"] ["plans","cuts"] (Zn Zda):=⟨rfl,rfl,rfl,by decide +kernel,rfl,by decide +kernel,by decide +kernel⟩
theorem Zcm:Xg ["rolls","table","order","plans","roll"] ["rolls","table","order"] (Zn Zbf):=⟨rfl,rfl,rfl,by decide +kernel,rfl,by decide +kernel,by decide +kernel⟩
theorem Zke:Xg ["rolls","table","order"] ["rolls","table","order"] (Zn Zem):=⟨rfl,rfl,rfl,by decide +kernel,rfl,by decide +kernel,by decide +kernel⟩
theorem Zhn:Xg ["_law_script","_law_place","_law_seed","_law_cell_here"] ["_law_script","_law_place"] (Zn Zfc):=⟨rfl,rfl,rfl,by decide +kernel,rfl,by decide +kernel,by decide +kernel⟩
theorem Zjy:Xg ["_law_cell_here","_law_k","_law_one","_law_two"] ["_law_cell_here","_law_k"] (Zn Ziu):=⟨rfl,rfl,rfl,by decide +kernel,rfl,by decide +kernel,by decide +kernel⟩
theorem Zjx:Xg ["_law_script","_law_place","_law_sizes","_law_cell_here","_law_left","_law_some","_law_k","_law_other"] ["_law_script","_law_place","_law_sizes"] (Zn Zil):=⟨rfl,rfl,rfl,by decide +kernel,rfl,by decide +kernel,by decide +kernel⟩
theorem Zgc:Xg ["_law_script","_law_place","_law_most","_law_pool","_law_some","_law_flaw_here","_law_gain","_law_table_here","_law_k","_law_at","_law_width","_law_worth","_law_allowed","_law_name"] ["_law_script","_law_place","_law_most"] (Zn Zdw):=⟨rfl,rfl,rfl,by decide +kernel,rfl,by decide +kernel,by decide +kernel⟩
theorem Zit:Xg ["_law_script","_law_place","_law_most"] ["_law_script","_law_place","_law_most"] (Zn Zfm):=⟨rfl,rfl,rfl,by decide +kernel,rfl,by decide +kernel,by decide +kernel⟩
theorem Zhh:Xg ["_law_script","_law_place","_law_most","_law_flaw_here","_law_some","_law_great","_law_roll_here","_law_k","_law_at","_law_weight"] ["_law_script","_law_place","_law_most","_law_flaw_here"] (Zn Zfh):=⟨rfl,rfl,rfl,by decide +kernel,rfl,by decide +kernel,by decide +kernel⟩
theorem Zhs:Xg ["_law_roll_here","_law_sums_here","_law_weight"] ["_law_roll_here"] (Zn Zfi):=⟨rfl,rfl,rfl,by decide +kernel,rfl,by decide +kernel,by decide +kernel⟩
theorem Zhm:Xg ["_law_sums_here","_law_kind","_law_at","_law_end"] ["_law_sums_here","_law_kind","_law_at"] (Zn Zfp):=⟨rfl,rfl,rfl,by decide +kernel,rfl,by decide +kernel,by decide +kernel⟩
theorem Zct:Xg ["_law_one"] ["_law_one"] (Zn Zaz):=⟨rfl,rfl,rfl,by decide +kernel,rfl,by decide +kernel,by decide +kernel⟩
theorem Zfv:Xg ["_law_script","_law_place","_law_most","_law_cells","_law_kinds","_law_flaw_here","_law_table_here","_law_some","_law_count","_law_rolls_here"] ["_law_script","_law_place","_law_most","_law_cells","_law_kinds"] (Zn Zbx):=⟨rfl,rfl,rfl,by decide +kernel,rfl,by decide +kernel,by decide +kernel⟩
theorem Zgb:Xg ["_law_script","_law_place","_law_table_here","_law_most","_law_limit","_law_some","_law_order_here","_law_product","_law_k","_law_wanted"] ["_law_script","_law_place","_law_table_here","_law_most","_law_limit"] (Zn Zdu):=⟨rfl,rfl,rfl,by decide +kernel,rfl,by decide +kernel,by decide +kernel⟩
theorem Zek:Xg ["_law_roll_here","_law_table_here","_law_order_here","_law_sums_here","_law_found","_law_end","_law_here","_law_k","_law_at","_law_counts_here","_law_more"] ["_law_roll_here","_law_table_here","_law_order_here"] (Zn Zcq):=⟨rfl,rfl,rfl,by decide +kernel,rfl,by decide +kernel,by decide +kernel⟩
theorem Zdh:Xg ["_law_rolls_here","_law_table_here","_law_order_here","_law_reached_here","_law_roll_here","_law_cuts","_law_here","_law_left","_law_counts_here","_law_rest"] ["_law_rolls_here","_law_table_here","_law_order_here"] (Zn Zai):=⟨rfl,rfl,rfl,by decide +kernel,rfl,by decide +kernel,by decide +kernel⟩
theorem Zes:Xg ["_law_rolls_here","_law_table_here","_law_order_here"] ["_law_rolls_here","_law_table_here","_law_order_here"] (Zn Zaw):=⟨rfl,rfl,rfl,by decide +kernel,rfl,by decide +kernel,by decide +kernel⟩
theorem Zfw:Xg ["_law_found","_law_due","_law_left","_law_one"] ["_law_found","_law_due"] (Zn Zds):=⟨rfl,rfl,rfl,by decide +kernel,rfl,by decide +kernel,by decide +kernel⟩
theorem Xqr:Xg ["_law_script","_law_rolls_here","_law_table_here","_law_order_here","_law_due","_law_handed","_law_found","_law_again"] ["_law_script"] (Zn Xmq):=⟨rfl,rfl,rfl,by decide +kernel,rfl,by decide +kernel,by decide +kernel⟩
theorem Zay:Xg ["row","ahead","place","wanted","piece","cut","cutting","more"] ["row","ahead","place","wanted","piece"] (Zn Jo):=⟨rfl,rfl,rfl,by decide +kernel,rfl,by decide +kernel,by decide +kernel⟩
structure Txt (mg:Str->Option Value):Prop where
 sum:mg "sum"=none
 len:mg "len"=none
 any:mg "any"=none
 range:mg "range"=none
 dict:mg "dict"=none
 enumerate:mg "enumerate"=none
 tuple:mg "tuple"=none
 min:mg "min"=none
 zip:mg "zip"=none
 sorted:mg "sorted"=none
 list:mg "list"=none
 isinstance:mg "isinstance"=none
 int:mg "int"=none
 bool:mg "bool"=none
 LONGEST_ROLL:∃t,mg "LONGEST_ROLL"=Kw (.int 40 t)
 MOST_STATES:∃t,mg "MOST_STATES"=Kw (.int 120 t)
theorem Xeo (F:Fun K "spoilt" "spoilt" Zpv f fd)(T:Txt mg):Zbe P w K mg base CX0 7 f fd ["roll","begin","end"] (spD K C 3 2 Dl.Zcz):=by
  refine F.okC Zsz (Γ':=[]) (Δ':=[]) rfl fun cdv A outer s H E hr=>?_;have sc:=Zsz;have hu:_+64<Bw:=hr.units;exact ⟨_,(Zg [] [] (Jm (Xio (Zlq (Xv Ziq Zcp (Zj 1) Ze (Xs _)) (Zlq (Xv Zkm Zej (Zj 2) (Xp (r:=Zbj K) Xz Ja rfl T.len PySem.boot_len (Zb (Zj 0) Zi Za) (he:=Za)) (Xs _)) (Zht (Xv Zkm Zej (Zj 1) (Zj 2) (Xs _)))))) (Zl Zks) Xq)
      (Zl (Yb (Xp (r:=rSum K) (Xhr rfl) Xmf rfl T.sum Lg (Zb (Xuq K (Zj 0) (Zdp (Zj 1)) (Zdp (Zj 2))) Zi Xc) (he:=Xc)))))⟩
theorem Xgt (F:Fun K "states" "states" Zov f fd)(T:Txt mg):Zbe P w K mg base CX0 7 f fd ["order"] (spD K C 1 2 Dl.Zev):=by
  refine F.okC Zsa (Γ':=[]) (Δ':=[]) rfl fun cdv A outer s H E hr=>?_;have sc:=Zsa;have hu:_+64<Bw:=hr.units;exact ⟨_,(Zg [1] [1] (Zr (i:=1) sc.nd rfl (Av rfl) Ze)
      (Zg [1] [1] (Jc [1] [1] AM rfl (Zbq (Zj 0)) (Xx (i:=2) (hN:=sc.nd) (hi:=rfl) (hx:=Av rfl)) (Zl (Xos (i:=1) sc.nd rfl (Av rfl) (Zq Zs Zt (Zj 2) Ze))))
      (Zl (Yb (Zjg 1)))))⟩
theorem Zeg (F:Fun K "add_with_last" "add_with_last" Jo f fd)(T:Txt mg):Zbe P w K mg base CX0 7 f fd ["row","ahead","place","wanted","piece"] (spM K C 4 Dl.Yd):=by refine F.okM Zay rfl fun cdv A outer s H E hr=>?_;have sc:=Zay;have hu:_+64<Bw:=hr.units;exact ⟨_,(Xwe (Xum [0] [0] AM rfl (Zkr (Zj 1)) (Xko rfl (Znl (Zsl (i:=5) (hN:=sc.nd) (hi:=rfl) (hx:=Av rfl)) (Znl (Zsl (i:=6) (hN:=sc.nd) (hi:=rfl) (hx:=Av rfl)) Xex))) (Zoy (Xwn (Xv Ziq Zcp (Zz K (Zj 5) (Zj 2) Xb) (Zj 3) (Xs _)) (Xgk [0,7] [0,7] (Xcl [0,7] [0,7] (Xub (i:=7) sc.nd rfl (Av rfl) (Zq Zlk Zgy (Zq Zlk Zgy (Zrl K (Zj 5) Zie (Zdp (Zj 2))) (Znp (Zh (Zq Zs Zt (Zz K (Zj 5) (Zj 2) Xb) Ze) Zi Zv))) (Zrl K (Zj 5) (Zdp (Zq Zs Zt (Zj 2) Ze)) Zie))) (Zoy (Xwn (Xv (Zwr hu) Zrv (Zj 7) (Zj 0) rfl) (Zoy (Xjs (i:=0) (he:=(Zrf (Zq Xbk Zsj (Zj 6) (Zip (Zb (Zj 4) Zi Za))))) (hk:=(Zj 7)) (hu:=hu))) Zyb)))) Zyb))))⟩
theorem Zpq (F:Fun K "with_roll" "with_roll" Zda f fd)(T:Txt mg):Zbe P w K mg base CX0 7 f fd ["plans","cuts"] (spD K C 2 2 Dl.Zao):=by
  refine F.okC Zid (Γ':=[]) (Δ':=[]) rfl fun cdv A outer s H E hr=>?_;have sc:=Zid;have hu:_+64<Bw:=hr.units;exact ⟨_,(Zg [2] [2] (Zr (i:=2) sc.nd rfl (Av rfl) Zxb)
      (Zg [2] [2] (Jc [2] [2] AM rfl (Zkr (Zj 0)) (Xbu rfl (Zde (Xx (i:=3) (hN:=sc.nd) (hi:=rfl) (hx:=Av rfl)) (Zde (Xx (i:=4) (hN:=sc.nd) (hi:=rfl) (hx:=Av rfl)) Zpk))) (Zl (Jc [2] [2] AM rfl (Zkr (Zj 1)) (Xbu rfl (Zde (Xx (i:=5) (hN:=sc.nd) (hi:=rfl) (hx:=Av rfl)) (Zde (Xx (i:=6) (hN:=sc.nd) (hi:=rfl) (hx:=Av rfl)) Zpk))) (Yy [2,7,8] [2,7,8] (Zg [2,7] [2,7] (Zr (i:=7) sc.nd rfl (Av rfl) (Xy (r:=Znd K) Zbk Zcv rfl T.tuple B7 (Zb (Zfd (n:=9) (Zn Zda) ["plans","cuts","more","left","ahead","cut","cutting","rest","used"] ["plans","cuts","more","left","ahead","cut","cutting","rest","used"] ["number","gone"] ⟨rfl,by decide +kernel,by decide +kernel,by decide +kernel,by decide +kernel,by decide +kernel,rfl,by decide +kernel⟩ (Xaq rfl T.zip (Zj 3) (Zj 5) Za Za) (fun _ _ _ _ _=>(Xie K (Zgw (Zbs 9 (hN:=(by decide +kernel:DL (["plans","cuts","more","left","ahead","cut","cutting","rest","used","number","gone"]:List Str)))) (Zgw (Zbs 10 (hN:=(by decide +kernel:DL (["plans","cuts","more","left","ahead","cut","cutting","rest","used","number","gone"]:List Str)))) Xbt)))) (fun _ _ _ _ _=>Zdx) (fun _ _ _ _ _=>(Zq Zfy Zce (Zj 9 (hv:=Av rfl)) (Zj 10 (hv:=Av rfl))))) Zi Jf) (he:=Jf)))
      (Zg [2,7] [2,7] (Jm (Xv Ziq Zcp (Xfd K rfl T.min (Zj 7) Ze Za) Ze (Xs _)) (Zl Xry) Xq)
      (Zg [2,7,8] [2,7,8] (Zr (i:=8) sc.nd rfl (Av rfl) (ce_if (Xoo (Zj 6)) (Zq Zs Zt (Zz K (Zj 4) Ze Zk) Ze) (Yj (Zz K (Zj 4) Ze Zk))))
      (Zl (Jm (Xio (Zlq (Xv (Zwr hu) Zrv (Zj 7) (Zj 2) rfl) (Zht (Xv Ziq Zcp (Zj 8) (Zz K (Xwf (Zj 2) (Zj 7) hu) Ze Zk) (Xs _))))) (Zl (Zqg (i:=2) (he:=(Zyg (Zb (Zj 8) (Zb (Zrf (Zq Xbk Zsj (Zz K (Zj 4) Ze Zk) (Zip (Zb (Zj 6) Zi Za)))) Zi Zv) Za))) (hk:=(Zj 7)) (hu:=hu))) Xq)))))))))
      (Zl (Xds (i:=2)))))⟩
theorem Zpd (F:Fun K "_law_cell" "_law_cell" Zfc f fd)(T:Txt mg):Zbe P w K mg base CX0 7 f fd ["_law_script","_law_place"] (spD K C 2 2 Dl.Js):=by
  refine F.okC Zhn (Γ':=[]) (Δ':=[]) rfl fun cdv A outer s H E hr=>?_;have sc:=Zhn;have hu:_+64<Bw:=hr.units;exact ⟨_,(Zg [] [] (Jm (Xv Ziq Zcp (Zj 1) (Xp (r:=Zbj K) Xz Ja rfl T.len PySem.boot_len (Zb (Zj 0) Zi Za) (he:=Za)) (Xs _)) (Zl (Yb (Yj (Zz K (Zj 0) (Zj 1) Xb)))) Xq)
      (Zg [2] [2] (Zr (i:=2) sc.nd rfl (Av rfl) Ze)
      (Zg [2] [2] (Jc [2] [2] AM rfl (Zbq (Xuq K (Zj 0) Zie (Zdp Ze))) (Xx (i:=3) (hN:=sc.nd) (hi:=rfl) (hx:=Av rfl)) (Zl (Zr (i:=2) sc.nd rfl (Av rfl) (Zq Zav Jk (Zq Zs Zt (Zq Zs Zt (Zq Xu Xt (Zj 2) Ze) (Zq Zav Jk (Zj 3) Ze)) Ze) Ze))))
      (Zl (Yb (Zq Zav Jk (Zq Zs Zt (Zj 2) (Zq Xu Xt Ze (Zj 1))) Ze))))))⟩
theorem Zvk (F:Fun K "_law_mix" "_law_mix" Ziu f fd)(T:Txt mg):Zbe P w K mg base CX0 7 f fd ["_law_cell_here","_law_k"] (spD K C 2 2 Dl.Zam):=by
  refine F.okC Zjy (Γ':=[]) (Δ':=[]) rfl fun cdv A outer s H E hr=>?_;have sc:=Zjy;have hu:_+64<Bw:=hr.units;exact ⟨_,(Zg [2] [2] (Zr (i:=2) sc.nd rfl (Av rfl) (Zq Zav Jk (Zq Zet Zbp (Zq Zs Zt (Zq Zs Zt (Zq Zav Jk (Zj 0) Ze) (Zq Xu Xt Ze (Zj 1))) Ze) Ze) Ze))
      (Zg [2,3] [2,3] (Zr (i:=3) sc.nd rfl (Av rfl) (Zq Zav Jk (Zq Zs Zt (Zq Zs Zt (Zq Xu Xt (Zj 2) Ze) (Zq Xu Xt (Zq Xu Xt Ze (Zj 1)) (Zj 1))) Ze) Ze))
      (Zl (Yb (Zq Ztb Zxs (Zj 3) Ze)))))⟩
theorem Zpp (F:Fun K "_law_sums" "_law_sums" Zfi f fd)(T:Txt mg):Zbe P w K mg base CX0 7 f fd ["_law_roll_here"] (spD K C 1 2 Dl.Jt):=by
  refine F.okC Zhs (Γ':=[]) (Δ':=[]) rfl fun cdv A outer s H E hr=>?_;have sc:=Zhs;have hu:_+64<Bw:=hr.units;exact ⟨_,(Zg [1] [1] (Zr (i:=1) sc.nd rfl (Av rfl) (Ya (Zh Ze Zi Zf)))
      (Zg [1] [1] (Jc [1] [1] AM rfl (Zbq (Zj 0)) (Xx (i:=2) (hN:=sc.nd) (hi:=rfl) (hx:=Av rfl)) (Zl (Zft (i:=1) (he:=(Zq Zs Zt (Zz K (Zj 1) (Zjt Ze) Zey) (Zj 2))) (hse:=Zv))))
      (Zl (Yb (Zjg 1)))))⟩
theorem Zpx (F:Fun K "_law_good" "_law_good" Zfp f fd)(T:Txt mg):Zbe P w K mg base CX0 7 f fd ["_law_sums_here","_law_kind","_law_at"] (spD K C 3 2 Dl.Zaq):=by
  refine F.okC Zhm (Γ':=[]) (Δ':=[]) rfl fun cdv A outer s H E hr=>?_;have sc:=Zhm;have hu:_+64<Bw:=hr.units;exact ⟨_,(Zg [3] [3] (Zr (i:=3) sc.nd rfl (Av rfl) (Zq Zs Zt (Zj 2) (Zz K (Zj 1) Ze Zk)))
      (Zg [3] [3] (Jm (Xio (Zlq (Xv Ziq Zcp (Zj 2) Ze (Xs _)) (Zht (Xv Xrz Xit (Zj 3) (Xp (r:=Zbj K) Xz Ja rfl T.len PySem.boot_len (Zb (Zj 0) Zi Za) (he:=Za)) (Xs _))))) (Zl (Yb Zgh)) Xq)
      (Zl (Yb (Zni Xsh Xiz (Zq Zfy Zce (Zz K (Zj 0) (Zj 3) Xb) (Zz K (Zj 0) (Zj 2) Xb)) (Zz K (Zj 1) Ze Zk) (Xs _))))))⟩
theorem Zhp (F:Fun K "_law_is_whole" "_law_is_whole" Zaz f fd)(T:Txt mg):Zbe P w K mg base CX0 7 f fd ["_law_one"] (spD K C 1 2 Dl.Yh):=by refine F.okC Zct (Γ':=[]) (Δ':=[]) rfl fun cdv A outer s H E hr=>?_;have sc:=Zct;have hu:_+64<Bw:=hr.units;exact ⟨_,(Zl (Yb (Xqu (Zrn K (ty:="int") Xmu rfl T.isinstance rfl T.int Ex (Zj 0) Za) (Xsf (Xrx (Zrn K (ty:="bool") Xcw rfl T.isinstance rfl T.bool Lj (Zj 0) Za))))))⟩
theorem Zly (F:Fun K "_law_copies" "_law_copies" Zaw f fd)(T:Txt mg):Zbe P w K mg base CX0 7 f fd ["_law_rolls_here","_law_table_here","_law_order_here"] (spD K C 3 2 Dl.Yt):=by refine F.okC Zes (Γ':=[]) (Δ':=[]) rfl fun cdv A outer s H E hr=>?_;have sc:=Zes;have hu:_+64<Bw:=hr.units;exact ⟨_,(Zl (Yb (Ya (Zh (Zfd (n:=3) (Zn Zaw) ["_law_rolls_here","_law_table_here","_law_order_here"] ["_law_rolls_here","_law_table_here","_law_order_here"] ["_law_roll_here"] ⟨rfl,by decide +kernel,by decide +kernel,by decide +kernel,by decide +kernel,by decide +kernel,rfl,by decide +kernel⟩ (Zbq (Zj 0)) (fun _ _ _ _ _=>(Zbs 3 (hN:=(by decide +kernel:DL (["_law_rolls_here","_law_table_here","_law_order_here","_law_roll_here"]:List Str))))) (fun _ _ _ _ _=>Zdx) (fun _ _ _ _ _=>(Xy (r:=Zlc K) (Zbi rfl) Zeu rfl T.list BR (Zb (Zj 3 (hv:=Av rfl)) Zi Za) (he:=Za)))) (Zh (Xy (r:=Zlc K) (Zbi rfl) Zeu rfl T.list BR (Zb (Zj 1) Zi Za) (he:=Za)) (Zh (Xy (r:=Zlc K) (Zbi rfl) Zeu rfl T.list BR (Zb (Zj 2) Zi Za) (he:=Za)) Zi Yn) Yn) Jf))))⟩
theorem Xrb (F:Fun K "fits" "fits" Xpi f fd)(T:Txt mg)(Dspoilt:Def P w K mg base CX0 7 "spoilt" ["roll","begin","end"] (spD K C 3 2 Dl.Zcz)):Zbe P w K mg base CX0 8 f fd ["roll","kind","place"] (spD K C 3 2 Dl.Zoj):=by
  refine F.okC Xig (Γ':=[]) (Δ':=[]) rfl fun cdv A outer s H E hr=>?_;have sc:=Xig;have hu:_+64<Bw:=hr.units;exact ⟨_,(Zg [3] [3] (Zr (i:=3) sc.nd rfl (Av rfl) (Zq Zs Zt (Zj 2) (Zz K (Zj 1) Ze Zk)))
      (Zg [3] [3] (Jm (Xio (Zlq (Xv Ziq Zcp (Zj 2) Ze (Xs _)) (Zht (Xv Zkm Zej (Zj 3) (Xp (r:=Zbj K) Xz Ja rfl T.len PySem.boot_len (Zb (Zj 0) Zi Za) (he:=Za)) (Xs _))))) (Zl (Yb Zgh)) Xq)
      (Zl (Yb (Zni Xsh Xiz (Xf Dspoilt (hr.mono (by decide)) rfl Yq (Zb (Zj 0) (Zb (Zj 2) (Zb (Zj 3) Zi Za) Za) Za) (he:=Za)) (Zz K (Zj 1) Ze Zk) (Xs _))))))⟩
theorem Zom (F:Fun K "refuse_big" "refuse_big" Zby f fd)(T:Txt mg)(Dstates:Def P w K mg base CX0 7 "states" ["order"] (spD K C 1 2 Dl.Zev)):Zbe P w K mg base CX0 8 f fd ["rolls","order"] (spD K C 2 2 Dl.Jv):=by
  refine F.okC Zfr (Γ':=[]) (Δ':=[]) rfl fun cdv A outer s H E hr=>?_;have sc:=Zfr;have hu:_+64<Bw:=hr.units;exact ⟨_,(Zg [] [] (Jm (Zfz (Xp (r:=Xdm K) (Zzs rfl) Xpn rfl T.any Lk (Zb (Zfd (n:=2) (Zn Zby) ["rolls","order"] ["rolls","order"] ["roll"] ⟨rfl,by decide +kernel,by decide +kernel,by decide +kernel,by decide +kernel,by decide +kernel,rfl,by decide +kernel⟩ (Zbq (Zj 0)) (fun _ _ _ _ _=>(Zbs 2 (hN:=(by decide +kernel:DL (["rolls","order","roll"]:List Str))))) (fun _ _ _ _ _=>Zdx) (fun _ _ _ _ _=>(Zni Zkm Zej (Xp (r:=Zbj K) Xz Ja rfl T.len PySem.boot_len (Zb (Zj 2 (hv:=Av rfl)) Zi Za) (he:=Za)) (Zwy rfl T.LONGEST_ROLL.choose_spec ⟨_,rfl⟩) (Xs _)))) Zi Jf) (he:=Jf))) (Zl Zks) Xq)
      (Zl (Jm (Xv Zkm Zej (Xf Dstates (hr.mono (by decide)) rfl Yq (Zb (Zj 1) Zi Za) (he:=Za)) (Zwy rfl T.MOST_STATES.choose_spec ⟨_,rfl⟩) (Xs _)) (Zl Zks) Xq)))⟩
theorem Zvq (F:Fun K "_law_row" "_law_row" Zil f fd)(T:Txt mg)(D_law_cell:Def P w K mg base CX0 7 "_law_cell" ["_law_script","_law_place"] (spD K C 2 2 Dl.Js))(D_law_mix:Def P w K mg base CX0 7 "_law_mix" ["_law_cell_here","_law_k"] (spD K C 2 2 Dl.Zam)):Zbe P w K mg base CX0 8 f fd ["_law_script","_law_place","_law_sizes"] (spD K C 3 2 Dl.Xn):=by
  refine F.okC Zjx (Γ':=[]) (Δ':=[]) rfl fun cdv A outer s H E hr=>?_;have sc:=Zjx;have hu:_+64<Bw:=hr.units;exact ⟨_,(Zg [3] [3] (Zr (i:=3) sc.nd rfl (Av rfl) (Xf D_law_cell (hr.mono (by decide)) rfl Yq (Zb (Zj 0) (Zb (Zj 1) Zi Za) Za) (he:=Za)))
      (Zg [3,4] [3,4] (Zr (i:=4) sc.nd rfl (Av rfl) (Yj (Zj 3)))
      (Zg [3,4,5] [3,4,5] (Zr (i:=5) sc.nd rfl (Av rfl) (Ya Zi))
      (Zg [3,4,5] [3,4,5] (Jc [3,4,5] [3,4,5] AM rfl (Zfn rfl T.range (Zb (Xp (r:=Zbj K) Xz Ja rfl T.len PySem.boot_len (Zb (Zj 2) Zi Za) (he:=Za)) Zi Yn)) (Xx (i:=6) (hN:=sc.nd) (hi:=rfl) (hx:=Av rfl)) (Zl (Jm (Xv Ziq Zcp (Zj 3) (Zq Zet Zbp Ze Ze) (Xs _)) (Zl (Zft (i:=5) (he:=(Zq Zav Jk (Xf D_law_mix (hr.mono (by decide)) rfl Yq (Zb (Zj 3) (Zb (Zj 6) Zi Za) Za) (he:=Za)) (Zz K (Zj 2) (Zj 6) Xb))) (hse:=Zv))) (Zl (Jm (Xv Zkm Zej (Zj 4) Ze (Xs _)) (Zg [3,4,5] [3,4,5] (Zft (i:=5) (he:=(Zq Zav Jk (Zj 4) (Zz K (Zj 2) (Zj 6) Xb))) (hse:=Zv))
      (Zl (Zr (i:=4) sc.nd rfl (Av rfl) (Zq Ztb Zxs (Zj 4) (Zz K (Zj 2) (Zj 6) Xb))))) (Yy [3,4,5,7] [3,4,5,7] (Zg [3,4,5,7] [3,4,5,7] (Zr (i:=7) sc.nd rfl (Av rfl) (Xf D_law_cell (hr.mono (by decide)) rfl Yq (Zb (Zj 0) (Zb (Zq Zav Jk (Zq Zs Zt (Zq Zs Zt (Zj 1) Ze) (Zj 6)) Ze) Zi Zv) Za) (he:=Za)))
      (Zl (Zft (i:=5) (he:=(Zq Zav Jk (Xf D_law_mix (hr.mono (by decide)) rfl Yq (Zb (Zj 7) (Zb (Zj 6) Zi Za) Za) (he:=Za)) (Zz K (Zj 2) (Zj 6) Xb))) (hse:=Zv))))))))))
      (Zl (Yb (Zjg 5)))))))⟩
theorem Zld (F:Fun K "_law_counts" "_law_counts" Zcq f fd)(T:Txt mg)(D_law_sums:Def P w K mg base CX0 7 "_law_sums" ["_law_roll_here"] (spD K C 1 2 Dl.Jt))(D_law_good:Def P w K mg base CX0 7 "_law_good" ["_law_sums_here","_law_kind","_law_at"] (spD K C 3 2 Dl.Zaq)):Zbe P w K mg base CX0 8 f fd ["_law_roll_here","_law_table_here","_law_order_here"] (spD K C 3 2 Dl.Jj):=by
  refine F.okC Zek (Γ':=[]) (Δ':=[]) rfl fun cdv A outer s H E hr=>?_;have sc:=Zek;have hu:_+64<Bw:=hr.units;exact ⟨_,(Zg [3] [3] (Zr (i:=3) sc.nd rfl (Av rfl) (Xf D_law_sums (hr.mono (by decide)) rfl Yq (Zb (Zj 0) Zi Za) (he:=Za)))
      (Zg [3,4] [3,4] (Zr (i:=4) sc.nd rfl (Av rfl) (Ya (Zh (Zst (Zha (Xy (r:=Znd K) Zbk Zcv rfl T.tuple B7 (Zb (Zq Xu Xt (Ya (Zh Ze Zi Zf)) (Xp (r:=Zbj K) Xz Ja rfl T.len PySem.boot_len (Zb (Zj 1) Zi Za) (he:=Za))) Zi Zv) (he:=Zv)) Zgh hu)) Zi Zmp)))
      (Zg [3,4] [3,4] (Jc [3,4] [3,4] AM rfl (Xbs rfl T.range (Zb Ze (Zb (Xp (r:=Zbj K) Xz Ja rfl T.len PySem.boot_len (Zb (Zj 3) Zi Za) (he:=Za)) Zi Yn) Zf)) (Xx (i:=5) (hN:=sc.nd) (hi:=rfl) (hx:=Av rfl)) (Zg [3,4,6] [3,4,6] (Zr (i:=6) sc.nd rfl (Av rfl) (Xy (r:=Zsw) Zjp Zmd rfl T.dict Gj (Zb (Zz K (Zj 4) (Zjt Ze) Zey) Zi Xc) (he:=Xc)))
      (Zg [3,4,6] [3,4,6] (Jc [3,4,6] [3,4,6] AM rfl (Zfn rfl T.range (Zb (Xp (r:=Zbj K) Xz Ja rfl T.len PySem.boot_len (Zb (Zj 1) Zi Za) (he:=Za)) Zi Yn)) (Xx (i:=7) (hN:=sc.nd) (hi:=rfl) (hx:=Av rfl)) (Yy [3,4,6,8] [3,4,6,8] (Zg [3,4,6,8] [3,4,6,8] (Zr (i:=8) sc.nd rfl (Av rfl) (Zq Zfy Zce (Zj 5) (Zz K (Zz K (Zj 1) (Zj 7) Xb) Ze Zk)))
      (Zl (Jm (Zfz (Xf D_law_good (hr.mono (by decide)) rfl Yq (Zb (Zj 3) (Zb (Zz K (Zj 1) (Zj 7) Xb) (Zb (Zj 8) Zi Za) Xc) Za) (he:=Za))) (Zl (Jc [3,4,6,8] [3,4,6,8] AM rfl (Zdz (Zz K (Zj 4) (Zj 8) Xb)) (Xx (i:=9) (hN:=sc.nd) (hi:=rfl) (hx:=Av rfl)) (Zl (Jm (Xv Ziq Zcp (Zz K (Zj 9) (Zj 7) Xb) (Zz K (Zj 2) (Zj 7) Xb) (Xs _)) (Yy [3,4,6,8,10] [3,4,6,8,10] (Zg [3,4,6,8,10] [3,4,6,8,10] (Zr (i:=10) sc.nd rfl (Av rfl) (Zq Zlk Zgy (Zq Zlk Zgy (Zrl K (Zj 9) Zie (Zdp (Zj 7))) (Znp (Zh (Zq Zs Zt (Zz K (Zj 9) (Zj 7) Xb) Ze) Zi Zv))) (Zrl K (Zj 9) (Zdp (Zq Zs Zt (Zj 7) Ze)) Zie)))
      (Zl (Zqg (i:=6) (he:=Zgh) (hk:=(Zj 10)) (hu:=hu))))) Xq)))) Xq)))))
      (Zl (Ztc (i:=4) (j:=6))))))
      (Zl (Yb (Yj (Zz K (Zj 4) (Zjt Ze) Zey)))))))⟩
theorem Zmf (F:Fun K "_law_right" "_law_right" Zds f fd)(T:Txt mg)(D_law_is_whole:Def P w K mg base CX0 7 "_law_is_whole" ["_law_one"] (spD K C 1 2 Dl.Yh)):Zbe P w K mg base CX0 8 f fd ["_law_found","_law_due"] (spD K C 2 2 Dl.Yr):=by
  refine F.okC Zfw (Γ':=[]) (Δ':=[]) rfl fun cdv A outer s H E hr=>?_;have sc:=Zfw;have hu:_+64<Bw:=hr.units;exact ⟨_,(Zg [] [] (Jm (Xio (Zlq (Zmz (Zfz (Zrn K (ty:="list") Zqu rfl T.isinstance rfl T.list BR (Zj 0) Za))) (Zht (Xv (r:=rNeA K) (Xjc hu) Xjh (Zj 0) (Zj 1) (Xs _))))) (Zl (Yb Zgh)) Xq)
      (Zg [] [] (Jc [] [] AM rfl (Zbq (Zj 0)) (Xx (i:=2) (hN:=sc.nd) (hi:=rfl) (hx:=Av rfl)) (Zg [] [] (Jm (Zmz (Zfz (Zrn K (ty:="list") Zqu rfl T.isinstance rfl T.list BR (Zj 2) Za))) (Zl (Yb Zgh)) Xq)
      (Zl (Jc [] [] AM rfl (Zbq (Zj 2)) (Xx (i:=3) (hN:=sc.nd) (hi:=rfl) (hx:=Av rfl)) (Zl (Jm (Zmz (Zfz (Xf D_law_is_whole (hr.mono (by decide)) rfl Yq (Zb (Zj 3) Zi Za) (he:=Za)))) (Zl (Yb Zgh)) Xq))))))
      (Zl (Yb Zgh))))⟩
theorem Zzo (F:Fun K "cuts_of" "cuts_of" Zli f fd)(T:Txt mg)(Dfits:Def P w K mg base CX0 8 "fits" ["roll","kind","place"] (spD K C 3 2 Dl.Zoj))(Dadd_with_last__W:Def P w K mg base CX0 7 "add_with_last" ["row","ahead","place","wanted","piece"] (spM K C 4 Dl.Yd)):Zbe P w K mg base CX0 9 f fd ["roll","table","order"] (spD K C 3 2 Dl.Zco):=by
  refine F.okC Zop (Γ':=[]) (Δ':=[]) rfl fun cdv A outer s H E hr=>?_;have sc:=Zop;have hu:_+64<Bw:=hr.units;exact ⟨_,(Zg [3] [3] (Zr (i:=3) sc.nd rfl (Av rfl) (Ya (Zh (Zst (Zha (Xy (r:=Znd K) Zbk Zcv rfl T.tuple B7 (Zb (Zq Xu Xt (Ya (Zh Ze Zi Zf)) (Xp (r:=Zbj K) Xz Ja rfl T.len PySem.boot_len (Zb (Zj 2) Zi Za) (he:=Za))) Zi Zv) (he:=Zv)) (Zrf (Ya Zi)) hu)) Zi Zmp)))
      (Zg [3] [3] (Jc [3] [3] AM rfl (Xbs rfl T.range (Zb Ze (Zb (Zq Zs Zt (Xp (r:=Zbj K) Xz Ja rfl T.len PySem.boot_len (Zb (Zj 0) Zi Za) (he:=Za)) Ze) Zi Zv) Zf)) (Xx (i:=4) (hN:=sc.nd) (hi:=rfl) (hx:=Av rfl)) (Zg [3,5] [3,5] (Zr (i:=5) sc.nd rfl (Av rfl) (Xy (r:=Zsw) Zjp Zmd rfl T.dict Gj (Zb (Zz K (Zj 3) (Zjt Ze) Zey) Zi Xc) (he:=Xc)))
      (Zg [3,5] [3,5] (Jc [3,5] [3,5] AM rfl (Xoj rfl T.enumerate (Zj 1) Za) (Xbu rfl (Zde (Xx (i:=6) (hN:=sc.nd) (hi:=rfl) (hx:=Av rfl)) (Zde (Xx (i:=7) (hN:=sc.nd) (hi:=rfl) (hx:=Av rfl)) Zpk))) (Yy [3,5,8] [3,5,8] (Zg [3,5,8] [3,5,8] (Zr (i:=8) sc.nd rfl (Av rfl) (Zq Zfy Zce (Zj 4) (Zz K (Zj 7) Ze Zk)))
      (Zl (Jm (Zfz (Xf Dfits (hr.mono (by decide)) rfl Yq (Zb (Zj 0) (Zb (Zj 7) (Zb (Zj 8) Zi Za) Za) Za) (he:=Za))) (Zl (Xde (Xfw 5 Dadd_with_last__W (hr.mono (by decide)) rfl Yq (Zb (Zz K (Zj 3) (Zj 8) Xb) (Zb (Zj 6) (Zb (Zz K (Zj 2) (Zj 6) Xb) (Zb (Zyg (Zb (Zj 8) (Zb (Zz K (Zj 7) Ze Zk) Zi Xc) Za)) Zi Zrc) Xc) Za) Xc) (he:=Za)))) Xq)))))
      (Zl (Ztc (i:=3) (j:=5))))))
      (Zl (Yb (Yj (Zz K (Zj 3) (Zjt Ze) Zey))))))⟩
theorem Znw (F:Fun K "_law_table" "_law_table" Zdw f fd)(T:Txt mg)(D_law_row:Def P w K mg base CX0 8 "_law_row" ["_law_script","_law_place","_law_sizes"] (spD K C 3 2 Dl.Xn)):Zbe P w K mg base CX0 9 f fd ["_law_script","_law_place","_law_most"] (spD K C 3 2 Dl.Jd):=by
  refine F.okC Zgc (Γ':=[]) (Δ':=[]) rfl fun cdv A outer s H E hr=>?_;have sc:=Zgc;have hu:_+64<Bw:=hr.units;exact ⟨_,(Zg [3] [3] (Zr (i:=3) sc.nd rfl (Av rfl) (Ya (Zh Zag (Zh Zag (Zh Zag (Zh Zag (Zh Zag (Zh Zag (Zh Zag (Zh Zag (Zh Zag (Zh Zag Zi Zf) Zf) Zf) Zf) Zf) Zf) Zf) Zf) Zf) Zf)))
      (Zg [3] [3] (Zr (i:=3) sc.nd rfl (Av rfl) (Zq Zs Zt (Zj 3) (Ya (Zh Zag (Zh Zag (Zh Zag (Zh Zag (Zh Zag (Zh Zag Zi Zf) Zf) Zf) Zf) Zf) Zf))))
      (Zg [3,4] [3,4] (Zr (i:=4) sc.nd rfl (Av rfl) (Xf D_law_row (hr.mono (by decide)) rfl Yq (Zb (Zj 0) (Zb (Zj 1) (Zb (Zq Zs Zt (Ya (Zh (Zq Zs Zt (Zj 2) Ze) (Zh Ze (Zh Ze (Zh Ze (Zh Ze (Zh Ze Zi Zf) Zf) Zf) Zf) Zf) Zv)) (Zq Xu Xt (Ya (Zh Ze (Zh Ze (Zh Ze Zi Zf) Zf) Zf)) (Zj 2))) Zi Zv) Za) Za) (he:=Za)))
      (Zg [3,4,5] [3,4,5] (Zr (i:=5) sc.nd rfl (Av rfl) (Yj (Zz K (Ya (Zh Ze (Zh Ze (Zh Ze (Zh (Zq Zet Zbp Ze Ze) Zi Zv) Zf) Zf) Zf)) (Zz K (Zj 4) Ze Zk) Zan)))
      (Zg [3,4,5,6] [3,4,5,6] (Zr (i:=6) sc.nd rfl (Av rfl) (Yj (Zz K (Ya (Zh Ze (Zh Ze (Zh (Zq Zet Zbp Ze Ze) (Zh (Zq Xu Xt Ze (Zq Zet Zbp Ze Ze)) Zi Zv) Zv) Zf) Zf)) (Zz K (Zj 4) Ze Zk) Zan)))
      (Zg [3,4,5,6,7] [3,4,5,6,7] (Zr (i:=7) sc.nd rfl (Av rfl) (Ya Zi))
      (Zg [3,4,5,6,7] [3,4,5,6,7] (Jc [3,4,5,6,7] [3,4,5,6,7] AM rfl (Zfn rfl T.range (Zb (Zz K (Zj 4) Ze Zk) Zi Xc)) (Xx (i:=8) (hN:=sc.nd) (hi:=rfl) (hx:=Av rfl)) (Yy [3,4,5,6,7,9,10,11,12,13] [3,4,5,6,7,9,10,11,12,13] (Zg [3,4,5,6,7,9] [3,4,5,6,7,9] (Zr (i:=9) sc.nd rfl (Av rfl) (Zq Zs Zt (Zq Xu Xt Ze (Zj 8)) Ze))
      (Zg [3,4,5,6,7,9,10] [3,4,5,6,7,9,10] (Zr (i:=10) sc.nd rfl (Av rfl) (Yj (Zz K (Zip (Zb Ze (Zb Ze (Zb Ze (Zb Ze (Zb Ze (Zb Ze (Zb Ze (Zb Ze (Zb Ze (Zb Ze (Zb (Zz K (Ya (Zh Ze (Zh Ze Zi Zf) Zf)) (Zq Zav Jk (Zj 8) Ze) plain_bin) Zi Xc) Zf) Zf) Zf) Zf) Zf) Zf) Zf) Zf) Zf) Zf)) (Zz K (Zj 4) (Zj 9) Xb) Zan)))
      (Zg [3,4,5,6,7,9,10,11] [3,4,5,6,7,9,10,11] (Zr (i:=11) sc.nd rfl (Av rfl) (Zq Zs Zt Ze (Zz K (Zj 4) (Zq Zs Zt (Zj 9) Ze) plain_bin)))
      (Zg [3,4,5,6,7,9,10,11] [3,4,5,6,7,9,10,11] (Jm (Xv (r:=Xcj K) (Zfq hu) Zga (Zz K (Zj 4) Ze Zk) Ze (Xs _)) (Zl (Zr (i:=11) sc.nd rfl (Av rfl) (Zq Zs Zt (Zq Xu Xt Ze (Zj 10)) (Zq Zav Jk (Zz K (Zj 4) (Zq Zs Zt (Zj 9) Ze) plain_bin) Ze)))) Xq)
      (Zg [3,4,5,6,7,9,10,11] [3,4,5,6,7,9,10,11] (Jm (Xv (r:=Xcj K) (Zfq hu) Zga (Zz K (Zj 4) Ze Zk) Ze (Xs _)) (Zl (Zr (i:=11) sc.nd rfl (Av rfl) (Zq Zs Zt Ze (Zq Zav Jk (Zz K (Zj 4) (Zq Zs Zt (Zj 9) Ze) plain_bin) Ze)))) Xq)
      (Zg [3,4,5,6,7,9,10,11] [3,4,5,6,7,9,10,11] (Jm (Xv (r:=Xcj K) (Zfq hu) Zga (Zz K (Zj 4) Ze Zk) Ze (Xs _)) (Zl (Zr (i:=11) sc.nd rfl (Av rfl) (Yj (Zj 10)))) Xq)
      (Zg [3,4,5,6,7,9,10,11,12] [3,4,5,6,7,9,10,11,12] (Zr (i:=12) sc.nd rfl (Av rfl) (Xp (r:=Xaz) (Zhj rfl) Zqf rfl T.min DH (Zb (Zq Xu Xt (Zz K (Ya (Zh Ze (Zh Ze (Zh Ze (Zh Ze (Zh Ze (Zh Ze Zi Zf) Zf) Zf) Zf) Zf) Zf)) (Zz K (Zj 4) (Zq Zs Zt (Zj 9) Ze) plain_bin) Zan) (Zj 5)) (Zb (Zq Zfy Zce (Zq Zet Zbp Ze Ze) Ze) Zi Zv) Zv) (he:=Zv)))
      (Zg [3,4,5,6,7,9,10,11,12,13] [3,4,5,6,7,9,10,11,12,13] (Zr (i:=13) sc.nd rfl (Av rfl) (Yj (Zz K (Zj 3) (Zq Zav Jk (Zq Zs Zt (Zz K (Zj 4) Ze Zk) (Zq Xu Xt (Zq Zs Zt (Zq Xu Xt Ze (Zz K (Zj 4) Ze Zk)) Ze) (Zj 8))) Ze) plain_bin)))
      (Zl (Zft (i:=7) (he:=(Znp (Zh (Yj (Zj 13)) (Zh (Yj (Zj 10)) (Zh (Xp (r:=Xaz) (Zhj rfl) Zqf rfl T.min DH (Zb (Zq Xu Xt (Zj 11) (Zj 6)) (Zb (Zq Zet Zbp Ze Ze) Zi Zv) Zv) (he:=Zv)) (Zh (Yj (Zj 12)) Zi Za) Yn) Za) Za))) (hse:=Zrc)))))))))))))
      (Zl (Yb (Zjg 7))))))))))⟩
theorem Zqn (F:Fun K "_law_flaw" "_law_flaw" Zfm f fd)(T:Txt mg)(D_law_row:Def P w K mg base CX0 8 "_law_row" ["_law_script","_law_place","_law_sizes"] (spD K C 3 2 Dl.Xn)):Zbe P w K mg base CX0 9 f fd ["_law_script","_law_place","_law_most"] (spD K C 3 2 Dl.Jq):=by refine F.okC Zit (Γ':=[]) (Δ':=[]) rfl fun cdv A outer s H E hr=>?_;have sc:=Zit;have hu:_+64<Bw:=hr.units;exact ⟨_,(Zl (Yb (Yj (Zz K (Ya (Zh Ze (Zh Ze (Zh Ze (Zh (Zq Zet Zbp Ze Ze) Zi Zv) Zf) Zf) Zf)) (Zz K (Xf D_law_row (hr.mono (by decide)) rfl Yq (Zb (Zj 0) (Zb (Zj 1) (Zb (Ya (Zh (Zq Zs Zt (Zj 2) Ze) (Zh Ze Zi Zf) Zv)) Zi Zdy) Za) Za) (he:=Za)) Ze Zk) Zan))))⟩
theorem Zqq (F:Fun K "_law_roll" "_law_roll" Zfh f fd)(T:Txt mg)(D_law_row:Def P w K mg base CX0 8 "_law_row" ["_law_script","_law_place","_law_sizes"] (spD K C 3 2 Dl.Xn)):Zbe P w K mg base CX0 9 f fd ["_law_script","_law_place","_law_most","_law_flaw_here"] (spD K C 4 2 Dl.Jb):=by
  refine F.okC Zhh (Γ':=[]) (Δ':=[]) rfl fun cdv A outer s H E hr=>?_;have sc:=Zhh;have hu:_+64<Bw:=hr.units;exact ⟨_,(Zg [4] [4] (Zr (i:=4) sc.nd rfl (Av rfl) (Xf D_law_row (hr.mono (by decide)) rfl Yq (Zb (Zj 0) (Zb (Zj 1) (Zb (Zq Zs Zt (Ya (Zh (Zq Zs Zt (Zj 2) Ze) (Zh Ze (Zh Ze Zi Zf) Zf) Zv)) (Zq Xu Xt (Ya (Zh Ze (Zh Ze Zi Zf) Zf)) (Zj 2))) Zi Zv) Za) Za) (he:=Za)))
      (Zg [4,5] [4,5] (Zr (i:=5) sc.nd rfl (Av rfl) (Zq Xu Xt Ze (Zj 3)))
      (Zg [4,5] [4,5] (Jm (Xv (r:=Xcj K) (Zfq hu) Zga (Zz K (Zj 4) Ze Zk) Ze (Xs _)) (Zl (Zr (i:=5) sc.nd rfl (Av rfl) (Zq Zet Zbp Ze Ze))) Xq)
      (Zg [4,5,6] [4,5,6] (Zr (i:=6) sc.nd rfl (Av rfl) (Ya Zi))
      (Zg [4,5,6] [4,5,6] (Jc [4,5,6] [4,5,6] AM rfl (Zfn rfl T.range (Zb (Zz K (Zj 4) Ze Zk) Zi Xc)) (Xx (i:=7) (hN:=sc.nd) (hi:=rfl) (hx:=Av rfl)) (Yy [4,5,6,8,9] [4,5,6,8,9] (Zg [4,5,6,8] [4,5,6,8] (Zr (i:=8) sc.nd rfl (Av rfl) (Zq Zs Zt (Zq Xu Xt Ze (Zj 7)) Ze))
      (Zg [4,5,6,8,9] [4,5,6,8,9] (Zr (i:=9) sc.nd rfl (Av rfl) Ze)
      (Zg [4,5,6,8,9] [4,5,6,8,9] (Jm (Xv Ziq Zcp (Zz K (Zj 4) (Zj 8) Xb) (Zz K (Ya (Zh Ze (Zh Ze (Zh Ze (Zh Ze Zi Zf) Zf) Zf) Zf)) (Zz K (Zj 4) Ze Zk) Zan) (Xs _)) (Zl (Zr (i:=9) sc.nd rfl (Av rfl) (Yj (Zz K (Zip (Zb (Zj 3) (Zb (Zj 3) (Zb (Zq Xu Xt Ze (Zj 3)) (Zb (Zq Xu Xt Ze (Zj 3)) (Zb (Zj 5) Zi Za) Zv) Zv) Za) Za)) (Zz K (Zj 4) (Zq Zs Zt (Zj 8) Ze) plain_bin) Zan)))) Xq)
      (Zl (Zft (i:=6) (he:=(Yj (Zj 9))) (hse:=Za))))))))
      (Zl (Yb (Zjg 6))))))))⟩
theorem Zoi (F:Fun K "_law_order" "_law_order" Zdu f fd)(T:Txt mg)(D_law_row:Def P w K mg base CX0 8 "_law_row" ["_law_script","_law_place","_law_sizes"] (spD K C 3 2 Dl.Xn)):Zbe P w K mg base CX0 9 f fd ["_law_script","_law_place","_law_table_here","_law_most","_law_limit"] (spD K C 5 2 Dl.Jx):=by
  refine F.okC Zgb (Γ':=[]) (Δ':=[]) rfl fun cdv A outer s H E hr=>?_;have sc:=Zgb;have hu:_+64<Bw:=hr.units;exact ⟨_,(Zg [5] [5] (Zr (i:=5) sc.nd rfl (Av rfl) (Xf D_law_row (hr.mono (by decide)) rfl Yq (Zb (Zj 0) (Zb (Zj 1) (Zb (Zq Zs Zt (Zq Xu Xt (Ya (Zh (Zq Zs Zt (Zj 3) Ze) Zi Zv)) Ze) (Ya (Zh Ze Zi Zf))) Zi Zv) Za) Za) (he:=Za)))
      (Zg [5,6] [5,6] (Zr (i:=6) sc.nd rfl (Av rfl) (Ya Zi))
      (Zg [5,6,7] [5,6,7] (Zr (i:=7) sc.nd rfl (Av rfl) Ze)
      (Zg [5,6,7] [5,6,7] (Jc [5,6,7] [5,6,7] AM rfl (Zfn rfl T.range (Zb (Xp (r:=Zbj K) Xz Ja rfl T.len PySem.boot_len (Zb (Zj 2) Zi Za) (he:=Za)) Zi Yn)) (Xx (i:=8) (hN:=sc.nd) (hi:=rfl) (hx:=Av rfl)) (Yy [5,6,7,9] [5,6,7,9] (Zg [5,6,7,9] [5,6,7,9] (Zr (i:=9) sc.nd rfl (Av rfl) (Yj (Zz K (Zj 5) (Zj 8) Xb)))
      (Zg [5,6,7,9] [5,6,7,9] (Jm (Xio (Xtn (Xv (r:=Xcj K) (Zfq hu) Zga (Zj 8) Ze (Xs _)) (Xpg (Xv (r:=Xcj K) (Zfq hu) Zga (Zz K (Zj 5) Ze Zk) Ze (Xs _))))) (Zl (Zr (i:=9) sc.nd rfl (Av rfl) (Zq Zfy Zce (Zj 4) Ze))) Xq)
      (Zg [5,6,7,9] [5,6,7,9] (Jm (Xv Zkm Zej (Zq Xu Xt (Zj 7) (Zq Zs Zt (Zj 9) Ze)) (Zj 4) (Xs _)) (Zl (Zr (i:=9) sc.nd rfl (Av rfl) Ze)) Xq)
      (Zg [5,6,7,9] [5,6,7,9] (Zr (i:=7) sc.nd rfl (Av rfl) (Zq Xu Xt (Zj 7) (Zq Zs Zt (Zj 9) Ze)))
      (Zl (Zft (i:=6) (he:=(Yj (Zj 9))) (hse:=Za)))))))))
      (Zl (Yb (Zjg 6)))))))⟩
theorem Zjf (F:Fun K "_law_reached" "_law_reached" Zai f fd)(T:Txt mg)(D_law_counts:Def P w K mg base CX0 8 "_law_counts" ["_law_roll_here","_law_table_here","_law_order_here"] (spD K C 3 2 Dl.Jj)):Zbe P w K mg base CX0 9 f fd ["_law_rolls_here","_law_table_here","_law_order_here"] (spD K C 3 2 Dl.Yx):=by
  refine F.okC Zdh (Γ':=[]) (Δ':=[]) rfl fun cdv A outer s H E hr=>?_;have sc:=Zdh;have hu:_+64<Bw:=hr.units;exact ⟨_,(Zg [3] [3] (Zr (i:=3) sc.nd rfl (Av rfl) (Zst (Zha (Xy (r:=Znd K) Zbk Zcv rfl T.tuple B7 (Zb (Zj 2) Zi Za) (he:=Za)) Zgh hu)))
      (Zg [3] [3] (Jc [3] [3] AM rfl (Zbq (Zj 0)) (Xx (i:=4) (hN:=sc.nd) (hi:=rfl) (hx:=Av rfl)) (Yy [3,5] [3,5] (Zg [3,5] [3,5] (Zr (i:=5) sc.nd rfl (Av rfl) (Xf D_law_counts (hr.mono (by decide)) rfl Yq (Zb (Zj 4) (Zb (Zj 1) (Zb (Zj 2) Zi Za) Za) Za) (he:=Za)))
      (Zg [3,5,6] [3,5,6] (Zr (i:=6) sc.nd rfl (Av rfl) Zxb)
      (Zg [3,5,6] [3,5,6] (Jc [3,5,6] [3,5,6] AM rfl (Zdz (Zj 3)) (Xx (i:=7) (hN:=sc.nd) (hi:=rfl) (hx:=Av rfl)) (Zl (Jc [3,5,6] [3,5,6] AM rfl (Zdz (Zj 5)) (Xx (i:=8) (hN:=sc.nd) (hi:=rfl) (hx:=Av rfl)) (Yy [3,5,6,9] [3,5,6,9] (Zg [3,5,6,9] [3,5,6,9] (Zr (i:=9) sc.nd rfl (Av rfl) (Xy (r:=Znd K) Zbk Zcv rfl T.tuple B7 (Zb (Zfd (n:=10) (Zn Zai) ["_law_rolls_here","_law_table_here","_law_order_here","_law_reached_here","_law_roll_here","_law_cuts","_law_here","_law_left","_law_counts_here","_law_rest"] ["_law_rolls_here","_law_table_here","_law_order_here","_law_reached_here","_law_roll_here","_law_cuts","_law_here","_law_left","_law_counts_here","_law_rest"] ["_law_one","_law_other"] ⟨rfl,by decide +kernel,by decide +kernel,by decide +kernel,by decide +kernel,by decide +kernel,rfl,by decide +kernel⟩ (Xaq rfl T.zip (Zj 7) (Zj 8) Za Za) (fun _ _ _ _ _=>(Xie K (Zgw (Zbs 10 (hN:=(by decide +kernel:DL (["_law_rolls_here","_law_table_here","_law_order_here","_law_reached_here","_law_roll_here","_law_cuts","_law_here","_law_left","_law_counts_here","_law_rest","_law_one","_law_other"]:List Str)))) (Zgw (Zbs 11 (hN:=(by decide +kernel:DL (["_law_rolls_here","_law_table_here","_law_order_here","_law_reached_here","_law_roll_here","_law_cuts","_law_here","_law_left","_law_counts_here","_law_rest","_law_one","_law_other"]:List Str)))) Xbt)))) (fun _ _ _ _ _=>Zdx) (fun _ _ _ _ _=>(Zq Zfy Zce (Zj 10 (hv:=Av rfl)) (Zj 11 (hv:=Av rfl))))) Zi Jf) (he:=Jf)))
      (Zl (Jm (Xio (Zlq (Xv (r:=Xcj K) (Zfq hu) Zga (Xp (r:=Zbj K) Xz Ja rfl T.len PySem.boot_len (Zb (Zj 9) Zi Za) (he:=Za)) Ze (Xs _)) (Zht (Xv Xrz Xit (Xp (r:=Xlt K) (Xbv rfl) Xeb rfl T.min DH (Zb (Zj 9) Zi Za) (he:=Za)) Ze (Xs _))))) (Zl (Zqg (i:=6) (he:=Zgh) (hk:=(Zj 9)) (hu:=hu))) Xq)))))))
      (Zl (Xhx (i:=3) (j:=6) sc.nd rfl (Av rfl))))))))
      (Zl (Yb (Zjg 3)))))⟩
theorem Zix (F:Fun K "plans_by_left" "plans_by_left" Zbf f fd)(T:Txt mg)(Drefuse_big:Def P w K mg base CX0 8 "refuse_big" ["rolls","order"] (spD K C 2 2 Dl.Jv))(Dwith_roll:Def P w K mg base CX0 7 "with_roll" ["plans","cuts"] (spD K C 2 2 Dl.Zao))(Dcuts_of:Def P w K mg base CX0 9 "cuts_of" ["roll","table","order"] (spD K C 3 2 Dl.Zco)):Zbe P w K mg base CX0 10 f fd ["rolls","table","order"] (spD K C 3 2 Dl.Ys):=by
  refine F.okC Zcm (Γ':=[]) (Δ':=[]) rfl fun cdv A outer s H E hr=>?_;have sc:=Zcm;have hu:_+64<Bw:=hr.units;exact ⟨_,(Zg [] [] (Xpf (Xf Drefuse_big (hr.mono (by decide)) rfl Yq (Zb (Zj 0) (Zb (Zj 2) Zi Za) Za) (he:=Za)))
      (Zg [3] [3] (Zr (i:=3) sc.nd rfl (Av rfl) (Zst (Zha (Xy (r:=Znd K) Zbk Zcv rfl T.tuple B7 (Zb (Zj 2) Zi Za) (he:=Za)) (Znp (Zh Ze (Zh (Zrf (Ya Zi)) Zi Zdy) Zf)) hu)))
      (Zg [3] [3] (Jc [3] [3] AM rfl (Zbq (Zj 0)) (Xx (i:=4) (hN:=sc.nd) (hi:=rfl) (hx:=Av rfl)) (Zl (Zr (i:=3) sc.nd rfl (Av rfl) (Xf Dwith_roll (hr.mono (by decide)) rfl Yq (Zb (Zj 3) (Zb (Xf Dcuts_of (hr.mono (by decide)) rfl Yq (Zb (Zj 4) (Zb (Zj 1) (Zb (Zj 2) Zi Za) Za) Za) (he:=Za)) Zi Yn) Za) (he:=Za)))))
      (Zl (Yb (Zjg 3))))))⟩
theorem Znu (F:Fun K "_law_rolls" "_law_rolls" Zbx f fd)(T:Txt mg)(D_law_flaw:Def P w K mg base CX0 9 "_law_flaw" ["_law_script","_law_place","_law_most"] (spD K C 3 2 Dl.Jq))(D_law_table:Def P w K mg base CX0 9 "_law_table" ["_law_script","_law_place","_law_most"] (spD K C 3 2 Dl.Jd))(D_law_row:Def P w K mg base CX0 8 "_law_row" ["_law_script","_law_place","_law_sizes"] (spD K C 3 2 Dl.Xn))(D_law_roll:Def P w K mg base CX0 9 "_law_roll" ["_law_script","_law_place","_law_most","_law_flaw_here"] (spD K C 4 2 Dl.Jb)):Zbe P w K mg base CX0 10 f fd ["_law_script","_law_place","_law_most","_law_cells","_law_kinds"] (spD K C 5 2 Dl.Jw):=by
  refine F.okC Zfv (Γ':=[]) (Δ':=[]) rfl fun cdv A outer s H E hr=>?_;have sc:=Zfv;have hu:_+64<Bw:=hr.units;exact ⟨_,(Zg [5] [5] (Zr (i:=5) sc.nd rfl (Ft rfl) (Xf D_law_flaw (hr.mono (by decide)) rfl Yq (Zb (Zj 0) (Zb (Zj 1) (Zb (Zj 4) Zi Za) Za) Za) (he:=Za)))
      (Zg [5,6] [5,6] (Zr (i:=6) sc.nd rfl (Av rfl) (Xf D_law_table (hr.mono (by decide)) rfl Yq (Zb (Zj 0) (Zb (Zj 1) (Zb (Zj 4) Zi Za) Za) Za) (he:=Za)))
      (Zg [5,6,7] [5,6,7] (Zr (i:=7) sc.nd rfl (Av rfl) (Xf D_law_row (hr.mono (by decide)) rfl Yq (Zb (Zj 0) (Zb (Zq Zs Zt (Zj 1) Ze) (Zb (Ya (Zh (Zq Zs Zt (Zj 2) Ze) (Zh Ze (Zh Ze Zi Zf) Zf) Zv)) Zi Zdy) Zv) Za) (he:=Za)))
      (Zg [5,6,7,8] [5,6,7,8] (Zr (i:=8) sc.nd rfl (Av rfl) (Yj (Zz K (Zj 7) Ze Zk)))
      (Zg [5,6,7,8] [5,6,7,8] (Jm (Xv Ziq Zcp (Zz K (Zj 7) Ze Zk) Ze (Xs _)) (Yy [3,5,6,7,8] [3,5,6,7,8] (Zg [5,6,7,8] [5,6,7,8] (Zr (i:=8) sc.nd rfl (Av rfl) (Zq Zfy Zce Ze (Zz K (Zj 7) Ze Zk)))
      (Zl (Zr (i:=3) sc.nd rfl (Ft rfl) Ze)))) Xq)
      (Zg [5,6,7,8] [5,6,7,8] (Jm (Xv (r:=Xcj K) (Zfq hu) Zga (Zz K (Zj 7) Ze Zk) Ze (Xs _)) (Yy [3,5,6,7,8] [3,5,6,7,8] (Zg [5,6,7,8] [5,6,7,8] (Zr (i:=8) sc.nd rfl (Av rfl) (Xp (r:=Xaz) (Zhj rfl) Zqf rfl T.min DH (Zb (Zj 8) (Zb Ze Zi Zf) Za) (he:=Za)))
      (Zl (Zr (i:=3) sc.nd rfl (Ft rfl) Ze)))) Xq)
      (Zg [5,6,7,8,9] [5,6,7,8,9] (Xnk (i:=9) (n:=10) (Zn Zbx) ["_law_script","_law_place","_law_most","_law_cells","_law_kinds","_law_flaw_here","_law_table_here","_law_some","_law_count","_law_rolls_here"] ["_law_script","_law_place","_law_most","_law_cells","_law_kinds","_law_flaw_here","_law_table_here","_law_some","_law_count","_law_rolls_here"] ["_law_k"] ⟨rfl,by decide +kernel,by decide +kernel,by decide +kernel,by decide +kernel,by decide +kernel,rfl,by decide +kernel⟩ rfl rfl (Zfn rfl T.range (Zb (Zj 8) Zi Za)) (fun _ _ _ _ _=>(Zbs 10 (hN:=(by decide +kernel:DL (["_law_script","_law_place","_law_most","_law_cells","_law_kinds","_law_flaw_here","_law_table_here","_law_some","_law_count","_law_rolls_here","_law_k"]:List Str))))) (fun _ _ _ _ _=>Zdx) (fun _ _ _ _ _=>(Xf D_law_roll (hr.mono (by decide)) rfl Yq (Zb (Zj 0 (hv:=Ft (Av rfl))) (Zb (Zq Zs Zt (Zq Zs Zt (Zj 1 (hv:=Ft (Av rfl))) Ze) (Zj 10 (hv:=Av rfl))) (Zb (Zj 3 (hv:=Ft (Av rfl))) (Zb (Zj 5 (hv:=Ft (Av rfl))) Zi Za) Za) Zv) Za) (he:=Za))))
      (Zl (Yb (Znp (Zsq [(9,false),(6,false)] (Zjg 9) (Zsq [(6,false)] (Zjg 6) Zi Za) Za)))))))))))⟩
theorem Zui (F:Fun K "leavings" "leavings" Zem f fd)(T:Txt mg)(Dplans_by_left:Def P w K mg base CX0 10 "plans_by_left" ["rolls","table","order"] (spD K C 3 2 Dl.Ys)):Zbe P w K mg base CX0 11 f fd ["rolls","table","order"] (spD K C 3 2 Dl.Jr):=by refine F.okC Zke (Γ':=[]) (Δ':=[]) rfl fun cdv A outer s H E hr=>?_;have sc:=Zke;have hu:_+64<Bw:=hr.units;exact ⟨_,(Zl (Yb (Zsk K hu rfl T.sorted (Zfd (n:=3) (Zn Zem) ["rolls","table","order"] ["rolls","table","order"] ["left"] ⟨rfl,by decide +kernel,by decide +kernel,by decide +kernel,by decide +kernel,by decide +kernel,rfl,by decide +kernel⟩ (Zdz (Xf Dplans_by_left (hr.mono (by decide)) rfl Yq (Zb (Zj 0) (Zb (Zj 1) (Zb (Zj 2) Zi Za) Za) Za) (he:=Za))) (fun _ _ _ _ _=>(Zbs 3 (hN:=(by decide +kernel:DL (["rolls","table","order","left"]:List Str))))) (fun _ _ _ _ _=>Zdx) (fun _ _ _ _ _=>(Xy (r:=Zlc K) (Zbi rfl) Zeu rfl T.list BR (Zb (Zj 3 (hv:=Av rfl)) Zi Za) (he:=Za)))) Jf)))⟩
theorem oklaw (F:Fun K "law" "law" Xmq f fd)(T:Txt mg)(D_law_rolls:Def P w K mg base CX0 10 "_law_rolls" ["_law_script","_law_place","_law_most","_law_cells","_law_kinds"] (spD K C 5 2 Dl.Jw))(D_law_order:Def P w K mg base CX0 9 "_law_order" ["_law_script","_law_place","_law_table_here","_law_most","_law_limit"] (spD K C 5 2 Dl.Jx))(D_law_copies:Def P w K mg base CX0 7 "_law_copies" ["_law_rolls_here","_law_table_here","_law_order_here"] (spD K C 3 2 Dl.Yt))(Dleavings:Def P w K mg base CX0 11 "leavings" ["rolls","table","order"] (spD K C 3 2 Dl.Jr))(D_law_right:Def P w K mg base CX0 8 "_law_right" ["_law_found","_law_due"] (spD K C 2 2 Dl.Yr))(D_law_reached:Def P w K mg base CX0 9 "_law_reached" ["_law_rolls_here","_law_table_here","_law_order_here"] (spD K C 3 2 Dl.Yx)):Zbe P w K mg base CX0 12 f fd ["_law_script"] (spD K C 1 2 Dl.Xom):=by
  refine F.okC Xqr (Γ':=[]) (Δ':=[]) rfl fun cdv A outer s H E hr=>?_;have sc:=Xqr;have hu:_+64<Bw:=hr.units;exact ⟨_,(Zg [1,2] [1,2] (Zzf rfl (Xf D_law_rolls (hr.mono (by decide)) rfl Yq (Zb (Zj 0) (Zb Ze (Zb Ze (Zb Ze (Zb Ze Zi Zf) Zf) Zf) Zf) Za) (he:=Za)) (Zyx (i:=1) sc.nd rfl (Av rfl) (Zyx (i:=2) sc.nd rfl (Av rfl) Xuj)))
      (Zg [1,2,3] [1,2,3] (Zr (i:=3) sc.nd rfl (Av rfl) (Xf D_law_order (hr.mono (by decide)) rfl Yq (Zb (Zj 0) (Zb Ze (Zb (Zj 2) (Zb Ze (Zb (Zz K (Ya (Zh Ze (Zh Ze (Zh Ze Zi Zf) Zf) Zf)) (Zq Zs Zt (Xy Zoq Zzj rfl T.int Ex (Zb (Zni Zkm Zej (Xp (r:=Zbj K) Xz Ja rfl T.len PySem.boot_len (Zb (Zj 1) Zi Za) (he:=Za)) Ze (Xs _)) Zi Zgq) (he:=Zgq)) (Xy Zoq Zzj rfl T.int Ex (Zb (Zni Zkm Zej (Xp (r:=Zbj K) Xz Ja rfl T.len PySem.boot_len (Zb (Zj 1) Zi Za) (he:=Za)) Ze (Xs _)) Zi Zgq) (he:=Zgq))) plain_bin) Zi Xc) Zf) Za) Zf) Za) (he:=Za)))
      (Zg [1,2,3,4] [1,2,3,4] (Zr (i:=4) sc.nd rfl (Av rfl) (Zsk K hu rfl T.sorted (Zfd (n:=8) (Zn Xmq) ["_law_script","_law_rolls_here","_law_table_here","_law_order_here","_law_due","_law_handed","_law_found","_law_again"] ["_law_script","_law_rolls_here","_law_table_here","_law_order_here","_law_due","_law_handed","_law_found","_law_again"] ["_law_left"] ⟨rfl,by decide +kernel,by decide +kernel,by decide +kernel,by decide +kernel,by decide +kernel,rfl,by decide +kernel⟩ (Zdz (Xf D_law_reached (hr.mono (by decide)) rfl Yq (Zb (Zj 1) (Zb (Zj 2) (Zb (Zj 3) Zi Za) Za) Za) (he:=Za))) (fun _ _ _ _ _=>(Zbs 8 (hN:=(by decide +kernel:DL (["_law_script","_law_rolls_here","_law_table_here","_law_order_here","_law_due","_law_handed","_law_found","_law_again","_law_left"]:List Str))))) (fun _ _ _ _ _=>Zdx) (fun _ _ _ _ _=>(Xy (r:=Zlc K) (Zbi rfl) Zeu rfl T.list BR (Zb (Zj 8 (hv:=Av rfl)) Zi Za) (he:=Za)))) Jf))
      (Zg [1,2,3,4,5] [1,2,3,4,5] (Zr (i:=5) sc.nd rfl (Av rfl) (Xf D_law_copies (hr.mono (by decide)) rfl Yq (Zb (Zj 1) (Zb (Zj 2) (Zb (Zj 3) Zi Za) Za) Za) (he:=Za)))
      (Zg [1,2,3,4,5,6] [1,2,3,4,5,6] (Zr (i:=6) sc.nd rfl (Av rfl) (Xf Dleavings (hr.mono (by decide)) rfl Yq (Zb (Zz K (Zj 5) Ze Zk) (Zb (Zz K (Zj 5) Ze Zk) (Zb (Zz K (Zj 5) Ze Zk) Zi Xc) Xc) Xc) (he:=Xc)))
      (Zg [1,2,3,4,5,6] [1,2,3,4,5,6] (Jm (Xio (Zlq (Zmz (Zfz (Xf D_law_right (hr.mono (by decide)) rfl Yq (Zb (Zj 6) (Zb (Zj 4) Zi Za) Za) (he:=Za)))) (Zlq (Xv (r:=rNeA K) (Xjc hu) Xjh (Zj 5) (Zip (Zb (Zj 1) (Zb (Zj 2) (Zb (Zj 3) Zi Za) Za) Za)) (Xs _)) (Zht (Xv (r:=rInD K true) (Zzc hu) Zws (Zj 3) (Zj 6) rfl))))) (Zl (Yb Zgh)) Xq)
      (Zg [1,2,3,4,5,6] [1,2,3,4,5,6] (Xdv (i:=6) Ze Zk Ze Zf)
      (Zg [1,2,3,4,5,6] [1,2,3,4,5,6] (Zft (i:=6) (he:=(Ya Zi)) (hse:=Zdy))
      (Zg [1,2,3,4,5,6,7] [1,2,3,4,5,6,7] (Zr (i:=7) sc.nd rfl (Av rfl) (Xf D_law_copies (hr.mono (by decide)) rfl Yq (Zb (Xks K (Zj 1) (Zjt Ze)) (Zb (Zj 2) (Zb (Zj 3) Zi Za) Za) Xc) (he:=Xc)))
      (Zg [1,2,3,4,5,6,7] [1,2,3,4,5,6,7] (Jm (Zmz (Zfz (Xf D_law_right (hr.mono (by decide)) rfl Yq (Zb (Xf Dleavings (hr.mono (by decide)) rfl Yq (Zb (Zz K (Zj 7) Ze Zk) (Zb (Zz K (Zj 7) Ze Zk) (Zb (Zz K (Zj 7) Ze Zk) Zi Xc) Xc) Xc) (he:=Xc)) (Zb (Zj 4) Zi Za) Yn) (he:=Yn)))) (Zl (Yb Zgh)) Xq)
      (Zl (Yb (Xf D_law_right (hr.mono (by decide)) rfl Yq (Zb (Xf Dleavings (hr.mono (by decide)) rfl Yq (Zb (Zz K (Zj 5) Ze Zk) (Zb (Zz K (Zj 5) Ze Zk) (Zb (Zz K (Zj 5) Ze Zk) Zi Xc) Xc) Xc) (he:=Xc)) (Zb (Zj 4) Zi Za) Yn) (he:=Yn))))))))))))))⟩
def Xkc (K:Frag):Sp:=fun vs H Q _=>∃(a:Addr) (ns:List Int),vs=[.ref a]/\FzL K H a (ns.map V.int)/\ns.length<=63/\∀H',Q (.bl true) H'
theorem fz_of {H:Hp}(hO:Only H)(h:SqL K H a xs):FzL K H a xs:=by rcases h with (h | h) | h;rcases hO a with z | ⟨o,ys,z⟩;rw [h] at z;cases z;rw [h] at z;cases z;exact .inl h;exact .inr h
theorem Xfc (ns:List Int)(h:ns.length<=63):Dl.Xom [.scr ns]=.ok (.bl true):=Dl.Ztu ns h
theorem all_mk {fa f1 f2 f3 f4 f5 f6 f7 f8 f9 f10 f11 f12 f13 f14 f15 f16 f17 f18 f19 f20 f21 f22 f23 f24 f25 f26:Addr}(X:K.In h)(G:h.Ns Ar mg)(hfa:mg "law"=some (.ref fa))
  {fd1 fd2 fd3 fd4 fd5 fd6 fd7 fd8 fd9 fd10 fd11 fd12 fd13 fd14 fd15 fd16 fd17 fd18 fd19 fd20 fd21 fd22 fd23 fd24 fd25 fd26:C4}
  (a1:nsIn K Ar "spoilt"=some (some (.ref f1))) (F1:Fun K "spoilt" "spoilt" Zpv f1 fd1)
  (a2:nsIn K Ar "fits"=some (some (.ref f2))) (F2:Fun K "fits" "fits" Xpi f2 fd2)
  (a3:nsIn K Ar "states"=some (some (.ref f3))) (F3:Fun K "states" "states" Zov f3 fd3)
  (a4:nsIn K Ar "refuse_big"=some (some (.ref f4))) (F4:Fun K "refuse_big" "refuse_big" Zby f4 fd4)
  (a5:nsIn K Ar "add_with_last"=some (some (.ref f5))) (F5:Fun K "add_with_last" "add_with_last" Zdi f5 fd5)
  (a6:nsIn K Ar "cuts_of"=some (some (.ref f6))) (F6:Fun K "cuts_of" "cuts_of" Zli f6 fd6)
  (a7:nsIn K Ar "with_roll"=some (some (.ref f7))) (F7:Fun K "with_roll" "with_roll" Zda f7 fd7)
  (a8:nsIn K Ar "plans_by_left"=some (some (.ref f8))) (F8:Fun K "plans_by_left" "plans_by_left" Zbf f8 fd8)
  (a9:nsIn K Ar "leavings"=some (some (.ref f9))) (F9:Fun K "leavings" "leavings" Zem f9 fd9)
  (a10:nsIn K Ar "_law_cell"=some (some (.ref f10))) (F10:Fun K "_law_cell" "_law_cell" Zfc f10 fd10)
  (a11:nsIn K Ar "_law_mix"=some (some (.ref f11))) (F11:Fun K "_law_mix" "_law_mix" Ziu f11 fd11)
  (a12:nsIn K Ar "_law_row"=some (some (.ref f12))) (F12:Fun K "_law_row" "_law_row" Zil f12 fd12)
  (a13:nsIn K Ar "_law_table"=some (some (.ref f13))) (F13:Fun K "_law_table" "_law_table" Zdw f13 fd13)
  (a14:nsIn K Ar "_law_flaw"=some (some (.ref f14))) (F14:Fun K "_law_flaw" "_law_flaw" Zfm f14 fd14)
  (a15:nsIn K Ar "_law_roll"=some (some (.ref f15))) (F15:Fun K "_law_roll" "_law_roll" Zfh f15 fd15)
  (a16:nsIn K Ar "_law_sums"=some (some (.ref f16))) (F16:Fun K "_law_sums" "_law_sums" Zfi f16 fd16)
  (a17:nsIn K Ar "_law_good"=some (some (.ref f17))) (F17:Fun K "_law_good" "_law_good" Zfp f17 fd17)
  (a18:nsIn K Ar "_law_is_whole"=some (some (.ref f18))) (F18:Fun K "_law_is_whole" "_law_is_whole" Zaz f18 fd18)
  (a19:nsIn K Ar "_law_rolls"=some (some (.ref f19))) (F19:Fun K "_law_rolls" "_law_rolls" Zbx f19 fd19)
  (a20:nsIn K Ar "_law_order"=some (some (.ref f20))) (F20:Fun K "_law_order" "_law_order" Zdu f20 fd20)
  (a21:nsIn K Ar "_law_counts"=some (some (.ref f21))) (F21:Fun K "_law_counts" "_law_counts" Zcq f21 fd21)
  (a22:nsIn K Ar "_law_reached"=some (some (.ref f22))) (F22:Fun K "_law_reached" "_law_reached" Zai f22 fd22)
  (a23:nsIn K Ar "_law_copies"=some (some (.ref f23))) (F23:Fun K "_law_copies" "_law_copies" Zaw f23 fd23)
  (a24:nsIn K Ar "_law_right"=some (some (.ref f24))) (F24:Fun K "_law_right" "_law_right" Zds f24 fd24)
  (a25:nsIn K Ar "law"=some (some (.ref f25))) (F25:Fun K "law" "law" Xmq f25 fd25)
  (a26:nsIn K Ar "add_with_last"=some (some (.ref f26))) (F26:Fun K "add_with_last" "add_with_last" Jo f26 fd26)
  (z1:nsIn K Ar "sum"=some none)
  (z2:nsIn K Ar "len"=some none)
  (z3:nsIn K Ar "any"=some none)
  (z4:nsIn K Ar "range"=some none)
  (z5:nsIn K Ar "dict"=some none)
  (z6:nsIn K Ar "enumerate"=some none)
  (z7:nsIn K Ar "tuple"=some none)
  (z8:nsIn K Ar "min"=some none)
  (z9:nsIn K Ar "zip"=some none)
  (z10:nsIn K Ar "sorted"=some none)
  (z11:nsIn K Ar "list"=some none)
  (z12:nsIn K Ar "isinstance"=some none)
  (z13:nsIn K Ar "int"=some none)
  (z14:nsIn K Ar "bool"=some none)
  {tv1:Tok} (v1:nsIn K Ar "LONGEST_ROLL"=some (some (.int 40 tv1)))
  {tv2:Tok} (v2:nsIn K Ar "MOST_STATES"=some (some (.int 120 tv2)))
  : ∃fd:C4,(∀(s:Ah) (v:Value),FZ s fd ⟨[v],[]⟩ [("_law_script",v)])/\∀base:Heap,K.In base->base.Ns Ar mg->Zbe l.prog w K mg base CX0 12 fa fd ["_law_script"] (Xkc K):=by
 have e:=hfa.symm.trans (C8 X G a25);cases e;have T:Txt mg:=⟨Cf X G z1,Cf X G z2,Cf X G z3,Cf X G z4,Cf X G z5,Cf X G z6,Cf X G z7,Cf X G z8,Cf X G z9,Cf X G z10,Cf X G z11,Cf X G z12,Cf X G z13,Cf X G z14,⟨tv1,C8 X G v1⟩,⟨tv2,C8 X G v2⟩⟩;obtain ⟨oc,od,kV,doc,pm,an,cdv,ct,osl,rfl,lk,hcd⟩:=F25.ex;refine ⟨fnOf "law" "law" (Zcr Xmq) (Zab Xmq) (Zn Xmq) .none kV doc pm an cdv ct,fun s v=>.of_eq rfl,fun base _ _=>?_⟩;have b1:=F1.binds (ps:=["roll","begin","end"]) fun _ _ _ _ _ _=>Zfl (fun _ _ _=>rfl);have Dspoilt:Def l.prog w K mg base CX0 7 "spoilt" ["roll","begin","end"] (spD K (fun _=>0) 3 2 Dl.Zcz):=⟨f1,_,C8 X G a1,F1.kp,b1,Xeo F1 T⟩;have b3:=F3.binds (ps:=["order"]) fun _ _ _ _ _ _=>Xfy (fun _=>rfl);have Dstates:Def l.prog w K mg base CX0 7 "states" ["order"] (spD K (fun _=>0) 1 2 Dl.Zev):=⟨f3,_,C8 X G a3,F3.kp,b3,Xgt F3 T⟩;have b5:=F5.binds (ps:=["row","ahead","place","wanted","piece"]) fun _ _ _ _ _ _=>Xfq (fun _ _ _ _ _=>rfl);have b7:=F7.binds (ps:=["plans","cuts"]) fun _ _ _ _ _ _=>Zvc (fun _ _=>rfl);have Dwith_roll:Def l.prog w K mg base CX0 7 "with_roll" ["plans","cuts"] (spD K (fun _=>0) 2 2 Dl.Zao):=⟨f7,_,C8 X G a7,F7.kp,b7,Zpq F7 T⟩;have b10:=F10.binds (ps:=["_law_script","_law_place"]) fun _ _ _ _ _ _=>Zvc (fun _ _=>rfl);have D_law_cell:Def l.prog w K mg base CX0 7 "_law_cell" ["_law_script","_law_place"] (spD K (fun _=>0) 2 2 Dl.Js):=⟨f10,_,C8 X G a10,F10.kp,b10,Zpd F10 T⟩;have b11:=F11.binds (ps:=["_law_cell_here","_law_k"]) fun _ _ _ _ _ _=>Zvc (fun _ _=>rfl);have D_law_mix:Def l.prog w K mg base CX0 7 "_law_mix" ["_law_cell_here","_law_k"] (spD K (fun _=>0) 2 2 Dl.Zam):=⟨f11,_,C8 X G a11,F11.kp,b11,Zvk F11 T⟩;have b16:=F16.binds (ps:=["_law_roll_here"]) fun _ _ _ _ _ _=>Xfy (fun _=>rfl);have D_law_sums:Def l.prog w K mg base CX0 7 "_law_sums" ["_law_roll_here"] (spD K (fun _=>0) 1 2 Dl.Jt):=⟨f16,_,C8 X G a16,F16.kp,b16,Zpp F16 T⟩;have b17:=F17.binds (ps:=["_law_sums_here","_law_kind","_law_at"]) fun _ _ _ _ _ _=>Zfl (fun _ _ _=>rfl);have D_law_good:Def l.prog w K mg base CX0 7 "_law_good" ["_law_sums_here","_law_kind","_law_at"] (spD K (fun _=>0) 3 2 Dl.Zaq):=⟨f17,_,C8 X G a17,F17.kp,b17,Zpx F17 T⟩;have b18:=F18.binds (ps:=["_law_one"]) fun _ _ _ _ _ _=>Xfy (fun _=>rfl);have D_law_is_whole:Def l.prog w K mg base CX0 7 "_law_is_whole" ["_law_one"] (spD K (fun _=>0) 1 2 Dl.Yh):=⟨f18,_,C8 X G a18,F18.kp,b18,Zhp F18 T⟩;have b23:=F23.binds (ps:=["_law_rolls_here","_law_table_here","_law_order_here"]) fun _ _ _ _ _ _=>Zfl (fun _ _ _=>rfl);have D_law_copies:Def l.prog w K mg base CX0 7 "_law_copies" ["_law_rolls_here","_law_table_here","_law_order_here"] (spD K (fun _=>0) 3 2 Dl.Yt):=⟨f23,_,C8 X G a23,F23.kp,b23,Zly F23 T⟩;have b26:=F26.binds (ps:=["row","ahead","place","wanted","piece"]) fun _ _ _ _ _ _=>Xfq (fun _ _ _ _ _=>rfl);have Dadd_with_last__W:Def l.prog w K mg base CX0 7 "add_with_last" ["row","ahead","place","wanted","piece"] (spM K (fun _=>0) 4 Dl.Yd):=⟨f26,_,C8 X G a26,F26.kp,b26,Zeg F26 T⟩;have b2:=F2.binds (ps:=["roll","kind","place"]) fun _ _ _ _ _ _=>Zfl (fun _ _ _=>rfl);have Dfits:Def l.prog w K mg base CX0 8 "fits" ["roll","kind","place"] (spD K (fun _=>0) 3 2 Dl.Zoj):=⟨f2,_,C8 X G a2,F2.kp,b2,Xrb F2 T Dspoilt⟩;have b4:=F4.binds (ps:=["rolls","order"]) fun _ _ _ _ _ _=>Zvc (fun _ _=>rfl);have Drefuse_big:Def l.prog w K mg base CX0 8 "refuse_big" ["rolls","order"] (spD K (fun _=>0) 2 2 Dl.Jv):=⟨f4,_,C8 X G a4,F4.kp,b4,Zom F4 T Dstates⟩;have b12:=F12.binds (ps:=["_law_script","_law_place","_law_sizes"]) fun _ _ _ _ _ _=>Zfl (fun _ _ _=>rfl);have D_law_row:Def l.prog w K mg base CX0 8 "_law_row" ["_law_script","_law_place","_law_sizes"] (spD K (fun _=>0) 3 2 Dl.Xn):=⟨f12,_,C8 X G a12,F12.kp,b12,Zvq F12 T D_law_cell D_law_mix⟩;have b21:=F21.binds (ps:=["_law_roll_here","_law_table_here","_law_order_here"]) fun _ _ _ _ _ _=>Zfl (fun _ _ _=>rfl);have D_law_counts:Def l.prog w K mg base CX0 8 "_law_counts" ["_law_roll_here","_law_table_here","_law_order_here"] (spD K (fun _=>0) 3 2 Dl.Jj):=⟨f21,_,C8 X G a21,F21.kp,b21,Zld F21 T D_law_sums D_law_good⟩;have b24:=F24.binds (ps:=["_law_found","_law_due"]) fun _ _ _ _ _ _=>Zvc (fun _ _=>rfl);have D_law_right:Def l.prog w K mg base CX0 8 "_law_right" ["_law_found","_law_due"] (spD K (fun _=>0) 2 2 Dl.Yr):=⟨f24,_,C8 X G a24,F24.kp,b24,Zmf F24 T D_law_is_whole⟩;have b6:=F6.binds (ps:=["roll","table","order"]) fun _ _ _ _ _ _=>Zfl (fun _ _ _=>rfl);have Dcuts_of:Def l.prog w K mg base CX0 9 "cuts_of" ["roll","table","order"] (spD K (fun _=>0) 3 2 Dl.Zco):=⟨f6,_,C8 X G a6,F6.kp,b6,Zzo F6 T Dfits Dadd_with_last__W⟩;have b13:=F13.binds (ps:=["_law_script","_law_place","_law_most"]) fun _ _ _ _ _ _=>Zfl (fun _ _ _=>rfl);have D_law_table:Def l.prog w K mg base CX0 9 "_law_table" ["_law_script","_law_place","_law_most"] (spD K (fun _=>0) 3 2 Dl.Jd):=⟨f13,_,C8 X G a13,F13.kp,b13,Znw F13 T D_law_row⟩;have b14:=F14.binds (ps:=["_law_script","_law_place","_law_most"]) fun _ _ _ _ _ _=>Zfl (fun _ _ _=>rfl);have D_law_flaw:Def l.prog w K mg base CX0 9 "_law_flaw" ["_law_script","_law_place","_law_most"] (spD K (fun _=>0) 3 2 Dl.Jq):=⟨f14,_,C8 X G a14,F14.kp,b14,Zqn F14 T D_law_row⟩;have b15:=F15.binds (ps:=["_law_script","_law_place","_law_most","_law_flaw_here"]) fun _ _ _ _ _ _=>Xxb (fun _ _ _ _=>rfl);have D_law_roll:Def l.prog w K mg base CX0 9 "_law_roll" ["_law_script","_law_place","_law_most","_law_flaw_here"] (spD K (fun _=>0) 4 2 Dl.Jb):=⟨f15,_,C8 X G a15,F15.kp,b15,Zqq F15 T D_law_row⟩;have b20:=F20.binds (ps:=["_law_script","_law_place","_law_table_here","_law_most","_law_limit"]) fun _ _ _ _ _ _=>Xfq (fun _ _ _ _ _=>rfl);have D_law_order:Def l.prog w K mg base CX0 9 "_law_order" ["_law_script","_law_place","_law_table_here","_law_most","_law_limit"] (spD K (fun _=>0) 5 2 Dl.Jx):=⟨f20,_,C8 X G a20,F20.kp,b20,Zoi F20 T D_law_row⟩;have b22:=F22.binds (ps:=["_law_rolls_here","_law_table_here","_law_order_here"]) fun _ _ _ _ _ _=>Zfl (fun _ _ _=>rfl);have D_law_reached:Def l.prog w K mg base CX0 9 "_law_reached" ["_law_rolls_here","_law_table_here","_law_order_here"] (spD K (fun _=>0) 3 2 Dl.Yx):=⟨f22,_,C8 X G a22,F22.kp,b22,Zjf F22 T D_law_counts⟩;have b8:=F8.binds (ps:=["rolls","table","order"]) fun _ _ _ _ _ _=>Zfl (fun _ _ _=>rfl);have Dplans_by_left:Def l.prog w K mg base CX0 10 "plans_by_left" ["rolls","table","order"] (spD K (fun _=>0) 3 2 Dl.Ys):=⟨f8,_,C8 X G a8,F8.kp,b8,Zix F8 T Drefuse_big Dwith_roll Dcuts_of⟩;have b19:=F19.binds (ps:=["_law_script","_law_place","_law_most","_law_cells","_law_kinds"]) fun _ _ _ _ _ _=>Xfq (fun _ _ _ _ _=>rfl);have D_law_rolls:Def l.prog w K mg base CX0 10 "_law_rolls" ["_law_script","_law_place","_law_most","_law_cells","_law_kinds"] (spD K (fun _=>0) 5 2 Dl.Jw):=⟨f19,_,C8 X G a19,F19.kp,b19,Znu F19 T D_law_flaw D_law_table D_law_row D_law_roll⟩;have b9:=F9.binds (ps:=["rolls","table","order"]) fun _ _ _ _ _ _=>Zfl (fun _ _ _=>rfl);have Dleavings:Def l.prog w K mg base CX0 11 "leavings" ["rolls","table","order"] (spD K (fun _=>0) 3 2 Dl.Jr):=⟨f9,_,C8 X G a9,F9.kp,b9,Zui F9 T Dplans_by_left⟩;exact (oklaw (C:=fun _=>0) F25 T D_law_rolls D_law_order D_law_copies Dleavings D_law_right D_law_reached).imp fun vs H Q E h=>by obtain ⟨a,ns,rfl,hz,hl,q⟩:=h;refine ⟨[.scr ns],[],rfl,⟨.ref a,[],[],[],rfl,⟨a,rfl,hz,rfl⟩,⟨rfl,rfl⟩,rfl⟩,?_⟩;rw [Xfc ns hl];rintro v H' _ ⟨B,r,_⟩;obtain ⟨rfl,_⟩:=r;exact q H'
theorem walk {K:Params->Frag}(hn:l.most=some 63)(hdf:d.params.defaults=[])
    (hY:∀(w:BC) (h:Heap),YP w h->(K w.params).In h)
    (F:∀(w:BC) (mg:Str->Option Value) (fa:Addr) (h:Heap),(K w.params).In h->h.Ns Ar mg->mg d.name=some (.ref fa)->
      ∃fd:C4,(∀(s:Ah) (u:Value),FZ s fd ⟨[u],[]⟩ [("_law_script",u)])/\∀base:Heap,(K w.params).In base->base.Ns Ar mg->Zbe l.prog w (K w.params) mg base CX0 12 fa fd ["_law_script"] (Xkc (K w.params))) :
    PySem.W.WalkO q loose XP YP l.row.toRowW d [] (fun f vs=>PySem.call f vs):=
  L2.Xod (n:=63) (k:=12) (x:="_law_script") (CX:=fun _=>CX0) (sp:=fun w=>Xkc (K w.params)) hn (by decide) hdf ⟨rfl,by decide,by decide,rfl⟩ hY F (fun _ H a ns hl hO hS=>⟨a,ns,rfl,fz_of hO hS,hl,fun _=>rfl⟩) fun _ _ _ _ _ z=>z
end K63
open PySem PySem.W PyProof.Rows
set_option maxRecDepth 100000 in
set_option maxHeartbeats 0 in
theorem PySem.Challenge.cw_selvage_k63_all_leavings_holds : PySem.Challenge.rw_selvage_k63_all_leavings.Holds := by
 w_on;o_law;z_head;(case hw=>w_witness2)
 k_fill
 refine L2.Xfr (fun _=>by kernel_rfl) (K63.walk (l:=PySem.Challenge.rw_selvage_k63_all_leavings) rfl rfl (fun w h Y=>Y) ?F)
 case F =>
  intro w mg fa h KX G hmg;refine' K63.all_mk KX G hmg ?a1 (L2.Yi ?l1 ?c1 ?k1) ?a2 (L2.Yi ?l2 ?c2 ?k2) ?a3 (L2.Yi ?l3 ?c3 ?k3) ?a4 (L2.Yi ?l4 ?c4 ?k4) ?a5 (L2.Yi ?l5 ?c5 ?k5) ?a6 (L2.Yi ?l6 ?c6 ?k6) ?a7 (L2.Yi ?l7 ?c7 ?k7) ?a8 (L2.Yi ?l8 ?c8 ?k8) ?a9 (L2.Yi ?l9 ?c9 ?k9) ?a10 (L2.Yi ?l10 ?c10 ?k10) ?a11 (L2.Yi ?l11 ?c11 ?k11) ?a12 (L2.Yi ?l12 ?c12 ?k12) ?a13 (L2.Yi ?l13 ?c13 ?k13) ?a14 (L2.Yi ?l14 ?c14 ?k14) ?a15 (L2.Yi ?l15 ?c15 ?k15) ?a16 (L2.Yi ?l16 ?c16 ?k16) ?a17 (L2.Yi ?l17 ?c17 ?k17) ?a18 (L2.Yi ?l18 ?c18 ?k18) ?a19 (L2.Yi ?l19 ?c19 ?k19) ?a20 (L2.Yi ?l20 ?c20 ?k20) ?a21 (L2.Yi ?l21 ?c21 ?k21) ?a22 (L2.Yi ?l22 ?c22 ?k22) ?a23 (L2.Yi ?l23 ?c23 ?k23) ?a24 (L2.Yi ?l24 ?c24 ?k24) ?a25 (L2.Yi ?l25 ?c25 ?k25) ?a26 (L2.Yi ?l26 ?c26 ?k26) ?z1 ?z2 ?z3 ?z4 ?z5 ?z6 ?z7 ?z8 ?z9 ?z10 ?z11 ?z12 ?z13 ?z14 ?v1 ?v2
  case a1|l1|c1|k1|a2|l2|c2|k2|a3|l3|c3|k3|a4|l4|c4|k4|a5|l5|c5|k5|a6|l6|c6|k6|a7|l7|c7|k7|a8|l8|c8|k8|a9|l9|c9|k9|a10|l10|c10|k10|a11|l11|c11|k11|a12|l12|c12|k12|a13|l13|c13|k13|a14|l14|c14|k14|a15|l15|c15|k15|a16|l16|c16|k16|a17|l17|c17|k17|a18|l18|c18|k18|a19|l19|c19|k19|a20|l20|c20|k20|a21|l21|c21|k21|a22|l22|c22|k22|a23|l23|c23|k23|a24|l24|c24|k24|a25|l25|c25|k25|a26|l26|c26|k26|z1|z2|z3|z4|z5|z6|z7|z8|z9|z10|z11|z12|z13|z14|v1|v2=>k_is
