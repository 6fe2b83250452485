import PyProof.Rows.All
import Wide.All
import OpenK.AllK
import Wide.FinOn
import Lean
import PyProof.EqAt
import PyProof.EqKinds
import PyProof.TupleCall
import PySem.Challenge.RW_selvage_k65_whole_no_fewer_rolls
set_option Elab.async false
set_option linter.all false
set_option maxRecDepth 100000
set_option genSizeOfSpec false
set_option genInjectivity false
open PySem renaming wpAny_bind→Aa,wpAny_pure→Ac,starEach→Ad,Shared→Af,wpAny→Am,sizeLine→Ap,mainGlobals→Aq,model→Aw,Program→AQ,assignEach→AR,wpAny_newObj_type→AZ,eval→A9,wpAny_call_entry→Ba,foldedSetIterable→Bf,wpAny_setField_rec→Bg,Around→Bh,wpAny_callSpecial?_slot→Bk,World→Bl,wpAny_field→Bm,Heap→Bq,cLine→BC,backTo→BG,wpAny_holding→BJ,wpAny_seqItems→BK,wpAny_dictEntries→BL,swapsWith→BO,compareOp→BU,wpAny_mono→B3,sysModules→B5,binaryOp→B8,Keyword→Ce,FuncData→Ck,attributeBase→Cq,IsPair→Cr,holding→Cs,wpAny_typeNameOfWhole_itemiter→Cu,wpAny_fieldsOf→Cv,NameKind→CC,wpAny_typeNameOfWhole_keyiter→CG,bootBuiltins→CL,assign→CM,intItems→CU,tupleKind→CV,behindInMarks→C1,DictEntry→C3,argBest→C5,reduceHash→Da,keywordEach→De,wpAny_typeNameOf_itemiter→Do,pyNext→Dq,wpAny_typeNameOf_keyiter→Dt,wpAny_attempt→Du,wpAny_dictEpoch→Dv,wpAny_letGo→DB,wpAny_truthy_bool→DE,wpAny_isOneOf_itemiter→DF,firstArgMember→DG,IsItemIter→DM,ExceptHandler→DO,sliceBounds→DQ,wpAny_passesOwn→DU,rawInt→DV,codeAny→D6,Builtin→D9,wpAny_tryCatch→Ed,wpAny_Call_Name_kw→Ee,tupleKind_room_in1→Ef,backToKw→Ej,sizeLine_eq→Ep,IsZip→Ew,swapsWithSole→Ex,swappedStores→Ey,wpAny_isInstance→EF,numAt→EI,wpAny_rule→EN,standAt→EO,entryOfKey→ET,letOwnedTupleGo→EY,wpAny_notOrdered_dict→E3,wpAny_isOneOf_keyiter→E4,wpAny_updateSeq_pair→E9,wpAny_setField→Fa,recursionLimit→Fb,PyData→Fg,getItem→Fi,BindsTo→Fk,Arguments→Fm,wpAny_standAt→Fs,wpAny_onRaise→Ft,plainId_quiet→Fu,nums_intItems→Fv,builtinsNs→FF,wpAny_pyIter_slot→FV,wpAny_pyIter_list→FW,valueAt→FX,callerA→Gc,seqItems?→Gk,noFill_tuple_add→Gm,PassesOwn→Gq,IsPart→Gr,wpAny_of_eq→Gw,subscripted→Gx,wpAny_updateSeq→GC,wpAny_specialOf→GD,wpAny_execs_nil→GF,codeAny_builtin→GG,setItem→GO,wpAny_newTuple→GQ,pyIter→GS,isSubtype_stop→GX,compEnvC→GY,atKey→GZ,ZipApart→G0,Operator→G2,GenState→Hf,wpAny_handled→Hl,wpAny_comprehension_free→Hm,seq_tuple_add→Ho,IsItemIterOut→Hw,field→HD,cellsFrom→HF,bindL→HG,bindC→HH,truthy→HP,relabel→HR,newExc→HS,concat_meets→HV,codeAny_mono→HW,wpAny_throw→Iu,wpAny_pyIter_keyiter→Iv,wpAny_loadName_local→Iw,setField→Iz,intItems_at→IA,wpAny_loadName_cell→II,wpAny_pyIter_tuple→IV,wpAny_Name→IW,typeIs_int→IX,closureFor→JC,call_meets→JD,Result→JK,wpAny_pyIter_enum→J3,wpAny_assign_Name→J4,slot_list_getitem→J6,release→J7,again→Kb,OsState→Kf,wpAny_pyIter_zip→Kl,wpAny_execs_cons→Km,wpAny_eqBool_int→Kn,storeName→Ko,seqIndex?→Kp,pairTrees_length→Kq,wpAny_loadPart'→KD,raiseNew→K5,newTuple→K6,bindArgs→K7,wpAny_newList→Lb,rangeSize_one→Lc,intBits_le_64→Le,evalPart_none→Lg,call_list_seq→Lh,CmpOp→Lr
open List renaming replicate→Ab,getElem?_eq_getElem→Ag,length_map→Ah,getElem?_eq_some_iff→Ai,mem_singleton→Aj,length_append→Ak,mem_cons→Al,mem_append→Ao,mem_append_right→Ar,nodup_cons→Ay,mem_map→AB,getElem?_append_left→AD,size_toArray→AE,mem_append_left→AF,getElem?_map→AM,forall_mem_cons→AN,getD_eq_getElem?_getD→AS,map_append→AU,map_cons→AV,mem_of_getElem?→AW,zipWith→A3,range→A5,nodup_nil→A6,replicate_succ→Bc,map_map→Be,lookup_cons→Bi,getElem?_append_right→Bj,all_eq_true→Bp,mem_range→Bs,length_cons→Bt,getElem?_set_ne→BE,map_congr_left→BM,flatten_cons→BN,length_replicate→BS,length_eq_zero_iff→BW,not_mem_nil→BY,mem_cons_of_mem→B6,getD→B7,zip_cons_cons→Ca,length_zipWith→Cb,mem_filter→Cc,getElem_mem→Cg,getElem?_set_self→Ci,length_take→CH,length_range→CK,append_assoc→CN,sum_cons→CS,mem_cons_self→CZ,getElem?_zip_eq_some→C7,of_mem_zip→Dc,append_nil→Dg,set_append_right→Di,getElem?_cons_succ→Dr,zipWith_cons_cons→Dw,take_of_length_le→Dx,nodup_append→Dy,sum_append→Dz,length_set→DA,mem_flatMap→DD,foldl_cons→DL,mem_replicate→DN,drop_eq_getElem_cons→D3,pairwise_map→D7,find?_cons→Eg,map→Ek,getElem?_replicate→El,any_eq_true→Em,forall_mem_append→Er,drop_of_length_le→Es,append_eq_nil_iff→Et,Nodup→Eu,mem_iff_getElem→EK,length→EL,length_zip→ER,filterMap_cons→E1,pairwise_cons→E7,drop_length→Fd,filter_cons→Fx,length_nil→Fz,forIn_cons→FC,zip_append→FL,range_succ→FN,dropLast_concat_getLast→FP,map_take→Ga,any_cons→Gd,nodup_iff_pairwise_ne→Gh,forIn_nil→Gi,map_id→Gp,set_eq_of_length_le→GA,pairwise_singleton→GJ,length_pos_of_mem→GP,map_drop→GV,length_singleton→G7,getElem?_zipWith→G8,getElem?_eq_none→G9,mem_of_mem_tail→Hk,filter_eq_self→Hv,mem_filterMap→HJ,getElem?_take→HK,foldl→HL,zipWith_map→Ij,zipIdx_cons→Ik,map_zipWith→Il,length_drop→Im,cons_append→Io,zipIdx_nil→IG,all_cons→JR,map_nil→J8,zip→Lk
open PySem.Heap renaming get?_push_of_some→Ae,get?_push_size→Av,lt_size→AJ,SameBut→BH,get?_update_other→Cj,get?_update_self→Dk,ExtBut→D8,size_push→EH,size_update→Fy,get?_update_ne→Hy,get?_push_ne→Ig
open Or renaming inl→An,inr→FK
open Nat renaming le_refl→As,le_trans→Az,lt_of_lt_of_le→AC,lt_irrefl→Bb,ne_of_lt→Bn,lt_of_le_of_lt→Cz,lt_succ_of_lt→C0,testBit→C4,le_add_right→Dj,le_mul_of_pos_right→Ds,zero_le→D4,lt_of_succ_lt→Ea,ble→Ez,min_le_left→EB,min_eq_left→ED,succ_pos→EG,le_zero→EV,ne_of_gt→Fc,lt_succ_self→FG,zero_add→FU,sub_self→FZ,mul_one→F0,le_of_lt→Gb,mul_assoc→GH,lt_succ_iff_lt_or_eq→GI,min_self→GU,lt_trans→GW,succ_mul→G3,le_mul_of_pos_left→G4,div_div_eq_div_mul→G5,add_comm→G6,pow_le_pow_right→Ht,le_succ→Hu,succ_ne_zero→ID,min_eq_right→IE,le_of_not_lt→IF,not_lt_zero→IM,mul_le_mul→JQ,sub_zero→Ks,pow_zero→Kt,pow_succ→Ku,mul_comm→Kw,le_of_eq→Kx,one_mul→KJ,mul_pos→KL,div_one→KM,max_lt→K8,succ→Ln
open Bool renaming false_ne_true→Au,and_eq_true→AY,false_eq_true→A7,eq_iff_iff→Dm,not_false→IS,false_and→IT,not_true→J1
open Option renaming map_eq_some_iff→Ax,bind_eq_some_iff→AX,none→DC,isSome_iff_exists→D2,isSome_map→E6,getD_none→HI,some→JL
open PyProof.Rows renaming arrOf→AA,Keyed→AI,wpS_bind→A8,boot_tuple→Bo,wpS_pure→BB,callWith_type1→BR,seqObj→Co,kindOf→CA,SortSt→CO,pendingOf→CY,boot_list→C9,slot_tuple_getitem→Dh,failedOf→DH,boot_min→D1,wpS_forRange→D5,envOfC→Ei,IntsAre→EW,AllBare→EX,wpS_mono→E8,SortKind→Fe,boot_dict→Fw,mirror→Gn,wpS_get→GN,size_push'→GR,subscriptTail→Hn,IsTup→HM,subscriptTail_builtinR→HQ,getElem?_mirror_all→IJ,wpS_modify→IU,setArr→IZ,Subscript_→JF,tuples'→J5,getElem?_bubble→KE,callWith_builtin1→KF,boot_sum→KG,boot_sorted→KH,boot_any→KI,wpS_lift→K3,slicePart_none→K4,listUpdate_at→Ld
open PySem.Value renaming ref→AG,none→Bw,int→Dp,bool→En,str→Gy,type→Hq,isStrOf→IK,isInt→Kc
open PySem.PassesOwn renaming never→AH
open Option.some renaming inj→AK,injEq→DJ
open Int renaming le_trans→AL,ofNat_lt→BQ,mul_le_mul_of_nonneg_left→BV,toNat_of_nonneg→B4,emod_lt_of_pos→CB,emod_nonneg→CI,toNat_natCast→CW,toNat_lt→DP,le_of_lt→DR,eq_ofNat_of_zero_le→Eo,mul_nonneg→EQ,lt_add_one_iff→Fh,zero_add→Fp,le_refl→FQ,le_add_of_nonneg_right→Gs,add_nonneg→Gu,add_assoc→GK,lt_trans→He,add_le_add_right→Hx,add_le_add_left→HN,natCast_nonneg→HZ,natAbs_natCast→Ib,lt_of_le_of_lt→Ic,le_min→Ie,emod_eq_of_lt→Ip,min_le_right→IH,natCast_mul→IN,le_antisymm→IP,mul_le_mul→JV,add_le_add→JY,ofNat_sub→Kh,ofNat_inj→Ki,toNat_le→Ky,ne_of_gt→Kz
open PySem.W renaming Frag→AO,mg_none_of→Cp,nsIn→Cy,mg_of→CT,findIn→DX,keepIn→ES,codeIn→FD,subIn→HA,specialIn→HB,methodObj→HC,fnOf→HU,codeHdIn→IB,typeIn→IY,kat_nil→J9,hideAll→Ka
open PySem.Builtin.SmallTypes renaming nextOf→AT,ownedTupleIsFree→BP,ownedTupleHandOut→DT
open Array renaming length_toList→Bu,getElem?_eq_getElem→C6,getElem?_toList→DW,getElem?_eq_none→GM,getElem_toList→Hh,toList_map→Ih,toList→J2
open PySem.Str renaming ofString→BA
open Pure renaming pure→BD
open Nat.succ renaming inj→BF
open PySem.Builtin.Dict_items renaming ownsTuple→BI,ownedTupleIsFree→DZ,ownedTupleFields→D0,pairFromOwner→Ec,newIterator→Iq,dictOf→Ir
open PySem.F renaming slot_dict_itemiterator_next→BX,slot_dict_keyiterator_next→B0,slot_tuple_iterator_next→C8,slot_zip_next→EM,args_dict_itemiterator_next_1→FR,entry_dict_itemiterator_next→Ge,args_dict_keyiterator_next_1→Gf,entry_dict_keyiterator_next→Gj,args_tuple_iterator_next_1→Gv,entry_tuple_iterator_next→GB,slot_dict_items_iter→Hz,args_zip_next_1→IQ,slot_dict_iter→JZ,entry_zip_next→J0,slot_int_rmul→Kk
open PySem.NameKind renaming free→BZ,cell→HY
open PySem.Obj renaming mapSeq→B9,data_mapFields→DY,isFreed_of_fields→Hj,data_mapDictKeys→Hs,cls_mapFields→Ii,mapFields→Kg
open Classical renaming propDecidable→Cf
open PySem.Builtin.Dict renaming showsAll→Cm,entriesForEmpty→E2,updateFrom→Fq,selfAndRest→KR,readDirectly→KU,quietEq→KW,noArgs→KY,mergeDict→KZ,merge→K0,dictSlotNone→K1,addKeywords→K2
open PySem.Builtin.Tuple renaming tupleHashOf→CD,tupleExact→CQ,tupleItemsOf→KA
open PySem.Builtin.Slice renaming slicePlaces→CF,sliceAdjust→DI,sliceApplied→E5,slicePartIndex→KB,sliceFields→KC
open PySem.Heap.SameBut renaming update→CJ
open List.Pairwise renaming imp_of_mem→CP,nil→EA
open PySem.PyData renaming strOk→C2,canLay0→FJ,depth→Gz,eqv→Hi,canLayAll0→Hr,depthAll→HX,eqvAll→IC
open PySem.Builtin.List renaming listTooLong→DK,listUpdate→KQ
open True renaming intro→DS
open ForInStep renaming yield→Eb
open PySem.Around renaming under_plainId→EE
open PySem.Builtin.Builtins renaming bindParams→EJ
open PySem.Shared renaming TypeIs→EU,heap→JH
open Sum renaming inl→EZ,inr→Fn
open PySem.SeqAt renaming shaped→Ff
open PySem.Builtin.Range renaming rangeSize→Fj
open List.Perm renaming refl→Fo,swap→Lo,eq_of_pairwise→Lp
open List.cons renaming inj→FH
open ToString renaming toString→FY
open PySem.Calls renaming Name_function_global→Gg,callWith_builtin→GL
open PySem.Walks renaming tuple→G1
open LawfulBEq renaming eq_of_beq→HE
open MonadExcept renaming tryCatch→Iy
open Sum.inl renaming inj→IL
open PySem.CmpOf renaming ints_lt→IR
open PyProof.Rows.SortSt renaming mk'→Ke
open PySem.Heap.IsSliceOf renaming new→Kj
open PySem.Obj.ExactDict renaming mapDictKeys→Kr
open PyProof.Rows.IsTup renaming new→KN
open PySem.Heap.IsTuple renaming push→KO,extBut→KP
open PySem.Heap.IsList renaming push→K9,extBut→La
open PySem.SeqAt.EqAt renaming str_int→Li,int_str→Lj
open Array.Perm renaming refl→Ll
open And renaming intro→Lm
open PySem.AutoListH renaming list___mul___list_int_3→Lq
open PySem.W (clsIn exmOne isFn)

open Nat (lt_irrefl mod_lt mul_one)



def PySem.W.Fast.tw14972482963152806684:=0
def PySem.W.Fast.tw2192993942581682159:=0
def PySem.W.Fast.tw11217475931615079841:=0
def PySem.W.Fast.tw14209163568558635413:=0
def PySem.W.Fast.tw3521812183358210547:=0
def PySem.W.Fast.tw8717365067644238884:=0
def PySem.W.Fast.tw5715337836938451556:=0
def PySem.W.Fast.tw2659895081287693850:=0
def PySem.W.Fast.tw4810158946124427788:=0
def PySem.W.Fast.tw6898864789028450755:=0
def PySem.W.Fast.tw2613279280981697917:=0
def PySem.W.Fast.tw3305231588379155295:=0
theorem aT0 (h:True:=by first | exact .inl rfl | exact .inr rfl | assumption):True:=DS
theorem aT3 (h:True:=by first | exact An rfl | exact FK (An rfl) | exact FK (FK rfl)):True:=DS
namespace L2
open PySem PySem.Spec PyProof.Rows
variable {H H':Hp}{a b it C dx:Addr}{o ob:Obj}{u cd:Value}{P prog:AQ}{w:Bl}{h h' base:Bq}{x name m qual:Str}{e c tg l iter:Expr}{X:Cx}{pins pins' pl:List (Addr×Obj)}{σ:St}{s s':Af}{g':Array Hf}{t' i j k n tk:Nat}{d':Drawn}{ch fp:List Addr}{N ps ks:List Str}{M:Model}{A:Bh}{E Q:Value->Af->Prop}{v:V}{α κ:Type}{pos pos' p apos:Pos}{ta tb te tc:TE}{xs vs dvs:List V}{K:AO}{st:Stmt}{es:List Expr}{g:List Value->List Value->List Value}{op:Lr}{ti:TIp}{body:List Stmt}{r:List V->Hp->VK->Prop}{f:Value->Value->Sem Value}{its us ds:List Value}{mA mg:Str->Option Value}{fs':List (Str×V)}{CX:CXT}{fd:Ck}{sp:Sp}{kws:List Ce}{nm:Option Str}{gV:List V->List V->List V}{sc scope:Scope}{outer:List Env}{params:Fm}{an od:Option Addr}
abbrev Key:=Sum Int Str
def Ztx:Key->Value->Bool
 | .inl k,v=>Kc k v
 | .inr x,v=>IK x v
def keyH (w:Bl):Key->Int
 | .inl k=>hashInt k
 | .inr x=>hashStr w x
theorem Yg:∀{k:Key} {v:Value},Ztx k v=true->(∃i t,k=EZ i/\v=Dp i t)\/(∃x t,k=Fn x/\v=Gy x t)
 | .inl i,v,h=>by obtain ⟨t,e⟩:=Value.isInt_shape (k:=i) (v:=v) h;exact .inl ⟨i,t,rfl,e⟩
 | .inr x,v,h=>by obtain ⟨t,e⟩:=Value.isStrOf_shape (x:=x) (v:=v) h;exact .inr ⟨x,t,rfl,e⟩
theorem Zzu (i:Int)(t:Tok):Ztx (.inl i) (.int i t)=true:=by simp [Ztx,Kc]
theorem Zzt (x:Str)(t:Tok):Ztx (.inr x) (.str x t)=true:=by simp [Ztx,IK]
theorem Xpe (a b:Int):decide ((EZ a:Key)=EZ b)=(a==b):=by by_cases e:a=b;subst e;simp;have h:¬(EZ a:Key)=EZ b:=fun q=>e (IL q);rw [decide_eq_false h];exact (beq_eq_false_iff_ne.mpr e).symm
theorem Xou (a b:Str):decide ((Fn a:Key)=Fn b)=decide (a=b):=by by_cases e:a=b;subst e;simp;have h:¬(Fn a:Key)=Fn b:=fun q=>e (Sum.inr.inj q);rw [decide_eq_false h,decide_eq_false e]
theorem Xrn (a:Int)(b:Str):decide ((EZ a:Key)=Fn b)=false:=decide_eq_false (fun q=>nomatch q)
theorem Xqf (a:Str)(b:Int):decide ((Fn a:Key)=EZ b)=false:=decide_eq_false (fun q=>nomatch q)
def Yb (prog:AQ)(w:Bl):PySem.KeyKind prog w Key where
 is:=Ztx
 hash:=keyH w
 inj:=fun v a b ha hb=>by
  rcases Yg ha with ⟨i,t,rfl,rfl⟩ | ⟨x,t,rfl,rfl⟩
  ·rcases Yg hb with ⟨j,u,rfl,e⟩ | ⟨y,u,rfl,e⟩
   ·injection e with e1 _;rw [e1]
   ·exact nomatch e
  ·rcases Yg hb with ⟨j,u,rfl,e⟩ | ⟨y,u,rfl,e⟩
   ·exact nomatch e
   ·injection e with e1 _;rw [e1]
 byValue:=fun k v h=>by
  rcases Yg h with ⟨i,t,rfl,rfl⟩ | ⟨x,t,rfl,rfl⟩<;>rfl
 pyHash:=fun hv h=>by
  rcases Yg hv with ⟨i,t,rfl,rfl⟩ | ⟨x,t,rfl,rfl⟩
  ·exact wpAny_pyHash_int h
  ·exact wpAny_pyHash_str h
 eqBool:=fun hu hv h=>by
  rcases Yg hu with ⟨i,t,rfl,rfl⟩ | ⟨x,t,rfl,rfl⟩
  ·rcases Yg hv with ⟨j,u,rfl,rfl⟩ | ⟨y,u,rfl,rfl⟩
   ·rw [Xpe] at h;exact Kn h
   ·rw [Xrn] at h;exact Lj i t y u _ _ _ _ h
  ·rcases Yg hv with ⟨j,u,rfl,rfl⟩ | ⟨y,u,rfl,rfl⟩
   ·rw [Xqf] at h;exact Li x t j u _ _ _ _ h
   ·rw [Xou] at h;exact wpAny_eqBool_str h
 «strs»:=fun k x t v h=>by
  rcases Yg h with ⟨i,u,rfl,e⟩ | ⟨y,u,rfl,e⟩
  ·exact nomatch e
  ·injection e with e1 _
   subst e1
   cases v<;>rfl
theorem Zoe (prog:AQ)(w:Bl)(i:Int)(t:Tok):(Yb prog w).is (.inl i) (.int i t)=true:=Zzu i t
theorem Zov (prog:AQ)(w:Bl)(x:Str)(t:Tok):(Yb prog w).is (.inr x) (.str x t)=true:=Zzt x t
set_option genInjectivity true in
inductive V where
 | non | bl (b:Bool) | int (i:Int) | str (x:Str) | byt (b:Array UInt8) | flt (b:UInt64) | ref (a:Addr) | ty (n:String)
 deriving DecidableEq
def RelV:V->Value->Prop
 | .non,u=>u=Bw
 | .bl b,u=>u=En b
 | .int i,u=>∃t,u=Dp i t
 | .str x,u=>∃t,u=Gy x t
 | .byt b,u=>∃t,u=Value.bytes b t
 | .flt b,u=>∃t,u=Value.float b t
 | .ref a,u=>u=AG a
 | .ty n,u=>u=Hq n
abbrev Yk:List V->List Value->Prop:=Paired RelV
theorem Yk.length {xs:List V}{us:List Value}(r:Yk xs us):xs.length=us.length:=Paired.length r
theorem Yk.get:∀{xs:List V} {us:List Value} {i:Nat} {x:V},Yk xs us->xs[i]?=some x->∃u,us[i]?=some u/\RelV x u
 | _,_,_,_,.nil,e=>by simp at e
 | _,_,0,_,.cons r _,e=>by simp at e;subst e;exact ⟨_,rfl,r⟩
 | _,_,i+1,x,.cons _ t,e=>by obtain ⟨u,h1,h2⟩:=Yk.get (i:=i) (x:=x) t (by simpa using e);exact ⟨u,by simpa using h1,h2⟩
theorem Yk.append:∀{xs ys:List V} {us ws:List Value},Yk xs us->Yk ys ws->Yk (xs++ys) (us++ws)
 | _,_,_,_,.nil,s=>s
 | _,_,_,_,.cons r t,s=>.cons r (Yk.append t s)
theorem Yk.take:∀{xs:List V} {us:List Value} (n:Nat),Yk xs us->Yk (xs.take n) (us.take n)
 | _,_,0,_=>.nil
 | _,_,_+1,.nil=>.nil
 | _,_,n+1,.cons r t=>.cons r (Yk.take n t)
theorem Yk.drop:∀{xs:List V} {us:List Value} (n:Nat),Yk xs us->Yk (xs.drop n) (us.drop n)
 | _,_,0,r=>r
 | _,_,_+1,.nil=>.nil
 | _,_,n+1,.cons _ t=>Yk.drop n t
def Xbj:Option V->Option Value->Prop
 | some v,some u=>RelV v u
 | none,none=>True
 | _,_=>False
def KV {κ:Type}:List (κ×V)->List (κ×Value)->Prop:=Paired fun (p:κ×V) (q:κ×Value)=>p.1=q.1/\RelV p.2 q.2
def kV:Key->V
 | .inl i=>.int i
 | .inr x=>.str x
inductive HO where
 | lst (xs:List V)
 | tup (xs:List V)
 | dK (kvs:List (Key×V)) | dT (kvs:List (List Key×V))
 | set (S:Int->Bool) (n:Nat)
 | ins (C dx:Addr) (fs:List (Str×V))
 | own (x:Addr)
 | xd (fs:List (Str×V))
 | met (f x:Addr)
 | rng (lo hi:Int)
 | frz (o:Obj) (u:HO)
 | tbl (pos:Pos) (qual:Str)
 | ext (φ:Bq->Prop)
abbrev Hp:=Addr->Option HO
def upd (H:Hp)(a:Addr)(o:HO):Hp:=fun b=>if b=a then some o else H b
theorem Xd {o:HO}:upd H a o a=some o:=by unfold upd;rw [if_pos rfl]
theorem Xc {o:HO}(h:b≠a):upd H a o b=H b:=by unfold upd;rw [if_neg h]
theorem Xss {o u:HO}(h:H a=some o)(h':H b=some u)(d:o≠u):a≠b:=by intro e;subst e;rw [h] at h';exact d (AK h')
theorem Xm {o:HO}(h:H a=some o)(h':H b=none):a≠b:=by intro e;subst e;rw [h] at h';cases h'
section
variable (P:AQ)(w:Bl)
def Js (H:Hp)(h:Bq)(a:Addr):HO->Prop
 | .lst xs=>xs.length<=Ap/\∃(its:List Value) (n:Nat),Yk xs its/\h.get? a=some {cls:=.type "list",data:=.seq its.toArray n}
 | .tup xs=>xs.length<=Ap/\∃its:List Value,Yk xs its/\HM h a its.toArray
 | .dK kvs=>kvs.length<=Ap/\(a==B5)=false/\∃vs,KV kvs vs/\h.DictOf (Yb P w) a vs
 | .dT kvs=>kvs.length<=Ap/\(a==B5)=false/\∃xs:List (List Key×Addr×Value),
   Paired (fun (p:List Key×V) (q:List Key×Addr×Value)=>p.1=q.1/\H q.2.1=some (.tup (p.1.map kV))/\RelV p.2 q.2.2) kvs xs/\
   ∃o es ep,h.get? a=some o/\o.ExactDict/\o.data=.dict es ep/\es.toList=xs.map (ET (CV (Yb P w)))/\(xs.map (·.1)).Nodup
 | .set S n=>h.SetOf (intKind P w) a S n
 | .ins C dx fs=>H dx=some (.own a)/\fs.length<=1000/\dx≠a/\h.get? a=some (PySem.W.instObj C dx)/\
   ∃mA,h.Ns1 dx mA/\(∀f,Xbj (fs.lookup f) (mA f))/\PySem.Within mA (fs.map (·.1))
 | .own _=>∃o,h.get? a=some o
 | .xd fs=>∃mA,h.Ns1 a mA/\∀f,Xbj (fs.lookup f) (mA f)
 | .rng lo hi=>∃t u v,h.get? a=some {cls:=.type "range",data:=.fields #[.int lo t,.int hi u,.int 1 v]}
 | .frz o u=>h.get? a=some o/\Js H h a u
 | .tbl pos qual=>∃ps,h.get? a=some {cls:=.none,data:=.fields ps}/\TriplesOk ps.toList/\∀v,codeAmong pos ps.toList=some v->∃c o vs t,v=.ref c/\H c=some (.frz o (.own 0))/\o.data=.fields vs/\vs[1]?=some (.str qual t)
 | .met f x=>h.get? a=some (HC (.ref f) (.ref x))
 | .ext φ=>φ h/\(∃o,h.get? a=some o)/\∀h1 h2:Bq,φ h1->(∀o,h1.get? a=some o->h2.get? a=some o)->φ h2
def HOk (H:Hp)(h:Bq):Prop:=∀a o,H a=some o->Js P w H h a o
end
section
variable {o:HO}
theorem Js.lt (x:Js P w H h a o):a<h.objs.size:=by
 cases o with
 | lst xs=>obtain ⟨_,_,_,_,e⟩:=x;exact AJ e
 | tup xs=>obtain ⟨_,_,_,p⟩:=x;exact p.lt
 | dK kvs=>obtain ⟨_,_,_,_,o,_,_,e,_⟩:=x;exact AJ e
 | dT kvs=>obtain ⟨_,_,_,_,o,_,_,e,_⟩:=x;exact AJ e
 | set S n=>obtain ⟨o,_,_,_,e,_⟩:=x;exact AJ e
 | ins C dx fs=>obtain ⟨_,_,_,e,_⟩:=x;exact AJ e
 | own y=>obtain ⟨_,e⟩:=x;exact AJ e
 | xd fs=>obtain ⟨_,⟨_,_,_,e,_⟩,_⟩:=x;exact AJ e
 | rng lo hi=>obtain ⟨_,_,_,e⟩:=x;exact AJ e
 | frz ob u=>obtain ⟨e,_⟩:=x;exact AJ e
 | tbl pos qual=>obtain ⟨_,e,_⟩:=x;exact AJ e
 | met f y=>exact AJ (show h.get? a=some _ from x)
 | ext φ=>obtain ⟨_,⟨_,e⟩,_⟩:=x;exact AJ e
theorem Paired.mapP {α β:Type}{F G:α->β->Prop}:∀{l₁:List α} {l₂:List β},Paired F l₁ l₂->(∀a b,F a b->G a b)->Paired G l₁ l₂
 | _,_,.nil,_=>.nil
 | _,_,.cons r t,f=>.cons (f _ _ r) (Paired.mapP t f)
theorem Js.stay (x:Js P w H h a o)(k:∀b u,(b=a\/H b=some (.own a))->h.get? b=some u->h'.get? b=some u)
  (ho:∀b,H b=some (.own a)->H' b=some (.own a)) (ht:∀b xs,H b=some (.tup xs)->H' b=some (.tup xs)) (hf:∀b o u,H b=some (.frz o u)->H' b=some (.frz o u)):Js P w H' h' a o:=by
 induction o with
 | lst xs=>obtain ⟨z,its,n,r,e⟩:=x;exact ⟨z,its,n,r,k _ _ (.inl rfl) e⟩
 | tup xs=>obtain ⟨z,its,r,ob,e,c⟩:=x;exact ⟨z,its,r,ob,k _ _ (.inl rfl) e,c⟩
 | dK kvs=>obtain ⟨z,y,vs,r,ob,es,ep,e,c⟩:=x;exact ⟨z,y,vs,r,ob,es,ep,k _ _ (.inl rfl) e,c⟩
 | dT kvs =>obtain ⟨z,y,xs,r,ob,es,ep,e,c⟩:=x;exact ⟨z,y,xs,Paired.mapP r fun p q z=>⟨z.1,ht _ _ z.2.1,z.2.2⟩,ob,es,ep,k _ _ (.inl rfl) e,c⟩
 | set S n=>obtain ⟨ob,es,ep,t,e,c⟩:=x;exact ⟨ob,es,ep,t,k _ _ (.inl rfl) e,c⟩
 | ins C dx fs =>obtain ⟨d,z,ne,e,mA,⟨od,es,ep,e2,c⟩,r⟩:=x;exact ⟨ho _ d,z,ne,k _ _ (.inl rfl) e,mA,⟨od,es,ep,k _ _ (.inr d) e2,c⟩,r⟩
 | own y=>obtain ⟨ob,e⟩:=x;exact ⟨ob,k _ _ (.inl rfl) e⟩
 | xd fs=>obtain ⟨mA,⟨od,es,ep,e,c⟩,r⟩:=x;exact ⟨mA,⟨od,es,ep,k _ _ (.inl rfl) e,c⟩,r⟩
 | rng lo hi=>obtain ⟨t,u,v,e⟩:=x;exact ⟨t,u,v,k _ _ (.inl rfl) e⟩
 | frz ob u ih=>obtain ⟨e,q⟩:=x;exact ⟨k _ _ (.inl rfl) e,ih q⟩
 | tbl pos qual =>obtain ⟨ps,e,tr,hc⟩:=x;refine ⟨ps,k a _ (.inl rfl) e,tr,fun v hv=>?_⟩;obtain ⟨c,o,vs,t,e1,e2,e3⟩:=hc v hv;exact ⟨c,o,vs,t,e1,hf _ _ _ e2,e3⟩
 | met f y =>have e:h.get? a=some (HC (.ref f) (.ref y)):=x;show h'.get? a=some (HC (.ref f) (.ref y));exact k a _ (.inl rfl) e
 | ext φ=>obtain ⟨p,⟨o,e⟩,st⟩:=x;exact ⟨st _ _ p fun o q=>k _ _ (.inl rfl) q,⟨o,k _ _ (.inl rfl) e⟩,st⟩
theorem HOk.lt (x:HOk P w H h)(e:H a=some o):a<h.objs.size:=(x a o e).lt
theorem HOk.fresh (x:HOk P w H h)(e:h.objs.size<=a):H a=none:=by
 cases q:H a with
 | none=>rfl
 | some u=>exact absurd (AC (x.lt q) e) (Bb _)
theorem HOk.kept (x:HOk P w H h)(k:∀b u,h.get? b=some u->h'.get? b=some u):HOk P w H h':=fun a o e =>
 (x a o e).stay (fun b u _ q=>k b u q) (fun _ q=>q) (fun _ _ q=>q) fun _ _ _ q=>q
theorem HOk.laid (x:HOk P w H h)(k:∀b u,h.get? b=some u->h'.get? b=some u)(hp:h.objs.size<=a)(new:Js P w (upd H a o) h' a o):HOk P w (upd H a o) h':=fun b u e=>by have hn:=x.fresh hp;by_cases hb:b=a;subst hb;rw [Xd] at e;cases e;exact new;rw [Xc hb] at e;exact (x b u e).stay (fun c v _ q=>k c v q) (fun c q=>by rw [Xc (Xm q hn)];exact q) (fun c xs q=>by rw [Xc (Xm q hn)];exact q) fun c ob u q=>by rw [Xc (Xm q hn)];exact q
end
def Rd (H:Hp)(a:Addr)(u:HO):Prop:=H a=some u\/∃o,H a=some (.frz o u)
theorem Rd.ok {u:HO}(r:Rd H a u)(x:HOk P w H h):Js P w H h a u:=by rcases r with r | ⟨o,r⟩;exact x a u r;obtain ⟨_,q⟩:=x a _ r;exact q
def Mut:Option HO->Prop
 | some (.lst _)=>True
 | some (.dK _)=>True
 | some (.dT _)=>True
 | some (.set _ _)=>True
 | some (.ins _ _ _)=>True
 | some (.ext _)=>True
 | _=>False
section
variable {x e:Addr}{o':HO}
theorem HOk.write (ok:HOk P w H h)(mu:Mut (H x))(he:e=x\/H e=some (.own x))(k:∀b u,b≠e->h.get? b=some u->h'.get? b=some u)(heo:∃u,h'.get? e=some u)
  (new:Js P w (upd H x o') h' x o'):HOk P w (upd H x o') h':=fun b u q=>by
 have nown:∀c y,H c=some (.own y)->c≠x:=fun c y r z=>by subst z;rw [r] at mu;exact mu
 have ntup:∀c xs,H c=some (.tup xs)->c≠x:=fun c xs r z=>by subst z;rw [r] at mu;exact mu
 have nfrz:∀c ob u,H c=some (.frz ob u)->c≠x:=fun c ob u r z=>by subst z;rw [r] at mu;exact mu
 by_cases hb:b=x;subst hb;rw [Xd] at q;cases q;exact new;rw [Xc hb] at q;by_cases hbe:b=e;have q':H b=some (.own x):=by rcases he with z | z;exact absurd (hbe.trans z) hb;rw [hbe];exact z
 rw [q] at q';cases q';obtain ⟨v,hv⟩:=heo;exact ⟨v,by rw [hbe];exact hv⟩;refine (ok b u q).stay (fun c v hc r=>k c v ?_ r) (fun c r=>by rw [Xc (nown c b r)];exact r) (fun c xs r=>by rw [Xc (ntup c xs r)];exact r) fun c ob u r=>by rw [Xc (nfrz c ob u r)];exact r
 rcases hc with rfl | hc;exact hbe;rintro rfl;rcases he with z | z;exact nown c b hc z;rw [hc] at z;cases z;exact hb rfl
end
structure Un (fs ex:List Addr)(H H':Hp)(h h':Bq):Prop where
 keep:∀b o,h.get? b=some o->H b=none->b∉fs->b∉ex->h'.get? b=some o
 slot:∀b o,h.get? b=some o->H b=none->b∈fs->b∉ex->∃sl,h'.get? b=some {o with slots:=sl}
 free:∀b o,h.get? b=some o->H b=none->b∉ex->H' b=none
 there:∀b o,h.get? b=some o->b∉ex->∃o',h'.get? b=some o'
 tups:∀b xs,H b=some (.tup xs)->H' b=some (.tup xs)
 frzs:∀b o u,H b=some (.frz o u)->H' b=some (.frz o u)
 tbls:∀b p q,H b=some (.tbl p q)->H' b=some (.tbl p q)
section
variable {fs fs' ex ex':List Addr}{H1 H2:Hp}{h1 h2:Bq}{x e:Addr}{o:HO}
theorem Un.any (u:Un fs ex H H1 h h1)(q:h.get? b=some ob)(n:H b=none)(hx:b∉ex):∃sl,h1.get? b=some {ob with slots:=sl}:=by by_cases hb:b∈fs;exact u.slot b ob q n hb hx;exact ⟨ob.slots,u.keep b ob q n hb hx⟩
theorem Un.kept (k:∀b u,h.get? b=some u->h'.get? b=some u):Un fs ex H H h h':=⟨fun b ob q _ _ _=>k b ob q,fun b ob q _ _ _=>⟨ob.slots,k b ob q⟩,fun _ _ _ n _=>n,fun b ob q _=>⟨ob,k b ob q⟩,fun _ _ q=>q,fun _ _ _ q=>q,fun _ _ _ q=>q⟩
theorem Un.refl:Un fs ex H H h h:=Un.kept fun _ _ q=>q
theorem Un.laid (k:∀b u,h.get? b=some u->h'.get? b=some u)(hp:h.objs.size<=a)(hn:H a=none):Un fs ex H (upd H a o) h h' where
 keep:=fun b u q _ _ _=>k b u q
 slot:=fun b u q _ _ _=>⟨u.slots,k b u q⟩
 free:=fun b u q n _=>by rw [Xc (Bn (AC (AJ q) hp))];exact n
 there:=fun b u q _=>⟨u,k b u q⟩
 tups:=fun b xs q=>by rw [Xc (Xm q hn)];exact q
 frzs:=fun b u xs q=>by rw [Xc (Xm q hn)];exact q
 tbls:=fun b p n q=>by rw [Xc (Xm q hn)];exact q
theorem Un.write (mu:Mut (H x))(he:e=x\/H e=some (.own x))(k:∀b u,b≠e->h.get? b=some u->h'.get? b=some u)(heo:∃u,h'.get? e=some u):Un fs ex H (upd H x o) h h':=by
  have hx:∀b,H b=none->b≠x:=fun b n z=>by subst z;rw [n] at mu;exact mu
  have hb:∀b,H b=none->b≠e:=fun b n z=>by subst z;rcases he with r | r;exact hx b n r;rw [n] at r;cases r
  have hm:∀b u,H b=some u->¬Mut (some u)->b≠x:=fun b u q nm z=>by subst z;rw [q] at mu;exact nm mu
  refine ⟨fun b u q n _ _=>k b u (hb b n) q,fun b u q n _ _=>⟨u.slots,k b u (hb b n) q⟩,fun b u q n _=>by rw [Xc (hx b n)];exact n,fun b u q _=>?_,
    fun b xs q=>by rw [Xc (hm b _ q fun z=>z)];exact q,fun b u xs q=>by rw [Xc (hm b _ q fun z=>z)];exact q,fun b p n q=>by rw [Xc (hm b _ q fun z=>z)];exact q⟩
  by_cases hbe:b=e;subst hbe;exact heo;exact ⟨u,k b u hbe q⟩
end
def trk (h:Bq)(H:Hp):List Addr:=(A5 h.objs.size).filter fun a=>(H a).isSome
def Xds (h:Bq)(H:Hp):Bq:=Ka h (trk h H)
theorem Zxo (h:Bq)(H:Hp):(Xds h H).objs.size=h.objs.size:=PySem.W.hideAll_size _ _
theorem Xcw (e:h.get? b=some o)(n:H b=none):(Xds h H).get? b=some o:=PySem.W.hideAll_get _ e fun hm=>by have q:(H b).isSome=true:=(Cc.mp hm).2;rw [n] at q;simp at q
theorem Xjz (e:(Xds h H).get? b=some o):h.get? b=some o/\H b=none:=by
 have e':h.get? b=some o:=PySem.W.of_hideAll (trk h H) e;refine ⟨e',?_⟩;cases q:H b with
 | none=>rfl
 | some x =>have hm:b∈trk h H:=Cc.mpr ⟨Bs.mpr (AJ e'),by simp [q]⟩;have z:(Xds h H).get? b=none:=PySem.W.hideAll_none (trk h H) hm;rw [z] at e;cases e
def Xim (g h:Bq)(L:Addr):List (Addr×Obj):=(A5 h.objs.size).filterMap fun a=>if a=L\/(g.get? a).isSome=true then none else (h.get? a).map fun o=>(a,o)
def rest (g h:Bq)(L d:Addr):List (Addr×Obj):=(Xim g h L).filter fun p=>decide (p.1≠d)
structure Mod (K:AO)(mg:Str->Option Value)(base:Bq):Prop where
 kin:K.In base
 glob:base.Ns Aq mg
 blt:∃mb,base.Ns FF mb/\∀x:Str,x≠"__name__"->mb x=CL x
 nolimit:base.NoLimit
structure Cx where
 prog:AQ
 w:Bl
 K:AO
 mg:Str->Option Value
 base:Bq
 A:Bh
 N:List Str
 s₀:Af
 H₀:Hp
 env:Env
 outer:List Env
 stack:List Env
 ex:List Addr
 fn:Str->Bool
 calm:Bool
 pn:List (Addr×Obj)
 xe:Value->Af->Prop
def frs (l:List Env):List Addr:=l.filterMap (·.frame)
abbrev Cx.fs (X:Cx):List Addr:=frs X.outer
def Vis (sc:Scope)(x:Str):Prop:=sc.names.lookup x=some .local\/sc.names.lookup x=some .cell\/sc.names.lookup x=some .free
def Loc (sc:Scope)(x:Str):Prop:=sc.names.lookup x=some .local\/sc.names.lookup x=some .cell
def Look (env:Env)(h:Bq)(m:Str->Option Value)(x:Str)(u:Value):Prop:=
 (env.kindOf x=some .local/\m x=some u)\/((env.kindOf x=some .cell\/env.kindOf x=some .free)/\∃c,env.cells.lookup x=some c/\h.IsCell c (some u))
structure Cx.Ok (X:Cx):Prop where
 mod:Mod X.K X.mg X.base
 kind:X.env.scope.kind=.function
 glob:X.env.globals=Aq
 blt:X.env.builtins=FF
 above:X.s₀.heap.objs.size<=X.env.locals
 inj:∀x y c,X.env.cells.lookup x=some c->X.env.cells.lookup y=some c->x=y
 has:∀x,(X.env.kindOf x=some .cell\/X.env.kindOf x=some .free)->∃c,X.env.cells.lookup x=some c
 cab:∀x c,X.fn x=true->X.env.cells.lookup x=some c->X.s₀.heap.objs.size<=c
 hd:X.calm=true->X.A.handled=none
 frames:X.A.frames=some X.stack
 stk:X.stack=X.outer\/(X.stack=X.env::X.outer/\X.env.frame=some X.env.locals)
 exf:∀b∈X.ex,b≠X.env.locals/\∀x c,X.env.cells.lookup x=some c->c≠b
 bs:∀b o,X.base.get? b=some o->X.s₀.heap.get? b=some o/\X.H₀ b=none
 bsz:X.base.objs.size<=X.s₀.heap.objs.size
 noex:∀b o,X.base.get? b=some o->b∉X.ex
 exfs:∀b∈X.ex,b∉X.fs
 funs:X.s₀.heap.FunFrames X.base X.outer
 frf:∀b∈X.fs,X.H₀ b=none
structure Inv (X:Cx)(pins:List (Addr×Obj))(σ:List (Option V))(H:Hp)(s:Af):Prop where
 ok:X.Ok
 os:s.os=X.s₀.os
 bare:EX s.gens
 base:Un X.fs X.ex X.H₀ H X.s₀.heap s.heap
 loc:∃m,s.heap.Ns X.env.locals m/\∀(i:Nat) (x:Str) (v:V),X.N[i]?=some x->σ[i]?=some (some v)->Vis X.env.scope x->∃u,RelV v u/\Look X.env s.heap m x u
 cell:∀x c,X.env.cells.lookup x=some c->∃v,s.heap.IsCell c v
 free:H X.env.locals=none
 freeC:∀x c,X.env.cells.lookup x=some c->H c=none
 pin:∀p∈X.pn++pins,s.heap.get? p.1=some p.2/\H p.1=none/\p.1≠X.env.locals/\p.1∉X.fs/\∀v,p.2.data≠.cell v
 hok:HOk X.prog X.w H s.heap
 len:σ.length=X.N.length
section
variable {σ:List (Option V)}
theorem Cx.Ok.nofr (ok:X.Ok)(e:X.base.get? b=some o):b∉X.fs:=fun hb=>by have:=(ok.funs.mem hb).1;rw [e] at this;cases this
theorem Inv.bs (I:Inv X pins σ H s):∀b o,X.base.get? b=some o->s.heap.get? b=some o/\H b=none:=fun b o e =>
 ⟨I.base.keep b o (I.ok.bs b o e).1 (I.ok.bs b o e).2 (I.ok.nofr e) (I.ok.noex b o e),I.base.free b o (I.ok.bs b o e).1 (I.ok.bs b o e).2 (I.ok.noex b o e)⟩
theorem Inv.bk (I:Inv X pins σ H s):∀b o,X.base.get? b=some o->s.heap.get? b=some o:=fun b o e=>(I.bs b o e).1
theorem Inv.mod (I:Inv X pins σ H s):Mod X.K X.mg X.base:=I.ok.mod
theorem Inv.kIn (I:Inv X pins σ H s):X.K.In s.heap:=I.ok.mod.kin.keeps I.bk
theorem Inv.lt (I:Inv X pins σ H s):X.env.locals<s.heap.objs.size:=let ⟨_,hn,_⟩:=I.loc;hn.lt
theorem Inv.sz (I:Inv X pins σ H s):X.s₀.heap.objs.size<=s.heap.objs.size:=Az I.ok.above (Gb I.lt)
theorem Inv.nofs (I:Inv X pins σ H s)(h:s.heap.objs.size<=a):a∉X.fs:=fun hb=>by obtain ⟨_,o,ho,_⟩:=I.ok.funs.mem hb;exact absurd (AC (AJ ho) (Az I.sz h)) (Bb _)
theorem Inv.cne (I:Inv X pins σ H s):∀x c,X.env.cells.lookup x=some c->c≠X.env.locals:=fun x c e z=>by obtain ⟨v,o,ho,hd⟩:=I.cell x c e;obtain ⟨m,⟨o',es,ep,ho',hd',_⟩,_⟩:=I.loc;rw [z,ho'] at ho;cases ho;rw [hd'] at hd;cases hd
theorem Inv.funs (I:Inv X pins σ H s):s.heap.FunFrames X.base X.outer:=by
 have all:∀(l:List Env),(∀b∈frs l,b∈X.fs)->X.s₀.heap.FunFrames X.base l->s.heap.FunFrames X.base l:=by
  intro l
  induction l with
  | nil=>intro _ _;trivial
  | cons env r ih =>intro hs hl;obtain ⟨hk,⟨L,o,hf,hn,ho,hd⟩,hr⟩:=hl;have hL:L∈X.fs:=hs L (by unfold frs;rw [E1,hf];exact CZ);obtain ⟨sl,e⟩:=I.base.slot L o ho (I.ok.frf L hL) hL fun z=>I.ok.exfs L z hL;exact ⟨hk,⟨L,_,hf,hn,e,hd⟩,ih (fun b hb=>hs b (by unfold frs;rw [E1,hf];exact B6 _ hb)) hr⟩
 exact all X.outer (fun _ hb=>hb) I.ok.funs
theorem Inv.stack (I:Inv X pins σ H s):s.heap.FunFrames X.base X.stack:=by rcases I.ok.stk with e | ⟨e,hf⟩;rw [e];exact I.funs;rw [e];obtain ⟨m,hn,_⟩:=I.loc;refine .cons (by rw [I.ok.kind];decide) hf hn ?_ I.funs;exact Heap.get?_none_of_le (Az I.ok.bsz I.ok.above)
theorem Inv.stkSub (I:Inv X pins σ H s):∀b∈frs X.stack,b∈X.env.locals::X.fs:=fun b hb=>by rcases I.ok.stk with e | ⟨e,hf⟩;rw [e] at hb;exact B6 _ hb;rw [e] at hb;unfold frs at hb;rw [E1,hf] at hb;exact hb
theorem Inv.stkFree (I:Inv X pins σ H s):∀b∈frs X.stack,H b=none:=fun b hb=>by rcases Al.mp (I.stkSub b hb) with e | hb;rw [e];exact I.free;obtain ⟨_,o,ho,_⟩:=I.ok.funs.mem hb;exact I.base.free b o ho (I.ok.frf b hb) fun z=>I.ok.exfs b z hb
theorem Inv.step (I:Inv X pins σ H s)
  (hch:∀b∈ch,(b∈X.ex\/X.s₀.heap.objs.size<=b)/\b≠X.env.locals/\(∀x c,X.env.cells.lookup x=some c->c≠b)/\∀p∈X.pn++pins,p.1≠b)
  (keep:∀b o,b≠X.env.locals->b∉X.fs->b∉ch->s.heap.get? b=some o->H b=none->h'.get? b=some o)
  (slot:∀b o,b≠X.env.locals->b∈X.fs->b∉ch->s.heap.get? b=some o->H b=none->∃sl,h'.get? b=some {o with slots:=sl}) (free:∀b o,b∉ch->s.heap.get? b=some o->H b=none->H' b=none)
  (there:∀b o,b∉ch->s.heap.get? b=some o->∃o',h'.get? b=some o')
  (tups:∀b xs,H b=some (.tup xs)->H' b=some (.tup xs)) (frzs:∀b o u,H b=some (.frz o u)->H' b=some (.frz o u)) (tbls:∀b p n,H b=some (.tbl p n)->H' b=some (.tbl p n))
  (ns:∀m,s.heap.Ns X.env.locals m->h'.Ns X.env.locals m) (hok:HOk X.prog X.w H' h') (hg:EX g') :
  Inv X pins σ H' {s with heap:=h',gens:=g',drawn:=d',toks:=t'}:=by
 have neL:∀b o,X.s₀.heap.get? b=some o->b≠X.env.locals:=fun b o e=>Bn (AC (AJ e) I.ok.above);have neC:∀b o,X.s₀.heap.get? b=some o->b∉X.ex->b∉ch:=fun b o e hx hb=>by rcases (hch b hb).1 with z | z;exact hx z;exact absurd (AC (AJ e) z) (Bb _)
 have cellK:∀x c,X.env.cells.lookup x=some c->∀v,s.heap.IsCell c v->h'.IsCell c v:=fun x c e v ⟨o,ho,hd⟩=>by have nch:c∉ch:=fun z=>(hch c z).2.2.1 x c e rfl;by_cases hc:c∈X.fs;obtain ⟨sl,q⟩:=slot c o (I.cne x c e) hc nch ho (I.freeC x c e);exact ⟨_,q,hd⟩;exact ⟨o,keep c o (I.cne x c e) hc nch ho (I.freeC x c e),hd⟩
 refine ⟨I.ok,I.os,hg,⟨fun b o e n hb hx=>?_,fun b o e n hb hx=>?_,fun b o e n hx=>?_,fun b o e hx=>?_,fun b xs e=>tups b xs (I.base.tups b xs e),fun b o xs e=>frzs b o xs (I.base.frzs b o xs e),fun b p n e=>tbls b p n (I.base.tbls b p n e)⟩,?_,fun x c e=>?_,?_,fun x c e=>?_,fun p hp=>?_,hok,I.len⟩;exact keep b o (neL b o e) hb (neC b o e hx) (I.base.keep b o e n hb hx) (I.base.free b o e n hx);obtain ⟨sl,e1⟩:=I.base.slot b o e n hb hx;obtain ⟨sl',e2⟩:=slot b _ (neL b o e) hb (neC b o e hx) e1 (I.base.free b o e n hx);exact ⟨sl',e2⟩;obtain ⟨o',e1⟩:=I.base.there b o e hx;exact free b o' (neC b o e hx) e1 (I.base.free b o e n hx);obtain ⟨o',e1⟩:=I.base.there b o e hx;exact there b o' (neC b o e hx) e1;obtain ⟨m,hn,hl⟩:=I.loc;refine ⟨m,ns m hn,fun i x v e1 e2 e3=>?_⟩;obtain ⟨u,r,l⟩:=hl i x v e1 e2 e3;refine ⟨u,r,?_⟩;rcases l with l | ⟨k,c,e,z⟩;exact .inl l;exact .inr ⟨k,c,e,cellK x c e _ z⟩;obtain ⟨v,z⟩:=I.cell x c e;exact ⟨v,cellK x c e v z⟩;obtain ⟨m,⟨o,_,_,ho,_⟩,_⟩:=I.loc;exact free _ o (fun z=>(hch _ z).2.1 rfl) ho I.free;obtain ⟨v,o,ho,hd⟩:=I.cell x c e;exact free c o (fun z=>(hch c z).2.2.1 x c e rfl) ho (I.freeC x c e);obtain ⟨e,n,ne,nf,d⟩:=I.pin p hp;have nch:p.1∉ch:=fun z=>(hch p.1 z).2.2.2 p hp rfl;exact ⟨keep p.1 p.2 ne nf nch e n,free p.1 p.2 nch e n,ne,nf,d⟩
theorem Inv.un (I:Inv X pins σ H s)(u:Un X.fs [] H H' s.heap h')(hok:HOk X.prog X.w H' h'):Inv X pins σ H' {s with heap:=h',toks:=t'}:=by
  obtain ⟨m,⟨o,es,ep,ho,r⟩,_⟩:=id I.loc;obtain ⟨sl,hL⟩:=u.any ho I.free (by simp);exact I.step (g':=s.gens) (d':=s.drawn) (ch:=[]) (fun _ z=>nomatch z) (fun b o _ hb _ e n=>u.keep b o e n hb (by simp)) (fun b o _ hb _ e n=>u.slot b o e n hb (by simp)) (fun b o _ e n=>u.free b o e n (by simp)) (fun b o _ e=>u.there b o e (by simp)) u.tups u.frzs u.tbls (fun m' hm=>by
    obtain ⟨o',es',ep',ho',r'⟩:=hm;rw [ho] at ho';cases ho';exact ⟨_,es',ep',hL,r'⟩) hok I.bare
theorem Inv.call (I:Inv X pins σ H s)(u:Un (frs X.stack) ch H H' s.heap h')(hok:HOk X.prog X.w H' h')(hg:EX g')
    (hch:∀b∈ch,(b∈X.ex\/X.s₀.heap.objs.size<=b)/\b≠X.env.locals/\(∀x c,X.env.cells.lookup x=some c->c≠b)/\∀p∈X.pn++pins,p.1≠b) :
    Inv X pins σ H' {s with heap:=h',gens:=g',drawn:=d',toks:=t'}:=by
  obtain ⟨m,⟨o,es,ep,ho,r⟩,_⟩:=id I.loc;obtain ⟨sl,hL⟩:=u.any ho I.free fun z=>(hch _ z).2.1 rfl;exact I.step (ch:=ch) hch (fun b o hL hb hc e n=>u.keep b o e n (fun z=>(Al.mp (I.stkSub b z)).elim hL hb) hc) (fun b o _ _ hc e n=>u.any e n hc) (fun b o hc e n=>u.free b o e n hc) (fun b o hc e=>u.there b o e hc) u.tups u.frzs u.tbls (fun m' hm=>by
    obtain ⟨o',es',ep',ho',r'⟩:=hm;rw [ho] at ho';cases ho';exact ⟨_,es',ep',hL,r'⟩) hok hg
theorem Inv.turned (I:Inv X pins σ H s)(k:∀b o,b≠it->s.heap.get? b=some o->h'.get? b=some o)(hn:H it=none)(hL:it≠X.env.locals)
  (h1:it∈X.ex\/X.s₀.heap.objs.size<=it) (h2:∀x c,X.env.cells.lookup x=some c->c≠it) (h3:∀p∈X.pn++pins,p.1≠it):Inv X pins σ H {s with heap:=h',toks:=t'}:=by
 have nit:∀b u,H b=some u->b≠it:=fun b u e z=>by rw [z,hn] at e;cases e
 refine I.step (g':=s.gens) (d':=s.drawn) (ch:=[it]) (fun b hb=>?_) (fun b o _ _ hc e _=>k b o (fun z=>hc (by simp [z])) e) (fun b o _ _ hc e _=>⟨o.slots,k b o (fun z=>hc (by simp [z])) e⟩) (fun _ _ _ _ n=>n)
  (fun b o hc e=>⟨o,k b o (fun z=>hc (by simp [z])) e⟩) (fun _ _ e=>e) (fun _ _ _ e=>e) (fun _ _ _ e=>e) (fun m hm=>?_) (fun b u e=>?_) I.bare
 have e:b=it:=by simpa using hb
 subst e;exact ⟨h1,hL,h2,h3⟩;obtain ⟨o,es,ep,ho,r⟩:=hm;exact ⟨o,es,ep,k _ o (Ne.symm hL) ho,r⟩;refine (I.hok b u e).stay (fun c v hc q=>k c v ?_ q) (fun _ q=>q) (fun _ _ q=>q) fun _ _ _ q=>q;rcases hc with z | z;rw [z];exact nit b u e;exact nit c _ z
theorem Inv.tok (I:Inv X pins σ H s)(t:Nat):Inv X pins σ H {s with toks:=t}:=I.un (h':=s.heap) (t':=t) Un.refl I.hok
theorem Inv.kept {t':Nat}(I:Inv X pins σ H s)(k:∀b u,s.heap.get? b=some u->h'.get? b=some u):Inv X pins σ H {s with heap:=h',toks:=t'}:=I.un (Un.kept k) (I.hok.kept k)
theorem Inv.laid {a:Addr}{o:HO}{t':Nat}(I:Inv X pins σ H s)(k:∀b u,s.heap.get? b=some u->h'.get? b=some u)(hp:s.heap.objs.size<=a)(new:Js X.prog X.w (upd H a o) h' a o) :
  Inv X pins σ (upd H a o) {s with heap:=h',toks:=t'}:=I.un (Un.laid k hp (I.hok.fresh hp)) (I.hok.laid k hp new)
theorem Inv.write {x e:Addr}{o:HO}{t':Nat}(I:Inv X pins σ H s)(mu:Mut (H x))(he:e=x\/H e=some (.own x))(k:∀b u,b≠e->s.heap.get? b=some u->h'.get? b=some u)(heo:∃u,h'.get? e=some u)
  (new:Js X.prog X.w (upd H x o) h' x o):Inv X pins σ (upd H x o) {s with heap:=h',toks:=t'}:=I.un (Un.write mu he k heo) (I.hok.write mu he k heo new)
theorem Inv.pins_of (I:Inv X pins σ H s)(h:∀p∈pins',s.heap.get? p.1=some p.2/\H p.1=none/\p.1≠X.env.locals/\p.1∉X.fs/\∀v,p.2.data≠.cell v):Inv X pins' σ H s:=⟨I.ok,I.os,I.bare,I.base,I.loc,I.cell,I.free,I.freeC,fun p hp=>(Ao.mp hp).elim (fun z=>I.pin p (AF _ z)) (h p),I.hok,I.len⟩
theorem Zqy (hN:N.Nodup)(a:N[i]?=some x)(b:N[j]?=some x):i=j:=by obtain ⟨h1,e1⟩:=Ai.mp a;obtain ⟨h2,e2⟩:=Ai.mp b;exact (List.getElem_inj hN).mp (e1.trans e2.symm)
theorem Znt {Q:Unit->Af->Prop}(I:Inv X pins σ H s)(hN:X.N.Nodup)(hi:X.N[i]?=some x)(hx:Loc X.env.scope x)(r:RelV v u)
  (h:∀s',Inv X pins (σ.set i (some v)) H s'->(∃a,BH a s.heap s'.heap/\(a=X.env.locals\/X.env.cells.lookup x=some a))->Q () s') (hf:autoParam (X.fn x=true\/X.env.scope.names.lookup x=some .local) aT0._auto_1):Am M A (Ko X.env x u) Q E s:=by
 obtain ⟨m,hn,hl⟩:=id I.loc;have hcls:(X.env.scope.kind==.class||(X.env.scope.kind==.module&&X.env.locals != X.env.globals))=false:=by rw [I.ok.kind];rfl
 have hiσ:i<σ.length:=by rw [I.len];exact (Ai.mp hi).1
 have cne:=I.cne;have tracked:∀{a:Addr} {h':Bq},(∃o,s.heap.get? a=some o/\H a=none)->BH a s.heap h'->HOk X.prog X.w H h':=fun {a h'} ha hs b ob e=>by obtain ⟨_,_,hfree⟩:=ha;refine (I.hok b ob e).stay (fun c w' hc q=>(hs.2 c ?_).trans q) (fun _ q=>q) (fun _ _ q=>q) fun _ _ _ q=>q;rintro rfl;rcases hc with rfl | hc;rw [hfree] at e;cases e;rw [hfree] at hc;cases hc
 rcases hx with hk | hk;refine wpAny_storeName_local hk hn (fun h' hn' hs=>?_) hcls;obtain ⟨oL,_,_,hoL,_⟩:=id hn;refine h _ ⟨I.ok,I.os,I.bare,⟨fun b o e n hb hx=>?_,fun b o e n hb hx=>?_,I.base.free,fun b o e hx=>?_,I.base.tups,I.base.frzs,I.base.tbls⟩,⟨_,hn',fun j y v' e1 e2 e3=>?_⟩,fun y c e=>?_,I.free,I.freeC,fun p hp=>?_,tracked ⟨oL,hoL,I.free⟩ hs,by simpa using I.len⟩ ⟨_,hs,.inl rfl⟩;exact (hs.2 b (Bn (AC (AJ e) I.ok.above))).trans (I.base.keep b o e n hb hx);obtain ⟨sl,e1⟩:=I.base.slot b o e n hb hx;exact ⟨sl,(hs.2 b (Bn (AC (AJ e) I.ok.above))).trans e1⟩;obtain ⟨o',e1⟩:=I.base.there b o e hx;exact ⟨o',(hs.2 b (Bn (AC (AJ e) I.ok.above))).trans e1⟩;by_cases hj:j=i;subst hj;rw [hi] at e1;cases e1;rw [Ci hiσ] at e2;cases e2;exact ⟨u,r,.inl ⟨hk,by simp⟩⟩;rw [BE (Ne.symm hj)] at e2;obtain ⟨u',r',q⟩:=hl j y v' e1 e2 e3;refine ⟨u',r',?_⟩;rcases q with ⟨k,e⟩ | ⟨k,c,e,z⟩;refine .inl ⟨k,?_⟩;have:y≠x:=fun e=>hj (Zqy hN e1 (e▸hi));simp [this,e];exact .inr ⟨k,c,e,z.sameBut hs (cne y c e)⟩;obtain ⟨w',z⟩:=I.cell y c e;exact ⟨w',z.sameBut hs (cne y c e)⟩;obtain ⟨e,n,ne,nf,d⟩:=I.pin p hp;exact ⟨(hs.2 p.1 ne).trans e,n,ne,nf,d⟩;have hfn:X.fn x=true:=by rcases hf with z | z;exact z;rw [z] at hk;cases hk
 obtain ⟨c,hc⟩:=I.ok.has x (.inl hk);obtain ⟨w',z⟩:=I.cell x c hc;refine wpAny_storeName_cell I.ok.kind hk hc z (fun h' hc' hs=>?_);obtain ⟨oc,hoc,hocd⟩:=id z;refine h {s with heap:=h'} ⟨I.ok,I.os,I.bare,⟨fun b o e n hb hx=>?_,fun b o e n hb hx=>?_,I.base.free,fun b o e hx=>?_,I.base.tups,I.base.frzs,I.base.tbls⟩,⟨m,hn.sameBut hs (Ne.symm (cne x c hc)),fun j y v' e1 e2 e3=>?_⟩,fun y c' e=>?_,I.free,I.freeC,fun p hp=>?_,tracked ⟨oc,hoc,I.freeC x c hc⟩ hs,by simpa using I.len⟩ ⟨c,hs,.inr hc⟩;exact (hs.2 b (Bn (AC (AJ e) (I.ok.cab x c hfn hc)))).trans (I.base.keep b o e n hb hx);obtain ⟨sl,e1⟩:=I.base.slot b o e n hb hx;exact ⟨sl,(hs.2 b (Bn (AC (AJ e) (I.ok.cab x c hfn hc)))).trans e1⟩;obtain ⟨o',e1⟩:=I.base.there b o e hx;exact ⟨o',(hs.2 b (Bn (AC (AJ e) (I.ok.cab x c hfn hc)))).trans e1⟩;by_cases hj:j=i;subst hj;rw [hi] at e1;cases e1;rw [Ci hiσ] at e2;cases e2;exact ⟨u,r,.inr ⟨.inl hk,c,hc,hc'⟩⟩;rw [BE (Ne.symm hj)] at e2;obtain ⟨u',r',q⟩:=hl j y v' e1 e2 e3;refine ⟨u',r',?_⟩;rcases q with q | ⟨k,c',e,z'⟩;exact .inl q;refine .inr ⟨k,c',e,z'.sameBut hs ?_⟩;rintro rfl;exact hj (Zqy hN e1 (I.ok.inj _ _ _ e hc▸hi));by_cases hcc:c'=c;subst hcc;exact ⟨_,hc'⟩;obtain ⟨w2,z2⟩:=I.cell y c' e;exact ⟨w2,z2.sameBut hs hcc⟩;obtain ⟨e,n,ne,nf,d⟩:=I.pin p hp;refine ⟨(hs.2 p.1 ?_).trans e,n,ne,nf,d⟩;intro q;rw [q,hoc] at e;have q':oc=p.2:=AK e;exact d w' (by rw [<- q'];exact hocd)
theorem Zju {Q:Unit->Af->Prop}(I:Inv X pins σ H s)(hN:X.N.Nodup)(hi:X.N[i]?=some x)(hx:Loc X.env.scope x)(r:RelV v u)
  (h:∀s',Inv X pins (σ.set i (some v)) H s'->Q () s') (hf:autoParam (X.fn x=true\/X.env.scope.names.lookup x=some .local) aT0._auto_1):Am M A (Ko X.env x u) Q E s:=
 Znt I hN hi hx r (fun s' I' _=>h s' I') hf
theorem Inv.call' (I:Inv X pins σ H s)(ho:s'.os=s.os)(u:Un (frs X.stack) ch H H' s.heap s'.heap)(hok:HOk X.prog X.w H' s'.heap)(hg:EX s'.gens)
  (hch:∀b∈ch,(b∈X.ex\/X.s₀.heap.objs.size<=b)/\b≠X.env.locals/\(∀x c,X.env.cells.lookup x=some c->c≠b)/\∀p∈X.pn++pins,p.1≠b):Inv X pins σ H' s':=by
 obtain ⟨h',g',d',t',o'⟩:=s';have e:o'=s.os:=ho;subst e;exact I.call (g':=g') (t':=t') (d':=d') u hok hg hch
end
abbrev XK:=Value->Option Addr->Hp->Prop
abbrev St:=List (Option V)
abbrev VK:=V->Hp->Prop
abbrev TE:=St->Hp->VK->Prop
abbrev TT:=St->Hp->(Bool->Hp->Prop)->Prop
abbrev TA:=St->Hp->(List V->Hp->Prop)->Prop
structure Ends where
 nx:St->Hp->Prop
 rt:VK
 bk:St->Hp->Prop:=fun _ _=>False
 ct:St->Hp->Prop:=fun _ _=>False
abbrev TS:=Ends->St->Hp->Prop
def EP (X:Cx)(pins:List (Addr×Obj))(σ:St)(Q:VK)(u:Value)(s':Af):Prop:=∃v H',Inv X pins σ H' s'/\RelV v u/\Q v H'
def TP (X:Cx)(pins:List (Addr×Obj))(σ:St)(Q:Bool->Hp->Prop)(b:Bool)(s':Af):Prop:=∃H',Inv X pins σ H' s'/\Q b H'
def AP (X:Cx)(pins:List (Addr×Obj))(σ:St)(Q:List V->Hp->Prop)(us:List Value)(s':Af):Prop:=∃vs H',Inv X pins σ H' s'/\Yk vs us/\Q vs H'
def SP (X:Cx)(pins:List (Addr×Obj))(D:Ends)(f:Flow)(s':Af):Prop:=
 match f with
 | .next=>∃σ' H',Inv X pins σ' H' s'/\D.nx σ' H'
 | .brk=>∃σ' H',Inv X pins σ' H' s'/\D.bk σ' H'
 | .cont=>∃σ' H',Inv X pins σ' H' s'/\D.ct σ' H'
 | .ret u=>∃v σ' H',Inv X pins σ' H' s'/\RelV v u/\D.rt v H'
def PE (X:Cx)(e:Expr)(t:TE):Prop:=
 ∀(pins:List (Addr×Obj)) (s:Af) (σ:St) (H:Hp) (Q:VK),Inv X pins σ H s->t σ H Q->Am (Aw X.prog X.w) X.A (A9 e X.env) (EP X pins σ Q) X.xe s
def PT (X:Cx)(e:Expr)(t:TT):Prop:=
 ∀(pins:List (Addr×Obj)) (s:Af) (σ:St) (H:Hp) (Q:Bool->Hp->Prop),Inv X pins σ H s->t σ H Q->Am (Aw X.prog X.w) X.A (isTrue e X.env (A9 e X.env)) (TP X pins σ Q) X.xe s
def PW (X:Cx)(e:Expr)(t:TT):Prop:=
 ∀(whole:Sem Value) (pins:List (Addr×Obj)) (s:Af) (σ:St) (H:Hp) (Q:Bool->Hp->Prop),Inv X pins σ H s->t σ H Q->Am (Aw X.prog X.w) X.A (isTrue e X.env whole) (TP X pins σ Q) X.xe s
theorem PW.pt {t:TT}(h:PW X e t):PT X e t:=h _
def PA (X:Cx)(es:List Expr)(t:TA):Prop:=
 ∀(pos:Pos) (pins:List (Addr×Obj)) (s:Af) (σ:St) (H:Hp) (Q:List V->Hp->Prop),Inv X pins σ H s->t σ H Q->Am (Aw X.prog X.w) X.A (spliced (BG pos (Ad es X.env))) (AP X pins σ Q) X.xe s
def PS (X:Cx)(st:Stmt)(t:TS):Prop:=
 ∀(pins:List (Addr×Obj)) (s:Af) (σ:St) (H:Hp) (D:Ends),Inv X pins σ H s->t D σ H->Am (Aw X.prog X.w) X.A (exec st X.env) (SP X pins D) X.xe s
def PSs (X:Cx)(st:List Stmt)(t:TS):Prop:=
 ∀(pins:List (Addr×Obj)) (s:Af) (σ:St) (H:Hp) (D:Ends),Inv X pins σ H s->t D σ H->Am (Aw X.prog X.w) X.A (execs st X.env) (SP X pins D) X.xe s
theorem thn {t:Sem α}{Q Q':α->Af->Prop}(h:Am M A t Q E s)(hQ:∀a s,Q a s->Q' a s):Am M A t Q' E s:=B3 h hQ fun _ _ x=>x
section
def Zge (i:Nat):TE:=fun σ H Q=>∃v,σ[i]?=some (some v)/\Q v H
def tC (v:V):TE:=fun _ H Q=>Q v H
theorem Xrj (hN:X.N[i]?=some x)(hv:Vis X.env.scope x)(hd:(x==("__debug__":Str))=false:=by decide)(hcd:(x==("__classdict__":Str))=false:=by decide):PE X (.Name x pos) (Zge i):=by intro pins s σ H Q I h;obtain ⟨v,e,h⟩:=h;obtain ⟨m,hn,hl⟩:=I.loc;obtain ⟨u,r,l⟩:=hl i x v hN e hv;have fin:EP X pins σ Q u s:=⟨v,H,I,r,h⟩;rcases l with ⟨hk,hm⟩ | ⟨hk,c,hc,hcell⟩;exact IW (Iw I.ok.kind hk hn hm fin) hd;rcases hk with hk | hk;exact IW (II I.ok.kind hk hc hcell fin) hd;exact IW (wpAny_loadName_free I.ok.kind hk hc hcell fin hcd) hd
theorem Xua {i j pos}:PE X (.Constant (.int i) j pos) (tC (.int i)):=fun _ _ _ H _ I h=>wpAny_Constant_int ⟨.int i,H,I.tok _,⟨_,rfl⟩,h⟩
theorem pe_bl {b j pos}:PE X (.Constant (.bool b) j pos) (tC (.bl b)):=fun _ _ _ H _ I h=>Constant_bool ⟨.bl b,H,I,rfl,h⟩
theorem Xud {x j pos}:PE X (.Constant (.str x) j pos) (tC (.str x)):=fun _ _ _ H _ I h=>Calls.Constant_str ⟨.str x,H,I.tok _,⟨_,rfl⟩,h⟩
def Gl (X:Cx)(x:Str):Prop:=X.env.kindOf x=some .globalImplicit
theorem Zzp (I:Inv X pins σ H s)(hg:Gl X x)(hm:X.mg x=some u)(h:Q u s)
  (hd:(x==("__debug__":Str))=false:=by decide):Am (Aw X.prog X.w) X.A (A9 (.Name x pos) X.env) Q E s:=
 Gg I.ok.kind hg (Calls.loadGlobal_global (by rw [I.ok.glob];exact I.mod.glob.keeps I.bk) hm h) hd
theorem Zgv (I:Inv X pins σ H s)(hg:Gl X x)(hm:X.mg x=none)(hv:CL x=some u)(h:Q u s)
  (hn:x≠"__name__":=by decide) (hd:(x==("__debug__":Str))=false:=by decide):Am (Aw X.prog X.w) X.A (A9 (.Name x pos) X.env) Q E s:=by
 obtain ⟨mb,h1,h2⟩:=I.mod.blt;exact Gg I.ok.kind hg (Calls.loadGlobal_builtin (by rw [I.ok.glob];exact I.mod.glob.keeps I.bk) hm (by rw [I.ok.blt];exact h1.keeps I.bk) ((h2 x hn).trans hv) h) hd
theorem Xiq (hg:Gl X x)(hm:X.mg x=some u)(r:RelV v u)(hd:(x==("__debug__":Str))=false:=by decide):PE X (.Name x pos) (tC v):=fun _ _ _ H _ I h=>Zzp I hg hm ⟨v,H,I,r,h⟩ hd
variable {a b:Expr}
def tB (t:TE):TT:=fun σ H Q=>t σ H fun x H1=>∃c,x=.bl c/\Q c H1
theorem Xpl {t:TE}(h:PE X e t)(he:∀whole,isTrue e X.env whole=(do let v <- whole;EO e.pos;Cs [v] (HP v)):=by intro _;rfl):PT X e (tB t):=by intro pins s σ H Q I hw;refine isTrue_plain (thn (h pins s σ H _ I hw) fun v s1 hz9=>?_) (he _);obtain ⟨x,H1,I1,r1,q1⟩:=hz9;obtain ⟨d,rfl,q⟩:=q1;cases r1;exact DE ⟨H1,I1,q⟩
variable {tA tB':TT}{rest:List Expr}
def tAnd (t u:TT):TT:=fun σ H Q=>t σ H fun c H1=>if c=true then u σ H1 Q else Q false H1
def tOr (t u:TT):TT:=fun σ H Q=>t σ H fun c H1=>if c=true then Q true H1 else u σ H1 Q
theorem Xna (ha:PT X a tA):PW X (.BoolOp .And [a] pos) tA:=by
 intro wh pins s σ H Q I h;refine isTrue_and (thn (ha pins s σ H Q I h) fun c s1 e=>?_);cases c with
 | true=>exact isTrue_and_nil e
 | false=>exact e
theorem Xpw (ha:PT X a tA):PW X (.BoolOp .Or [a] pos) tA:=by
 intro wh pins s σ H Q I h;refine isTrue_or (thn (ha pins s σ H Q I h) fun c s1 e=>?_);cases c with
 | false=>exact isTrue_or_nil e
 | true=>exact e
theorem Xpm (ha:PT X a tA)(hb:PW X (.BoolOp .And (b::rest) pos) tB'):PW X (.BoolOp .And (a::b::rest) pos) (tAnd tA tB'):=by
 intro wh pins s σ H Q I h;refine isTrue_and (thn (ha pins s σ H _ I h) fun c s1 ⟨H1,I1,q1⟩=>?_);cases c with
 | true=>exact hb wh pins s1 σ H1 Q I1 q1
 | false=>exact ⟨H1,I1,q1⟩
theorem pw_or (ha:PT X a tA)(hb:PW X (.BoolOp .Or (b::rest) pos) tB'):PW X (.BoolOp .Or (a::b::rest) pos) (tOr tA tB'):=by
 intro wh pins s σ H Q I h;refine isTrue_or (thn (ha pins s σ H _ I h) fun c s1 ⟨H1,I1,q1⟩=>?_);cases c with
 | true=>exact ⟨H1,I1,q1⟩
 | false=>exact hb wh pins s1 σ H1 Q I1 q1
def tIf (t:TT)(ta tb:TE):TE:=fun σ H Q=>t σ H fun c H1=>if c=true then ta σ H1 Q else tb σ H1 Q
theorem Xfk (hc:PT X c tA)(ha:PE X a ta)(hb:PE X b tb):PE X (.IfExp c a b pos) (tIf tA ta tb):=by
 intro pins s σ H Q I h;refine wpAny_IfExp (thn (hc pins s σ H _ I h) fun d s1 ⟨H1,I1,q1⟩=>?_);cases d with
 | true=>exact ha pins s1 σ H1 Q I1 q1
 | false=>exact hb pins s1 σ H1 Q I1 q1
end
def SqL (K:AO)(H:Hp)(a:Addr)(xs:List V):Prop:=
 Rd H a (.lst xs)\/
  ∃(o:Obj) (its:Array Value) (n:Nat),K.lookup a=some o/\o.cls=.type "list"/\o.dict=none/\o.data=.seq its n/\its.size<=Ap/\Yk xs its.toList
def SqT (K:AO)(H:Hp)(a:Addr)(xs:List V):Prop:=
 Rd H a (.tup xs)\/
  ∃(o:Obj) (its:Array Value) (n:Nat),K.lookup a=some o/\o.cls=.type "tuple"/\o.data=.seq its n/\its.size<=Ap/\Yk xs its.toList
def absV:Value->Option V
 | .none=>some .non
 | .bool b=>some (.bl b)
 | .int i _=>some (.int i)
 | .str x _=>some (.str x)
 | .bytes b _=>some (.byt b)
 | .float b _=>some (.flt b)
 | .ref a=>some (.ref a)
 | .type n=>some (.ty n)
 | _=>none
theorem RelV.abs {x:V}(r:RelV x u):absV u=some x:=by
 cases x with
 | non=>cases r;rfl
 | bl _=>cases r;rfl
 | int _=>obtain ⟨t,rfl⟩:=r;rfl
 | str _=>obtain ⟨t,rfl⟩:=r;rfl
 | byt _=>obtain ⟨t,rfl⟩:=r;rfl
 | flt _=>obtain ⟨t,rfl⟩:=r;rfl
 | ref _=>cases r;rfl
 | ty _=>cases r;rfl
theorem RelV.inj {x y:V}{u:Value}(r:RelV x u)(q:RelV y u):x=y:=AK (r.abs.symm.trans q.abs)
theorem Yk.inj:∀{xs ys:List V} {us:List Value},Yk xs us->Yk ys us->xs=ys
 | _,_,_,.nil,.nil=>rfl
 | _,_,_,.cons r t,.cons r' t'=>by rw [r.inj r',Yk.inj t t']
section
variable {ys:List V}
theorem SqL.of (h:H a=some (.lst xs)):SqL K H a xs:=.inl (.inl h)
theorem SqT.of (h:H a=some (.tup xs)):SqT K H a xs:=.inl (.inl h)
theorem Inv.list (I:Inv X pins σ H s)(h:SqL X.K H a xs):∃its:List Value,Yk xs its/\PlainL s.heap a its.toArray/\xs.length<=Ap:=by rcases h with h | ⟨o,its,n,hk,hc,hd,hs,hz,r⟩;obtain ⟨z,its,n,r,e⟩:=h.ok I.hok;exact ⟨its,r,⟨_,n,e,rfl,rfl,rfl⟩,z⟩;refine ⟨its.toList,r,⟨o,n,I.kIn a o hk,hc,hd,by simpa using hs⟩,?_⟩;have e:=r.length;simp only [Bu] at e;omega
theorem Inv.tuple (I:Inv X pins σ H s)(h:SqT X.K H a xs):∃its:List Value,Yk xs its/\HM s.heap a its.toArray/\xs.length<=Ap:=by rcases h with h | ⟨o,its,n,hk,hc,hs,hz,r⟩;obtain ⟨z,its,r,p⟩:=h.ok I.hok;exact ⟨its,r,p,z⟩;refine ⟨its.toList,r,⟨o,I.kIn a o hk,hc,n,by simpa using hs⟩,?_⟩;have e:=r.length;simp only [Bu] at e;omega
theorem Inv.list_inj (I:Inv X pins σ H s)(h:SqL X.K H a xs)(h':SqL X.K H a ys):xs=ys:=by
 obtain ⟨its,r,⟨o,n,e,_,_,d⟩,_⟩:=I.list h;obtain ⟨its',r',⟨o',n',e',_,_,d'⟩,_⟩:=I.list h';rw [e] at e';cases e';rw [d] at d';injection d' with d1 _;have:its=its':=by simpa using congrArg J2 d1
 subst this;exact r.inj r'
theorem Inv.tuple_inj (I:Inv X pins σ H s)(h:SqT X.K H a xs)(h':SqT X.K H a ys):xs=ys:=by
 obtain ⟨its,r,⟨o,e,_,n,d⟩,_⟩:=I.tuple h;obtain ⟨its',r',⟨o',e',_,n',d'⟩,_⟩:=I.tuple h';rw [e] at e';cases e';rw [d] at d';injection d' with d1 _;have:its=its':=by simpa using congrArg J2 d1
 subst this;exact r.inj r'
end
abbrev Cx.wish (X:Cx)(E:Value->Af->Prop):Cx:={X with xe:=E}
abbrev Cx.nox (X:Cx):Cx:=X.wish fun _ _=>False
theorem Cx.Ok.wish {X:Cx}(ok:X.Ok)(E:Value->Af->Prop):(X.wish E).Ok:=⟨ok.mod,ok.kind,ok.glob,ok.blt,ok.above,ok.inj,ok.has,ok.cab,ok.hd,ok.frames,ok.stk,ok.exf,ok.bs,ok.bsz,ok.noex,ok.exfs,ok.funs,ok.frf⟩
theorem Cx.Ok.unwish (ok:(X.wish E).Ok):X.Ok:=⟨ok.mod,ok.kind,ok.glob,ok.blt,ok.above,ok.inj,ok.has,ok.cab,ok.hd,ok.frames,ok.stk,ok.exf,ok.bs,ok.bsz,ok.noex,ok.exfs,ok.funs,ok.frf⟩
theorem Inv.wish (I:Inv X pins σ H s)(E:Value->Af->Prop):Inv (X.wish E) pins σ H s:=⟨I.ok.wish E,I.os,I.bare,I.base,I.loc,I.cell,I.free,I.freeC,I.pin,I.hok,I.len⟩
theorem Inv.unwish (I:Inv (X.wish E) pins σ H s):Inv X pins σ H s:=⟨I.ok.unwish,I.os,I.bare,I.base,I.loc,I.cell,I.free,I.freeC,I.pin,I.hok,I.len⟩
theorem SP.unwish {D:Ends}{f:Flow}{s':Af}(h:SP (X.wish E) pins D f s'):SP X pins D f s':=by
 cases f with
 | next=>obtain ⟨σ',H',I,q⟩:=h;exact ⟨σ',H',I.unwish,q⟩
 | brk=>obtain ⟨σ',H',I,q⟩:=h;exact ⟨σ',H',I.unwish,q⟩
 | cont=>obtain ⟨σ',H',I,q⟩:=h;exact ⟨σ',H',I.unwish,q⟩
 | ret u=>obtain ⟨v,σ',H',I,r,q⟩:=h;exact ⟨v,σ',H',I.unwish,r,q⟩
theorem PSs.nox {st:List Stmt}{t:TS}(h:PSs X.nox st t):PSs X st t:=fun pins s σ H D I hw =>
 B3 (h pins s σ H D (I.wish _) hw) (fun _ _ q=>q.unwish) fun _ _ z=>False.elim z
section
variable {rest:List Stmt}{t u:TS}
def Zly:TS:=fun D σ H=>D.nx σ H
def Xib (t u:TS):TS:=fun D σ H=>t {D with nx:=u D} σ H
theorem Xjn:PSs X [] Zly:=fun _ _ σ H _ I h=>GF ⟨σ,H,I,h⟩
theorem Xfv (h1:PS X st t)(h2:PSs X rest u):PSs X (st::rest) (Xib t u):=by
 intro pins s σ H D I h;refine Km (thn (h1 pins s σ H {D with nx:=u D} I h) fun f s1 q=>?_);cases f with
 | next =>obtain ⟨σ',H',I',q⟩:=q;exact h2 pins s1 σ' H' D I' q
 | ret v=>exact q
 | brk=>exact q
 | cont=>exact q
theorem Xij (h1:PS X st t):PSs X [st] t:=by
 intro pins s σ H D I h;refine Km (thn (h1 pins s σ H D I h) fun f s1 q=>?_);cases f with
 | next=>exact GF q
 | ret v=>exact q
 | brk=>exact q
 | cont=>exact q
def Xkv:TS:=fun D σ H=>D.ct σ H
theorem Zok:PS X (.Continue pos) Xkv:=fun _ _ σ H _ I h=>wpAny_Continue ⟨σ,H,I,h⟩
theorem Inv.quiet (I:Inv X pins σ H s):interactive X.env=false:=by simp [interactive,I.ok.kind]
def Zga (te:TE):TS:=fun D σ H=>te σ H fun _ H1=>D.nx σ H1
theorem Xix (he:PE X e te)(hs:BO e none pos.line X.env=BD false:=by rfl):PS X (.Expr e pos) (Zga te):=by intro pins s σ H D I h;exact wpAny_Expr_any (thn (he pins s σ H _ I h) fun v s1 ⟨x,H1,I1,r1,q1⟩=>⟨σ,H1,I1,q1⟩) I.quiet hs
def Xhd (te:TE):TS:=fun D σ H=>te σ H D.rt
theorem Xse (he:PE X e te):PS X (.Return (some e) pos) (Xhd te):=by intro pins s σ H D I h;exact wpAny_Return_some (thn (he pins s σ H _ I h) fun v s1 ⟨x,H1,I1,r1,q1⟩=>⟨x,σ,H1,I1,r1,q1⟩)
def Xhb (c:TT)(t u:TS):TS:=fun D σ H=>c σ H fun b H1=>if b=true then t D σ H1 else u D σ H1
theorem ps_if {a b:List Stmt}{tc:TT}(hc:PT X c tc)(ha:PSs X a t)(hb:PSs X b u):PS X (.If c a b pos) (Xhb tc t u):=by
 intro pins s σ H D I h;refine wpAny_If (thn (hc pins s σ H _ I h) fun d s1 ⟨H1,I1,q1⟩=>?_);cases d with
 | true=>exact ha pins s1 σ H1 D I1 q1
 | false=>exact hb pins s1 σ H1 D I1 q1
def Zsj:TS:=fun _ _ _=>False
theorem Xgf:PS X st Zsj:=fun _ _ _ _ _ _ h=>h.elim
end
abbrev TG:=V->St->Hp->(St->Hp->Prop)->Prop
abbrev TGs:=List V->St->Hp->(St->Hp->Prop)->Prop
def PG (X:Cx)(target:Expr)(t:TG):Prop:=
 ∀(pins:List (Addr×Obj)) (s:Af) (σ:St) (H:Hp) (v:V) (u:Value) (Q:St->Hp->Prop),Inv X pins σ H s->RelV v u->t v σ H Q->
  Am (Aw X.prog X.w) X.A (CM target X.env u) (fun _ s'=>∃σ' H',Inv X pins σ' H' s'/\Q σ' H') X.xe s
def PGs (X:Cx)(ts:List Expr)(t:TGs):Prop:=
 ∀(pins:List (Addr×Obj)) (s:Af) (σ:St) (H:Hp) (vs:List V) (us:List Value) (Q:St->Hp->Prop),Inv X pins σ H s->Yk vs us->t vs σ H Q->
  Am (Aw X.prog X.w) X.A (assignInOrder ((AR ts X.env).map (·.2)) us) (fun _ s'=>∃σ' H',Inv X pins σ' H' s'/\Q σ' H') X.xe s
abbrev TSet:=V->V->V->Hp->(Hp->Prop)->Prop
def PSet (X:Cx)(t:TSet):Prop:=
 ∀(pins:List (Addr×Obj)) (s:Af) (σ:St) (H:Hp) (o i v:V) (ov iv u:Value) (Q:Hp->Prop),Inv X pins σ H s->RelV o ov->RelV i iv->RelV v u->t o i v H Q->
  Am (Aw X.prog X.w) X.A (GO ov iv u) (fun _ s'=>∃H',Inv X pins σ H' s'/\Q H') X.xe s
abbrev TIp:=V->V->Hp->VK->Prop
def PIp (X:Cx)(op:G2)(t:TIp):Prop:=
 ∀(pins:List (Addr×Obj)) (s:Af) (σ:St) (H:Hp) (x y:V) (v u:Value) (Q:VK),Inv X pins σ H s->RelV x v->RelV y u->t x y H Q->
  Am (Aw X.prog X.w) X.A (inplaceOp op v u) (EP X pins σ Q) X.xe s
def Yw (i:Nat):TG:=fun v σ H Q=>Q (σ.set i (some v)) H
theorem Xja (hN:X.N.Nodup)(hi:X.N[i]?=some x)(hx:Loc X.env.scope x)(hf:autoParam (X.fn x=true\/X.env.scope.names.lookup x=some .local) aT0._auto_1):PG X (.Name x pos) (Yw i):=by intro pins s σ H v u Q I r h;exact J4 (Zju I hN hi hx r (fun s' I'=>⟨_,H,I',h⟩) hf)
def Xbh:TGs:=fun vs σ H Q=>vs=[]/\Q σ H
def Zih (t:TG)(u:TGs):TGs:=fun vs σ H Q=>∃v r,vs=v::r/\t v σ H fun σ' H'=>u r σ' H' Q
theorem Xky:PGs X [] Xbh:=by intro pins s σ H vs us Q I r h;obtain ⟨e,h⟩:=h;subst e;cases r;exact assignInOrder_nil ⟨σ,H,I,h⟩
theorem Xfz {t:TG}{u:TGs}(h1:PG X e t)(h2:PGs X es u)
  (hs:(AR (e::es) X.env).map (·.2)=CM e X.env::(AR es X.env).map (·.2):=by rfl):PGs X (e::es) (Zih t u):=by
 intro pins s σ H vs us Q I r h;obtain ⟨v,vr,e1,h⟩:=h;subst e1;cases r with
 | cons r rr =>rw [hs];refine assignInOrder_cons (thn (h1 pins s σ H _ _ _ I r h) fun _ s1 hz9=>?_);obtain ⟨σ1,H1,I1,q1⟩:=hz9;exact h2 pins s1 σ1 H1 _ _ Q I1 rr q1
def Zew (K:AO)(n:Nat)(t:TGs):TG:=fun v σ H Q=>∃a xs,v=.ref a/\SqT K H a xs/\xs.length=n/\t xs σ H Q
theorem Xsz {t:TGs}(hc:X.calm=true)(h:PGs X es t)
  (hn:(AR es X.env).length=n:=by rfl) (hst:(AR es X.env).findIdx? (·.1)=none:=by rfl):PG X (.Tuple es k pos) (Zew X.K n t):=by
 intro pins s σ H v u Q I r hw;obtain ⟨a,xs,e1,hq,hl,hw⟩:=hw;subst e1;cases r;obtain ⟨its,rv,ht,hz⟩:=I.tuple hq;refine assign_Tuple_tuple (I.ok.hd hc) ht (by simp [hn,<- hl,rv.length]) hst fun h' hx=>?_;have I1:Inv X pins σ H {s with heap:=h'}:=I.kept (t':=s.toks) fun b o e=>hx b o (Bn (AJ e)) e;exact h pins _ σ H xs _ Q I1 (by simpa using rv) hw
def Zeu (to ti:TE)(t:TSet):TG:=fun v σ H Q=>to σ H fun o H1=>ti σ H1 fun i H2=>t o i v H2 fun H3=>Q σ H3
theorem Xtx {o i:Expr}{to ti:TE}{t:TSet}(ho:PE X o to)(hi:PE X i ti)(hs:PSet X t)
    (ha:∀v,CM (.Subscript o i pos) X.env v=(do
      let ov <- Cs [v] (A9 o X.env)
      let iv <- Cs [v,ov] (A9 i X.env)
      EO pos
      Cs [v,ov,iv] (GO ov iv v)
      J7 [v,ov,iv] []):=by intro _;rfl):PG X (.Subscript o i pos) (Zeu to ti t):=by
  intro pins s σ H v u Q I r h;rw [ha];refine Aa (BJ (thn (ho pins s σ H _ I h) fun ov s1 hz9=>?_));obtain ⟨x,H1,I1,r1,q1⟩:=hz9;refine Aa (BJ (thn (hi pins s1 σ H1 _ I1 q1) fun iv s2 hz9=>?_));obtain ⟨y,H2,I2,r2,q2⟩:=hz9;refine Aa (Fs (Aa (BJ (thn (hs pins s2 σ H2 x y v ov iv u _ I2 r1 r2 r q2) fun _ s3 ⟨H3,I3,q3⟩=>?_))));exact wpAny_release ⟨σ,H3,I3,q3⟩
def Zgl (te:TE)(g:TG):TS:=fun D σ H=>te σ H fun x H1=>g x σ H1 D.nx
theorem Xub {g:TG}(he:PE X e te)(hg:PG X tg g)(hs:Ex [tg] e pos.line X.env=BD false:=by rfl)(hw:Ey [tg] e X.env=BD none:=by rfl)
  (h1:(AR [tg] X.env).map (·.2)=[CM tg X.env]:=by rfl):PS X (.Assign [tg] e pos) (Zgl te g):=by
 intro pins s σ H D I h;refine wpAny_Assign_stores (thn (he pins s σ H _ I h) fun v s1 hz9=>?_) hs hw;obtain ⟨x,H1,I1,r1,q1⟩:=hz9;rw [h1];exact thn (hg pins s1 σ H1 x v _ I1 r1 q1) fun _ s2 q=>q
theorem Xpp (hN:X.N.Nodup)(hi:X.N[i]?=some x)(hx:Loc X.env.scope x)(he:PE X e te)(hs:BO e (some (.Name x pos')) pos.line X.env=BD false:=by rfl)(hf:autoParam (X.fn x=true\/X.env.scope.names.lookup x=some .local) aT0._auto_1) :
  PS X (.Assign [.Name x pos'] e pos) (Zgl te (Yw i)):=by
 intro pins s σ H D I h;refine wpAny_Assign_Name (thn (he pins s σ H _ I h) fun v s1 hz9=>?_) hs;obtain ⟨y,H1,I1,r1,q1⟩:=hz9;exact Zju I1 hN hi hx r1 (fun s2 I2=>⟨_,H1,I2,q1⟩) hf
def tAug (i:Nat)(te:TE)(ti:TIp):TS:=fun D σ H=>∃x,σ[i]?=some (some x)/\te σ H fun y H1=>ti x y H1 fun z H2=>D.nx (σ.set i (some z)) H2
theorem Xpz {op:G2}(hN:X.N.Nodup)(hi:X.N[i]?=some x)(hx:Loc X.env.scope x)(he:PE X e te)(ho:PIp X op ti)(hf:autoParam (X.fn x=true\/X.env.scope.names.lookup x=some .local) aT0._auto_1) :
  PS X (.AugAssign (.Name x pos') op e pos) (tAug i te ti):=by
 intro pins s σ H D I h;obtain ⟨v,e1,h⟩:=h;obtain ⟨m,hn,hl⟩:=I.loc;have vis:Vis X.env.scope x:=by rcases hx with k | k;exact .inl k;exact .inr (.inl k)
 obtain ⟨u,r,l⟩:=hl i x v hi e1 vis;refine wpAny_AugAssign_Name ?_;have go:Am (Aw X.prog X.w) X.A (A9 e X.env) (fun w s₂=>Am (Aw X.prog X.w) X.A (inplaceOp op u w) (fun r s₃=>Am (Aw X.prog X.w) X.A (Ko X.env x r) (fun _=>SP X pins D .next) X.xe s₃) X.xe s₂) X.xe s:=by refine thn (he pins s σ H _ I h) fun w s1 hz9=>?_;obtain ⟨y,H1,I1,r1,q1⟩:=hz9;refine thn (ho pins s1 σ H1 v y u w _ I1 r r1 q1) fun z s2 hz9=>?_;obtain ⟨zv,H2,I2,r2,q2⟩:=hz9;exact Zju I2 hN hi hx r2 (fun s3 I3=>⟨_,H2,I3,q2⟩) hf
 rcases l with ⟨hk,hm⟩ | ⟨hk,c,hc,hcell⟩;exact Iw I.ok.kind hk hn hm go;rcases hk with hk | hk;exact II I.ok.kind hk hc hcell go;rcases hx with k | k;have:X.env.scope.names.lookup x=some .free:=hk;rw [k] at this;cases this;have:X.env.scope.names.lookup x=some .free:=hk;rw [k] at this;cases this
structure It where
 go:Nat->Hp->Prop
 yld:Nat->Hp->V->Hp->Prop
 stop:Nat->Hp->Prop
def Zuo (X:Cx)(pins:List (Addr×Obj))(H:Hp)(b:Addr):Prop:=
 H b=none/\b≠X.env.locals/\b∉X.fs/\(b∈X.ex\/X.s₀.heap.objs.size<=b)/\(∀x c,X.env.cells.lookup x=some c->c≠b)/\∀p∈X.pn++pins,p.1≠b
theorem Inv.fpOk (I:Inv X pins σ H s)(hb:s.heap.objs.size<=b)(hn:H' b=none):Zuo X pins H' b:=by refine ⟨hn,Fc (AC I.lt hb),I.nofs hb,.inr (Az I.sz hb),fun x c e z=>?_,fun p hp z=>?_⟩;obtain ⟨v,q⟩:=I.cell x c e;exact absurd (AC q.lt (by rw [z];exact hb)) (Bb _);exact absurd (AC (AJ (I.pin p hp).1) (by rw [z];exact hb)) (Bb _)
structure Turn (P:AQ)(w:Bl)(K:AO)(tg:Expr)(J:It)(fp:List Addr)(it:Addr)(tn:Nat->Bq->Prop):Prop where
  mem:it∈fp
  obj:∀i h,tn i h->∀b∈fp,∃o,h.get? b=some o/\∀v,o.data≠.cell v
  keep:∀i h h',tn i h->(∀b∈fp,∀o,h.get? b=some o->h'.get? b=some o)->tn i h'
  item:∀(X:Cx),X.prog=P->X.w=w->X.K=K->X.calm=true->∀(i:Nat) (pins:List (Addr×Obj)) (s:Af) (σ:St) (H:Hp) (E:Value->Af->Prop),Inv X pins σ H s->(∀b∈fp,Zuo X pins H b)->tn i s.heap->J.go i H->
    Am (Aw P w) X.A (Dq (.ref it)) (fun r s1=>∃u,r=some u/\
      Am (Aw P w) X.A (EY tg (.ref it) u) (fun _ s2=>∃x H',Inv X pins σ H' s2/\RelV x u/\J.yld i H x H'/\tn (i+1) s2.heap/\∀b∈fp,H' b=none) E s1) E s
  done:∀(X:Cx),X.prog=P->X.w=w->X.K=K->X.calm=true->∀(i:Nat) (pins:List (Addr×Obj)) (s:Af) (σ:St) (H:Hp) (E:Value->Af->Prop),Inv X pins σ H s->(∀b∈fp,Zuo X pins H b)->tn i s.heap->J.stop i H->
    Am (Aw P w) X.A (Dq (.ref it)) (fun r s1=>r=none/\Inv X pins σ H s1) E s
  self:∀(A:Bh) (i:Nat) (s:Af) (Q:Value->Af->Prop) (E:Value->Af->Prop),tn i s.heap->Q (.ref it) s->Am (Aw P w) A (GS (.ref it)) Q E s
abbrev TI:=St->Hp->(It->Hp->Prop)->Prop
def PIE (X:Cx)(pins:List (Addr×Obj))(σ:St)(tg:Expr)(R:It->Hp->Prop)(itv:Value)(s2:Af):Prop:=
 ∃(it:Addr) (fp:List Addr) (tn:Nat->Bq->Prop) (J:It) (H':Hp),itv=.ref it/\Inv X pins σ H' s2/\Turn X.prog X.w X.K tg J fp it tn/\tn 0 s2.heap/\(∀b∈fp,Zuo X pins H' b)/\R J H'
def PI (X:Cx)(tg iter:Expr)(wi:TI):Prop:=
 ∀(pins:List (Addr×Obj)) (s:Af) (σ:St) (H:Hp) (R:It->Hp->Prop),Inv X pins σ H s->wi σ H R->
  Am (Aw X.prog X.w) X.A (A9 iter X.env) (fun v s1=>Am (Aw X.prog X.w) X.A (GS v) (PIE X pins σ tg R) X.xe s1) X.xe s
theorem Xji {n:String}{vs:Array Value}{Q:Unit->Af->Prop}(ho:s.heap.get? it=some o)(hc:o.cls=.type n)(hd:o.data=.fields vs)
    (hn:["enumerate","zip","dict_itemiterator","dict_reverseitemiterator","odict_iterator","itertools.zip_longest","itertools.pairwise"].contains n=false) (hQ:Q () s):Am M A (EY tg (.ref it) u) Q E s:=by
  unfold EY;cases tg<;>first
    | exact Ac hQ
    | (cases u<;>first
        | exact Ac hQ
        | (refine Aa (wpAny_load ho ?_)
           rw [hc,hd];show Am M A (if (["enumerate","zip","dict_itemiterator","dict_reverseitemiterator","odict_iterator","itertools.zip_longest","itertools.pairwise"].contains n&&vs[0]?==some (DV _))=true then _ else _) Q E s;rw [if_neg (by intro h;rw [hn,IT] at h;cases h)];exact Ac hQ))
def Itl (K:AO)(a:Addr):It:=
 ⟨fun i H=>∃xs x,SqL K H a xs/\xs[i]?=some x,fun i H x H'=>H'=H/\∀xs,SqL K H a xs->xs[i]?=some x,fun i H=>∃xs,SqL K H a xs/\xs.length<=i⟩
def Itr (lo:Int)(n:Nat):It:=⟨fun i _=>i<n,fun i H x H'=>H'=H/\x=.int (lo+i),fun i _=>n<=i⟩
theorem Zwi (a it:Addr):Turn P w K tg (Itl K a) [it] it (fun i h=>h.IsListIter it a i) where
 mem:=by simp
 obj:=fun i h st b hb=>by
  have e:b=it:=by simpa using hb
  subst e;obtain ⟨o,e,c,d⟩:=st;exact ⟨o,e,fun v z=>by rw [d] at z;cases z⟩
 keep:=fun i h h' st k=>st.at fun o e=>k it (by simp) o e
 item:=by intro X hP hw hK hc i pins s σ H E I hf st hg;subst hP hw hK;obtain ⟨xs,x,hq,hx⟩:=hg;obtain ⟨its,rv,p,hz⟩:=I.list hq;obtain ⟨u,hu,ru⟩:=rv.get hx;obtain ⟨f0,f1,f2,f3,f4,f5⟩:=hf it (by simp);refine wpAny_pyNext_list_item st p.isList (x:=u) (by simpa using hu) fun h' st' sb=>?_;have I1:Inv X pins σ H {s with heap:=h'}:=I.turned (t':=s.toks) (fun b o hb e=>(sb.2 b hb).trans e) f0 f1 f3 f4 f5;obtain ⟨o,e,c,d⟩:=id st';exact ⟨u,rfl,Xji (s:={s with heap:=h'}) e c d (by decide) ⟨x,H,I1,ru,⟨rfl,fun ys hy=>by rw [I.list_inj hy hq];exact hx⟩,st',fun b hb=>(hf b hb).1⟩⟩
 done:=by intro X hP hw hK hc i pins s σ H E I hf st hg;subst hP hw hK;obtain ⟨xs,hq,hx⟩:=hg;obtain ⟨its,rv,p,hz⟩:=I.list hq;obtain ⟨f0,f1,f2,f3,f4,f5⟩:=hf it (by simp);have hl:=rv.length;exact wpAny_pyNext_list_end (I.ok.hd hc) st p.isList (by simp;omega) fun h' eb=>⟨rfl,I.turned (t':=s.toks) (fun b o hb e=>eb b o hb e) f0 f1 f3 f4 f5⟩
 self:=fun _ _ _ _ _ st h=>wpAny_pyIter_listiter st h
theorem Ztn (it:Addr)(lo:Int)(n:Nat):Turn P w K tg (Itr lo n) [it] it (fun i h=>IsRangeIter h it (lo+(i:Nat)*1) ((n:Int) - (i:Nat)) 1) where
  mem:=by simp
  obj:=fun i h st b hb=>by
    have e:b=it:=by simpa using hb
    subst e;exact ⟨_,st,fun v z=>by
      have z':Data.fields _=Data.cell v:=z;cases z'⟩
  keep:=fun i h h' st k=>k it (by simp) _ st
  item:=by intro X hP hw hK hc i pins s σ H E I hf st hg;subst hP hw hK;obtain ⟨f0,f1,f2,f3,f4,f5⟩:=hf it (by simp);have W:=Walks.range (prog:=X.prog) (w:=X.w) (I.ok.hd hc) it lo 1 n;refine W.item i s _ _ hg st fun v h' tk hv st' kk=>?_;obtain ⟨t,rfl⟩:=hv;have I1:Inv X pins σ H {s with heap:=h',toks:=tk}:=I.turned (fun b o hb e=>kk b o (by simpa using hb) e) f0 f1 f3 f4 f5;refine ⟨_,rfl,Xji (s:={s with heap:=h',toks:=tk}) (n:="range_iterator") st' rfl rfl (by decide) ⟨.int (lo+i),H,I1,⟨t,?_⟩,⟨rfl,rfl⟩,st',fun b hb=>(hf b hb).1⟩⟩;rw [Int.mul_one]
  done:=by intro X hP hw hK hc i pins s σ H E I hf st hg;subst hP hw hK;obtain ⟨f0,f1,f2,f3,f4,f5⟩:=hf it (by simp);exact wpAny_pyNext_range_end (I.ok.hd hc) st (by have:n<=i:=hg;omega) fun h' eb=>⟨rfl,I.turned (t':=s.toks) (fun b o hb e=>eb b o hb e) f0 f1 f3 f4 f5⟩
  self:=fun _ _ _ _ _ st h=>wpAny_pyIter_rangeiter st h
def Xfp (K:AO)(tl:TE):TI:=fun σ H R=>tl σ H fun x H1=>∃a,x=.ref a/\(∃xs,SqL K H1 a xs)/\R (Itl K a) H1
theorem Xju {tl:TE}(hl:PE X l tl):PI X tg l (Xfp X.K tl):=by
 intro pins s σ H R I h;refine thn (hl pins s σ H _ I h) fun v s1 hz9=>?_;obtain ⟨x,H1,I1,r1,q1⟩:=hz9;obtain ⟨a,e,⟨xs,hq⟩,q⟩:=q1;subst e;cases r1;obtain ⟨its,rv,p,hz⟩:=I1.list hq;refine FW p.isList ?_;refine ⟨s1.heap.objs.size,[s1.heap.objs.size],_,_,H1,rfl,I1.kept (t':=s1.toks) fun b o e=>Ae _ e,Zwi a _,⟨_,Av _ rfl,rfl,rfl⟩,fun b hb=>?_,q⟩;have e:b=s1.heap.objs.size:=by simpa using hb
 subst e;exact I1.fpOk (As _) (I1.hok.fresh (As _))
theorem Zsv {R:It->Hp->Prop}{lo hi:Int}{t u v:Tok}(I:Inv X pins σ H s)(h1:-(2 ^ 62)<=lo)(h2:lo<2 ^ 62)(h3:-(2 ^ 62)<=hi)(h4:hi<2 ^ 62)
    (q:R (Itr lo (hi - lo).toNat) H):Am (Aw X.prog X.w) X.A (GS (.ref s.heap.objs.size)) (PIE X pins σ tg R) E {s with heap:=s.heap.push {cls:=.type "range",data:=.fields #[.int lo t,.int hi u,.int 1 v]},toks:=tk}:=by
  refine wpAny_pyIter_range (IsRange.new ..) (small_one h1 h2 h3 h4) ?_;have I1:Inv X pins σ H {s with heap:=s.heap.push {cls:=.type "range",data:=.fields #[.int lo t,.int hi u,.int 1 v]},toks:=tk}:=I.kept fun b o e=>Ae _ e;refine ⟨(s.heap.push {cls:=.type "range",data:=.fields #[.int lo t,.int hi u,.int 1 v]}).objs.size,[(s.heap.push {cls:=.type "range",data:=.fields #[.int lo t,.int hi u,.int 1 v]}).objs.size],_,_,H,rfl,
    I1.kept (t':=tk) fun b o e=>Ae _ e,Ztn _ lo (hi - lo).toNat,?_,fun b hb=>?_,q⟩
  have e1:lo+((0:Nat):Int)*1=lo:=by simp
  have e2:(((hi - lo).toNat:Nat):Int) - ((0:Nat):Int)=Fj lo hi 1:=by rw [Lc];split<;>omega
  show IsRangeIter _ _ (lo+((0:Nat):Int)*1) ((((hi - lo).toNat:Nat):Int) - ((0:Nat):Int)) 1;rw [e1,e2];exact Av _ rfl;have e:b=(s.heap.push {cls:=.type "range",data:=.fields #[.int lo t,.int hi u,.int 1 v]}).objs.size:=by simpa using hb
  subst e;exact I1.fpOk (As _) (I1.hok.fresh (As _))
def Xfi (ta:TA):TI:=fun σ H R=>ta σ H fun vs H1=>∃j:Int,vs=[.int j]/\-(2 ^ 62)<=j/\j<2 ^ 62/\R (Itr 0 j.toNat) H1
def Xem (ta:TA):TI:=fun σ H R=>ta σ H fun vs H1=>∃i j:Int,vs=[.int i,.int j]/\(-(2 ^ 62)<=i/\i<2 ^ 62/\-(2 ^ 62)<=j/\j<2 ^ 62)/\R (Itr i (j - i).toNat) H1
theorem Zzs {a:Expr}{ta:TA}(hg:Gl X "range")(hm:X.mg "range"=none)(ha:PA X [a] ta)(hs:Ad [a] X.env=[(false,A9 a X.env)]:=by rfl):PI X tg (.Call (.Name "range" p) [a] [] pos) (Xfi ta):=by
 intro pins s σ H R I h;refine Call_ (Zgv I hg hm boot_range (BR (thn (ha pos pins s σ H _ I h) fun us s1 hz9=>?_) hs rfl));obtain ⟨vs,H1,I1,r1,q1⟩:=hz9;obtain ⟨j,e,q1,q2,q⟩:=q1;subst e;cases r1 with
 | cons r rr =>cases rr;obtain ⟨t,rfl⟩:=r;exact call_range_1 (Zsv I1 (by omega) (by omega) q1 q2 (by simpa using q))
theorem Zvp {a b:Expr}{ta:TA}(hg:Gl X "range")(hm:X.mg "range"=none)(ha:PA X [a,b] ta)(hs:Ad [a,b] X.env=[(false,A9 a X.env),(false,A9 b X.env)]:=by rfl)(hs2:Ad [b] X.env=[(false,A9 b X.env)]:=by rfl) :
  PI X tg (.Call (.Name "range" p) [a,b] [] pos) (Xem ta):=by
 intro pins s σ H R I h;refine Call_ (Zgv I hg hm boot_range (BR (thn (ha pos pins s σ H _ I h) fun us s1 hz9=>?_) (by rw [hs,hs2]) (by rw [hs2];rfl)));obtain ⟨vs,H1,I1,r1,q1⟩:=hz9;obtain ⟨i,j,e,⟨q1,q2,q3,q4⟩,q⟩:=q1;subst e;cases r1 with
 | cons r rr =>
  cases rr with
  | cons r' rr =>cases rr;obtain ⟨t,rfl⟩:=r;obtain ⟨t',rfl⟩:=r';exact call_range_2 (Zsv I1 q1 q2 q3 q4 q)
def Xho (wi:TI)(g:TG)(tb:TS):TS:=fun D σ H=>wi σ H fun J H1=>∃W:Nat->Nat->St->Hp->Prop,(∃m,W 0 m σ H1)/\∀i m σ H,W i m σ H->
 (J.stop i H/\D.nx σ H)\/(J.go i H/\∃N:St->Hp->Prop,(∀σ' H',N σ' H'->∃m',m'<m/\W (i+1) m' σ' H')/\∀x H',J.yld i H x H'->g x σ H' fun σ2 H2=>tb {D with nx:=N,ct:=N,bk:=D.nx} σ2 H2)
def Zlj (fp:List Addr)(h:Bq):List (Addr×Obj):=fp.filterMap fun b=>(h.get? b).map fun o=>(b,o)
theorem Zcw (hb:b∈fp)(e:h.get? b=some o):(b,o)∈Zlj fp h:=HJ.mpr ⟨b,hb,by rw [e];rfl⟩
theorem Zzb {p:Addr×Obj}(hp:p∈Zlj fp h):p.1∈fp/\h.get? p.1=some p.2:=by
 obtain ⟨b,hb,e⟩:=HJ.mp hp;cases q:h.get? b with
 | none=>rw [q] at e;cases e
 | some o =>rw [q] at e;have e':(b,o)=p:=AK e;subst e';exact ⟨hb,q⟩
theorem Inv.pinned (I:Inv X pins σ H s)(hf:∀b∈fp,Zuo X pins H b)(ho:∀b∈fp,∃o,s.heap.get? b=some o/\∀v,o.data≠.cell v):Inv X (pins++Zlj fp s.heap) σ H s:=I.pins_of fun p hp=>(Ao.mp hp).elim (fun z=>I.pin p (Ar _ z)) fun z=>by obtain ⟨hb,e⟩:=Zzb z;obtain ⟨f0,f1,f2,_⟩:=hf p.1 hb;obtain ⟨o,e',d⟩:=ho p.1 hb;rw [e] at e';cases e';exact ⟨e,f0,f1,f2,d⟩
theorem Inv.unpinned (I:Inv X (pins++pl) σ H s):Inv X pins σ H s:=I.pins_of fun p hp=>I.pin p (Ar _ (AF _ hp))
theorem Xtd {wi:TI}{g:TG}{tb:TS}(hp:Gq (Aw X.prog X.w) X.A X.env X.xe)(hc:X.calm=true)(hi:PI X tg iter wi)(hg:PG X tg g)(hb:PSs X body tb)
  (hs:∀x,Bf iter X.env x=BD x:=by intro _;rfl):PS X (.For tg iter body [] pos) (Xho wi g tb):=by
 intro pins s σ H D I h;refine wpAny_For (thn (hi pins s σ H _ I h) fun v s1 h1=>thn h1 fun itv s2 h2=>?_) hs;obtain ⟨it,fp,tn,J,H2,e,I2,T,st2,f2,W,⟨m0,w0⟩,turn⟩:=h2;subst e;have stat:∀{H':Hp},(∀b∈fp,H' b=none)->∀b∈fp,Zuo X pins H' b:=fun hn b hb=>⟨hn b hb,(f2 b hb).2⟩;refine codeAny_forLoop_any (fun n s'=>∃i σ' H',Inv X pins σ' H' s'/\tn i s'.heap/\(∀b∈fp,H' b=none)/\W i n σ' H') ?_ m0 ⟨0,σ,H2,I2,st2,fun b hb=>(f2 b hb).1,w0⟩;rintro n s3 ⟨i,σ3,H3,I3,st3,fr3,w3⟩;rcases turn i n σ3 H3 w3 with ⟨stop,qn⟩ | ⟨go,N,hN,step⟩
 ·refine DU hp (thn (T.done X rfl rfl rfl hc i pins s3 σ3 H3 X.xe I3 (stat fr3) st3 stop) fun r s4 ⟨hr,I4⟩=>?_);subst hr;exact GF ⟨σ3,H3,I4,qn⟩
 ·refine DU hp (thn (T.item X rfl rfl rfl hc i pins s3 σ3 H3 X.xe I3 (stat fr3) st3 go) fun r s4 ⟨u,hr,h4⟩=>?_);subst hr;refine DU hp (thn h4 fun _ s5 hz9=>?_);obtain ⟨x,H5,I5,r5,y5,st5,fr5⟩:=hz9;have I5':=I5.pinned (stat fr5) (T.obj _ _ st5);refine DU hp (thn (hg _ s5 σ3 H5 x u _ I5' r5 (step x H5 y5)) fun _ s6 hz9=>?_);obtain ⟨σ6,H6,I6,q6⟩:=hz9;refine DU hp (thn (hb _ s6 σ6 H6 _ I6 q6) fun f s7 q7=>?_);have Kb:∀{σ7:St} {H7:Hp},Inv X (pins++Zlj fp s5.heap) σ7 H7 s7->N σ7 H7->∃m,m<n/\∃i σ' H',Inv X pins σ' H' s7/\tn i s7.heap/\(∀b∈fp,H' b=none)/\W i m σ' H':=fun {σ7 H7} I7 n7=>by obtain ⟨m',hm,w7⟩:=hN σ7 H7 n7;refine ⟨m',hm,i+1,σ7,H7,I7.unpinned,T.keep _ _ _ st5 fun b hb o e=>(I7.pin (b,o) (Ar _ (Ar _ (Zcw hb e)))).1,fun b hb=>?_,w7⟩;obtain ⟨o,e,d⟩:=T.obj _ _ st5 b hb;exact (I7.pin (b,o) (Ar _ (Ar _ (Zcw hb e)))).2.1
  cases f with
  | next=>obtain ⟨σ7,H7,I7,n7⟩:=q7;exact Kb I7 n7
  | cont=>obtain ⟨σ7,H7,I7,n7⟩:=q7;exact Kb I7 n7
  | brk=>obtain ⟨σ7,H7,I7,q7⟩:=q7;exact ⟨σ7,H7,I7.unpinned,q7⟩
  | ret v=>obtain ⟨x7,σ7,H7,I7,r7,q7⟩:=q7;exact ⟨x7,σ7,H7,I7.unpinned,r7,q7⟩
abbrev R2:=V->V->Hp->VK->Prop
def OpR (X:Cx)(f:Value->Value->Sem Value)(r:R2):Prop:=
 ∀(pins:List (Addr×Obj)) (s:Af) (σ:St) (H:Hp) (x y:V) (v u:Value) (Q:VK),Inv X pins σ H s->RelV x v->RelV y u->r x y H Q->
  Am (Aw X.prog X.w) X.A (f v u) (EP X pins σ Q) X.xe s
def UnR (X:Cx)(f:Value->Sem Value)(r:V->Hp->VK->Prop):Prop:=
 ∀(pins:List (Addr×Obj)) (s:Af) (σ:St) (H:Hp) (x:V) (v:Value) (Q:VK),Inv X pins σ H s->RelV x v->r x H Q->
  Am (Aw X.prog X.w) X.A (f v) (EP X pins σ Q) X.xe s
def Jx (X:Cx)(f:Value)(r:List V->Hp->VK->Prop):Prop:=
 ∀(pins:List (Addr×Obj)) (s:Af) (σ:St) (H:Hp) (xs:List V) (us:List Value) (Q:VK),Inv X pins σ H s->Yk xs us->r xs H Q->
  Am (Aw X.prog X.w) X.A (call f us) (EP X pins σ Q) X.xe s
def TruR (X:Cx)(r:V->Hp->(Bool->Hp->Prop)->Prop):Prop:=
 ∀(pins:List (Addr×Obj)) (s:Af) (σ:St) (H:Hp) (x:V) (v:Value) (Q:Bool->Hp->Prop),Inv X pins σ H s->RelV x v->r x H Q->
  Am (Aw X.prog X.w) X.A (HP v) (TP X pins σ Q) X.xe s
def tOp (r:R2)(ta tb:TE):TE:=fun σ H Q=>ta σ H fun x H1=>tb σ H1 fun y H2=>r x y H2 Q
def tUn (r:V->Hp->VK->Prop)(ta:TE):TE:=fun σ H Q=>ta σ H fun x H1=>r x H1 Q
def rI (C:Int->Int->Prop)(g:Int->Int->V):R2:=fun x y H Q=>∃i j,x=.int i/\y=.int j/\C i j/\Q (g i j) H
def rI0 (g:Int->Int->V):R2:=fun x y H Q=>∃i j,x=.int i/\y=.int j/\Q (g i j) H
def rU (g:Int->V):V->Hp->VK->Prop:=fun x H Q=>∃i,x=.int i/\Q (g i) H
section
variable {a b:Expr}
theorem binT (ha:PE X a ta)(hb:PE X b tb){R:V->V->Hp->Prop}(I:Inv X pins σ H s)
  (h:ta σ H fun x H1=>tb σ H1 fun y H2=>R x y H2) {Q:Value->Af->Prop} {f:Value->Value->Sem Value}
  (hf:∀v u s2 x y H2,Inv X pins σ H2 s2->RelV x v->RelV y u->R x y H2->Am (Aw X.prog X.w) X.A (f v u) Q X.xe s2) :
  Am (Aw X.prog X.w) X.A (A9 a X.env) (fun v s₁=>Am (Aw X.prog X.w) X.A (A9 b X.env) (fun u s₂=>Am (Aw X.prog X.w) X.A (f v u) Q X.xe s₂) X.xe s₁) X.xe s:=by
 refine thn (ha pins s σ H _ I h) fun v s1 hz9=>?_;obtain ⟨x,H1,I1,r1,q1⟩:=hz9;refine thn (hb pins s1 σ H1 _ I1 q1) fun u s2 hz9=>?_;obtain ⟨y,H2,I2,r2,q2⟩:=hz9;exact hf v u s2 x y H2 I2 r1 r2 q2
theorem pe_op {op:G2}{r:R2}(ho:OpR X (B8 op) r)(ha:PE X a ta)(hb:PE X b tb):PE X (.BinOp a op b pos) (tOp r ta tb):=by intro pins s σ H Q I h;exact wpAny_BinOp (binT ha hb I h fun v u s2 x y H2 I2 rx ry q=>ho pins s2 σ H2 x y v u Q I2 rx ry q)
theorem pe_un {op:UnaryOp}{r:V->Hp->VK->Prop}(ho:UnR X (unaryOp op) r)(ha:PE X a ta):PE X (.UnaryOp op a pos) (tUn r ta):=by intro pins s σ H Q I h;exact UnaryOp_ (thn (ha pins s σ H _ I h) fun v s1 ⟨x,H1,I1,r1,q1⟩=>ho pins s1 σ H1 x v Q I1 r1 q1)
theorem opI {C:Int->Int->Prop}{g:Int->Int->Int}
  (rule:∀(i j:Int) (t u:Tok) (s:Af) (Q:Value->Af->Prop) (E:Value->Af->Prop),C i j->Q (.int (g i j) s.toks) {s with toks:=s.toks+1}->Am (Aw X.prog X.w) X.A (f (.int i t) (.int j u)) Q E s) :
  OpR X f (rI C fun i j=>.int (g i j)):=by
 intro pins s σ H x y v u Q I rx ry h;obtain ⟨i,j,rfl,rfl,hc,q⟩:=h;obtain ⟨t,rfl⟩:=rx;obtain ⟨t',rfl⟩:=ry;exact rule i j t t' s _ _ hc ⟨.int (g i j),H,I.tok _,⟨_,rfl⟩,q⟩
theorem opI0 {g:Int->Int->Int}
  (rule:∀(i j:Int) (t u:Tok) (s:Af) (Q:Value->Af->Prop) (E:Value->Af->Prop),Q (.int (g i j) s.toks) {s with toks:=s.toks+1}->Am (Aw X.prog X.w) X.A (f (.int i t) (.int j u)) Q E s) :
  OpR X f (rI0 fun i j=>.int (g i j)):=by
 intro pins s σ H x y v u Q I rx ry h;obtain ⟨i,j,rfl,rfl,q⟩:=h;obtain ⟨t,rfl⟩:=rx;obtain ⟨t',rfl⟩:=ry;exact rule i j t t' s _ _ ⟨.int (g i j),H,I.tok _,⟨_,rfl⟩,q⟩
theorem opB0 {g:Int->Int->Bool}
  (rule:∀(i j:Int) (t u:Tok) (s:Af) (Q:Value->Af->Prop) (E:Value->Af->Prop),Q (.bool (g i j)) s->Am (Aw X.prog X.w) X.A (f (.int i t) (.int j u)) Q E s) :
  OpR X f (rI0 fun i j=>.bl (g i j)):=by
 intro pins s σ H x y v u Q I rx ry h;obtain ⟨i,j,rfl,rfl,q⟩:=h;obtain ⟨t,rfl⟩:=rx;obtain ⟨t',rfl⟩:=ry;exact rule i j t t' s _ _ ⟨.bl (g i j),H,I,rfl,q⟩
def CPow (i j:Int):Prop:=0<=j/\j<=1000000/\i.natAbs<2 ^ 64
def Xoq (i j:Int):Prop:=(-(2 ^ 64)<i/\i<2 ^ 64)\/(-(2 ^ 64)<j/\j<2 ^ 64)
theorem Xoq.ok {i j:Int}(h:Xoq i j):IntMulOk i j:=by rcases h with ⟨h1,h2⟩ | ⟨h1,h2⟩;exact .of_left (Le h1 h2);exact .of_right (Le h1 h2)
theorem Xrc:OpR X (B8 .Add) (rI0 fun i j=>.int (i+j)):=opI0 fun _ _ _ _ _ _ _ q=>add_int q
theorem Zfq:OpR X (B8 .Sub) (rI0 fun i j=>.int (i - j)):=opI0 fun _ _ _ _ _ _ _ q=>sub_int q
theorem Xpa:OpR X (B8 .Mult) (rI Xoq fun i j=>.int (i*j)):=opI fun _ _ _ _ _ _ _ hc q=>mul_int q hc.ok
theorem Zad:OpR X (B8 .Mod) (rI (fun _ j=>0<j) fun i j=>.int (i % j)):=opI fun i j _ _ _ _ _ hc q=>by have h1:(0:Int)<j:=hc;exact mod_int' (by omega) (by rw [Int.fmod_eq_emod_of_nonneg i (by omega)];exact q)
theorem Zdz:OpR X (B8 .Pow) (rI CPow fun i j=>.int (i ^ j.toNat)):=opI fun _ _ _ _ _ _ _ hc q=>pow_int_small hc.1 hc.2.1 hc.2.2 q
theorem unI {f:Value->Sem Value}{g:Int->Int}
  (rule:∀(i:Int) (t:Tok) (s:Af) (Q:Value->Af->Prop) (E:Value->Af->Prop),Q (.int (g i) s.toks) {s with toks:=s.toks+1}->Am (Aw X.prog X.w) X.A (f (.int i t)) Q E s) :
  UnR X f (rU fun i=>.int (g i)):=by
 intro pins s σ H x v Q I rx h;obtain ⟨i,rfl,q⟩:=h;obtain ⟨t,rfl⟩:=rx;exact rule i t s _ _ ⟨.int (g i),H,I.tok _,⟨_,rfl⟩,q⟩
theorem Xru:UnR X (unaryOp .USub) (rU fun i=>.int (-i)):=unI fun _ _ _ _ _ q=>neg_int q
end
def scal:V->V->Bool
 | .non,.non=>true | .non,.int _=>true | .int _,.non=>true | .non,.bl _=>true | .bl _,.non=>true | .non,.str _=>true | .str _,.non=>true
 | .int _,.int _=>true | .bl _,.bl _=>true | .str _,.str _=>true | .byt _,.byt _=>true
 | .int _,.str _=>true | .str _,.int _=>true | .bl _,.str _=>true | .str _,.bl _=>true
 | _,_=>false
def rEq:R2:=fun x y H Q=>scal x y=true/\Q (.bl (decide (x=y))) H
theorem Xmo {i j:Int}:decide (V.int i=V.int j)=(i==j):=by rw [Dm];simp
theorem Xqe {i j:Bool}:decide (V.bl i=V.bl j)=(i==j):=by rw [Dm];simp
theorem Xnw {i j:Str}:decide (V.str i=V.str j)=(i==j):=by rw [Dm];simp
theorem Xiz {i j:Array UInt8}:decide (V.byt i=V.byt j)=(i.toList==j.toList):=by rw [Dm];cases i;cases j;simp
section
variable {a b:Expr}
theorem Zam {Q:VK}{k k':Bool}(I:Inv X pins σ H s)(q:Q (.bl k) H)(e:k=k'):EP X pins σ Q (.bool k') s:=by subst e;exact ⟨.bl k,H,I,rfl,q⟩
theorem op_eq:OpR X (BU .Eq) rEq:=by
 intro pins s σ H x y v u Q I rx ry h;obtain ⟨hs,q⟩:=h;cases x with
 | non =>
  cases rx;cases y with
  | non=>cases ry;exact PySem.EqNone.eq_none_none (Zam I q (by simp))
  | bl j=>cases ry;exact PySem.EqNone.eq_none_bool (Zam I q (by simp))
  | int j=>obtain ⟨t',rfl⟩:=ry;exact PySem.EqNone.eq_none_int (Zam I q (by simp))
  | str j=>obtain ⟨t',rfl⟩:=ry;exact PySem.EqNone.eq_none_str (Zam I q (by simp))
  | _=>exact absurd (show false=true from hs) Au
 | bl i =>
  cases rx;cases y with
  | non=>cases ry;exact PySem.EqNone.eq_bool_none (Zam I q (by simp))
  | bl j=>cases ry;exact eq_bool (Zam I q Xqe)
  | str j=>obtain ⟨t',rfl⟩:=ry;exact PySem.EqMixed.eq_bool_str (Zam I q (by simp))
  | _=>exact absurd (show false=true from hs) Au
 | int i =>
  obtain ⟨t,rfl⟩:=rx;cases y with
  | non=>cases ry;exact PySem.EqNone.eq_int_none (Zam I q (by simp))
  | int j=>obtain ⟨t',rfl⟩:=ry;exact eq_int (Zam I q Xmo)
  | str j=>obtain ⟨t',rfl⟩:=ry;exact PySem.EqMixed.eq_int_str (Zam I q (by simp))
  | _=>exact absurd (show false=true from hs) Au
 | str i =>
  obtain ⟨t,rfl⟩:=rx;cases y with
  | non=>cases ry;exact PySem.EqNone.eq_str_none (Zam I q (by simp))
  | bl j=>cases ry;exact PySem.EqMixed.eq_str_bool (Zam I q (by simp))
  | int j=>obtain ⟨t',rfl⟩:=ry;exact PySem.EqMixed.eq_str_int (Zam I q (by simp))
  | str j=>obtain ⟨t',rfl⟩:=ry;exact eq_str (Zam I q Xnw)
  | _=>exact absurd (show false=true from hs) Au
 | byt i =>
  obtain ⟨t,rfl⟩:=rx;cases y with
  | byt j=>obtain ⟨t',rfl⟩:=ry;exact PySem.W.eq_bytes (Zam I q Xiz)
  | _=>exact absurd (show false=true from hs) Au
 | _=>cases y<;>exact absurd (show false=true from hs) Au
theorem Zhv:OpR X (BU .Lt) (rI0 fun i j=>.bl (decide (i<j))):=opB0 fun _ _ _ _ _ _ _ q=>lt_int q
theorem Xql:OpR X (BU .LtE) (rI0 fun i j=>.bl (decide (i<=j))):=opB0 fun _ _ _ _ _ _ _ q=>le_int q
theorem Zqe:OpR X (BU .Gt) (rI0 fun i j=>.bl (decide (j<i))):=opB0 fun _ _ _ _ _ _ _ q=>gt_int q
theorem Xqt:OpR X (BU .GtE) (rI0 fun i j=>.bl (decide (j<=i))):=opB0 fun _ _ _ _ _ _ _ q=>ge_int q
theorem OpR.or {r r':R2}(h:OpR X f r)(h':OpR X f r'):OpR X f (fun x y H Q=>r x y H Q\/r' x y H Q):=by intro pins s σ H x y v u Q I rx ry q;rcases q with q | q;exact h pins s σ H x y v u Q I rx ry q;exact h' pins s σ H x y v u Q I rx ry q
theorem Xu (b:Expr)(h:op≠.In:=by decide)(h2:op≠.NotIn:=by decide):C1 op b=false:=by
 have e1:(op==CmpOp.In)=false:=by cases op<;>first | rfl | exact absurd rfl h
 have e2:(op==CmpOp.NotIn)=false:=by cases op<;>first | rfl | exact absurd rfl h2
 cases b<;>simp [C1,e1,e2]
theorem Xjq {r:R2}(ho:OpR X (BU op) r)(ha:PE X a ta)(hb:PE X b tb)(hm:C1 op b=false):PE X (.Compare a [op] [b] pos) (tOp r ta tb):=by intro pins s σ H Q I h;exact wpAny_Compare1 (binT ha hb I h fun v u s2 x y H2 I2 rx ry q=>ho pins s2 σ H2 x y v u Q I2 rx ry q) hm
def Xdr (t:TE):TT:=fun σ H Q=>t σ H fun x H'=>∃k,x=.bl k/\Q k H'
theorem Xjy {r:R2}(ho:OpR X (BU op) r)(ha:PE X a ta)(hb:PE X b tb)(hm:C1 op b=false):PT X (.Compare a [op] [b] pos) (Xdr (tOp r ta tb)):=by
  intro pins s σ H Q I h;refine wpAny_isTrue_Compare1 (thn (ha pins s σ H _ I h) fun v s1 ⟨x,H1,I1,r1,q1⟩=>thn (hb pins s1 σ H1 _ I1 q1) fun u s2 ⟨y,H2,I2,r2,q2⟩ =>
    thn (ho pins s2 σ H2 x y v u _ I2 r1 r2 q2) fun c s3 ⟨z,H3,I3,r3,k,e,q3⟩=>?_) hm
  subst e;cases r3;exact DE ⟨H3,I3,q3⟩
def TruV (K:AO)(x:V)(H:Hp)(k:Bool):Prop:=
 match x with
 | .non=>k=false
 | .bl b=>k=b
 | .int i=>k=(i != 0)
 | .str y=>y.length<=Ap/\k=((y.length:Int) != 0)
 | .byt y=>y.size<=Ap/\k=((y.size:Int) != 0)
 | .ref p=>(∃xs,SqL K H p xs/\k=!xs.isEmpty)\/(∃xs,SqT K H p xs/\k=!xs.isEmpty)\/∃kvs,H p=some (.dK kvs)/\k=!kvs.isEmpty
 | _=>False
theorem Zvc {kvs:List (κ×V)}{vs:List (κ×Value)}(r:KV kvs vs):(!vs.isEmpty)=!kvs.isEmpty:=by cases r<;>rfl
theorem Zis (r:Yk xs its):(!its.toArray.isEmpty)=!xs.isEmpty:=by cases r<;>simp
theorem Zjf:(Ap:Nat)<2 ^ 63:=by rw [Ep];decide
theorem Xtc:TruR X (fun x H Q=>∃k,TruV X.K x H k/\Q k H):=by
 intro pins s σ H x v Q I rx h;obtain ⟨k,e,q⟩:=h;have hl:=Zjf;have hs:Ap=16777216:=Ep;cases x with
 | non =>cases rx;have e':k=false:=e;subst e';exact truthy_none ⟨H,I,q⟩
 | bl b =>cases rx;have e':k=b:=e;subst e';exact DE ⟨H,I,q⟩
 | int i =>obtain ⟨t,rfl⟩:=rx;have e':k=(i != 0):=e;subst e';exact PySem.P.truthy_int ⟨H,I,q⟩
 | str y =>obtain ⟨t,rfl⟩:=rx;obtain ⟨hy,e'⟩:y.length<=Ap/\k=((y.length:Int) != 0):=e;subst e';exact PySem.P.truthy_str (by omega) ⟨H,I.tok _,q⟩
 | byt y =>obtain ⟨t,rfl⟩:=rx;obtain ⟨hy,e'⟩:y.size<=Ap/\k=((y.size:Int) != 0):=e;subst e';exact PySem.W.truthy_bytes (by omega) ⟨H,I.tok _,q⟩
 | ref p =>cases rx;have e':(∃xs,SqL X.K H p xs/\k=!xs.isEmpty)\/(∃xs,SqT X.K H p xs/\k=!xs.isEmpty)\/∃kvs,H p=some (.dK kvs)/\k=!kvs.isEmpty:=e;rcases e' with ⟨xs,hx,e'⟩ | ⟨xs,hx,e'⟩ | ⟨kvs,hx,e'⟩;subst e';obtain ⟨its,r,pl,hz⟩:=I.list hx;have hlen:=r.length;exact wpAny_truthy_list pl.isList (by simp only [AE];omega) ⟨H,I.tok _,by rw [Zis r];exact q⟩;subst e';obtain ⟨its,r,pl,hz⟩:=I.tuple hx;have hlen:=r.length;exact truthy_tuple pl (by simp only [AE];omega) ⟨H,I.tok _,by rw [Zis r];exact q⟩;subst e';obtain ⟨hz,hS,vs,r,m⟩:kvs.length<=Ap/\(p==B5)=false/\∃vs,KV kvs vs/\s.heap.DictOf (Yb X.prog X.w) p vs:=I.hok p _ hx;have hlen:kvs.length=vs.length:=Paired.length r;exact wpAny_truthy_dict hS m (by omega) ⟨H,I.tok _,by rw [Zvc r];exact q⟩
 | _=>exact (show False from e).elim
theorem Xdo (ha:PE X a ta)(he:∀whole,isTrue a X.env whole=(do let v <- whole;EO a.pos;Cs [v] (HP v))) :
  PT X a (fun σ H Q=>ta σ H fun x H'=>∃k,TruV X.K x H' k/\Q k H'):=by
 intro pins s σ H Q I h;exact isTrue_plain (thn (ha pins s σ H _ I h) fun v s1 ⟨x,H1,I1,r1,q1⟩=>Xtc pins s1 σ H1 x v Q I1 r1 q1) (he _)
theorem Zum:OpR X (B8 .Add) (fun x y H Q=>∃i j,x=.str i/\y=.str j/\i.length+j.length<=Ap/\Q (.str (i++j)) H):=by intro pins s σ H x y v u Q I rx ry h;obtain ⟨i,j,rfl,rfl,hz,q⟩:=h;obtain ⟨t,rfl⟩:=rx;obtain ⟨t',rfl⟩:=ry;exact add_str (fun t' tk=>⟨.str (i++j),H,I.tok _,⟨_,rfl⟩,q⟩) hz
theorem vals1 {x:V}(r:Yk [x] us):∃u,us=[u]/\RelV x u:=by
 cases r with
 | cons r1 r2=>cases r2;exact ⟨_,rfl,r1⟩
theorem vals2 {x y:V}(r:Yk [x,y] us):∃u w',us=[u,w']/\RelV x u/\RelV y w':=by
 cases r with
 | cons r1 r2 =>
  cases r2 with
  | cons r3 r4=>cases r4;exact ⟨_,_,rfl,r1,r3⟩
theorem Xap (hc:X.calm=true):Jx X (.builtin "min") (fun xs H Q=>∃i j,xs=[.int i,.int j]/\Q (.int (if j<i then j else i)) H):=by intro pins s σ H xs us Q I r h;obtain ⟨i,j,rfl,q⟩:=h;obtain ⟨u,w',rfl,⟨t,rfl⟩,⟨t',rfl⟩⟩:=vals2 r;refine min_two_ints (I.ok.hd hc) fun h' tk k=>⟨_,H,I.kept k,?_,q⟩;by_cases hj:j<i;rw [if_pos hj,if_pos hj];exact ⟨_,rfl⟩;rw [if_neg hj,if_neg hj];exact ⟨_,rfl⟩
end
structure ObjM (h:Bq)(x dx C:Addr)(mA:Str->Option Value):Prop where
 obj:h.get? x=some (PySem.W.instObj C dx)
 ns:h.Ns1 dx mA
 ne:dx≠x
section
variable {x f:Addr}{v:Value}
end
theorem Xbj.some_of {o:Option Value}(r:Xbj (some v) o):∃u,o=some u/\RelV v u:=by
 cases o with
 | none=>exact (show False from r).elim
 | some u=>exact ⟨u,rfl,r⟩
section
variable {fs:List (Str×V)}
end
structure Cls (K:AO)(C:Addr):Prop where
 pg:PySem.W.plainGet K C Str.empty=true
 hd:PySem.W.hasDictIn K C=true
 po:PySem.W.plainOver K C=true
 sa:DX K (.ref C) "__setattr__"=some (some (.builtin "object.__setattr__"))
structure Con (K:AO)(C:Addr)(f:Str)(v:V)(u:Value):Prop where
 at_:DX K (.ref C) f=some (some u)
 rel:RelV v u
 get:HB K u "__get__"=some none
 cp:PySem.W.copiedNames.contains f=false
structure Meth (K:AO)(C:Addr)(m:Str)(f:Addr):Prop where
 at_:DX K (.ref C) m=some (some (.ref f))
 fn:isFn K (.ref f)=true
 kp:ES K (.ref f)=true
section
variable {fs:List (Str×V)}{f:Str}
end
section
variable {o value:Expr}{f:Str}{tpos:Pos}{tv:TE}
end
section
variable {c:Value}{b:Bool}
inductive TyOf (K:AO)(H:Hp):V->Value->Prop where
 | non:TyOf K H .non (.type "NoneType")
 | bl (x:Bool):TyOf K H (.bl x) (.type "bool")
 | int (i:Int):TyOf K H (.int i) (.type "int")
 | str (x:Str):TyOf K H (.str x) (.type "str")
 | flt (x:UInt64):TyOf K H (.flt x) (.type "float")
 | lst {a:Addr} {xs:List V} (e:H a=some (.lst xs)):TyOf K H (.ref a) (.type "list")
 | frz {a:Addr} {o:Obj} {xs:List V} (e:H a=some (.frz o (.lst xs))):TyOf K H (.ref a) (.type "list")
 | tup {a:Addr} {xs:List V} (e:H a=some (.tup xs)):TyOf K H (.ref a) (.type "tuple")
 | dK {a:Addr} {kvs:List (Key×V)} (e:H a=some (.dK kvs)):TyOf K H (.ref a) (.type "dict")
 | dT {a:Addr} {kvs:List (List Key×V)} (e:H a=some (.dT kvs)):TyOf K H (.ref a) (.type "dict")
 | ins {a C dx:Addr} {fs:List (Str×V)} (e:H a=some (.ins C dx fs)) (cl:Cls K C) (ha:DX K (.ref C) "__class__"=some (some (.builtin "object.__class__")))
   (hn:HB K (.builtin "object.__class__") "__get__"=some (some (.builtin "getset_descriptor.__get__"))) (htk:PySem.W.takesIn K (.builtin "object.__class__")=some true)
   (hm:PySem.W.mroIn K C (.type "object")=some true):TyOf K H (.ref a) (.ref C)
end
structure Zfo (k:Nat)(A:Bh):Prop where
 hd:A.handled=none
 dp:A.depth+3*k+5<Fb
 un:A.units+16*k+200<BC
 gd:A.guards=some []
theorem Zfo.mono (r:Zfo k A)(h:j<=k):Zfo j A:=⟨r.hd,by have:=r.dp;omega,by have:=r.un;omega,r.gd⟩
theorem Zfo.deeper {k:Nat}{A:Bh}(r:Zfo (k+1) A)(env:Env):Zfo k (A.deeper env):=⟨r.hd,by have:=r.dp;show A.depth+1+3*k+5<_;omega,by have:=r.un;show A.units+3+16*k+200<_;omega,r.gd⟩
theorem Zfo.depth {k:Nat}{A:Bh}(r:Zfo k A):A.depth<Fb:=by have:=r.dp;omega
theorem Zfo.units {k:Nat}{A:Bh}(r:Zfo k A):A.units+64<BC:=by have:=r.un;omega
def Ztt:TA:=fun _ H Q=>Q [] H
def Zbu (ta:TE)(tr:TA):TA:=fun σ H Q=>ta σ H fun x H1=>tr σ H1 fun xs H2=>Q (x::xs) H2
section
variable {t:TA}
theorem Zso:PA X [] Ztt:=fun _ _ _ _ H Q I h=>Calls.spliced_nil ⟨[],H,I,.nil,h⟩
theorem Zgr (ha:PE X e te)(hr:PA X es t)(hs:Ad (e::es) X.env=(false,A9 e X.env)::Ad es X.env:=by rfl):PA X (e::es) (Zbu te t):=by intro pos pins s σ H Q I h;rw [hs];show Am _ _ (spliced ((false,A9 e X.env)::BG pos (Ad es X.env))) _ _ s;refine Calls.spliced_cons (thn (ha pins s σ H _ I h) fun u s1 hz9=>?_);obtain ⟨x,H1,I1,r1,q1⟩:=hz9;exact thn (hr pos pins s1 σ H1 _ I1 q1) fun us s2 ⟨xs,H2,I2,r2,q2⟩=>⟨x::xs,H2,I2,.cons r1 r2,q2⟩
def Xpo (t:TA):TE:=fun σ H Q=>t σ H fun xs H1=>xs.length<=Ap/\∀p,H1 p=none->Q (.ref p) (upd H1 p (.tup xs))
def Xoh (t:TA):TE:=fun σ H Q=>t σ H fun xs H1=>xs.length<=Ap/\∀p,H1 p=none->Q (.ref p) (upd H1 p (.lst xs))
theorem Xqo {x1}(h:PA X es t):PE X (.Tuple es x1 pos) (Xpo t):=by intro pins s σ H Q I hq;refine wpAny_Tuple_spliced (thn (h pos pins s σ H _ I hq) fun us s1 ⟨xs,H1,I1,r,z,q⟩=>⟨by rw [<- r.length];exact z,?_⟩);have hf:H1 s1.heap.objs.size=none:=I1.hok.fresh (As _);refine ⟨.ref s1.heap.objs.size,upd H1 s1.heap.objs.size (.tup xs),I1.laid (t':=s1.toks) (fun b u e=>Ae _ e) (As _) ?_,rfl,q _ hf⟩;exact ⟨z,us,r,⟨_,Av _ rfl,rfl,_,rfl⟩⟩
theorem Xqg (h:PA X es t):PE X (.List es pos) (Xoh t):=by intro pins s σ H Q I hq;refine wpAny_List_spliced (thn (h pos pins s σ H _ I hq) fun us s1 ⟨xs,H1,I1,r,z,q⟩=>⟨by rw [<- r.length];exact z,?_⟩);have hf:H1 s1.heap.objs.size=none:=I1.hok.fresh (As _);refine ⟨.ref s1.heap.objs.size,upd H1 s1.heap.objs.size (.lst xs),I1.laid (t':=s1.toks) (fun b u e=>Ae _ e) (As _) ?_,rfl,q _ hf⟩;exact ⟨z,us,0,r,Av _ rfl⟩
end
abbrev Sp:=List V->Hp->VK->XK->Prop
abbrev CXT:=List Env->Hp->Af->XK->Value->Af->Prop
structure Xrp (P:AQ)(w:Bl)(K:AO)(mg:Str->Option Value)(base:Bq)(A:Bh)(outer:List Env)(s:Af)(H:Hp):Prop where
 frames:A.frames=some outer
 mod:Mod K mg base
 bs:∀b o,base.get? b=some o->s.heap.get? b=some o/\H b=none
 bsz:base.objs.size<=s.heap.objs.size
 funs:s.heap.FunFrames base outer
 frf:∀b∈frs outer,H b=none
 hok:HOk P w H s.heap
 bare:EX s.gens
def CE (outer:List Env)(P:AQ)(w:Bl)(H:Hp)(s:Af)(Q:VK)(u:Value)(s':Af):Prop:=
 ∃v H',s'.os=s.os/\EX s'.gens/\Un (frs outer) [] H H' s.heap s'.heap/\HOk P w H' s'.heap/\RelV v u/\Q v H'
def CR (CX:CXT)(outer:List Env)(P:AQ)(w:Bl)(H:Hp)(s:Af)(Q:VK)(E:XK)(r:JK)(s':Af):Prop:=
 match r with
 | .ok (.ret u)=>CE outer P w H s Q u s'
 | .ok _=>False
 | .error e=>CX outer H s E e s'
structure Zbe (P:AQ)(w:Bl)(K:AO)(mg:Str->Option Value)(base:Bq)(CX:CXT)(k:Nat)(f:Addr)(fd:Ck)(ps:List Str)(sp:Sp):Prop where
 len:∀vs H Q E,sp vs H Q E->vs.length=ps.length
 run:∀(A:Bh) (outer:List Env) (s:Af) (H:Hp) (args:Args) (us:List Value) (vs:List V) (Q:VK) (E:XK),Zfo k A->Xrp P w K mg base A outer s H->Fk s fd args (ps.zip us)->Yk vs us->sp vs H Q E->
  D6 (Aw P w) A (.call (.ref f) args) (CR CX outer P w H s Q E) s
theorem Zbe.imp {f:Addr}{sp':Sp}(F:Zbe P w K mg base CX k f fd ps sp)
  (h:∀vs H Q E,sp' vs H Q E->sp vs H Q E):Zbe P w K mg base CX k f fd ps sp':=
 ⟨fun vs H Q E q=>F.len vs H Q E (h _ _ _ _ q),fun A outer s H args us vs Q E hr he hb hv hs=>F.run A outer s H args us vs Q E hr he hb hv (h _ _ _ _ hs)⟩
theorem Inv.env0 (I:Inv X pins σ H s):Xrp X.prog X.w X.K X.mg X.base X.A X.stack s H:=⟨I.ok.frames,I.ok.mod,I.bs,Az I.ok.bsz I.sz,I.stack,I.stkFree,I.hok,I.bare⟩
theorem Inv.after {Q:VK}(I:Inv X pins σ H s)(h:CE X.stack X.prog X.w H s Q u s'):EP X pins σ Q u s':=by obtain ⟨v,H',os,bare,un,hok,r,q⟩:=h;obtain ⟨hh,g,d,t,os'⟩:=s';obtain rfl:os'=s.os:=os;exact ⟨v,H',I.call (h':=hh) (g':=g) (d':=d) (t':=t) (ch:=[]) un hok bare (fun b z=>absurd z (by simp)),r,q⟩
def Zim (sp:Sp)(dvs:List V)(E:XK)(t:TA):TE:=fun σ H Q=>t σ H fun vs H1=>sp (vs++dvs) H1 Q E
def Binds (K:AO)(fd:Ck)(ps:List Str)(ds:List Value):Prop:=
 ∀(s:Af) (us:List Value),K.In s.heap->(us++ds).length=ps.length->Fk s fd ⟨us,[]⟩ (ps.zip (us++ds))
theorem Binds.all (h:∀us:List Value,us.length=ps.length->K7 fd ⟨us,[]⟩=BD (ps.zip us)):Binds K fd ps []:=fun s us _ hl=>by rw [Dg] at hl ⊢;exact .of_eq (h us hl)
def Zfk (CX:CXT)(X:Cx)(E:XK):Prop:=∀(pins:List (Addr×Obj)) (σ:St) (H:Hp) (s:Af) (e:Value) (s':Af),Inv X pins σ H s->CX X.stack H s E e s'->X.xe e s'
section
variable {f:Addr}{E:XK}{o:Expr}{t:TA}
theorem Xtb {Q:VK}(F:Zbe X.prog X.w X.K X.mg X.base CX k f fd ps sp)(hr:Zfo k X.A)(hb:Binds X.K fd ps ds)(hd:Yk dvs ds)(hx:Zfk CX X E)
  (I:Inv X pins σ H s) (r:Yk vs us) (h:sp (vs++dvs) H Q E):Am (Aw X.prog X.w) X.A (call (.ref f) us) (EP X pins σ Q) X.xe s:=by
 have r2:Yk (vs++dvs) (us++ds):=r.append hd;have hl:(us++ds).length=ps.length:=by rw [<- r2.length];exact F.len _ _ _ _ h
 refine wpAny_call (HW (F.run X.A X.stack s H ⟨us,[]⟩ (us++ds) (vs++dvs) Q E hr I.env0 (hb s us I.kIn hl) r2 h) fun r s' hq=>?_);cases r with
 | error e=>exact hx pins σ H s e s' I hq
 | ok fl =>
  cases fl with
  | ret u=>exact I.after hq
  | next=>exact False.elim hq
  | brk=>exact False.elim hq
  | cont=>exact False.elim hq
theorem Xnf (F:Zbe X.prog X.w X.K X.mg X.base CX k f fd ps sp)(hr:Zfo k X.A)(hg:Gl X x)(hm:X.mg x=some (.ref f))(hk:ES X.K (.ref f)=true)(hb:Binds X.K fd ps ds)(hd:Yk dvs ds)(hx:Zfk CX X E)
  (ha:PA X (e::es) t) (hdb:(x==("__debug__":Str))=false:=by decide) (he:Ad (e::es) X.env=(false,A9 e X.env)::Ad es X.env:=by rfl) (hpl:(BG pos (Ad es X.env)).any (·.1)=false:=by rfl) :
  PE X (.Call (.Name x p) (e::es) [] pos) (Zim sp dvs E t):=by
 intro pins s σ H Q I h;refine Ee (Zzp I hg hm ?_ hdb);refine PySem.W.callWith_K (h₀:=X.base) I.ok.mod.kin hk (thn (ha pos pins s σ H _ I h) fun us s1 ⟨vs,H1,I1,r,q⟩=>⟨I1.kIn,?_⟩) he hpl;exact Xtb F hr hb hd hx I1 r q
structure Mk (K:AO)(C f:Addr):Prop where
 makes:PySem.W.makesIn K C=true
 init:DX K (.ref C) "__init__"=some (some (.ref f))
 fn:isFn K (.ref f)=true
 kp:ES K (.ref C)=true
end
section
variable {f:Addr}{E:XK}{kpos:Pos}{o:Expr}{t tk:TA}
structure KBinds (K:AO)(fd:Ck)(ps ks:List Str)(g:List Value->List Value->List Value)(gV:List V->List V->List V):Prop where
 to:∀(s:Af) (us ws:List Value),K.In s.heap->(g us ws).length=ps.length->Fk s fd ⟨us,ks.zip ws⟩ (ps.zip (g us ws))
 rel:∀{vs:List V} {us:List Value} {zs:List V} {ws:List Value},Yk vs us->Yk zs ws->Yk (gV vs zs) (g us ws)
end
structure Xe (N P:List Str)(sc:Scope):Prop where
 kind:sc.kind=.function
 co:sc.isCoroutine=false
 gen:sc.isGenerator=false
 nd:N.Nodup
 pre:N.take P.length=P
 par:∀x∈P,sc.names.lookup x=some .local\/sc.names.lookup x=some .cell
 nofree:∀y∈sc.names,y.2≠.free
theorem Zmw {CA:Str->Option CC}{x:Str}:∀{binds:List (Str×Value)} {m:Str->Option Value},(∀v,(x,v)∉binds)->HG CA binds m x=m x
 | [],_,_=>rfl
 | (n,v)::r,m,h=>by
  unfold HG;rw [Zmw fun w hw=>h w (B6 _ hw)];split;have:x≠n:=by rintro rfl;exact h v CZ
  simp [this];rfl
theorem Zll {CA:Str->Option CC}{x:Str}:∀{binds:List (Str×Value)} {m:Str->Option Value},(∀v,(x,v)∉binds)->HH CA binds m x=m x
 | [],_,_=>rfl
 | (n,v)::r,m,h=>by
  unfold HH;rw [Zll fun w hw=>h w (B6 _ hw)];split;rfl;have:x≠n:=by rintro rfl;exact h v CZ
  simp [this]
theorem Zmc {CA:Str->Option CC}{x:Str}{v:Value}:∀{P:List Str} {vs:List Value} {i:Nat} {m:Str->Option Value},P.Nodup->P[i]?=some x->vs[i]?=some v->CA x=some .local->
  HG CA (P.zip vs) m x=some v
 | [],_,_,_,_,h,_,_=>by simp at h
 | _::_,[],_,_,_,_,h,_=>by simp at h
 | p::P,w::vs,0,m,nd,h1,h2,hk=>by simp at h1 h2;subst h1;subst h2;show HG CA ((p,w)::P.zip vs) m p=_;unfold HG;rw [Zmw fun v hv=>(Ay.mp nd).1 (Dc hv).1,if_pos hk];simp
 | p::P,w::vs,i+1,m,nd,h1,h2,hk=>by show HG CA ((p,w)::P.zip vs) m x=_;unfold HG;exact Zmc (i:=i) (Ay.mp nd).2 (by simpa using h1) (by simpa using h2) hk
theorem Znj {CA:Str->Option CC}{x:Str}{v:Value}:∀{P:List Str} {vs:List Value} {i:Nat} {m:Str->Option Value},P.Nodup->P[i]?=some x->vs[i]?=some v->CA x≠some .local->
  HH CA (P.zip vs) m x=some v
 | [],_,_,_,_,h,_,_=>by simp at h
 | _::_,[],_,_,_,_,h,_=>by simp at h
 | p::P,w::vs,0,m,nd,h1,h2,hk=>by simp at h1 h2;subst h1;subst h2;show HH CA ((p,w)::P.zip vs) m p=_;unfold HH;rw [Zll fun v hv=>(Ay.mp nd).1 (Dc hv).1,if_neg hk];simp
 | p::P,w::vs,i+1,m,nd,h1,h2,hk=>by show HH CA ((p,w)::P.zip vs) m x=_;unfold HH;exact Znj (i:=i) (Ay.mp nd).2 (by simpa using h1) (by simpa using h2) hk
def start (N:List Str)(vs:List V):St:=vs.map some++Ab (N.length - vs.length) none
def Xbk (CX:CXT)(P:AQ)(w:Bl)(K:AO)(mg:Str->Option Value)(base:Bq)(N:List Str)(qual:Str)(scope:Scope)(f:Addr)(cd:Value)(A:Bh)(outer:List Env)(s:Af)(H:Hp)(E:XK):Cx where
 prog:=P
 w:=w
 K:=K
 mg:=mg
 base:=base
 A:=A.deeper (Ei qual scope s.heap.objs.size f cd)
 N:=N
 s₀:=s
 H₀:=H
 env:=Ei qual scope s.heap.objs.size f cd
 outer:=outer
 stack:=Ei qual scope s.heap.objs.size f cd::outer
 ex:=[]
 calm:=true
 fn:=fun _=>true
 pn:=[]
 xe:=fun e s'=>Am (Aw P w) (A.deeper (Ei qual scope s.heap.objs.size f cd)) (leaving (Ei qual scope s.heap.objs.size f cd) e) (fun _ s''=>CX outer H s E e s'') (fun e' s''=>CX outer H s E e' s'') s'
theorem Zsi (h:sc.names.lookup x=some .cell):∃c,(HF n sc.names []).lookup x=some c:=by have q:=PySem.W.cellsFrom_some sc.names n [] (.inl h);exact D2.mp q
theorem Zxa {f:Addr}{s1:Af}{E:XK}
    (S:Xe N ps scope) (hd:A.handled=none) (e0:Xrp P w K mg base A outer s H) (hl:vs.length=ps.length) (r:Yk vs us)
    (x:InCallC s s.heap.objs.size (HG (Ei qual scope s.heap.objs.size f cd).kindOf (ps.zip us) fun _=>none) (HF (s.heap.objs.size+1) scope.names []) (HH (Ei qual scope s.heap.objs.size f cd).kindOf (ps.zip us) fun _=>none) s1) :
    Inv (Xbk CX P w K mg base N qual scope f cd A outer s H E) [] (start N vs) H s1:=by
  have hpl:ps.length<=N.length:=by have:=congrArg EL S.pre;rw [CH] at this;omega
  obtain ⟨h1,tk,rfl,hk⟩:=x.done;have noA:∀b:Addr,b∉(Xbk CX P w K mg base N qual scope f cd A outer s H E).ex:=fun b z=>absurd (show b∈([]:List Addr) from z) (by simp);refine ⟨⟨e0.mod,S.kind,rfl,rfl,As _,fun y z c h1 h2=>?_,fun y hy=>?_,fun y c _ h=>?_,fun _=>hd,Around.frames_deeper e0.frames,.inr ⟨rfl,rfl⟩,fun b z=>absurd z (noA b),e0.bs,e0.bsz,fun b _ _=>noA b,fun b z=>absurd z (noA b),e0.funs,e0.frf⟩,
    rfl,e0.bare,Un.kept hk,⟨_,x.toInCall.ns,fun i y v h1 h2 h3=>?_⟩,fun y c h=>⟨_,x.cell y c h⟩,e0.hok.fresh (As _),fun y c h=>?_,fun p hp=>absurd (show p∈([]:List (Addr×Obj)) from hp) (by simp),e0.hok.kept hk,?_⟩
  exact name_of_addr x.apart (PySem.mem_of_lookup h1) (PySem.mem_of_lookup h2);have hy:scope.names.lookup y=some .cell\/scope.names.lookup y=some .free:=hy;rcases hy with hy | hy;exact Zsi hy;exact absurd rfl (S.nofree _ (PySem.mem_of_lookup hy));exact Gb (x.above y c (PySem.mem_of_lookup h));have hi:i<vs.length:=by unfold start at h2;by_cases hi:i<vs.length;exact hi;rw [Bj (by simpa using hi)] at h2;rw [El] at h2;split at h2<;>cases h2
  have ha:vs[i]?=some v:=by
    unfold start at h2;rw [AD (by simpa using hi),AM] at h2;cases e:vs[i]? with
    | none=>rw [e] at h2;cases h2
    | some a=>rw [e] at h2;cases h2;rfl
  obtain ⟨u,hu,rv⟩:=r.get ha;have hp:ps[i]?=some y:=by rw [<- S.pre,List.getElem?_take_of_lt (by omega)];exact h1
  have ndP:ps.Nodup:=by rw [<- S.pre];exact S.nd.sublist (List.take_sublist _ _)
  refine ⟨u,rv,?_⟩;rcases S.par y (AW hp) with k | k;exact .inl ⟨k,Zmc ndP hp hu k⟩;obtain ⟨c,e⟩:=Zsi (n:=s.heap.objs.size+1) k;refine .inr ⟨.inl k,c,e,?_⟩;have q:=x.cell y c e;rw [Znj ndP hp hu (by show scope.names.lookup y≠_;rw [k];decide)] at q;exact q;exact e0.hok.fresh (Gb (x.above y c (PySem.mem_of_lookup h)));unfold start;show _=N.length;rw [Ak,Ah,BS];omega
theorem fn_of {f:Addr}{dV kV doc pm cdv ct oc:Value}
    {osl:Array (Option Value)} {N ps:List Str} {sp:Sp} (lk:K.lookup f=some ⟨oc,od,.func (HU name qual params body scope dV kV doc pm an cdv ct),osl⟩) (hcd:FD K cdv qual=true) (S:Xe N ps scope)
    (len:∀vs H Q E,sp vs H Q E->vs.length=ps.length)
    (hbody:∀(A:Bh) (outer:List Env) (s:Af) (H:Hp) (vs:List V) (Q:VK) (E:XK),Zfo k (A.deeper (Ei qual scope s.heap.objs.size f cdv))->sp vs H Q E->
      ∃t,PSs (Xbk CX P w K mg base N qual scope f cdv A outer s H E) body t/\t {nx:=fun _ H'=>Q .non H',rt:=Q} (start N vs) H) :
    Zbe P w K mg base CX (k+1) f (HU name qual params body scope dV kV doc pm an cdv ct) ps sp:=by
  refine ⟨len,fun A outer s H args us vs Q E hr e0 hb r hsp=>?_⟩;have hl:=len _ _ _ _ hsp;have KX:K.In s.heap:=e0.mod.kin.keeps fun b o e=>(e0.bs b o e).1;have lim:s.heap.NoLimit:=e0.mod.nolimit.keeps fun b o e=>(e0.bs b o e).1;have hkind:∀y∈ps.zip us,scope.names.lookup y.1=some .local\/(scope.names.lookup y.1=some .cell/\((HF (s.heap.objs.size+1) scope.names []).lookup y.1).isSome=true):=fun ⟨n,v⟩ hy=>by
    rcases S.par n (Dc hy).1 with q | q
    · exact .inl q
    · exact .inr ⟨q,PySem.W.cellsFrom_some _ _ _ (.inl q)⟩
  refine codeAny_call_function hr.depth (KX _ _ lk) rfl S.co S.gen rfl (PySem.W.codeRec_of KX hcd) (hb _ _ _ _ ?_);refine wpAny_newFunctionEnv_cells S.kind hkind fun env he s1 x=>?_;subst he;refine ⟨lim.keeps x.toInCall.keep,codeAny_func ?_⟩;obtain ⟨t,ht,hq⟩:=hbody A outer s H vs Q E (hr.deeper _) hsp;have I:Inv (Xbk CX P w K mg base N qual scope f cdv A outer s H E) [] (start N vs) H s1:=Zxa S hr.hd e0 hl r x;refine B3 (ht [] s1 (start N vs) H _ I hq) (fun fl s' hs=>?_) fun e s' hs=>hs;have fin:∀{σ':St} {H':Hp} {v:V} {u:Value},Inv (Xbk CX P w K mg base N qual scope f cdv A outer s H E) [] σ' H' s'->RelV v u->Q v H'->CE outer P w H s Q u s':=fun {σ' H' v u} J rv q=>⟨v,H',J.os,J.bare,J.base,J.hok,rv,q⟩;cases fl with
  | ret u =>obtain ⟨v,σ',H',J,rv,q⟩:=hs;exact fin J rv q
  | next =>obtain ⟨σ',H',J,q⟩:=hs;exact fin (v:=V.non) (u:=Bw) J rfl q
  | brk =>obtain ⟨_,_,_,q⟩:=hs;exact False.elim q
  | cont =>obtain ⟨_,_,_,q⟩:=hs;exact False.elim q
section
variable {t:TA}{id T:String}
def tCB (r:List V->Hp->VK->Prop)(t:TA):TE:=fun σ H Q=>t σ H fun vs H1=>r vs H1 Q
theorem Xfy (hc:Jx X (.builtin id) r)(hg:Gl X x)(hm:X.mg x=none)(hv:CL x=some (.builtin id))(ha:PA X (e::es) t)(hn:x≠"__name__":=by decide)(hdb:(x==("__debug__":Str))=false:=by decide)
  (he:Ad (e::es) X.env=(false,A9 e X.env)::Ad es X.env:=by rfl) (hpl:(BG pos (Ad es X.env)).any (·.1)=false:=by rfl):PE X (.Call (.Name x p) (e::es) [] pos) (tCB r t):=by
 intro pins s σ H Q I h;refine Ee (Zgv I hg hm hv ?_ hn hdb);exact KF (thn (ha pos pins s σ H _ I h) fun us s1 ⟨vs,H1,I1,r1,q1⟩=>hc pins s1 σ H1 vs us Q I1 r1 q1) he hpl
theorem Zzy (hc:Jx X (.type T) r)(hg:Gl X x)(hm:X.mg x=none)(hv:CL x=some (.type T))(ha:PA X (e::es) t)(hn:x≠"__name__":=by decide)(hdb:(x==("__debug__":Str))=false:=by decide)
  (he:Ad (e::es) X.env=(false,A9 e X.env)::Ad es X.env:=by rfl) (hpl:(BG pos (Ad es X.env)).any (·.1)=false:=by rfl):PE X (.Call (.Name x p) (e::es) [] pos) (tCB r t):=by
 intro pins s σ H Q I h;refine Ee (Zgv I hg hm hv ?_ hn hdb);exact BR (thn (ha pos pins s σ H _ I h) fun us s1 ⟨vs,H1,I1,r1,q1⟩=>hc pins s1 σ H1 vs us Q I1 r1 q1) he hpl
end
end L2
namespace HT
open PySem PyProof.Rows
variable {prog:AQ}{w:Bl}{A:Bh}{E Q:Value->Af->Prop}{s:Af}{vs ws:List Value}{v vl vu:Value}{o lo hi:Option Int}{sl:Addr}{n:Nat}{items:Array Value}
section
open PySem.SeqAt
open PySem.AutoSeq1 (wpAny_loadPart')
open PySem.MeetsSeq PySem.MeetsSeq2 PySem.MeetsSeq3
theorem cat_tup {t b:Addr}(ht:HM s.heap t vs.toArray)(hb:HM s.heap b ws.toArray)(hv:vs≠[])
  (h1:ws=[]->Q (.ref t) s) (h2:ws≠[]->Q (.ref s.heap.objs.size) {s with heap:=s.heap.push {cls:=.type "tuple",data:=.seq (vs++ws).toArray}})
  (hsz:vs.length+ws.length<=Ap):Am (Aw prog w) A (B8 .Add (.ref t) (.ref b)) Q E s:=by
 obtain ⟨⟨cls,dd,data,sl⟩,ho,hc,n,hd⟩:=id ht;obtain ⟨⟨cls2,dd2,data2,sl2⟩,ho2,hc2,n2,hd2⟩:=id hb;simp only at hc hd hc2 hd2;subst hc hd hc2 hd2;have e:vs.toArray++ws.toArray=(vs++ws).toArray:=by simp
 by_cases hw:ws=[];exact HV ⟨_,ho,rfl⟩ ⟨_,ho2,rfl⟩ Gm Ho PySem.F.slot_tuple_add PySem.F.entry_tuple_add (PySem.F.args_tuple_add_2 _ _)
  (tuple_addW1 t b vs.toArray ws.toArray n n2 dd dd2 sl sl2 (by simpa using hv) (by simp [hw])) ⟨ho,ho2,h1 hw⟩
 refine HV ⟨_,ho,rfl⟩ ⟨_,ho2,rfl⟩ Gm Ho PySem.F.slot_tuple_add PySem.F.entry_tuple_add (PySem.F.args_tuple_add_2 _ _)
  (tuple_addW2 t b vs.toArray ws.toArray n n2 dd dd2 sl sl2 (by simpa using hv) (by simpa using hw) (by rw [AE,AE];exact hsz)) ⟨ho,ho2,?_⟩
 rw [e];exact h2 hw
def sIx (n d:Nat):Option Int->Nat
 | none=>d
 | some v=>if v<0 then (v+(n:Int)).toNat else min v.toNat n
theorem Xqr (n d:Nat)(hd:d<=n)(o:Option Int):sIx n d o<=n:=by
 cases o with
 | none=>exact hd
 | some v =>show (if v<0 then (v+(n:Int)).toNat else min v.toNat n)<=n;by_cases hv:v<0;rw [if_pos hv];omega;rw [if_neg hv];exact Nat.min_le_right _ _
theorem clip_eq (v:Int)(n d:Nat):(if v<0 then max (v+(n:Int)) 0 else min v (n:Int))=((sIx n d (some v):Nat):Int):=by show (if v<0 then max (v+(n:Int)) 0 else min v (n:Int))=(((if v<0 then (v+(n:Int)).toNat else min v.toNat n):Nat):Int);by_cases hv:v<0;simp only [if_pos hv];omega;simp only [if_neg hv];omega
theorem Zts (lo hi:Option Int)(n:Nat):DI lo hi 1 (n:Int)=(((sIx n 0 lo:Nat):Int),((sIx n n hi:Nat):Int)):=by
 have h1:¬((1:Int)<0):=by omega
 unfold DI;simp only [h1,if_false];refine Prod.ext ?_ ?_;cases lo with
 | none=>rfl
 | some v=>exact clip_eq v n 0
 cases hi with
 | none=>rfl
 | some v=>exact clip_eq v n n
theorem Zuk (i j:Nat):CF (i:Int) (j:Int) 1=j - i:=by
 unfold CF;have h1:(1:Int) > 0:=by omega
 simp only [h1,if_true,Int.ediv_one];split<;>omega
theorem Ziv {Q:Option Int->Af->Prop}(p:Gr v o)(h:Q o s):Am (Aw prog w) A (KB v) Q E s:=by
 cases p with
 | none=>exact K4 h
 | int i t=>exact slicePart_int h
theorem Zfx {Q:Int×Int×Nat->Af->Prop}(hs:s.heap.IsSliceOf sl vl vu .none)(pl:Gr vl lo)(pu:Gr vu hi)
  (h:Q (((sIx n 0 lo:Nat):Int),1,sIx n n hi - sIx n 0 lo) s):Am (Aw prog w) A (E5 (.ref sl) (BD (n:Int))) Q E s:=by
 obtain ⟨os,hos,hcs,hds⟩:=id hs;unfold E5 KC;refine Aa (Aa (Bm hos hds (x:=vl) rfl (Aa (Bm hos hds (x:=vu) rfl (Aa (Bm hos hds (x:=.none) rfl (Ac ?_)))))));refine Aa (K4 ?_);show Am _ _ (if ((1:Int)==0)=true then _ else _) _ _ s;rw [if_neg (by decide)];refine Aa (Ziv pl (Aa (Ziv pu (Aa (Ac ?_)))));show Am _ _ (match DI lo hi 1 (n:Int) with | (lo,hi)=>BD (lo,(1:Int),CF lo hi 1)) _ _ s;rw [Zts lo hi n];show Am _ _ (BD (((sIx n 0 lo:Nat):Int),(1:Int),CF ((sIx n 0 lo:Nat):Int) ((sIx n n hi:Nat):Int) 1)) _ _ s;rw [Zuk];exact Ac h
theorem Xcb (xs:Array Value)(i k:Nat):((A5 k).filterMap fun (m:Nat)=>xs[((i:Int)+(m:Int)*1).toNat]?).toArray=((xs.toList.drop i).take k).toArray:=by
 have e:(fun (m:Nat)=>xs[((i:Int)+(m:Int)*1).toNat]?)=fun m=>xs[i+m]?:=by
  funext m;have:((i:Int)+(m:Int)*1).toNat=i+m:=by omega
  rw [this]
 rw [e];have:=pick_run xs i k;rw [List.filterMap_map] at this;have e2:((fun x=>xs[x]?)∘fun x=>i+x)=fun m=>xs[i+m]?:=rfl;rw [e2] at this;rw [this]
theorem getItem_tuple_cut {t:Addr}(ht:HM s.heap t items)(hs:s.heap.IsSliceOf sl vl vu .none)(pl:Gr vl lo)(pu:Gr vu hi)
    (hw:¬(sIx items.size 0 lo=0/\sIx items.size items.size hi=items.size))
    (h:Q (.ref s.heap.objs.size) {s with heap:=s.heap.push {cls:=.type "tuple",data:=.seq ((items.toList.drop (sIx items.size 0 lo)).take (sIx items.size items.size hi - sIx items.size 0 lo)).toArray}})
    (hsz:items.size<=Ap):Am (Aw prog w) A (Fi (.ref t) (.ref sl)) Q E s:=by
  have htake:sizeOk (.seq ((items.toList.drop (sIx items.size 0 lo)).take (sIx items.size items.size hi - sIx items.size 0 lo)).toArray):=by show ((items.toList.drop (sIx items.size 0 lo)).take (sIx items.size items.size hi - sIx items.size 0 lo)).toArray.size<=Ap;rw [AE,CH,Im,Bu];omega
  have hj:sIx items.size items.size hi<=items.size:=Xqr _ _ (As _) hi;obtain ⟨os,hos,hcs,hds⟩:=id hs;have hTs:s.TypeIs (.ref sl) "slice":=⟨os,hos,hcs⟩;unfold Fi
  try with_reducible refine BJ ?_
  first | refine Aa (Ac ?_) | skip
  refine Aa (wpAny_sequenceKey ht.typeIs (by decide) ?_);refine Aa (Bk (name:=BA "__getitem__") ht.typeIs Dh
    (Ba Dh ht.typeIs entry_tuple_getitem ?_ (args_tuple_getitem _ _)))
  show Am _ _ (KA (.ref t) >>= _) _ _ s;refine Aa (tupleItemsOf_ ht ?_);refine Aa (wpAny_typeOf hTs ?_);rw [if_pos (by decide)];refine Aa (Zfx hs pl pu ?_);have hno:¬((((sIx items.size 0 lo:Nat):Int)==0&&(1:Int)==1&&(sIx items.size items.size hi - sIx items.size 0 lo)==items.size)=true):=by intro q;rw [AY,AY] at q;have q1:((sIx items.size 0 lo:Nat):Int)=0:=HE q.1.1;have q2:sIx items.size items.size hi - sIx items.size 0 lo=items.size:=HE q.2;exact hw ⟨by omega,by omega⟩
  show Am _ _ (if (((sIx items.size 0 lo:Nat):Int)==0&&(1:Int)==1&&(sIx items.size items.size hi - sIx items.size 0 lo)==items.size)=true then _ else _) _ _ s;rw [if_neg hno,Xcb]
  first
    | exact Aa (m:=CQ _) (AZ (Ac ⟨_,rfl,Ac h⟩) htake)
    | exact Aa (m:=CQ _) (AZ (Aa (Ac (Ac ⟨_,rfl,Ac h⟩))) htake)
    | exact Aa (Aa (m:=CQ _) (AZ (Ac (Ac ⟨_,rfl,Ac h⟩)) htake))
    | exact Aa (Aa (m:=CQ _) (AZ (Ac ⟨_,rfl,Ac h⟩) htake))
end
end HT
namespace L2
open PySem PySem.Spec PyProof.Rows
variable {ns:List Int}{X:Cx}{e:Expr}{lo hi:Option Expr}{pos:Pos}{r:V->Option Int->Option Int->Hp->VK->Prop}{xs:List V}{us its its':List Value}{n j t':Nat}{i:Int}{α:Type}{f:Array Value->Array Value}{r':List V->Hp->VK->Prop}{pins:List (Addr×Obj)}{σ:St}{H:Hp}{s:Af}{T:String}{v:Value}{es:List Expr}{name:Str}{prog:AQ}{w:Bl}{A:Bh}{E:Value->Af->Prop}
abbrev TO:=St->Hp->(Option Int->Hp->Prop)->Prop
def PO (X:Cx)(e:Option Expr)(t:TO):Prop:=
 ∀(pins:List (Addr×Obj)) (s:Af) (σ:St) (H:Hp) (Q:Option Int->Hp->Prop),Inv X pins σ H s->t σ H Q->
  Am (Aw X.prog X.w) X.A (evalPart e X.env) (fun u s'=>∃o H',Inv X pins σ H' s'/\Gr u o/\Q o H') X.xe s
def Zkv:TO:=fun _ H Q=>Q none H
def Xeh (t:TE):TO:=fun σ H Q=>t σ H fun x H1=>∃i,x=.int i/\Q (some i) H1
theorem intsAre_of :∀{us:List Value},Yk (ns.map V.int) us->EW us ns:=by
 induction ns with
 | nil=>intro us r;rw [J8] at r;cases r;exact .nil
 | cons n ns ih =>
  intro us r;rw [AV] at r;cases r with
  | cons r1 r2 =>obtain ⟨t,e⟩:=r1;subst e;exact .cons n t (ih r2)
section
variable {te:TE}{tl th:TO}{p2:Pos}
theorem Xnd:PO X none Zkv:=by intro pins s σ H Q I h;rw [Lg];exact Ac ⟨none,H,I,.none,h⟩
theorem Xmz (h:PE X e te):PO X (some e) (Xeh te):=by intro pins s σ H Q I hw;rw [evalPart_some];refine thn (h pins s σ H _ I hw) fun u s1 hz9=>?_;obtain ⟨x,H1,I1,r1,q1⟩:=hz9;obtain ⟨i,rfl,q⟩:=q1;obtain ⟨t,rfl⟩:=r1;exact ⟨some i,H1,I1,.int i t,q⟩
def SlR (X:Cx)(r:V->Option Int->Option Int->Hp->VK->Prop):Prop:=
 ∀(pins:List (Addr×Obj)) (s:Af) (σ:St) (H:Hp) (x:V) (v vl vu:Value) (lo hi:Option Int) (sl:Addr) (Q:VK),Inv X pins σ H s->RelV x v->s.heap.IsSliceOf sl vl vu .none->Gr vl lo->Gr vu hi->r x lo hi H Q->
  ∃T id,typeLookup (.type T) "__getitem__"=BD (some (.builtin id))/\s.TypeIs v T/\Am (Aw X.prog X.w) X.A (Fi v (.ref sl)) (EP X pins σ Q) X.xe s
def tSl (r:V->Option Int->Option Int->Hp->VK->Prop)(te:TE)(tl th:TO):TE:=fun σ H Q=>te σ H fun x H1=>tl σ H1 fun l H2=>th σ H2 fun u H3=>r x l u H3 Q
theorem Xgj (hr:SlR X r)(he:PE X e te)(hl:PO X lo tl)(hu:PO X hi th):PE X (.Subscript e (.Slice lo hi none p2) pos) (tSl r te tl th):=by intro pins s σ H Q I h;refine JF (thn (he pins s σ H _ I h) fun v s1 hz9=>?_);obtain ⟨x,H1,I1,r1,q1⟩:=hz9;refine wpAny_Slice (thn (hl pins s1 σ H1 _ I1 q1) fun vl s2 ⟨l,H2,I2,pl,q2⟩=>thn (hu pins s2 σ H2 _ I2 q2) fun vu s3 ⟨u,H3,I3,pu,q3⟩=>?_);rw [Lg];refine Ac ?_;have I4:Inv X pins σ H3 {s3 with heap:=s3.heap.push {cls:=.type "slice",data:=.fields #[vl,vu,.none]}}:=I3.kept (t':=s3.toks) fun b ob q=>Ae _ q;obtain ⟨T,id,hT,ht,hg⟩:=hr pins {s3 with heap:=s3.heap.push {cls:=.type "slice",data:=.fields #[vl,vu,.none]}} σ H3 x v vl vu l u s3.heap.objs.size Q I4 r1 (Kj ..) pl pu q3;show Am (Aw X.prog X.w) X.A (Hn e (.Slice lo hi none p2) v (.ref s3.heap.objs.size)) (EP X pins σ Q) X.xe {s3 with heap:=s3.heap.push {cls:=.type "slice",data:=.fields #[vl,vu,.none]}};exact tail_any (ops:=[.ref s3.heap.objs.size,v]) ht hT hg (by with_unfolding_all rfl)
def Zzz (xs:List V)(lo hi:Option Int):List V:=(xs.drop (HT.sIx xs.length 0 lo)).take (HT.sIx xs.length xs.length hi - HT.sIx xs.length 0 lo)
theorem Zif (xs:List V)(lo hi:Option Int):(Zzz xs lo hi).length<=xs.length:=by unfold Zzz;rw [CH,Im];omega
def rSlT (K:AO):V->Option Int->Option Int->Hp->VK->Prop:=fun x lo hi H Q=>∃a xs,x=.ref a/\SqT K H a xs/\
 ¬(HT.sIx xs.length 0 lo=0/\HT.sIx xs.length xs.length hi=xs.length)/\∀p,H p=none->Q (.ref p) (upd H p (.tup (Zzz xs lo hi)))
theorem Xpc:SlR X (rSlT X.K):=by
 intro pins s σ H x v vl vu lo hi sl Q I rx hs pl pu h;obtain ⟨a,xs,rfl,hx,hw,q⟩:=h;cases rx;obtain ⟨its,r,ht,hz⟩:=I.tuple hx;have hlen:its.toArray.size=xs.length:=by rw [AE];exact r.length.symm
 refine ⟨"tuple",_,Dh.lookup,ht.typeIs,?_⟩;refine HT.getItem_tuple_cut ht hs pl pu (by rw [hlen];exact hw) ?_ (by rw [hlen];exact hz);rw [hlen];refine ⟨.ref s.heap.objs.size,_,I.laid (t':=s.toks) (o:=.tup (Zzz xs lo hi)) (fun b ob q=>Ae _ q) (As _) ?_,rfl,q _ (I.hok.fresh (As _))⟩;exact ⟨Az (Zif xs lo hi) hz,_,(r.drop (HT.sIx xs.length 0 lo)).take (HT.sIx xs.length xs.length hi - HT.sIx xs.length 0 lo),KN _ _⟩
theorem Yk.nil_iff (r:Yk xs us):us=[]↔xs=[]:=by
 cases r with
 | nil=>simp
 | cons _ _=>simp
end
def ixN (n:Nat)(i:Int):Option Nat:=if 0<=i then (if i<n then some i.toNat else none) else if -(n:Int)<=i then some (i+n).toNat else none
def atI {α:Type}(xs:List α)(i:Int):Option α:=(ixN xs.length i).bind fun j=>xs[j]?
theorem Zyc (h:ixN n i=some j):Kp i n=some j/\j<n/\-(n:Int)<=i/\i<n:=by unfold ixN at h;by_cases h0:0<=i;rw [if_pos h0] at h;by_cases h1:i<n;rw [if_pos h1] at h;have e:i.toNat=j:=AK h;exact ⟨by rw [seqIndex_of h0 h1,e],by omega,by omega,h1⟩;rw [if_neg h1] at h;cases h;rw [if_neg h0] at h;by_cases h1:-(n:Int)<=i;rw [if_pos h1] at h;have e:(i+n).toNat=j:=AK h;exact ⟨by rw [seqIndex_neg (by omega) h1,e],by omega,h1,by omega⟩;rw [if_neg h1] at h;cases h
theorem Zdj {xs:List α}{v:α}(h:atI xs i=some v):∃j,Kp i xs.length=some j/\xs[j]?=some v/\j<xs.length/\-(xs.length:Int)<=i/\i<xs.length:=by
 unfold atI at h;cases e:ixN xs.length i with
 | none=>rw [e] at h;cases h
 | some j =>rw [e] at h;obtain ⟨h1,h2,h3,h4⟩:=Zyc e;exact ⟨j,h1,h,h2,h3,h4⟩
def Zcj (b:Expr):Prop:=∀o i,Gx b false o i=operate [o,i] (Fi o i)
def IxR (X:Cx)(r:R2):Prop:=
 ∀(value slice:Expr) (pins:List (Addr×Obj)) (s:Af) (σ:St) (H:Hp) (x y:V) (v u:Value) (Q:VK),Inv X pins σ H s->RelV x v->RelV y u->r x y H Q->
  Gx slice false v u=operate [v,u] (Fi v u)->Am (Aw X.prog X.w) X.A (Hn value slice v u) (EP X pins σ Q) X.xe s
def MtR (X:Cx)(id:String)(r:V->List V->Hp->VK->Prop):Prop:=
 ∀(pins:List (Addr×Obj)) (s:Af) (σ:St) (H:Hp) (x:V) (xs:List V) (v:Value) (us:List Value) (Q:VK),Inv X pins σ H s->RelV x v->Yk xs us->r x xs H Q->
  Am (Aw X.prog X.w) X.A (call (.builtin id) (v::us)) (EP X pins σ Q) X.xe s
section
variable {a b:Expr}{ta tb:TE}
theorem IxR.or {r r':R2}(h:IxR X r)(h':IxR X r'):IxR X (fun x y H Q=>r x y H Q\/r' x y H Q):=by intro value slice pins s σ H x y v u Q I rx ry q hs;rcases q with q | q;exact h value slice pins s σ H x y v u Q I rx ry q hs;exact h' value slice pins s σ H x y v u Q I rx ry q hs
theorem pe_ix {r:R2}(hr:IxR X r)(ha:PE X a ta)(hb:PE X b tb)(hs:Zcj b):PE X (.Subscript a b pos) (tOp r ta tb):=by intro pins s σ H Q I h;exact JF (binT ha hb I h fun v u s2 x y H2 I2 rx ry q=>hr a b pins s2 σ H2 x y v u Q I2 rx ry q (hs _ _))
def rIxL (K:AO):R2:=fun x y H Q=>∃p xs i v,x=.ref p/\y=.int i/\SqL K H p xs/\atI xs i=some v/\Q v H
def rIxT (K:AO):R2:=fun x y H Q=>∃p xs i v,x=.ref p/\y=.int i/\SqT K H p xs/\atI xs i=some v/\Q v H
def rIxS:R2:=fun x y H Q=>∃z i c,x=.str z/\y=.int i/\z.length<=Ap/\atI z.cps.toList i=some c/\Q (.str ⟨#[c]⟩) H
theorem Xnp:IxR X (rIxL X.K):=by
 intro value slice pins s σ H x y v u Q I rx ry h hs;obtain ⟨p,xs,i,z,rfl,rfl,hq,he,q⟩:=h;cases rx;obtain ⟨t,rfl⟩:=ry;obtain ⟨its,r,pl,hz⟩:=I.list hq;obtain ⟨j,h1,h2,h3,h4,h5⟩:=Zdj he;obtain ⟨w,ew,rw'⟩:=r.get h2;have hl:=r.length;have hn:=Zjf;have fin:EP X pins σ Q w s:=⟨z,H,I,rw',q⟩;by_cases h0:0<=i;have hj:i.toNat=j:=by rw [seqIndex_of h0 h5] at h1;exact AK h1
 exact item_listR pl.isList h0 (by omega) (by rw [hj];simpa using ew) fin hs;have hj:(i+(its.toArray.size:Int)).toNat=j:=by rw [seqIndex_neg (by omega) h4] at h1;rw [AE,<- hl];exact AK h1
 exact HQ (x:=w) pl.isList.typeIs J6.lookup
  (wpAny_getItem_list_neg (Q:=fun r s'=>r=w/\EP X pins σ Q r s') pl.isList (by omega) (by rw [AE]<;>omega) (by omega) (by rw [hj];simpa using ew) ⟨rfl,fin⟩) hs
theorem Xsy:IxR X (rIxT X.K):=by
 intro value slice pins s σ H x y v u Q I rx ry h hs;obtain ⟨p,xs,i,z,rfl,rfl,hq,he,q⟩:=h;cases rx;obtain ⟨t,rfl⟩:=ry;obtain ⟨its,r,pl,hz⟩:=I.tuple hq;obtain ⟨j,h1,h2,h3,h4,h5⟩:=Zdj he;obtain ⟨w,ew,rw'⟩:=r.get h2;have hl:=r.length;have hn:=Zjf;have fin:EP X pins σ Q w s:=⟨z,H,I,rw',q⟩;exact HQ (x:=w) pl.typeIs slot_tuple_getitem.lookup
  (getItem_tuple (j:=j) (Q:=fun r s'=>r=w/\EP X pins σ Q r s') pl (by omega) (by omega) (by rw [AE,<- hl];exact h1) (by simpa using ew) ⟨rfl,fin⟩) hs
theorem Xun:IxR X rIxS:=by
  intro value slice pins s σ H x y v u Q I rx ry h hs;obtain ⟨z,i,c,rfl,rfl,hz,he,q⟩:=h;obtain ⟨t,rfl⟩:=rx;obtain ⟨t',rfl⟩:=ry;obtain ⟨j,h1,h2,h3,h4,h5⟩:=Zdj he;have hl:z.cps.toList.length=z.length:=by simp [Str.length]
  rw [hl] at h1 h4 h5;have hn:=Zjf;exact tail_any (typeIs_str s z t) slot_str_getitem.lookup (getItem_str (c:=c) (by
    have e1:decide (i < -(2 ^ 63:Int))=false:=decide_eq_false (by omega);have e2:decide (i>=2 ^ 63)=false:=decide_eq_false (by omega);rw [e1,e2,Bool.or_false]) (by rw [h1];simpa using h2) ⟨.str ⟨#[c]⟩,H,I.tok _,⟨_,rfl⟩,q⟩) hs
def rIx (K:AO):R2:=fun x y H Q=>rIxL K x y H Q\/rIxT K x y H Q\/rIxS x y H Q
theorem Xsb:IxR X (rIx X.K):=Xnp.or (Xsy.or Xun)
theorem Zme (lo hi:Option Int)(n:Nat):(DQ lo hi none n).1=((HT.sIx n 0 lo:Nat):Int)/\(DQ lo hi none n).2.1=((HT.sIx n n hi:Nat):Int)/\(DQ lo hi none n).2.2=1:=by
 refine ⟨?_,?_,rfl⟩;cases lo with
 | none=>simp [DQ,HT.sIx]
 | some i =>simp only [DQ,HT.sIx,HI,show (1:Int) > 0 by decide,if_true];by_cases h:i<0;simp only [h,if_true]<;>omega;simp only [h,if_false]<;>omega
 cases hi with
 | none=>simp [DQ,HT.sIx]
 | some i =>simp only [DQ,HT.sIx,HI,show (1:Int) > 0 by decide,if_true];by_cases h:i<0;simp only [h,if_true]<;>omega;simp only [h,if_false]<;>omega
theorem Zkk (its:List Value)(lo hi:Option Int):slicePick its.toArray lo hi none=((its.drop (HT.sIx its.length 0 lo)).take (HT.sIx its.length its.length hi - HT.sIx its.length 0 lo)).toArray:=by obtain ⟨h1,h2,h3⟩:=Zme lo hi its.toArray.size;unfold slicePick;rw [h1,h2,h3];simp only [sliceRange_one,pick_run,AE]<;>rfl
def rSlL (K:AO):V->Option Int->Option Int->Hp->VK->Prop:=fun x lo hi H Q=>∃a xs,x=.ref a/\SqL K H a xs/\∀p,H p=none->Q (.ref p) (upd H p (.lst (Zzz xs lo hi)))
theorem Xir:SlR X (rSlL X.K):=by intro pins s σ H x v vl vu lo hi sl Q I rx hs pl pu h;obtain ⟨a,xs,rfl,hx,q⟩:=h;cases rx;obtain ⟨its,r,ht,hz⟩:=I.list hx;have hlen:=r.length;refine ⟨"list",_,J6.lookup,ht.isList.typeIs,?_⟩;refine wpAny_getItem_list_slice ht.isList hs pl pu .none (by simp) ?_ (by rw [AE]<;>omega);rw [Zkk,<- hlen];refine ⟨.ref s.heap.objs.size,_,I.laid (t':=s.toks) (o:=.lst (Zzz xs lo hi)) (fun b ob q=>Ae _ q) (As _) ?_,rfl,q _ (I.hok.fresh (As _))⟩;exact ⟨Az (Zif xs lo hi) hz,_,0,(r.drop (HT.sIx xs.length 0 lo)).take (HT.sIx xs.length xs.length hi - HT.sIx xs.length 0 lo),Av _ rfl⟩
theorem Zmm:Jx X (.builtin "len") (fun xs H Q=>∃p ys,xs=[.ref p]/\(SqL X.K H p ys\/SqT X.K H p ys)/\Q (.int ys.length) H):=by intro pins s σ H xs us Q I r h;obtain ⟨p,ys,rfl,hq,q⟩:=h;obtain ⟨u,rfl,rx⟩:=vals1 r;cases rx;have hn:=Zjf;rcases hq with hq | hq;obtain ⟨its,r',pl,hz⟩:=I.list hq;have hlen:=r'.length;exact Calls.call_len_list pl.isList (by simp only [AE]<;>omega) ⟨.int ys.length,H,I.tok _,⟨s.toks+1,by rw [AE,hlen]⟩,q⟩;obtain ⟨its,r',pl,hz⟩:=I.tuple hq;have hlen:=r'.length;exact len_tuple pl (by simp only [AE]<;>omega) ⟨.int ys.length,H,I.tok _,⟨s.toks+1,by rw [AE,hlen]⟩,q⟩
theorem Znb:Jx X (.builtin "len") (fun xs H Q=>∃z,xs=[.str z]/\z.length<=Ap/\Q (.int z.length) H):=by intro pins s σ H xs us Q I r h;obtain ⟨z,rfl,hz,q⟩:=h;obtain ⟨u,rfl,t,rfl⟩:=vals1 r;have hn:=Zjf;exact len_str (by omega) ⟨.int z.length,H,I.tok _,⟨_,rfl⟩,q⟩
theorem Jx.or {f:Value}{r:List V->Hp->VK->Prop}(h:Jx X f r)(h':Jx X f r'):Jx X f (fun xs H Q=>r xs H Q\/r' xs H Q):=by intro pins s σ H xs us Q I rs q;rcases q with q | q;exact h pins s σ H xs us Q I rs q;exact h' pins s σ H xs us Q I rs q
theorem Zmn:Jx X (.type "list") (fun xs H Q=>∃p ys,xs=[.ref p]/\(SqL X.K H p ys\/SqT X.K H p ys)/\∀l,H l=none->Q (.ref l) (upd H l (.lst ys))):=by
 intro pins s σ H xs us Q I r h;obtain ⟨p,ys,rfl,hq,q⟩:=h;obtain ⟨u,rfl,rx⟩:=vals1 r;cases rx;have fin:∀(its:List Value),Yk ys its->ys.length<=Ap->∀(h':Bq) (c':Nat),(∀b o',s.heap.get? b=some o'->h'.get? b=some o')->
   h'.get? s.heap.objs.size=some {cls:=.type "list",dict:=none,data:=.seq its.toArray c',slots:=#[]}->EP X pins σ Q (.ref s.heap.objs.size) {s with heap:=h'}:=fun its r' hz h' c' kp e =>
  ⟨.ref s.heap.objs.size,_,I.laid (t':=s.toks) kp (As _) (show Js X.prog X.w _ h' _ (.lst ys) from ⟨hz,its,c',r',e⟩),rfl,q _ (I.hok.fresh (As _))⟩
 rcases hq with hq | hq;obtain ⟨its,r',pl,hz⟩:=I.list hq;have hlen:=r'.length;obtain ⟨o,ho,hc,n,hd⟩:=pl.isList;exact Lh p (.inl rfl) ho hc hd (fun h' c' kp e=>fin its r' hz h' c' kp e) (by simp only [AE]<;>omega);obtain ⟨its,r',pl,hz⟩:=I.tuple hq;have hlen:=r'.length;obtain ⟨o,ho,hc,n,hd⟩:=pl;exact Lh p (.inr rfl) ho hc hd (fun h' c' kp e=>fin its r' hz h' c' kp e) (by simp only [AE]<;>omega)
def tyV (K:AO)(T:String)(x:V)(H:Hp):Prop:=match x with
 | .str _=>T="str"
 | .int _=>T="int"
 | .ref p=>(T="list"/\∃xs,SqL K H p xs)\/(T="tuple"/\∃o,K.lookup p=some o/\o.cls=.type "tuple"/\o.dict=none)\/
   (T="dict"/\((∃kvs,H p=some (.dK kvs))\/∃kvs,H p=some (.dT kvs)))\/(T="set"/\∃S n,H p=some (.set S n))
 | _=>False
theorem Xsq {x:V}(I:Inv X pins σ H s)(r:RelV x v)(ty:tyV X.K T x H) :
  s.TypeIs v T/\∀a,v=.ref a->∃ob,s.heap.get? a=some ob/\ob.dict=none:=by
 cases x with
 | str z =>obtain ⟨t,rfl⟩:=r;cases (show T="str" from ty);exact ⟨typeIs_str s z t,fun _ e=>nomatch e⟩
 | int i =>obtain ⟨t,rfl⟩:=r;cases (show T="int" from ty);exact ⟨IX s i t,fun _ e=>nomatch e⟩
 | ref p =>
  cases r;rcases ty with ⟨rfl,xs,hq⟩ | ⟨rfl,o,hk,hc,hd⟩ | ⟨rfl,hk⟩ | ⟨rfl,S,n,hk⟩;obtain ⟨its,_,pl,_⟩:=I.list hq;refine ⟨pl.isList.typeIs,fun a e=>?_⟩;cases e;obtain ⟨o,n,e,c,hd,_⟩:=pl;exact ⟨o,e,hd⟩;refine ⟨⟨o,I.kIn p o hk,hc⟩,fun a e=>?_⟩;cases e;exact ⟨o,I.kIn _ o hk,hd⟩;have z:∃o,s.heap.get? p=some o/\o.ExactDict:=by rcases hk with ⟨kvs,hk⟩ | ⟨kvs,hk⟩;obtain ⟨_,_,_,_,o,_,_,e,ex,_⟩:=I.hok p _ hk;exact ⟨o,e,ex⟩;obtain ⟨_,_,_,_,o,_,_,e,ex,_⟩:=I.hok p _ hk;exact ⟨o,e,ex⟩
  obtain ⟨o,e,ex⟩:=z;refine ⟨⟨o,e,ex.1⟩,fun a e2=>?_⟩;cases e2;exact ⟨o,e,ex.2.1⟩;obtain ⟨o,_,_,_,e,ex,_⟩:=I.hok p _ hk;refine ⟨⟨o,e,ex.1⟩,fun a e2=>?_⟩;cases e2;exact ⟨o,e,ex.2.1⟩
 | _=>exact False.elim ty
def tBM (K:AO)(T:String)(r:V->List V->Hp->VK->Prop)(to:TE)(t:TA):TE:=fun σ H Q=>to σ H fun x H1=>tyV K T x H1/\t σ H1 fun xs H2=>r x xs H2 Q
variable {o:Expr}{to:TE}{t:TA}{apos cpos:Pos}{id:String}{r:V->List V->Hp->VK->Prop}
theorem pe_bm (pa:PlainAttrs T)(slot:Slot T name id)(hty:typeOf (.builtin id)=BD (.type "method_descriptor"))(hm:MtR X id r)(ho:PE X o to)(ha:PA X (e::es) t)
    (hbase:Cq o name X.env (A9 o X.env)=A9 o X.env:=by rfl)
    (hfew:((BG cpos (Ad (e::es) X.env)).all (fun x=>!x.1)&&(Ej cpos (De [] X.env)).all (fun x=>x.1.isSome)
      && decide ((e::es).length+([]:List Ce).length+(if ([]:List Ce).isEmpty then 0 else 1)<30))=true:=by rfl)
    (hline:(apos.endLine==cpos.line)=true:=by rfl) (hs:Ad (e::es) X.env=(false,A9 e X.env)::Ad es X.env:=by rfl) (hplain:(BG cpos (Ad es X.env)).any (·.1)=false:=by rfl) :
    PE X (.Call (.Attribute o name apos) (e::es) [] cpos) (tBM X.K T r to t):=by
  intro pins s σ H Q I h;refine wpAny_Call_method_late hbase hfew hline rfl (thn (ho pins s σ H _ I h) fun v s1 hz9=>?_);obtain ⟨x,H1,I1,r1,ty,q1⟩:=hz9;obtain ⟨h1,h2⟩:=Xsq I1 r1 ty;refine ⟨T,id,pa,slot,hty,h1,h2,?_⟩;have hA:=ha cpos pins s1 σ H1 _ I1 q1;rw [hs] at hA ⊢;refine GL (by show (false||(BG cpos (Ad es X.env)).any (·.1))=false;rw [hplain]<;>rfl) (Calls.evalArgs_plain ?_);exact thn hA fun us s2 ⟨vs,H2,I2,r2,q2⟩=>hm pins s2 σ H2 x vs v us Q I2 r1 r2 q2
end
def MtM (X:Cx)(id:String)(r:V->List V->Hp->VK->Prop):Prop:=
 ∀(pins:List (Addr×Obj)) (s:Af) (σ:St) (H:Hp) (x:V) (xs:List V) (v:Value) (us:List Value) (Q:VK),Inv X pins σ H s->RelV x v->Yk xs us->r x xs H Q->
  Am (Aw X.prog X.w) X.A (call (.builtin id) (v::us)) (EP X pins σ Q) X.xe s
theorem Yk.one:∀{x:V} {us:List Value},Yk [x] us->∃u,us=[u]/\RelV x u
 | _,_,.cons r .nil=>⟨_,rfl,r⟩
theorem Yk.zero:∀{us:List Value},Yk [] us->us=[]
 | _,.nil=>rfl
theorem Yk.rep {xs:List V}{us:List Value}(h:Yk xs us):∀k:Nat,Yk (Ab k xs).flatten (Ab k us).flatten
 | 0=>.nil
 | k+1=>by rw [Bc,Bc,BN,BN];exact Yk.append h (Yk.rep h k)
theorem foldl_rep (its:List Value):∀(k:Nat) (acc:List Value),
  HL (fun x1 x2=>x1++x2) acc.toArray (Ab k its.toArray)=(acc++(Ab k its).flatten).toArray
 | 0,acc=>by simp
 | k+1,acc=>by
  have e:acc.toArray++its.toArray=(acc++its).toArray:=by simp
  have e2:(acc++its)++(Ab k its).flatten=acc++(Ab (k+1) its).flatten:=by rw [Bc,BN,CN]
  rw [<- e2,<- foldl_rep its k (acc++its),<- e,Bc,DL]
section
variable {l b:Addr}{ys zs:List V}
theorem Inv.lset (I:Inv X pins σ H s)(hH:H l=some (.lst xs))
  (e:s.heap.get? l=some {cls:=.type "list",data:=.seq its.toArray n}) (hf:f its.toArray=its'.toArray) (hv:Yk ys its') (hz:ys.length<=Ap) :
  Inv X pins σ (upd H l (.lst ys)) {s with heap:=s.heap.update l (B9 f),toks:=t'}:=by
 have q:=PySem.IsL.update e f;rw [hf] at q;refine I.write (x:=l) (e:=l) (by rw [hH];exact trivial) (.inl rfl) (fun b' u hb hu=>(Cj s.heap (B9 f) (Ne.symm hb)).trans hu) ⟨_,q⟩ ?_;exact ⟨hz,its',_,hv,q⟩
theorem Inv.lnew (I:Inv X pins σ H s)(hv:Yk ys its)(hz:ys.length<=Ap) :
  Inv X pins σ (upd H s.heap.objs.size (.lst ys)) {s with heap:=s.heap.push {cls:=.type "list",data:=.seq its.toArray},toks:=t'}:=
 I.laid (fun _ _ q=>Ae _ q) (As _) ⟨hz,its,0,hv,Av _ rfl⟩
theorem Inv.fresh (I:Inv X pins σ H s):H s.heap.objs.size=none:=I.hok.fresh (As _)
theorem Inv.lstM (I:Inv X pins σ H s)(hH:H l=some (.lst xs)):xs.length<=Ap/\∃(its:List Value) (n:Nat),Yk xs its/\xs.length=its.length/\s.heap.get? l=some {cls:=.type "list",data:=.seq its.toArray n}:=by obtain ⟨z,its,n,r,e⟩:=I.hok l _ hH;exact ⟨z,its,n,r,r.length,e⟩
theorem Xew (h:n<=Ap):DK n=false:=by unfold DK;exact decide_eq_false (by omega)
end
def Zbf:V->List V->Hp->VK->Prop:=fun x vs H Q=>∃l xs y,x=.ref l/\vs=[y]/\H l=some (.lst xs)/\xs.length<Ap/\Q .non (upd H l (.lst (xs++[y])))
theorem Zen:MtM X "list.append" Zbf:=by intro pins s σ H x vs v us Q I rx rv h;obtain ⟨l,xs,y,rfl,rfl,hH,hz,q⟩:=h;cases rx;obtain ⟨u,rfl,ru⟩:=rv.one;obtain ⟨z,its,n,r,hl,e⟩:=I.lstM hH;refine JD F.slot_list_append ⟨_,e,rfl⟩ F.entry_list_append (F.args_list_append_2 _ _) (PySem.list_append l its.toArray n u (by rw [AE];omega)) ⟨e,?_⟩;refine ⟨.non,_,I.lset (its':=its++[u]) hH e (by simp) (r.append (.cons ru .nil)) ?_,rfl,q⟩;rw [Ak,G7];omega
def rCat:R2:=fun x y H Q=>∃l b xs zs,x=.ref l/\y=.ref b/\H l=some (.lst xs)/\H b=some (.lst zs)/\xs.length+zs.length<=Ap/\∀p,H p=none->Q (.ref p) (upd H p (.lst (xs++zs)))
theorem Xpg:OpR X (B8 .Add) rCat:=by
 intro pins s σ H x y v u Q I rx ry h;obtain ⟨l,b,xs,zs,rfl,rfl,hH,hB,hz,q⟩:=h;cases rx;cases ry;obtain ⟨z,its,n,r,hl,e⟩:=I.lstM hH;obtain ⟨z2,its2,n2,r2,hl2,e2⟩:=I.lstM hB;refine PySem.P.add_list e e2 ?_ (by rw [AE,AE];omega);have ea:its.toArray++its2.toArray=(its++its2).toArray:=by simp
 rw [ea];exact ⟨.ref _,_,I.lnew (t':=s.toks) (r.append r2) (by rw [Ak];omega),rfl,q _ I.fresh⟩
def rRep:R2:=fun x y H Q=>∃l k xs,x=.ref l/\y=.int k/\H l=some (.lst xs)/\-(2 ^ 63)<=k/\k<2 ^ 63/\xs.length*k.toNat<=Ap/\
 ∀p,H p=none->Q (.ref p) (upd H p (.lst (Ab k.toNat xs).flatten))
theorem len_rep (xs:List α)(k:Nat):(Ab k xs).flatten.length=k*xs.length:=by
 induction k with
 | zero=>simp
 | succ k ih=>rw [Bc,BN,Ak,ih,G3,G6]
theorem Xsl:OpR X (B8 .Mult) rRep:=by
  intro pins s σ H x y v u Q I rx ry h;obtain ⟨l,k,xs,rfl,rfl,hH,h1,h2,hz,q⟩:=h;cases rx;obtain ⟨t,rfl⟩:=ry;obtain ⟨z,its,n,r,hl,e⟩:=I.lstM hH;have hlen:its.toArray.size*k.toNat<=Ap:=by rw [AE,<- hl];exact hz
  have hcap:¬its.toArray.size*k.toNat > (2 ^ 63 - 1) / 8:=by
    have:(Ap:Nat)<=(2 ^ 63 - 1) / 8:=by decide
    omega
  have hfit:¬(!Builtin.List.listFitsIndex k)=true:=by rw [fitsIndex_both h1 h2];exact Au
  have hlong:¬DK (its.toArray.size*k.toNat)=true:=by rw [Xew hlen];exact Au
  have hnew:HL (fun x1 x2=>x1++x2) #[] (Ab (if its.toArray.isEmpty=true then 0 else k.toNat) its.toArray)=(Ab k.toNat its).flatten.toArray:=by
    have f0:∀m:Nat,HL (fun x1 x2=>x1++x2) #[] (Ab m its.toArray)=(Ab m its).flatten.toArray:=fun m=>by have:=foldl_rep its m [];rw [List.nil_append] at this;exact this
    rw [f0];cases its with
    | nil=>simp
    | cons a r'=>rw [if_neg (by simp)]
  refine wpAny_binaryOp_repeat_ref (T:="list") (U:="int") (by decide) ⟨_,e,rfl⟩ (fun s'=>IX s' k t) noFill_list_mul F.fills_int_mul Kk repeat_list F.slot_int_index.lookup
    (JD Kk (IX s k t) F.entry_int_rmul (F.args_int_rmul_2 _ _) (int___rmul___int_list k t l its.toArray n)
      ⟨e,rfl,⟨_,e,rfl⟩,JD F.slot_list_mul ⟨_,e,rfl⟩ F.entry_list_mul (F.args_list_mul_2 _ _) (Lq l its.toArray n k t hfit hcap hlong) ⟨e,?_⟩⟩)
  rw [hnew];exact ⟨.ref _,_,I.lnew (t':=s.toks) (r.rep k.toNat) (by rw [len_rep,Kw];exact hz),rfl,q _ I.fresh⟩
end L2
namespace Att
open PySem PySem.W PySem.Calls PyProof.Rows
variable {P:Params}{h:Bq}{l:OpenLaw}{n:Nat}{args:List WData}{vals:List Value}{q prog:AQ}{loose:List Str}{XP:(Str->Option Value)->Bq->Prop}{YP:Bl->Bq->Prop}{d:DefRec}{w:Bl}{A:Bh}{E:Value->Af->Prop}{s:Af}{K:AO}
theorem Zgt :∀(ns:List Int) (vs:List Value),WellAll P h vs (ns.map WData.int)->EW vs ns:=by
 intro ns
 induction ns with
 | nil =>intro vs w;rw [J8] at w;cases w;exact .nil
 | cons n ns ih =>
  intro vs w;rw [AV] at w;cases w with
  | cons a b =>cases a;exact .cons _ _ (ih _ b)
theorem Zvf (hn:l.most=some n)
  (hpre:l.row.toRowW.claim.pre args=true) (hwl:WellAll P h vals args) :
  ∃a vs ns,vals=[AG a]/\args=[WData.list (ns.map WData.int)]/\h.get? a=some {cls:=.type "list",data:=.seq vs.toArray}/\EW vs ns/\ns.length<=n:=by
 have hsh:WShape.hasAll [] args [.list .int]=true:=(pre_splitW hpre).1;have hc:l.pre.holds [] {args:=args}=true:=(pre_splitW hpre).2;obtain ⟨d,r,rfl,h1,h2⟩:=hasAllW_cons hsh;obtain rfl:=hasAllW_nil h2;obtain ⟨xs,rfl,h3⟩:=hasW_list h1;obtain ⟨ns,rfl⟩:=items_int h3;have hlen:ns.length<=n:=by
  unfold OpenLaw.pre at hc;have h4:(WTm.not (.lt (.lit (.int (n:Int))) (.len (.arg 0)))).holds [] {args:=[.list (ns.map .int)]}=true:=by have h4:=(holds_andW hc).1;rw [hn] at h4;exact h4
  have h5:=condW_of h4 (w_not (w_lt w_lit (w_len_list (w_arg rfl))));rw [Ah] at h5;refine IF fun q=>?_;have q':(n:Int)<((ns.length:Nat):Int):=by omega
  first
   | (rw [decide_eq_true q'] at h5;exact absurd h5 (by decide))
   | (simp at h5;omega)
 cases hwl with
 | cons w1 w2 =>
  cases w2;cases w1 with
  | list ho hall=>exact ⟨_,_,ns,rfl,rfl,ho,Zgt ns _ hall,hlen⟩
theorem Xba (l:OpenLaw)(args:List WData):l.row.toRowW.claim.post args (.bool true) args=true:=
 postW_of (r:=l.row.toRowW) (X:=(true==true))
  (show WShape.has [] (.bool true) .bool=true by first | rfl | decide | simp [WShape.has,WShape.arms,WShape.armsAll])
  (show (WTm.eq .res (.lit (.bool true))).value [] {args:=args,res:=some (.bool true),after:=args}=some (.bool (true==true)) from w_eq_bool (w_res rfl) w_lit) rfl
theorem attach_call 
    (hn:l.most=some n) (hdf:d.params.defaults=[])
    (call:∀(w:Bl) (s₀ s₁:Af) (mg mb:Str->Option Value) (fa:Addr) (o:Obj) (pm cd doc:Value) (a:Addr) (vs:List Value) (ns:List Int),
      Ground q loose [] XP w s₀ mg mb s₁.heap->YP w s₁.heap->
      s₁.heap.get? fa=some o->o.data=.func (docDef d.name d.params d.body d.scope pm cd doc)->s₁.heap.CodeRec cd d.name->mg d.name=some (.ref fa)->
      s₁.heap.get? a=some {cls:=.type "list",data:=.seq vs.toArray}->EW vs ns->ns.length<=n->s₁.gens=#[]->
      D6 (Aw l.prog w) Gc (.call (.ref fa) ⟨[.ref a],[]⟩) (fun r s'=>r=.ok (.ret (.bool true))/\OldK s₁.heap s'.heap/\s'.os=s₁.os/\EX s'.gens) s₁) :
    WalkO q loose XP YP l.row.toRowW d [] (fun f vs=>PySem.call f vs):=by
  intro w s₀ s₁ mg mb G Y fa o pm cd doc dV kV ho hd hcd hD hmg hg args vals as hpre hlay hrd hwl hlo;obtain rfl:dV=.none:=Dflts.none hD hdf;obtain rfl:kV=.none:=Dflts.noKw hD;obtain ⟨a,vs,ns,rfl,rfl,hobj,hints,hlen⟩:=Zvf hn hpre hwl;refine enter_call (HW (call w s₀ s₁ mg mb fa o pm cd doc a vs ns G Y ho (fd_plain hd) hcd hmg hobj hints hlen hg) fun r s' hq=>?_);obtain ⟨rfl,h2,h3,h4⟩:=hq;exact ⟨.inl ⟨.bool true,.bool true,[],rfl,fun _=>rfl,.bool true,Xba l _,fun _=>⟨EA,fun _ hm=>(nomatch hm)⟩⟩,h2,h3,h4⟩
end Att
namespace L2
open PySem PySem.Spec PyProof.Rows
variable {P q prog:AQ}{w:Bl}{K:AO}{mg mb m:Str->Option Value}{CX:CXT}{k n x1 tk:Nat}{a b e tg iter elt:Expr}{fd:Ck}{x qual z name y:Str}{sp:Sp}{s₁ s s2:Af}{vs its:List Value}{ns:List Int}{l f p it:Addr}{loose N ps N2:List Str}{XP:(Str->Option Value)->Bq->Prop}{YP:Bl->Bq->Prop}{d:DefRec}{X:Cx}{base h':Bq}{st s1:Stmt}{oc u:Value}{od an:Option Addr}{osl:Array (Option Value)}{pos p2 apos cpos pos' px py spos:Pos}{H H2 H':Hp}{op:G2}{es as ifs:List Expr}{env:Env}{c:Const}{ks:List Ce}{gs:List Comprehension}{sc scope esc:Scope}{j i:Int}{pins:List (Addr×Obj)}{σ:St}{E:Value->Af->Prop}{Q:VK}{C:Int->Int->Prop}{g:Int->Int->V}{xs ys:List V}{v:V}{lo hi:Option Expr}{te to:TE}{r:List V->Hp->VK->Prop}{T:String}{tt:TGs}{body:List Stmt}{wi:TI}{A:Bh}{tc:TT}{fp:List Addr}{tn:Nat->Bq->Prop}{RR:Value->Addr->JK->Af->Prop}{tp:TIp}
theorem Zlk:∀{vs:List Value} {ns:List Int},EW vs ns->Yk (ns.map V.int) vs
 | _,_,.nil=>.nil
 | _,_,.cons n t h=>.cons ⟨t,rfl⟩ (Zlk h)
def Only (H:Hp):Prop:=∀b,H b=none\/∃o xs,H b=some (.frz o (.lst xs))
theorem Xgh {fa a:Addr}
    (KX:K.In s₁.heap) (hns:s₁.heap.Ns Aq mg) (hb:s₁.heap.Ns FF mb) (hbb:∀x:Str,x≠"__name__"->mb x=CL x) (hlim:s₁.heap.NoLimit) (hg:s₁.gens=#[])
    (ha:s₁.heap.get? a=some {cls:=.type "list",data:=.seq vs.toArray}) (hi:EW vs ns) (hl:ns.length<=Ap) (hr:Zfo k Gc)
    (F:∀base:Bq,K.In base->base.Ns Aq mg->Zbe P w K mg base CX k fa fd [x] sp) (hbind:∀(s:Af) (u:Value),Fk s fd ⟨[u],[]⟩ [(x,u)])
    (hsp:∀H:Hp,Only H->SqL K H a (ns.map V.int)->sp [.ref a] H (fun v _=>v=.bl true) fun _ _ _=>False)
    (hCX:∀H e s',CX [] H s₁ (fun _ _ _=>False) e s'->False) :
    D6 (Aw P w) Gc (.call (.ref fa) ⟨[.ref a],[]⟩) (fun r s'=>r=.ok (.ret (.bool true))/\OldK s₁.heap s'.heap/\s'.os=s₁.os/\EX s'.gens) s₁:=by
  have rv:=Zlk hi;have lenV:=hi.length;have core:∀H:Hp,Only H->SqL K H a (ns.map V.int)->HOk P w H s₁.heap->(∀b,H b≠none->b=a)->(H a≠none->K.lookup a=none)->
      D6 (Aw P w) Gc (.call (.ref fa) ⟨[.ref a],[]⟩) (fun r s'=>r=.ok (.ret (.bool true))/\OldK s₁.heap s'.heap/\s'.os=s₁.os/\EX s'.gens) s₁:=by
    intro H hO hS hok hA hK;have base_of:∀{b:Addr} {o:Obj},s₁.heap.get? b=some o->H b=none->(Xds s₁.heap H).get? b=some o:=fun e n=>Xcw e n;have noA:∀{b:Addr} {o:Obj} {es:Array C3} {ep:Nat},s₁.heap.get? b=some o->o.data=.dict es ep->H b=none:=fun {b o es ep} e d=>by
      cases q:H b with
      | none=>rfl
      | some u =>have e':b=a:=hA b (by rw [q];simp);subst e';rw [ha] at e;cases e;have d':Data.seq vs.toArray _=Data.dict es ep:=d;cases d'
    have nsK:∀{b:Addr} {m:Str->Option Value},s₁.heap.Ns b m->(Xds s₁.heap H).Ns b m:=fun {b m} ⟨o,es,ep,e,d,r⟩=>⟨o,es,ep,base_of e (noA e d),d,r⟩;have hKb:K.In (Xds s₁.heap H):=fun b o e=>base_of (KX b o e) (by
      cases q:H b with
      | none=>rfl
      | some u =>
        have e':b=a:=hA b (by rw [q];simp);subst e';rw [hK (by rw [q];simp)] at e;cases e)
    have hM:Mod K mg (Xds s₁.heap H):=⟨hKb,nsK hns,⟨mb,nsK hb,hbb⟩,let ⟨mc,h1,h2⟩:=hlim;⟨mc,nsK h1,h2⟩⟩;have e0:Xrp P w K mg (Xds s₁.heap H) Gc [] s₁ H:=⟨rfl,hM,fun b o e=>Xjz e,Kx (Zxo _ _),trivial,fun b hb=>absurd (show b∈([]:List Addr) from hb) (by simp),hok,.of_eq hg⟩;refine HW ((F _ hKb (nsK hns)).run Gc [] s₁ H ⟨[.ref a],[]⟩ [.ref a] [.ref a] _ _ hr e0 (hbind s₁ (.ref a)) (.cons rfl .nil) (hsp H hO hS)) fun r s' h=>?_;cases r with
    | error e=>exact (hCX H e s' h).elim
    | ok fl =>
      cases fl with
      | next=>exact False.elim h
      | brk=>exact False.elim h
      | cont=>exact False.elim h
      | ret u =>
        obtain ⟨v,H',os,bare,un,hok',r',q⟩:=h;have q':v=.bl true:=q;subst q';obtain rfl:u=En true:=r';refine ⟨rfl,OldK.of_keep fun b o e=>?_,os,bare⟩;cases q:H b with
        | none=>exact un.keep b o e q (by intro z;exact absurd (show b∈([]:List Addr) from z) (by simp)) (by simp)
        | some u =>
          rcases hO b with z | ⟨ob,xs,z⟩
          · rw [q] at z;cases z
          · have z2:=un.frzs b ob _ z;obtain ⟨e1,_⟩:=hok b _ z;obtain ⟨e2,_⟩:=hok' b _ z2;rw [e] at e1;cases e1;exact e2
  cases hk:K.lookup a with
  | some o =>have e:=KX a o hk;rw [ha] at e;cases e;refine core (fun _=>none) (fun _=>.inl rfl) (.inr ⟨_,vs.toArray,_,hk,rfl,rfl,rfl,by rw [AE,lenV];exact hl,by simpa using rv⟩) (fun b u z=>by have z':(none:Option HO)=some u:=z;cases z') (fun b z=>absurd rfl z) fun z=>absurd rfl z
  | none =>
    refine core (fun b=>if b=a then some (.frz {cls:=.type "list",data:=.seq vs.toArray} (.lst (ns.map V.int))) else none) (fun b=>?_) (.inl (.inr ⟨{cls:=.type "list",data:=.seq vs.toArray},if_pos rfl⟩)) (fun b u z=>?_) (fun b z=>?_) fun _=>hk
    · by_cases hb:b=a
      · exact .inr ⟨_,_,if_pos hb⟩
      · exact .inl (if_neg hb)
    · by_cases hb:b=a
      · have z':=(if_pos hb).symm.trans z;cases z';subst hb;exact ⟨ha,by rw [Ah];exact hl,vs,_,rv,ha⟩
      · have z':=(if_neg hb).symm.trans z;cases z'
    · by_cases hb:b=a
      · exact hb
      · exact absurd (if_neg hb) z
abbrev KOf {K:AO}{h:Bq}(_:K.In h):AO:=K
theorem Xma {l:PySem.W.OpenLaw}{K:Params->AO}{CX:Bl->CXT}{sp:Bl->Sp}
    (hn:l.most=some n) (hn2:n<=Ap) (hdf:d.params.defaults=[]) (hr:Zfo k Gc)
    (hY:∀(w:Bl) (h:Bq),YP w h->(K w.params).In h)
    (F:∀(w:Bl) (mg:Str->Option Value) (fa:Addr) (h:Bq),(K w.params).In h->h.Ns Aq mg->mg d.name=some (.ref fa)->
      ∃fd:Ck,(∀(s:Af) (u:Value),Fk s fd ⟨[u],[]⟩ [(x,u)])/\
        ∀base:Bq,(K w.params).In base->base.Ns Aq mg->Zbe l.prog w (K w.params) mg base (CX w) k fa fd [x] (sp w))
    (hsp:∀(w:Bl) (H:Hp) (a:Addr) (ns:List Int),ns.length<=n->Only H->SqL (K w.params) H a (ns.map V.int)->sp w [.ref a] H (fun v _=>v=.bl true) fun _ _ _=>False)
    (hCX:∀(w:Bl) (H:Hp) (s:Af) (e:Value) (s':Af),CX w [] H s (fun _ _ _=>False) e s'->False) :
    PySem.W.WalkO q loose XP YP l.row.toRowW d [] (fun f vs=>PySem.call f vs):=by
  refine Att.attach_call hn hdf fun w s₀ s₁ mg mb fa o pm cd doc a vs ns G Y ho hd hcd hmg hobj hints hlen hg=>?_;have KX:=hY w _ Y;obtain ⟨fd,hb,hF⟩:=F w mg fa _ KX G.T.g hmg;exact Xgh KX G.T.g G.T.b G.T.builtins G.T.nolimit hg hobj hints (Az hlen hn2) hr hF hb (fun H hO hS=>hsp w H a ns hlen hO hS) fun H e s'=>hCX w H s₁ e s'
def Zcm (s:Stmt):Fm:=match s with
 | .FunctionDef _ a _ _ _ _ _ _ _ _=>a
 | _=>{posonlyargs:=[],args:=[],vararg:=none,kwonlyargs:=[],kw_defaults:=[],kwarg:=none,defaults:=[]}
def Jj (s:Stmt):List Stmt:=match s with
 | .FunctionDef _ _ b _ _ _ _ _ _ _=>b
 | _=>[]
def Zk (s:Stmt):Scope:=match s with
 | .FunctionDef _ _ _ _ _ _ sc _ _ _=>sc
 | _=>{kind:=.function,names:=[],isGenerator:=false,isCoroutine:=false}
abbrev CX0:CXT:=fun _ _ _ _ _ _=>False
abbrev E0:XK:=fun _ _ _=>False
theorem Yv :Zfk CX0 X E0:=fun _ _ _ _ _ _ _ h=>h.elim
structure Fun (K:AO)(x qual:Str)(st:Stmt)(f:Addr)(fd:Ck):Prop where
 ex:∃(oc:Value) (od:Option Addr) (kV doc pm:Value) (an:Option Addr) (cdv ct:Value) (osl:Array (Option Value)),
  fd=HU x qual (Zcm st) (Jj st) (Zk st) .none kV doc pm an cdv ct/\K.lookup f=some ⟨oc,od,.func fd,osl⟩/\FD K cdv qual=true
 kp:ES K (.ref f)=true
theorem Fun.ok (F:Fun K x qual st f fd)(S:Xe N ps (Zk st))(len:∀vs H Q E,sp vs H Q E->vs.length=ps.length)
    (hbody:∀(cdv:Value) (A:Bh) (outer:List Env) (s:Af) (H:Hp) (vs:List V) (Q:VK) (E:XK),Zfo k (A.deeper (Ei qual (Zk st) s.heap.objs.size f cdv))->sp vs H Q E->
      ∃t,PSs (Xbk CX0 P w K mg base N qual (Zk st) f cdv A outer s H E).nox (Jj st) t/\t {nx:=fun _ H'=>Q .non H',rt:=Q} (start N vs) H):Zbe P w K mg base CX0 (k+1) f fd ps sp:=by
  obtain ⟨oc,od,kV,doc,pm,an,cdv,ct,osl,rfl,lk,hcd⟩:=F.ex;refine fn_of lk hcd S len fun A outer s H vs Q E hr hsp=>?_;obtain ⟨t,h,q⟩:=hbody cdv A outer s H vs Q E hr hsp;exact ⟨t,h.nox,q⟩
theorem Fun.binds (F:Fun K x qual st f fd)
  (h:∀(kV doc pm:Value) (an:Option Addr) (cdv ct:Value) (us:List Value),us.length=ps.length->K7 (HU x qual (Zcm st) (Jj st) (Zk st) .none kV doc pm an cdv ct) ⟨us,[]⟩=BD (ps.zip us)):Binds K fd ps []:=by
 obtain ⟨oc,od,kV,doc,pm,an,cdv,ct,osl,rfl,lk,hcd⟩:=F.ex;exact .all (h kV doc pm an cdv ct)
theorem Yj {kV doc pm cdv ct:Value}(l:K.lookup f=some ⟨oc,od,.func (HU x qual (Zcm st) (Jj st) (Zk st) .none kV doc pm an cdv ct),osl⟩)
  (c:FD K cdv qual=true) (k:ES K (.ref f)=true):Fun K x qual st f (HU x qual (Zcm st) (Jj st) (Zk st) .none kV doc pm an cdv ct):=⟨⟨oc,od,kV,doc,pm,an,cdv,ct,osl,rfl,l,c⟩,k⟩
theorem pv (i:Nat)(hN:X.N[i]?=some x:=by rfl)(hv:autoParam (Vis X.env.scope x) aT3._auto_1)(hd:(x==("__debug__":Str))=false:=by decide)
  (hcd:(x==("__classdict__":Str))=false:=by decide):PE X (.Name x pos) (Zge i):=Xrj hN hv hd hcd
def Xf (H H':Hp):Prop:=∀b o,H b=some o->H' b=some o
theorem Xf.refl (H:Hp):Xf H H:=fun _ _ h=>h
theorem Xf.trans {H1:Hp}(a:Xf H H1)(b:Xf H1 H2):Xf H H2:=fun c o h=>b c o (a c o h)
theorem Xf.free (e:Xf H H')(h:H' l=DC):H l=DC:=by
 cases q:H l with
 | none=>rfl
 | some o =>rw [e l o q] at h;cases h
theorem Zs :Ad (.BinOp a op b pos::es) env=(false,A9 (.BinOp a op b pos) env)::Ad es env:=rfl
theorem Zf :Ad (.Constant c k pos::es) env=(false,A9 (.Constant c k pos) env)::Ad es env:=rfl
theorem Za :Ad (.Name x pos::es) env=(false,A9 (.Name x pos) env)::Ad es env:=rfl
theorem Ya :Ad (.Subscript a b pos::es) env=(false,A9 (.Subscript a b pos) env)::Ad es env:=rfl
theorem Yi :Ad (.Call a as ks pos::es) env=(false,A9 (.Call a as ks pos) env)::Ad es env:=rfl
theorem Zdt :Ad (.List as pos::es) env=(false,A9 (.List as pos) env)::Ad es env:=rfl
theorem Zsn :Ad (.Tuple as k pos::es) env=(false,A9 (.Tuple as k pos) env)::Ad es env:=rfl
theorem Zal :Ad (.ListComp a gs sc pos::es) env=(false,A9 (.ListComp a gs sc pos) env)::Ad es env:=rfl
theorem Zao :Zcj (.Subscript a b pos):=fun _ _=>rfl
theorem Zz :Zcj (.Name x pos):=fun _ _=>rfl
theorem Zo :Zcj (.Constant c k pos):=fun _ _=>rfl
theorem plain_bin :Zcj (.BinOp a op b pos):=fun _ _=>rfl
theorem Zeh {op:UnaryOp}:Zcj (.UnaryOp op a pos):=fun _ _=>rfl
def Xfl:R2:=fun x y H Q=>rI0 (fun i j=>.int (i+j)) x y H Q\/(∃i j,x=.str i/\y=.str j/\i.length+j.length<=Ap/\Q (.str (i++j)) H)\/rCat x y H Q
def Xeq:R2:=fun x y H Q=>rI Xoq (fun i j=>.int (i*j)) x y H Q\/rRep x y H Q
def Xqs (_ j:Int):Prop:=0<j/\j<2 ^ 200
theorem Zw:OpR X (B8 .Add) Xfl:=Xrc.or (Zum.or Xpg)
theorem Xo:OpR X (B8 .Mult) Xeq:=Xpa.or Xsl
theorem log2_small (h1:0<j)(h2:j<2 ^ 200):j.natAbs.log2<9000:=by
 have h3:j.natAbs<2 ^ 200:=by omega
 exact GW ((Nat.log2_lt (by omega)).mpr h3) (by decide)
theorem Zjm:OpR X (B8 .FloorDiv) (rI Xqs fun i j=>.int (i / j)):=opI fun i j _ _ _ _ _ hc q=>by have h1:(0:Int)<j:=hc.1;have h2:j<2 ^ 200:=hc.2;exact floordiv_int (by omega) (by rw [Int.fdiv_eq_ediv_of_nonneg i (by omega)];exact q) (.inl (PyProof.noPylong_of_log2 (log2_small h1 h2)))
mutual
inductive Dn (K:AO)(H:Hp):V->Fg->Prop
 | non:Dn K H .non .none
 | bl (b:Bool):Dn K H (.bl b) (.bool b)
 | int (i:Int):Dn K H (.int i) (.int i)
 | str (x:Str):Dn K H (.str x) (.str x)
 | lst {a:Addr} {xs:List V} {ds:List Fg}:SqL K H a xs->DnA K H xs ds->Dn K H (.ref a) (.list ds)
 | tup {a:Addr} {xs:List V} {ds:List Fg}:SqT K H a xs->DnA K H xs ds->Dn K H (.ref a) (.tuple ds)
inductive DnA (K:AO)(H:Hp):List V->List Fg->Prop
 | nil:DnA K H [] []
 | cons {x:V} {d:Fg} {xs:List V} {ds:List Fg}:Dn K H x d->DnA K H xs ds->DnA K H (x::xs) (d::ds)
end
mutual
theorem Dn.reads (I:Inv X pins σ H s):∀{x:V} {d:Fg} {u:Value},Dn X.K H x d->RelV x u->∃as,Reads s.heap u d as
 | _,_,_,.non,r=>by cases (show _=Bw from r);exact ⟨_,.none⟩
 | _,_,_,.bl b,r=>by cases (show _=En b from r);exact ⟨_,.bool b⟩
 | _,_,_,.int i,r=>by obtain ⟨t,q⟩:=(show ∃t,_=Dp i t from r);cases q;exact ⟨_,.int i t⟩
 | _,_,_,.str x,r=>by obtain ⟨t,q⟩:=(show ∃t,_=Gy x t from r);cases q;exact ⟨_,.str x t⟩
 | _,_,_,.lst (a:=a) h ra,r=>by cases (show _=AG a from r);obtain ⟨its,rv,pl,_⟩:=I.list h;obtain ⟨as,q⟩:=DnA.reads I ra rv;obtain ⟨o,ho,hc,n,hd⟩:=pl.isList;exact ⟨_,.list ho hc hd q⟩
 | _,_,_,.tup (a:=a) h ra,r=>by cases (show _=AG a from r);obtain ⟨its,rv,pl,_⟩:=I.tuple h;obtain ⟨as,q⟩:=DnA.reads I ra rv;obtain ⟨o,ho,hc,n,hd⟩:=pl;exact ⟨_,.tuple ho hc hd q⟩
theorem DnA.reads (I:Inv X pins σ H s):∀{xs:List V} {ds:List Fg} {us:List Value},DnA X.K H xs ds->Yk xs us->∃as,ReadsAll s.heap us ds as
 | _,_,_,.nil,.nil=>⟨_,.nil⟩
 | _,_,_,.cons h ra,.cons r rs=>by obtain ⟨as,q⟩:=Dn.reads I h r;obtain ⟨bs,q'⟩:=DnA.reads I ra rs;exact ⟨_,.cons q q'⟩
end
def rEqD (K:AO):R2:=fun x y H Q=>∃dx dy,Dn K H x dx/\Dn K H y dy/\Ff dx=true/\Ff dy=true/\Q (.bl (Hi dx dy)) H
def Zyv (K:AO):R2:=fun x y H Q=>rEq x y H Q\/rEqD K x y H Q
theorem Xts (hu:X.A.units+64<BC):OpR X (BU .Eq) (rEqD X.K):=by intro pins s σ H x y v u Q I rx ry h;obtain ⟨dx,dy,h1,h2,s1,s2,q⟩:=h;obtain ⟨as,ra⟩:=h1.reads I rx;obtain ⟨bs,rb⟩:=h2.reads I ry;exact eq_dataH ra rb s1 s2 hu ⟨.bl _,H,I,rfl,q⟩
theorem Zed (hu:X.A.units+64<BC):OpR X (BU .Eq) (Zyv X.K):=op_eq.or (Xts hu)
def Zai (K:AO):List V->Hp->VK->Prop:=fun xs H Q=>(∃p ys,xs=[.ref p]/\(SqL K H p ys\/SqT K H p ys)/\Q (.int ys.length) H)\/∃z,xs=[.str z]/\z.length<=Ap/\Q (.int z.length) H
def rSum (K:AO):List V->Hp->VK->Prop:=fun xs H Q=>∃(p:Addr) (ns:List Int),xs=[.ref p]/\SqL K H p (ns.map V.int)/\Q (.int ns.sum) H
def Zoi (lo:Int)(n:Nat):List V:=(A5 n).map fun (k:Nat)=>V.int (lo+(k:Int))
def Zqf (K:AO):List V->Hp->VK->Prop:=fun xs H Q=>(∃p ys,xs=[.ref p]/\(SqL K H p ys\/SqT K H p ys)/\∀l,H l=none->Q (.ref l) (upd H l (.lst ys)))\/
 ∃p i j,xs=[.ref p]/\H p=some (.rng i j)/\-(2 ^ 62)<=i/\i<2 ^ 62/\-(2 ^ 62)<=j/\j<2 ^ 62/\(j - i).toNat<=1000000/\∀l,H l=none->Q (.ref l) (upd H l (.lst (Zoi i (j - i).toNat)))
theorem Xh:Jx X (.builtin "len") (Zai X.K):=Zmm.or Znb
theorem Xcq (hc:X.calm=true):Jx X (.builtin "sum") (rSum X.K):=by
 intro pins s σ H xs us Q I r h;obtain ⟨p,ns,rfl,hq,q⟩:=h;obtain ⟨u,rfl,rx⟩:=vals1 r;cases rx;obtain ⟨its,rv,pl,hz⟩:=I.list hq;have hi:EW its ns:=intsAre_of rv;obtain ⟨xs,hxs⟩:=hi.allInts.items;have hn:numsOf its.toArray.toList=ns:=by rw [show its.toArray.toList=its from rfl,hi.numsOf]
 have hl:=pl.isList;rw [hxs] at hl hn;rw [Fv] at hn;refine sum_intListG (I.ok.hd hc) hl fun h' tk t' hk=>⟨.int ns.sum,H,I.kept hk,⟨t',?_⟩,q⟩;rw [preSum_eq,Dx (by simp),hn]
theorem Zjn (hc:X.calm=true):Jx X (.type "list") (fun xs H Q=>∃p i j,xs=[.ref p]/\H p=some (.rng i j)/\-(2 ^ 62)<=i/\i<2 ^ 62/\-(2 ^ 62)<=j/\j<2 ^ 62/\(j - i).toNat<=1000000/\
    ∀l,H l=none->Q (.ref l) (upd H l (.lst (Zoi i (j - i).toNat)))):=by
  intro pins s σ H xs us Q I r h;obtain ⟨p,i,j,rfl,hH,h1,h2,h3,h4,h5,q⟩:=h;obtain ⟨u,rfl,rx⟩:=vals1 r;cases rx;obtain ⟨t,u,v,e⟩:=I.hok p _ hH;have en:Fj i j 1=(((j - i).toNat:Nat):Int):=by rw [Lc];split<;>omega
  refine call_list_range (n:=(j - i).toNat) (I.ok.hd hc) e (small_one h1 h2 h3 h4) en (Az h5 (by decide)) fun h' tk acc' c' hk hg hit=>?_;refine ⟨.ref s.heap.objs.size,_,I.laid (t':=tk) hk (As _) (show Js X.prog X.w _ h' _ (.lst (Zoi i (j - i).toNat)) from ⟨?_,acc'.toList,c',?_,?_⟩),rfl,q _ I.fresh⟩;unfold Zoi;rw [Ah,CK];exact Az h5 (by decide);obtain ⟨hsz,hv⟩:=hit;have key:∀(k:Nat) (l:List Value) (lo:Int),l.length=k->(∀(m:Nat) (v:Value),l[m]?=some v->∃t,v=Dp (lo+(m:Int)) t)->Yk (Zoi lo k) l:=by
    intro k
    induction k with
    | zero =>intro l lo hl _;rw [BW.mp hl];exact .nil
    | succ k ih =>
      intro l lo hl hv;cases l with
      | nil=>simp at hl
      | cons x l =>
        obtain ⟨t,e⟩:=hv 0 x (by simp);have er:Zoi lo (k+1)=V.int lo::Zoi (lo+1) k:=by unfold Zoi;rw [List.range_succ_eq_map,AV,Be];congr 1;simp;apply BM;intro m _;show V.int (lo+((m+1:Nat):Int))=V.int (lo+1+(m:Int));congr 1;omega
        rw [er];refine .cons ⟨t,?_⟩ (ih l (lo+1) (by simpa using hl) fun m v hm=>?_);rw [e];congr 1;simp;obtain ⟨t',e'⟩:=hv (m+1) v (by simpa using hm);refine ⟨t',?_⟩;rw [e'];congr 1;omega
  refine key _ _ i (by simpa using hsz) fun m v hm=>?_;obtain ⟨t,e⟩:=hv m v (by simpa using hm);exact ⟨t,by rw [e];congr 1;omega⟩;simpa using hg
theorem Zex (hc:X.calm=true):Jx X (.type "list") (Zqf X.K):=Zmn.or (Zjn hc)
structure Def (P:AQ)(w:Bl)(K:AO)(mg:Str->Option Value)(base:Bq)(CX:CXT)(k:Nat)(x:Str)(ps:List Str)(sp:Sp):Prop where
 ex:∃f fd,mg x=some (.ref f)/\ES K (.ref f)=true/\Binds K fd ps []/\Zbe P w K mg base CX k f fd ps sp
theorem Xbq {E:XK}{p:Pos}{t:TA}(D:Def X.prog X.w X.K X.mg X.base CX k x ps sp)(hr:Zfo k X.A)(hg:Gl X x)(hx:Zfk CX X E)
  (ha:PA X (e::es) t) (hdb:(x==("__debug__":Str))=false:=by decide) (he:Ad (e::es) X.env=(false,A9 e X.env)::Ad es X.env:=by rfl) (hpl:(BG pos (Ad es X.env)).any (·.1)=false:=by rfl) :
  PE X (.Call (.Name x p) (e::es) [] pos) (Zim sp [] E t):=by
 obtain ⟨f,fd,m,kp,b,F⟩:=D.ex;exact Xnf F hr hg m kp b .nil hx ha hdb he hpl
section
variable {D:Ends}
theorem rd_I (c:C i j)(q:Q (g i j) H):rI C g (.int i) (.int j) H Q:=⟨i,j,rfl,rfl,c,q⟩
theorem rd_I0 (q:Q (g i j) H):rI0 g (.int i) (.int j) H Q:=⟨i,j,rfl,rfl,q⟩
theorem rd_U {g:Int->V}(q:Q (g i) H):rU g (.int i) H Q:=⟨i,rfl,q⟩
theorem Xto (q:Q (.int (i+j)) H):Xfl (.int i) (.int j) H Q:=.inl ⟨i,j,rfl,rfl,q⟩
theorem Xqp (c:Xoq i j)(q:Q (.int (i*j)) H):Xeq (.int i) (.int j) H Q:=.inl ⟨i,j,rfl,rfl,c,q⟩
theorem Zpp {E:XK}{t:TA}(q:t σ H fun vs H1=>sp vs H1 Q E):Zim sp [] E t σ H Q:=by
 show t σ H fun vs H1=>sp (vs++[]) H1 Q E;have e:(fun vs H1=>sp (vs++[]) H1 Q E)=fun vs H1=>sp vs H1 Q E:=by funext vs H1;rw [Dg]
 rw [e];exact q
theorem Xrg (h:SqL K H p xs)(e:atI xs i=some v)(q:Q v H):rIx K (.ref p) (.int i) H Q:=.inl ⟨p,xs,i,v,rfl,rfl,h,e,q⟩
theorem Xup (h:SqT K H p xs)(e:atI xs i=some v)(q:Q v H):rIx K (.ref p) (.int i) H Q:=.inr (.inl ⟨p,xs,i,v,rfl,rfl,h,e,q⟩)
theorem Zxf (h:SqL K H p ys)(q:Q (.int ys.length) H):Zai K [.ref p] H Q:=.inl ⟨p,ys,rfl,.inl h,q⟩
theorem Xnu (h:SqT K H p ys)(q:Q (.int ys.length) H):Zai K [.ref p] H Q:=.inl ⟨p,ys,rfl,.inr h,q⟩
theorem Xme (h:z.length<=Ap)(q:Q (.int z.length) H):Zai K [.str z] H Q:=.inr ⟨z,rfl,h,q⟩
theorem Xhp {y:V}(h:H l=some (.lst xs))(hz:xs.length<Ap)(q:Q .non (upd H l (.lst (xs++[y])))):Zbf (.ref l) [y] H Q:=⟨l,xs,y,rfl,rfl,h,hz,q⟩
theorem Xhm {a:Addr}{lo hi:Option Int}(h:SqL K H a xs)(q:∀p,H p=none->Q (.ref p) (upd H p (.lst (Zzz xs lo hi)))):rSlL K (.ref a) lo hi H Q:=⟨a,xs,rfl,h,q⟩
theorem Xuj {a b:Addr}{zs:List V}(h1:H a=some (.lst xs))(h2:H b=some (.lst zs))(hz:xs.length+zs.length<=Ap)(q:∀p,H p=none->Q (.ref p) (upd H p (.lst (xs++zs)))):Xfl (.ref a) (.ref b) H Q:=.inr (.inr ⟨a,b,xs,zs,rfl,rfl,h1,h2,hz,q⟩)
theorem Xsg {k:Int}(h:H l=some (.lst xs))(h1:-(2 ^ 63)<=k)(h2:k<2 ^ 63)(hz:xs.length*k.toNat<=Ap)(q:∀p,H p=none->Q (.ref p) (upd H p (.lst (Ab k.toNat xs).flatten))):Xeq (.ref l) (.int k) H Q:=.inr ⟨l,k,xs,rfl,rfl,h,h1,h2,hz,q⟩
theorem Xrz (h:SqL K H p (ns.map V.int))(q:Q (.int ns.sum) H):rSum K [.ref p] H Q:=⟨p,ns,rfl,h,q⟩
theorem Xdu (h:SqL K H p ys)(q:∀l,H l=none->Q (.ref l) (upd H l (.lst ys))):Zqf K [.ref p] H Q:=.inl ⟨p,ys,rfl,.inl h,q⟩
theorem Xcj (h:H p=some (.rng i j))(h1:-(2 ^ 62)<=i)(h2:i<2 ^ 62)(h3:-(2 ^ 62)<=j)(h4:j<2 ^ 62)(h5:(j - i).toNat<=1000000)(q:∀l,H l=none->Q (.ref l) (upd H l (.lst (Zoi i (j - i).toNat)))):Zqf K [.ref p] H Q:=.inr ⟨p,i,j,rfl,h,h1,h2,h3,h4,h5,q⟩
end
structure QE (X:Cx)(e:Expr)(t:TE):Prop where
 out:PE X e t
structure QT (X:Cx)(e:Expr)(t:TT):Prop where
 out:PT X e t
structure QW (X:Cx)(e:Expr)(t:TT):Prop where
 out:PW X e t
structure QA (X:Cx)(es:List Expr)(t:TA):Prop where
 out:PA X es t
structure QO (X:Cx)(e:Option Expr)(t:TO):Prop where
 out:PO X e t
structure QG (X:Cx)(e:Expr)(t:TG):Prop where
 out:PG X e t
structure QGs (X:Cx)(es:List Expr)(t:TGs):Prop where
 out:PGs X es t
structure QI (X:Cx)(tg iter:Expr)(wi:TI):Prop where
 out:PI X tg iter wi
structure QS (X:Cx)(st:Stmt)(t:TS):Prop where
 out:PS X st t
structure QSs (X:Cx)(st:List Stmt)(t:TS):Prop where
 out:PSs X st t
section
variable {c st o:Expr}{rest:List Expr}{ta tb tc ts:TE}{tA tB':TT}{t:TA}{p:Pos}
theorem Xpf {j:Nat}:QE X (.Constant (.int i) j pos) (tC (.int i)):=⟨Xua⟩
theorem qe_bl {i:Bool}{j:Nat}:QE X (.Constant (.bool i) j pos) (tC (.bl i)):=⟨pe_bl⟩
theorem Xqh {j:Nat}:QE X (.Constant (.str x) j pos) (tC (.str x)):=⟨Xud⟩
theorem qv (i:Nat)(hN:X.N[i]?=some x:=by rfl)(hv:autoParam (Vis X.env.scope x) aT3._auto_1)(hd:(x==("__debug__":Str))=false:=by decide)
  (hcd:(x==("__classdict__":Str))=false:=by decide):QE X (.Name x pos) (Zge i):=⟨pv i hN hv hd hcd⟩
theorem Xjw (hg:Gl X x)(hm:X.mg x=some u)(r:RelV v u)(hd:(x==("__debug__":Str))=false:=by decide):QE X (.Name x pos) (tC v):=⟨Xiq hg hm r hd⟩
theorem qe_op {r:R2}(ho:OpR X (B8 op) r)(ha:QE X a ta)(hb:QE X b tb):QE X (.BinOp a op b pos) (tOp r ta tb):=⟨pe_op ho ha.out hb.out⟩
theorem qe_un {op:UnaryOp}{r:V->Hp->VK->Prop}(ho:UnR X (unaryOp op) r)(ha:QE X a ta):QE X (.UnaryOp op a pos) (tUn r ta):=⟨pe_un ho ha.out⟩
theorem Xlk {op:Lr}{r:R2}(ho:OpR X (BU op) r)(ha:QE X a ta)(hb:QE X b tb)(hm:C1 op b=false):QE X (.Compare a [op] [b] pos) (tOp r ta tb):=⟨Xjq ho ha.out hb.out hm⟩
theorem Xjx {op:Lr}{r:R2}(ho:OpR X (BU op) r)(ha:QE X a ta)(hb:QE X b tb)(hm:C1 op b=false):QT X (.Compare a [op] [b] pos) (Xdr (tOp r ta tb)):=⟨Xjy ho ha.out hb.out hm⟩
theorem Xbn (hc:QT X c tA)(ha:QE X a ta)(hb:QE X b tb):QE X (.IfExp c a b pos) (tIf tA ta tb):=⟨Xfk hc.out ha.out hb.out⟩
theorem Xqq (h:QE X e te)(he:∀whole,isTrue e X.env whole=(do let v <- whole;EO e.pos;Cs [v] (HP v)):=by intro _;rfl):QT X e (tB te):=⟨Xpl h.out he⟩
theorem Xmg (ha:QT X a tA):QW X (.BoolOp .And [a] pos) tA:=⟨Xna ha.out⟩
theorem Xqj (ha:QT X a tA):QW X (.BoolOp .Or [a] pos) tA:=⟨Xpw ha.out⟩
theorem Xtv (ha:QT X a tA)(hb:QW X (.BoolOp .And (b::rest) pos) tB'):QW X (.BoolOp .And (a::b::rest) pos) (tAnd tA tB'):=⟨Xpm ha.out hb.out⟩
theorem qw_or (ha:QT X a tA)(hb:QW X (.BoolOp .Or (b::rest) pos) tB'):QW X (.BoolOp .Or (a::b::rest) pos) (tOr tA tB'):=⟨pw_or ha.out hb.out⟩
theorem qt_w (h:QW X a tA):QT X a tA:=⟨h.out.pt⟩
theorem Zsf:QA X [] Ztt:=⟨Zso⟩
theorem Zdh (ha:QE X e te)(hr:QA X es t)(hs:Ad (e::es) X.env=(false,A9 e X.env)::Ad es X.env):QA X (e::es) (Zbu te t):=⟨Zgr ha.out hr.out hs⟩
theorem Xgw (h:QA X es t):QE X (.Tuple es x1 pos) (Xpo t):=⟨Xqo h.out⟩
theorem Xia (h:QA X es t):QE X (.List es pos) (Xoh t):=⟨Xqg h.out⟩
theorem qe_ix {r:R2}(hr:IxR X r)(ha:QE X a ta)(hb:QE X b tb)(hs:Zcj b):QE X (.Subscript a b pos) (tOp r ta tb):=⟨pe_ix hr ha.out hb.out hs⟩
theorem Xkg:QO X none Zkv:=⟨Xnd⟩
theorem Xnx (h:QE X e te):QO X (some e) (Xeh te):=⟨Xmz h.out⟩
theorem Zsr {r:V->Option Int->Option Int->Hp->VK->Prop}{tl th:TO}(hr:SlR X r)(he:QE X e te)(hl:QO X lo tl)(hu:QO X hi th):QE X (.Subscript e (.Slice lo hi none p2) pos) (tSl r te tl th):=⟨Xgj hr he.out hl.out hu.out⟩
theorem Zjv {E:XK}(D:Def X.prog X.w X.K X.mg X.base CX k x ps sp)(hr:Zfo k X.A)(hg:Gl X x)(hx:Zfk CX X E)
  (ha:QA X (e::es) t) (hdb:(x==("__debug__":Str))=false:=by decide) (he:Ad (e::es) X.env=(false,A9 e X.env)::Ad es X.env:=by rfl) (hpl:(BG pos (Ad es X.env)).any (·.1)=false:=by rfl) :
  QE X (.Call (.Name x p) (e::es) [] pos) (Zim sp [] E t):=⟨Xbq D hr hg hx ha.out hdb he hpl⟩
theorem Xcp {id:String}(hc:Jx X (.builtin id) r)(hg:Gl X x)(hm:X.mg x=none)(hv:CL x=some (.builtin id))(ha:QA X (e::es) t)(hn:x≠"__name__":=by decide)(hdb:(x==("__debug__":Str))=false:=by decide)
  (he:Ad (e::es) X.env=(false,A9 e X.env)::Ad es X.env:=by rfl) (hpl:(BG pos (Ad es X.env)).any (·.1)=false:=by rfl):QE X (.Call (.Name x p) (e::es) [] pos) (tCB r t):=⟨Xfy hc hg hm hv ha.out hn hdb he hpl⟩
theorem Zwl (hc:Jx X (.type T) r)(hg:Gl X x)(hm:X.mg x=none)(hv:CL x=some (.type T))(ha:QA X (e::es) t)(hn:x≠"__name__":=by decide)(hdb:(x==("__debug__":Str))=false:=by decide)
  (he:Ad (e::es) X.env=(false,A9 e X.env)::Ad es X.env:=by rfl) (hpl:(BG pos (Ad es X.env)).any (·.1)=false:=by rfl):QE X (.Call (.Name x p) (e::es) [] pos) (tCB r t):=⟨Zzy hc hg hm hv ha.out hn hdb he hpl⟩
theorem Xlt {id:String}{r:V->List V->Hp->VK->Prop}(pa:PlainAttrs T)(slot:Slot T name id)(hty:typeOf (.builtin id)=BD (.type "method_descriptor"))(hm:MtR X id r)(ho:QE X o to)(ha:QA X (e::es) t)
    (hbase:Cq o name X.env (A9 o X.env)=A9 o X.env:=by rfl)
    (hfew:((BG cpos (Ad (e::es) X.env)).all (fun x=>!x.1)&&(Ej cpos (De [] X.env)).all (fun x=>x.1.isSome)
      && decide ((e::es).length+([]:List Ce).length+(if ([]:List Ce).isEmpty then 0 else 1)<30))=true:=by rfl)
    (hline:(apos.endLine==cpos.line)=true:=by rfl) (hs:Ad (e::es) X.env=(false,A9 e X.env)::Ad es X.env:=by rfl) (hplain:(BG cpos (Ad es X.env)).any (·.1)=false:=by rfl) :
    QE X (.Call (.Attribute o name apos) (e::es) [] cpos) (tBM X.K T r to t):=⟨pe_bm pa slot hty hm ho.out ha.out hbase hfew hline hs hplain⟩
theorem Zie {i:Nat}(hN:X.N.Nodup)(hi:X.N[i]?=some x)(hx:Loc X.env.scope x)(hf:autoParam (X.fn x=true\/X.env.scope.names.lookup x=some .local) aT0._auto_1):QG X (.Name x pos) (Yw i):=⟨Xja hN hi hx hf⟩
theorem Zrl (hc:X.calm=true)(h:QGs X es tt)(hn:(AR es X.env).length=n:=by rfl)(hst:(AR es X.env).findIdx? (·.1)=none:=by rfl):QG X (.Tuple es k pos) (Zew X.K n tt):=⟨Xsz hc h.out hn hst⟩
theorem Zkj:QGs X [] Xbh:=⟨Xky⟩
theorem Zgj {tt:TG}{u:TGs}(h1:QG X e tt)(h2:QGs X es u)(hs:(AR (e::es) X.env).map (·.2)=CM e X.env::(AR es X.env).map (·.2):=by rfl):QGs X (e::es) (Zih tt u):=⟨Xfz h1.out h2.out hs⟩
theorem Xjo (hl:QE X e te):QI X tg e (Xfp X.K te):=⟨Xju hl.out⟩
theorem Zvt (hg:Gl X "range")(hm:X.mg "range"=none)(ha:QA X [a] t)(hs:Ad [a] X.env=[(false,A9 a X.env)]:=by rfl):QI X tg (.Call (.Name "range" p) [a] [] pos) (Xfi t):=⟨Zzs hg hm ha.out hs⟩
theorem Zyb (hg:Gl X "range")(hm:X.mg "range"=none)(ha:QA X [a,b] t)(hs:Ad [a,b] X.env=[(false,A9 a X.env),(false,A9 b X.env)]:=by rfl)(hs2:Ad [b] X.env=[(false,A9 b X.env)]:=by rfl):QI X tg (.Call (.Name "range" p) [a,b] [] pos) (Xem t):=⟨Zvp hg hm ha.out hs hs2⟩
variable {ss other:List Stmt}{u v:TS}
theorem Zpi:QSs X [] Zly:=⟨Xjn⟩
theorem Zkt (h1:QS X s1 u)(h2:QSs X ss v):QSs X (s1::ss) (Xib u v):=⟨Xfv h1.out h2.out⟩
theorem Zka (h1:QS X s1 u):QSs X [s1] u:=⟨Xij h1.out⟩
theorem Xgp:QS X s1 Zsj:=⟨Xgf⟩
theorem Zhw (he:QE X e te)(hs:BO e none pos.line X.env=BD false:=by rfl):QS X (.Expr e pos) (Zga te):=⟨Xix he.out hs⟩
theorem Zyq (he:QE X e te):QS X (.Return (some e) pos) (Xhd te):=⟨Xse he.out⟩
theorem Xny (hc:QT X c tA)(ha:QSs X body u)(hb:QSs X other v):QS X (.If c body other pos) (Xhb tA u v):=⟨ps_if hc.out ha.out hb.out⟩
theorem Zwr {g:TG}(he:QE X e te)(hg:QG X tg g)(hs:Ex [tg] e pos.line X.env=BD false:=by rfl)(hw:Ey [tg] e X.env=BD none:=by rfl)(h1:(AR [tg] X.env).map (·.2)=[CM tg X.env]:=by rfl):QS X (.Assign [tg] e pos) (Zgl te g):=⟨Xub he.out hg.out hs hw h1⟩
theorem Znp {i:Nat}(hN:X.N.Nodup)(hi:X.N[i]?=some x)(hx:Loc X.env.scope x)(he:QE X e te)(hs:BO e (some (.Name x pos')) pos.line X.env=BD false:=by rfl)(hf:autoParam (X.fn x=true\/X.env.scope.names.lookup x=some .local) aT0._auto_1) :
  QS X (.Assign [.Name x pos'] e pos) (Zgl te (Yw i)):=⟨Xpp hN hi hx he.out hs hf⟩
theorem Zys {g:TG}(hp:Gq (Aw X.prog X.w) X.A X.env X.xe)(hc:X.calm=true)(hi:QI X tg iter wi)(hg:QG X tg g)(hb:QSs X body u)(hs:∀x,Bf iter X.env x=BD x:=by intro _;rfl):QS X (.For tg iter body [] pos) (Xho wi g u):=⟨Xtd hp hc hi.out hg.out hb.out hs⟩
end
theorem Fun.okQ (F:Fun K x qual st f fd)(S:Xe N ps (Zk st))(len:∀vs H Q E,sp vs H Q E->vs.length=ps.length)
    (hbody:∀(cdv:Value) (A:Bh) (outer:List Env) (s:Af) (H:Hp) (vs:List V) (Q:VK) (E:XK),Zfo k (A.deeper (Ei qual (Zk st) s.heap.objs.size f cdv))->sp vs H Q E->
      ∃t,QSs (Xbk CX0 P w K mg base N qual (Zk st) f cdv A outer s H E).nox (Jj st) t/\t {nx:=fun _ H'=>Q .non H',rt:=Q} (start N vs) H):Zbe P w K mg base CX0 (k+1) f fd ps sp:=
  F.ok S len fun cdv A outer s H vs Q E hr h=>by obtain ⟨t,ht,q⟩:=hbody cdv A outer s H vs Q E hr h;exact ⟨t,ht.out,q⟩
@[reducible] def Cx.blk (X:Cx)(N2:List Str)(x:Str)(sc:Scope)(cl:List (Str×Addr))(C:Addr)(s0:Af)(H0:Hp)(fp:List Addr):Cx:=
 {X with N:=N2++[x],s₀:=s0,H₀:=H0,env:=GY sc cl C X.env,outer:=X.stack,ex:=fp,fn:=fun _=>false,pn:=[],xe:=fun _ _=>False}
structure BlkOk (sc esc:Scope)(x:Str)(N N2:List Str):Prop where
 kind:sc.kind=.function
 cell:∀y∈sc.names,y.2≠.cell
 loc:∀y∈sc.names,y.2=.local->sc.names.lookup y.1=some .local
 own:sc.names.lookup x=some .local
 free:∀y∈sc.names,y.2=.free->esc.names.lookup y.1=some .cell\/esc.names.lookup y.1=some .free
 out:∀y∈N2,sc.names.lookup y≠some .local
 nd:N.Nodup
 nd2:N2.Nodup
 len:N2.length=N.length
 ren:∀p∈N.zip N2,p.2=p.1\/sc.names.lookup p.2=none
theorem lookup_mem {l:List (Str×CC)}{k:CC}(h:(y,k)∈l):l.lookup y≠none:=by
 induction l with
 | nil=>simp at h
 | cons p r ih =>
  obtain ⟨n,k'⟩:=p;cases hy:y==n with
  | true=>rw [Bi,hy];simp
  | false =>rw [Bi,hy];rcases Al.mp h with e | e;cases e;simp at hy;exact ih e
def Yn (cells:List (Str×Addr)):List (Str×CC)->List (Str×Addr)->List (Str×Addr)
 | [],cs=>cs
 | (n,k)::r,cs=>Yn cells r (if k=.free then (n,(cells.lookup n).getD 0)::cs else cs)
theorem Zdc (h:∀y∈sc.names,y.2=.free->∃c,env.cells.lookup y.1=some c):JC sc env=BD (Yn env.cells sc.names []):=by
  unfold JC;generalize sc.names=l at h ⊢;have key:∀(l:List (Str×CC)) (cs:List (Str×Addr)),(∀y∈l,y.2=.free->∃c,env.cells.lookup y.1=some c)->
      (forIn l cs fun (y:Str×CC) (r:List (Str×Addr))=>(do
        let (name,kind):=y
        if kind==.free then
          let c <- cellOf env name
          BD (Eb ((name,c)::r))
        else BD (Eb r):Sem (ForInStep (List (Str×Addr)))))=BD (Yn env.cells l cs):=by
    intro l
    induction l with
    | nil=>intro cs _;rfl
    | cons y r ih =>
      intro cs hy;obtain ⟨n,k⟩:=y;rw [FC];have hr:∀y∈r,y.2=.free->∃c,env.cells.lookup y.1=some c:=fun y h'=>hy y (B6 _ h');by_cases hk:k=.free;subst hk;obtain ⟨c,hc⟩:=hy _ CZ rfl;have e:cellOf env n=BD c:=by unfold cellOf;rw [show env.cells.lookup n=some c from hc]
      simp only [beq_self_eq_true,if_true,e];rw [Yn,if_pos rfl,show env.cells.lookup n=some c from hc];exact ih _ hr;have hb:(k==BZ)=false:=by simpa using hk
      rw [Yn,if_neg hk];simp only [hb,if_false,A7];exact ih _ hr
  have q:=key l [] h;exact (congrArg (fun z:Sem (List (Str×Addr))=>z >>= fun r=>BD r) q).trans rfl
theorem Zmr {cells:List (Str×Addr)}:∀{l:List (Str×CC)} {cs:List (Str×Addr)} {y:Str} {c:Addr},(∀z∈l,z.2=.free->∃c,cells.lookup z.1=some c)->(∀c,cs.lookup y=some c->cells.lookup y=some c)->
  (Yn cells l cs).lookup y=some c->cells.lookup y=some c
 | [],_,_,_,_,h0,h=>h0 _ h
 | (n,k)::r,cs,y,c,hl,h0,h=>by
  rw [Yn] at h;refine Zmr (l:=r) (fun z hz=>hl z (B6 _ hz)) (fun c' hc'=>?_) h;by_cases hk:k=.free;rw [if_pos hk] at hc';obtain ⟨c0,e0⟩:=hl _ CZ hk;cases hy:y==n with
  | true =>
   have e:y=n:=by simpa using hy
   subst e;rw [Bi,hy] at hc';have e1:(cells.lookup y).getD 0=c':=by simpa using hc'
   have e2:cells.lookup y=some c0:=e0;rw [e2] at e1 ⊢;simpa using e1
  | false =>rw [Bi,hy] at hc';exact h0 _ hc'
  rw [if_neg hk] at hc';exact h0 _ hc'
theorem Znm {cells:List (Str×Addr)}:∀{l:List (Str×CC)} {cs:List (Str×Addr)} {y:Str},(∃c,cs.lookup y=some c)->∃c,(Yn cells l cs).lookup y=some c
 | [],_,_,h=>h
 | (n,k)::r,cs,y,h=>by
  rw [Yn];refine Znm ?_;split;cases hy:y==n with
  | true=>exact ⟨_,by rw [Bi,hy]⟩
  | false=>rw [Bi,hy];exact h
  exact h
theorem Zks {cells:List (Str×Addr)}:∀{l:List (Str×CC)} {cs:List (Str×Addr)} {y:Str},(y,BZ)∈l->∃c,(Yn cells l cs).lookup y=some c
 | (n,k)::r,cs,y,h=>by rw [Yn];rcases Al.mp h with e | e;cases e;refine Znm ?_;rw [if_pos rfl];exact ⟨_,by rw [Bi,beq_self_eq_true]⟩;exact Zks e
theorem Zcd {env:Env}:∀{names:List (Str×CC)} {y:Str} {k:CC},(∀z∈names,z.2≠.cell)->(k=.cell\/k=.free)->
  (names.map fun (n,k)=>if (k==BZ&&env.scope.kind==.function&&env.kindOf n==some .cell) then (n,HY) else (n,k)).lookup y=some k->(y,BZ)∈names
 | [],_,_,_,_,hz=>by simp at hz
 | (n,k0)::r,y,k,hc,hk,h=>by
  rw [AV] at h;cases hy:y==n with
  | true =>
   have e:y=n:=by simpa using hy
   subst e;by_cases hf:k0=.free;subst hf;exact CZ;have hb:(k0==BZ)=false:=by simpa using hf
   simp only [hb,IT,A7,if_false,Bi,beq_self_eq_true] at h;have e1:k0=k:=by simpa using h
   subst e1;rcases hk with z | z;exact absurd z (hc _ CZ);exact absurd z hf
  | false =>refine B6 _ (Zcd (env:=env) (k:=k) (fun z hz=>hc z (B6 _ hz)) hk ?_);by_cases hc':(k0==BZ&&env.scope.kind==.function&&env.kindOf n==some .cell)=true;simp only [hc',if_true,Bi,hy] at h;exact h;simp only [hc',A7,if_false,Bi,hy] at h;exact h
theorem Zho {env:Env}:∀{names:List (Str×CC)} {y:Str},
  (names.map fun (n,k)=>if (k==BZ&&env.scope.kind==.function&&env.kindOf n==some .cell) then (n,HY) else (n,k)).lookup y=some .local->names.lookup y=some .local
 | [],_,h=>by simp at h
 | (n,kn)::r,y,h=>by
  rw [AV] at h;cases hy:y==n with
  | true =>rw [Bi,hy];by_cases hc:(kn==BZ&&env.scope.kind==.function&&env.kindOf n==some .cell)=true;simp only [hc,if_true,Bi,hy] at h;cases h;simp only [hc,A7,if_false,Bi,hy] at h;exact h
  | false =>rw [Bi,hy];refine Zho (env:=env) ?_;by_cases hc:(kn==BZ&&env.scope.kind==.function&&env.kindOf n==some .cell)=true;simp only [hc,if_true,Bi,hy] at h;exact h;simp only [hc,A7,if_false,Bi,hy] at h;exact h
section
variable {R:JK->Af->Prop}
def Zyj (ifs:List Expr)(env:Env):Sem Bool:=forIn ifs true fun c r=>if r=true then do let ok <- isTrue c env (A9 c env);BD (Eb ok) else BD (Eb r)
theorem Zuq {it ac:Value}(W:Nat->Af->Prop)
    (turn:∀n s,W n s->Am (Aw P w) A (Dq it) (fun r s₁=>match r with
      | none=>R (.ok .next) s₁
      | some v=>Am (Aw P w) A (EY tg it v) (fun _ s₁'=>Am (Aw P w) A (CM tg env v) (fun _ s₂ =>
          Am (Aw P w) A (Zyj ifs env) (fun ok s₃ =>
            if ok=true then Am (Aw P w) A (A9 elt env) (fun z s₄ =>
              Am (Aw P w) A (call (.builtin "list.append") [ac,z]) (fun _ s₅=>∃m,m<n/\W m s₅) (fun _ _=>False) s₄) (fun _ _=>False) s₃
            else ∃m,m<n/\W m s₃) (fun _ _=>False) s₂) (fun _ _=>False) s₁') (fun _ _=>False) s₁) (fun _ _=>False) s)
    (n:Nat) (h:W n s) :
    D6 (Aw P w) A (.compLoop (.ListComp elt [⟨tg,iter,ifs,0⟩] scope pos) 0 it ac env) R s:=by
  refine codeAny_loop rfl W (fun n s hI=>?_) n h;show Am _ A ((compTurn (.ListComp elt [⟨tg,iter,ifs,0⟩] scope pos) 0 it ac env).onRaise (fun z=>do noteFrame z env;theTreesLotGoes z)) _ _ s;refine wpAny_noted ?_;rw [compTurn_list];refine Aa (Fs (Aa (B3 (turn n s hI) (fun r s₁ h₁=>?_) fun _ _ h'=>h'.elim)));cases r with
  | none=>exact Ac h₁
  | some v =>
    refine Aa (B3 h₁ (fun _ s₁' h₁'=>?_) fun _ _ h'=>h'.elim);refine Aa (B3 h₁' (fun _ s₂ h₂=>Aa (B3 h₂ (fun ok s₃ h₃=>?_) fun _ _ h'=>h'.elim)) fun _ _ h'=>h'.elim);cases ok with
    | false=>exact Ac (Lm rfl h₃)
    | true =>exact Aa (Aa (B3 h₃ (fun x s₄ h₄=>Aa (B3 h₄ (fun _ s₅ h₅=>Ac (Ac ⟨rfl,h₅⟩)) fun _ _ h'=>h'.elim)) fun _ _ h'=>h'.elim))
end
def PIf (X:Cx)(ifs:List Expr)(t:TT):Prop:=
 ∀(pins:List (Addr×Obj)) (s:Af) (σ:St) (H:Hp) (Q:Bool->Hp->Prop),Inv X pins σ H s->t σ H Q->Am (Aw X.prog X.w) X.A (Zyj ifs X.env) (TP X pins σ Q) X.xe s
def tYes:TT:=fun _ H Q=>Q true H
theorem Xne :PIf X [] tYes:=fun _ _ _ H _ I h=>Ac ⟨H,I,h⟩
structure QIf (X:Cx)(ifs:List Expr)(t:TT):Prop where
 out:PIf X ifs t
section
variable {c:Expr}
theorem Xob:QIf X [] tYes:=⟨Xne⟩
variable {a D:Addr}{R:Hp->Prop}
end
@[reducible] def Cx.blkN (X:Cx)(N2 xs:List Str)(sc:Scope)(cl:List (Str×Addr))(C:Addr)(s0:Af)(H0:Hp)(fp:List Addr):Cx:=
 {X with N:=N2++xs,s₀:=s0,H₀:=H0,env:=GY sc cl C X.env,outer:=X.stack,ex:=fp,fn:=fun _=>false,pn:=[],xe:=fun _ _=>False}
structure Xbi (sc esc:Scope)(xs N N2:List Str):Prop where
 kind:sc.kind=.function
 cell:∀y∈sc.names,y.2≠.cell
 loc:∀y∈sc.names,y.2=.local->sc.names.lookup y.1=some .local
 free:∀y∈sc.names,y.2=.free->esc.names.lookup y.1=some .cell\/esc.names.lookup y.1=some .free
 out:∀y∈N2,sc.names.lookup y≠some .local
 nd:N.Nodup
 len:N2.length=N.length
 ren:∀p∈N.zip N2,p.2=p.1\/sc.names.lookup p.2=none
def Zee (k:Nat)(g:TG)(wi:TI)(tc:TT)(te:TE):TE:=fun σ H Q=>wi σ H fun J H1=>∀D,H1 D=none->∃W:Nat->Nat->Hp->Prop,(∃m,W 0 m (upd H1 D (.lst [])))/\∀i m H,W i m H->
  (J.stop i H/\Q (.ref D) H)\/(J.go i H/\∃N:Hp->Prop,(∀H',N H'->∃m',m'<m/\W (i+1) m' H')/\∀x H',J.yld i H x H'->∀os:St,os.length=k->g x (σ++os) H' fun σ' Hg=>(∃os',os'.length=k/\σ'=σ++os')/\tc σ' Hg fun b H2 =>
    if b=true then te σ' H2 fun v H3=>∃ys,H3 D=some (.lst ys)/\ys.length<Ap/\N (upd H3 D (.lst (ys++[v])))
    else N H2)
section
variable {xs:List Str}{g:TG}
theorem Ztr {s1:Af}(B:Xbi sc X.env.scope xs X.N N2)(I:Inv X pins σ H s)(hf:∀b∈fp,Zuo X pins H b)
    (hfl:∀b∈fp,b<s.heap.objs.size) (hn:h'.Ns s.heap.objs.size m) (hk:∀b o,s.heap.get? b=some o->h'.get? b=some o) (e1:s1={s with heap:=h',toks:=tk}) :
    Inv (X.blkN N2 xs sc (Yn X.env.cells sc.names []) s.heap.objs.size s H fp) [] (σ++Ab xs.length none) H s1:=by
  subst e1;have hcl:∀y∈sc.names,y.2=.free->∃c,X.env.cells.lookup y.1=some c:=fun y hy hf=>I.ok.has y.1 (B.free y hy hf);have look:∀y c,(Yn X.env.cells sc.names []).lookup y=some c->X.env.cells.lookup y=some c:=fun y c h=>Zmr hcl (fun _ z=>by simp at z) h;have isfree:∀y,(HR sc X.env).names.lookup y=some .cell\/(HR sc X.env).names.lookup y=some .free->(y,BZ)∈sc.names:=fun y hy=>by rcases hy with hy | hy;exact Zcd (env:=X.env) B.cell (.inl rfl) hy;exact Zcd (env:=X.env) B.cell (.inr rfl) hy
  refine ⟨⟨I.ok.mod,B.kind,I.ok.glob,I.ok.blt,As _,fun y z c h1 h2=>I.ok.inj y z c (look y c h1) (look z c h2),fun y hy=>Zks (isfree y hy),fun _ _ h=>(by cases h),I.ok.hd,I.ok.frames,.inl rfl,fun b hb=>?_,fun b o e=>?_,Az I.ok.bsz I.sz,fun b o e hb=>?_,fun b hb hs=>?_,I.stack,I.stkFree⟩,
    rfl,I.bare,Un.kept hk,⟨_,hn,fun i y v h1 h2 h3=>?_⟩,fun y c h=>?_,I.hok.fresh (As _),fun y c h=>I.freeC y c (look y c h),fun p hp=>absurd (show p∈([]:List (Addr×Obj)) from hp) (by simp),I.hok.kept hk,?_⟩
  exact ⟨Bn (hfl b hb),fun y c h=>(hf b hb).2.2.2.2.1 y c (look y c h)⟩;exact I.bs b o e;rcases (hf b hb).2.2.2.1 with z | z;exact I.ok.noex b o e z;exact absurd (AC (AJ e) (Az I.ok.bsz z)) (Bb _);rcases Al.mp (I.stkSub b hs) with z | z;exact (hf b hb).2.1 z;exact (hf b hb).2.2.1 z;have hlen:=I.len;have hl2:=B.len;have h1:(N2++xs)[i]?=some y:=h1;have h2:(σ++Ab xs.length none)[i]?=some (some v):=h2;have hi:i<X.N.length:=by by_cases hi:i<X.N.length;exact hi;rw [Bj (by omega)] at h2;have hm:=AW h2;rw [DN] at hm;exact absurd hm.2 (by intro z;cases z)
  rw [AD (by omega)] at h1;rw [AD (by omega)] at h2;have h3':(HR sc X.env).names.lookup y=some .cell\/(HR sc X.env).names.lookup y=some .free:=by rcases h3 with z | z;exact absurd (Zho (env:=X.env) z) (B.out y (AW h1));exact z
  have hfr:=isfree y h3';have h1:X.N[i]?=some y:=by obtain ⟨z,hz⟩:∃z,X.N[i]?=some z:=⟨X.N[i],Ag hi⟩;rcases B.ren (z,y) (AW (C7.mpr ⟨hz,h1⟩)) with e | e;rw [hz,show y=z from e];exact absurd e (lookup_mem hfr)
  obtain ⟨m3,hn3,hl3⟩:=I.loc;have hv:X.env.scope.names.lookup y=some .cell\/X.env.scope.names.lookup y=some .free:=B.free (y,.free) hfr rfl;obtain ⟨u,ru,lk⟩:=hl3 i y v h1 h2 (.inr hv);refine ⟨u,ru,.inr ⟨h3',?_⟩⟩;rcases lk with ⟨k1,_⟩ | ⟨k1,c,ec,zc⟩;rcases hv with q | q;rw [show X.env.kindOf y=X.env.scope.names.lookup y from rfl,q] at k1;cases k1;rw [show X.env.kindOf y=X.env.scope.names.lookup y from rfl,q] at k1;cases k1;obtain ⟨c',e'⟩:=Zks (cells:=X.env.cells) (cs:=[]) hfr;have e2:=look y c' e';rw [ec] at e2;cases e2;obtain ⟨o,ho,hd⟩:=zc;exact ⟨c,e',o,hk _ _ ho,hd⟩;obtain ⟨v,o,ho,hd⟩:=I.cell y c (look y c h);exact ⟨v,o,hk _ _ ho,hd⟩;show (σ++Ab xs.length none).length=(N2++xs).length;rw [Ak,Ak,I.len,B.len,BS]
def Tk (H H':Hp):Prop:=∀b p q,H b=some (.tbl p q)->H' b=some (.tbl p q)
theorem Zqk {J:It}(hc:X.calm=true)(B:Xbi sc X.env.scope xs X.N N2)
    (hg:∀cl C s0 H0 fp,Tk X.H₀ H0->PG (X.blkN N2 xs sc cl C s0 H0 fp) tg g) (ht:∀cl C s0 H0 fp,Tk X.H₀ H0->PIf (X.blkN N2 xs sc cl C s0 H0 fp) ifs tc) (he:∀cl C s0 H0 fp,Tk X.H₀ H0->PE (X.blkN N2 xs sc cl C s0 H0 fp) elt te)
    (I2:Inv X pins σ H2 s2) (T:Turn X.prog X.w X.K tg J fp it tn) (st2:tn 0 s2.heap) (f2:∀b∈fp,Zuo X pins H2 b)
    (hw:∀D,H2 D=none->∃W:Nat->Nat->Hp->Prop,(∃m,W 0 m (upd H2 D (.lst [])))/\∀i m H,W i m H->
      (J.stop i H/\Q (.ref D) H)\/(J.go i H/\∃N:Hp->Prop,(∀H',N H'->∃m',m'<m/\W (i+1) m' H')/\∀x H',J.yld i H x H'->∀os:St,os.length=xs.length->g x (σ++os) H' fun σ' Hg=>(∃os',os'.length=xs.length/\σ'=σ++os')/\tc σ' Hg fun b H2 =>
        if b=true then te σ' H2 fun v H3=>∃ys,H3 D=some (.lst ys)/\ys.length<Ap/\N (upd H3 D (.lst (ys++[v])))
        else N H2))
    (fin:∀(D C:Addr) (H':Hp) (s':Af) (m:Str->Option Value),Inv X pins σ H' s'->s'.heap.Ns C m->Zuo X pins H' C->Q (.ref D) H'->RR (.ref D) C (.ok .next) s') :
    Am (Aw X.prog X.w) X.A (newList []) (fun acc s₃=>Am (Aw X.prog X.w) X.A (newFunctionEnv sc X.env.globals (Yn X.env.cells sc.names []) [] X.env.qual none .none (some X.env)) (fun cenv s₄ =>
      D6 (Aw X.prog X.w) X.A (.compStart (.ListComp elt [⟨tg,iter,ifs,0⟩] sc pos) 0 (.ref it) acc {cenv with scope:=HR sc X.env}) (RR acc cenv.locals) s₄) E s₃) E s2:=by
  refine AZ (wpAny_newFunctionEnv B.cell (by intro y hy;simp at hy) (fun h₁ hns₁ hsb₁=>?_) B.kind);have hD:H2 s2.heap.objs.size=none:=I2.fresh;obtain ⟨W,⟨m0,w0⟩,turn⟩:=hw _ hD;have I3:Inv X pins σ (upd H2 s2.heap.objs.size (.lst [])) {s2 with heap:=s2.heap.push {cls:=.type "list",data:=.seq ([]:List Value).toArray}}:=I2.lnew (its:=[]) (t':=s2.toks) .nil (D4 _);have fne:∀b∈fp,b<s2.heap.objs.size:=fun b hb=>by obtain ⟨o,ho,_⟩:=T.obj _ _ st2 b hb;exact AJ ho
  generalize hs3:({s2 with heap:=s2.heap.push {cls:=.type "list",data:=.seq ([]:List Value).toArray}}:Af)=s3 at I3;have hs3h:s3.heap=s2.heap.push {cls:=.type "list",data:=.seq ([]:List Value).toArray}:=by rw [<- hs3]
  have f3:∀b∈fp,Zuo X pins (upd H2 s2.heap.objs.size (.lst [])) b:=fun b hb=>⟨by rw [Xc (Bn (fne b hb))];exact (f2 b hb).1,(f2 b hb).2⟩;have fl3:∀b∈fp,b<s3.heap.objs.size:=fun b hb=>by rw [hs3h,EH];exact C0 (fne b hb)
  have keep3:∀b o,s3.heap.get? b=some o->h₁.get? b=some o:=fun b o e=>by rw [hs3h] at e;refine hsb₁.extBut b o ?_ (Ae _ e);exact Bn (AJ e)
  have hns3:h₁.Ns s3.heap.objs.size (fun z=>([]:List (Str×Value)).reverse.lookup z):=by rw [hs3h];exact hns₁
  have I4:=Ztr (xs:=xs) (sc:=sc) (s1:={s3 with heap:=h₁,toks:=s3.toks+([]:List (Str×Value)).length}) B I3 f3 fl3 hns3 keep3 rfl;have st4:tn 0 h₁:=T.keep _ _ _ st2 fun b hb o e=>keep3 b o (by rw [hs3h];exact Ae _ e);have stat:∀{H':Hp},(∀b∈fp,H' b=none)->∀b∈fp,Zuo (X.blkN N2 xs sc (Yn X.env.cells sc.names []) s3.heap.objs.size s3 (upd H2 s2.heap.objs.size (.lst [])) fp) [] H' b:=fun hn b hb =>
    ⟨hn b hb,(I4.ok.exf b hb).1,I4.ok.exfs b hb,.inl hb,(I4.ok.exf b hb).2,fun p hp=>absurd (show p∈([]:List (Addr×Obj)) from hp) (by simp)⟩
  have tk:Tk X.H₀ (upd H2 s2.heap.objs.size (.lst [])):=fun b p q h=>I3.base.tbls b p q h;have loop:∀s4:Af,s4={s3 with heap:=h₁,toks:=s3.toks+([]:List (Str×Value)).length}->
      D6 (Aw X.prog X.w) X.A (.compLoop (.ListComp elt [⟨tg,iter,ifs,0⟩] sc pos) 0 (.ref it) (.ref s2.heap.objs.size) (GY sc (Yn X.env.cells sc.names []) s3.heap.objs.size X.env)) (RR (.ref s2.heap.objs.size) s3.heap.objs.size) s4:=by
    rintro s4 rfl;refine Zuq (fun n s'=>∃(i:Nat) (o:St) (H':Hp),o.length=xs.length/\Inv (X.blkN N2 xs sc (Yn X.env.cells sc.names []) s3.heap.objs.size s3 (upd H2 s2.heap.objs.size (.lst [])) fp) [] (σ++o) H' s'/\tn i s'.heap/\(∀b∈fp,H' b=none)/\W i n H') ?_ m0
      ⟨0,Ab xs.length none,_,by simp,I4,st4,fun b hb=>(f3 b hb).1,w0⟩
    rintro n s5 ⟨i,o,H5,ol5,I5,st5,fr5,w5⟩;rcases turn i n H5 w5 with ⟨stop,qn⟩ | ⟨go,N,hN,step⟩;refine thn (T.done (X.blkN N2 xs sc (Yn X.env.cells sc.names []) s3.heap.objs.size s3 (upd H2 s2.heap.objs.size (.lst [])) fp) rfl rfl rfl hc i [] s5 (σ++o) H5 _ I5 (stat fr5) st5 stop) fun r s6 ⟨hr,I6⟩=>?_;subst hr;obtain ⟨m6,hn6,_⟩:=I6.loc;refine fin _ _ H5 s6 m6 ?_ hn6 (I3.fpOk (As _) I6.free) qn;exact I3.call' (ch:=fp) I6.os I6.base I6.hok I6.bare fun b hb=>⟨(f3 b hb).2.2.2.1,(f3 b hb).2.1,(f3 b hb).2.2.2.2.1,(f3 b hb).2.2.2.2.2⟩;refine thn (T.item (X.blkN N2 xs sc (Yn X.env.cells sc.names []) s3.heap.objs.size s3 (upd H2 s2.heap.objs.size (.lst [])) fp) rfl rfl rfl hc i [] s5 (σ++o) H5 _ I5 (stat fr5) st5 go) fun r s6 ⟨u,hr,h6⟩=>?_;subst hr;refine thn h6 fun _ s7 hz9=>?_;obtain ⟨v,H7,I7,r7,y7,st7,fr7⟩:=hz9;have I7':=I7.pinned (stat fr7) (T.obj _ _ st7);refine thn (hg _ _ _ _ _ tk _ s7 _ H7 v u _ I7' r7 (step v H7 y7 o ol5)) fun _ s8 ⟨σ8,H8,I8,⟨os',ol8,e8⟩,q8⟩=>?_;subst e8;have Kb:∀{H9:Hp} {s9:Af},Inv (X.blkN N2 xs sc (Yn X.env.cells sc.names []) s3.heap.objs.size s3 (upd H2 s2.heap.objs.size (.lst [])) fp) ([]++Zlj fp s7.heap) (σ++os') H9 s9->N H9->
        ∃m,m<n/\∃(i:Nat) (o:St) (H':Hp),o.length=xs.length/\Inv (X.blkN N2 xs sc (Yn X.env.cells sc.names []) s3.heap.objs.size s3 (upd H2 s2.heap.objs.size (.lst [])) fp) [] (σ++o) H' s9/\tn i s9.heap/\(∀b∈fp,H' b=none)/\W i m H':=fun {H9 s9} I9 n9=>by
      obtain ⟨m',hm,w9⟩:=hN H9 n9;refine ⟨m',hm,i+1,os',H9,ol8,I9.unpinned,T.keep _ _ _ st7 fun b hb o e=>(I9.pin (b,o) (Ar _ (Ar _ (Zcw hb e)))).1,fun b hb=>?_,w9⟩;obtain ⟨o,e,d⟩:=T.obj _ _ st7 b hb;exact (I9.pin (b,o) (Ar _ (Ar _ (Zcw hb e)))).2.1
    refine thn (ht _ _ _ _ _ tk _ s8 _ H8 _ I8 q8) fun ok s9 ⟨H9,I9,q9⟩=>?_;cases ok with
    | false =>rw [if_neg Au] at q9 ⊢;exact Kb I9 q9
    | true =>rw [if_pos rfl] at q9 ⊢;refine thn (he _ _ _ _ _ tk _ s9 _ H9 _ I9 q9) fun ue s10 hz9=>?_;obtain ⟨ve,H10,I10,r10,ys,hy,hz,q10⟩:=hz9;refine thn (Zen _ s10 _ H10 (.ref s2.heap.objs.size) [ve] (.ref s2.heap.objs.size) [ue] (fun _ H'=>N H') I10 rfl (.cons r10 .nil) ⟨_,ys,ve,rfl,rfl,hy,hz,q10⟩) fun _ s11 hz9=>?_;obtain ⟨_,H11,I11,_,q11⟩:=hz9;exact Kb I11 q11
  have fin':D6 (Aw X.prog X.w) X.A (.compStart (.ListComp elt [⟨tg,iter,ifs,0⟩] sc pos) 0 (.ref it) (.ref s2.heap.objs.size) (GY sc (Yn X.env.cells sc.names []) s3.heap.objs.size X.env)) (RR (.ref s2.heap.objs.size) s3.heap.objs.size) {s3 with heap:=h₁,toks:=s3.toks+([]:List (Str×Value)).length}:=codeAny_compStart_list (loop _ rfl) (T.self _ 0 _ _ _ st4 (loop _ rfl));exact fin'
theorem Xbp (hc:X.calm=true)(B:Xbi sc X.env.scope xs X.N N2)(hi:PI X tg iter wi)(hg:∀cl C s0 H0 fp,Tk X.H₀ H0->PG (X.blkN N2 xs sc cl C s0 H0 fp) tg g)(ht:∀cl C s0 H0 fp,Tk X.H₀ H0->PIf (X.blkN N2 xs sc cl C s0 H0 fp) ifs tc)(he:∀cl C s0 H0 fp,Tk X.H₀ H0->PE (X.blkN N2 xs sc cl C s0 H0 fp) elt te)
  (hs:∀v,Bf iter X.env v=BD v:=by intro _;rfl):PE X (.ListComp elt [⟨tg,iter,ifs,0⟩] sc pos) (Zee xs.length g wi tc te):=by
 intro pins s σ H Q I h;rw [eval_ListComp];have hcl:∀y∈sc.names,y.2=.free->∃c,X.env.cells.lookup y.1=some c:=fun y hy hf=>I.ok.has y.1 (B.free y hy hf);refine Hm (use:=none) rfl hs (Zdc hcl) B.kind B.loc (thn (hi pins s σ H _ I h) fun v s1 h1=>thn h1 fun itv s2 h2=>?_);obtain ⟨it,fp,tn,J,H2,e,I2,T,st2,f2,hw⟩:=h2;subst e;refine Zqk (RR:=fun acc C=>compPost (Aw X.prog X.w) X.A X.xe none (EP X pins σ Q) acc C) hc B hg ht he I2 T st2 f2 hw ?_;intro D C H' s' m I' hn hC q;obtain ⟨c0,c1,c2,c3,c4,c5⟩:=hC;refine ⟨m,hn,fun h'' hs''=>⟨.ref D,H',?_,rfl,q⟩⟩;exact I'.turned (t':=s'.toks) (fun b o hb e=>hs''.extBut b o hb e) c0 c1 c3 c4 c5
theorem Xch {i:Nat}(hc:X.calm=true)(B:Xbi sc X.env.scope xs X.N N2)(hi:PI X tg iter wi)(hg:∀cl C s0 H0 fp,Tk X.H₀ H0->PG (X.blkN N2 xs sc cl C s0 H0 fp) tg g)(ht:∀cl C s0 H0 fp,Tk X.H₀ H0->PIf (X.blkN N2 xs sc cl C s0 H0 fp) ifs tc)(he:∀cl C s0 H0 fp,Tk X.H₀ H0->PE (X.blkN N2 xs sc cl C s0 H0 fp) elt te)
    (hy:X.N[i]?=some y) (hl:X.env.scope.names.lookup y=some .local) (hsw:BO (.ListComp elt [⟨tg,iter,ifs,0⟩] sc pos) (some (.Name y py)) spos.line X.env=BD true:=by rfl)
    (hs:∀v,Bf iter X.env v=BD v:=by intro _;rfl):PS X (.Assign [.Name y py] (.ListComp elt [⟨tg,iter,ifs,0⟩] sc pos) spos) (Zgl (Zee xs.length g wi tc te) (Yw i)):=by
  intro pins s σ H D I h;have hx:=exec_Assign_Name_used (env:=X.env) _ _ _ _ hsw;rw [hx];refine Aa (Fs ?_);refine Aa ?_;show Am _ X.A (do let _ <- comprehension (.ListComp elt [⟨tg,iter,ifs,0⟩] sc pos) sc X.env _ (newList []) false (A9 iter X.env) (some (CM (.Name y py) X.env))) _ _ s;have hcl:∀y∈sc.names,y.2=.free->∃c,X.env.cells.lookup y.1=some c:=fun y hy hf=>I.ok.has y.1 (B.free y hy hf);refine Aa (B3 (Hm (use:=some (CM (.Name y py) X.env)) (Q:=fun _ s'=>SP X pins D .next s') rfl hs (Zdc hcl) B.kind B.loc
    (thn (hi pins s σ H _ I h) fun v s1 h1=>thn h1 fun itv s2 h2=>?_)) (fun _ s' hq=>Ac (Ac hq)) fun _ _ e=>e)
  obtain ⟨it,fp,tn,J,H2,e,I2,T,st2,f2,hw⟩:=h2;subst e;refine Zqk (Q:=fun v H1=>Yw i v σ H1 D.nx) (RR:=fun acc C=>compPost (Aw X.prog X.w) X.A X.xe (some (CM (.Name y py) X.env)) (fun _ s'=>SP X pins D .next s') acc C) hc B hg ht he I2 T st2 f2 hw ?_;intro E C H' s' m I' hn hC q;obtain ⟨c0,c1,c2,c3,c4,c5⟩:=hC;show Am _ X.A (CM (.Name y py) X.env (.ref E)) _ _ _;refine J4 (Znt (v:=.ref E) I' B.nd hy (.inl hl) rfl (fun s8 I8 ⟨a,sb,ha⟩=>?_) (.inr hl));have hCa:C≠a:=by rcases ha with z | z;rw [z];exact c1;exact fun z'=>c4 _ _ z z'.symm
  refine ⟨m,hn.sameBut sb hCa,fun h'' hs''=>⟨_,H',?_,q⟩⟩;exact I8.turned (t':=s8.toks) (fun b o hb e=>hs''.extBut b o hb e) c0 c1 c3 c4 c5
end
section
variable {c:Expr}{xs:List Str}{g:TG}
theorem Zxu (esc:Scope)(N N2 xs:List Str)(B:Xbi sc esc xs N N2)(hi:QI X tg iter wi)(hg:∀cl C s0 H0 fp,Tk X.H₀ H0->QG (X.blkN N2 xs sc cl C s0 H0 fp) tg g)(ht:∀cl C s0 H0 fp,Tk X.H₀ H0->QIf (X.blkN N2 xs sc cl C s0 H0 fp) ifs tc)(he:∀cl C s0 H0 fp,Tk X.H₀ H0->QE (X.blkN N2 xs sc cl C s0 H0 fp) elt te)
  (hesc:X.env.scope=esc:=by rfl) (hN:X.N=N:=by rfl) (hc:X.calm=true:=by rfl) (hs:∀v,Bf iter X.env v=BD v:=by intro _;rfl):QE X (.ListComp elt [⟨tg,iter,ifs,0⟩] sc pos) (Zee xs.length g wi tc te):=by
 subst hesc hN;exact ⟨Xbp hc B hi.out (fun cl C s0 H0 fp z=>(hg cl C s0 H0 fp z).out) (fun cl C s0 H0 fp z=>(ht cl C s0 H0 fp z).out) (fun cl C s0 H0 fp z=>(he cl C s0 H0 fp z).out) hs⟩
theorem Xfc (esc:Scope)(N N2 xs:List Str)(B:Xbi sc esc xs N N2)(hi:QI X tg iter wi)(hg:∀cl C s0 H0 fp,QG (X.blkN N2 xs sc cl C s0 H0 fp) tg g)(ht:∀cl C s0 H0 fp,QIf (X.blkN N2 xs sc cl C s0 H0 fp) ifs tc)(he:∀cl C s0 H0 fp,QE (X.blkN N2 xs sc cl C s0 H0 fp) elt te)
  (hesc:X.env.scope=esc:=by rfl) (hN:X.N=N:=by rfl) (hc:X.calm=true:=by rfl) (hs:∀v,Bf iter X.env v=BD v:=by intro _;rfl):QE X (.ListComp elt [⟨tg,iter,ifs,0⟩] sc pos) (Zee xs.length g wi tc te):=
 Zxu esc N N2 xs B hi (fun cl C s0 H0 fp _=>hg cl C s0 H0 fp) (fun cl C s0 H0 fp _=>ht cl C s0 H0 fp) (fun cl C s0 H0 fp _=>he cl C s0 H0 fp) hesc hN hc hs
theorem Zxn {i:Nat}(esc:Scope)(N N2 xs:List Str)(B:Xbi sc esc xs N N2)(hy:N[i]?=some y)(hl:esc.names.lookup y=some .local)(hi:QI X tg iter wi)(hg:∀cl C s0 H0 fp,Tk X.H₀ H0->QG (X.blkN N2 xs sc cl C s0 H0 fp) tg g)(ht:∀cl C s0 H0 fp,Tk X.H₀ H0->QIf (X.blkN N2 xs sc cl C s0 H0 fp) ifs tc)(he:∀cl C s0 H0 fp,Tk X.H₀ H0->QE (X.blkN N2 xs sc cl C s0 H0 fp) elt te)
  (hesc:X.env.scope=esc:=by rfl) (hN:X.N=N:=by rfl) (hc:X.calm=true:=by rfl) (hsw:BO (.ListComp elt [⟨tg,iter,ifs,0⟩] sc pos) (some (.Name y py)) spos.line X.env=BD true:=by rfl)
  (hs:∀v,Bf iter X.env v=BD v:=by intro _;rfl):QS X (.Assign [.Name y py] (.ListComp elt [⟨tg,iter,ifs,0⟩] sc pos) spos) (Zgl (Zee xs.length g wi tc te) (Yw i)):=by
 subst hesc hN;exact ⟨Xch hc B hi.out (fun cl C s0 H0 fp z=>(hg cl C s0 H0 fp z).out) (fun cl C s0 H0 fp z=>(ht cl C s0 H0 fp z).out) (fun cl C s0 H0 fp z=>(he cl C s0 H0 fp z).out) hy hl hsw hs⟩
theorem Xej {i:Nat}(esc:Scope)(N N2 xs:List Str)(B:Xbi sc esc xs N N2)(hy:N[i]?=some y)(hl:esc.names.lookup y=some .local)(hi:QI X tg iter wi)(hg:∀cl C s0 H0 fp,QG (X.blkN N2 xs sc cl C s0 H0 fp) tg g)(ht:∀cl C s0 H0 fp,QIf (X.blkN N2 xs sc cl C s0 H0 fp) ifs tc)(he:∀cl C s0 H0 fp,QE (X.blkN N2 xs sc cl C s0 H0 fp) elt te)
  (hesc:X.env.scope=esc:=by rfl) (hN:X.N=N:=by rfl) (hc:X.calm=true:=by rfl) (hsw:BO (.ListComp elt [⟨tg,iter,ifs,0⟩] sc pos) (some (.Name y py)) spos.line X.env=BD true:=by rfl)
  (hs:∀v,Bf iter X.env v=BD v:=by intro _;rfl):QS X (.Assign [.Name y py] (.ListComp elt [⟨tg,iter,ifs,0⟩] sc pos) spos) (Zgl (Zee xs.length g wi tc te) (Yw i)):=
 Zxn esc N N2 xs B hy hl hi (fun cl C s0 H0 fp _=>hg cl C s0 H0 fp) (fun cl C s0 H0 fp _=>ht cl C s0 H0 fp) (fun cl C s0 H0 fp _=>he cl C s0 H0 fp) hesc hN hc hsw hs
end
theorem Zye (bt:Nat->Nat->Bool):∀k,C5 bt k<=k
 | 0=>As _
 | k+1=>by rw [C5];have:=Zye bt k;split<;>omega
section
variable {D:Ends}
variable {c o i':Expr}{ti:TE}{tb:TS}
theorem Xsh {i:Nat}(hN:X.N.Nodup)(hi:X.N[i]?=some x)(hx:Loc X.env.scope x)(he:QE X e te)(ho:PIp X op tp)(hf:autoParam (X.fn x=true\/X.env.scope.names.lookup x=some .local) aT0._auto_1) :
  QS X (.AugAssign (.Name x pos') op e pos) (tAug i te tp):=⟨Xpz hN hi hx he.out ho hf⟩
theorem Xid {t:TSet}(ho:QE X o to)(hi:QE X i' ti)(hs:PSet X t)
    (ha:∀v,CM (.Subscript o i' pos) X.env v=(do
      let ov <- Cs [v] (A9 o X.env)
      let iv <- Cs [v,ov] (A9 i' X.env)
      EO pos
      Cs [v,ov,iv] (GO ov iv v)
      J7 [v,ov,iv] []):=by intro _;rfl):QG X (.Subscript o i' pos) (Zeu to ti t):=⟨Xtx ho.out hi.out hs ha⟩
variable {p p':Pos}
end
theorem range_any (bs:List Bool):(A5 bs.length).any (fun i=>bs.getD i false)=bs.any id:=by
 refine Dm.mpr ⟨fun h=>Em.mpr ?_,fun h=>Em.mpr ?_⟩
 all_goals obtain ⟨i,hi,h⟩:=Em.mp h
 ·have hl:i<bs.length:=Bs.mp hi;refine ⟨bs[i],Cg hl,?_⟩;simpa [B7,hl] using h
 ·obtain ⟨j,hj,e⟩:=EK.mp hi;refine ⟨j,Bs.mpr hj,?_⟩;have e2:bs.getD j false=bs[j]:=by simp [B7,hj]
  rw [e2,e];exact h
def Xea (K:AO):List V->Hp->VK->Prop:=fun xs H Q=>∃(p:Addr) (bs:List Bool),xs=[.ref p]/\SqL K H p (bs.map V.bl)/\Q (.bl (bs.any id)) H
theorem Xum {bs:List Bool}(rv:Yk (bs.map V.bl) its):TruthOf prog w A (fun i v=>its.toArray[i]?=some v) (fun i=>bs.getD i false):=by
  intro i v s Q E hv hQ;have hl:=rv.length;rw [Ah] at hl;have hv':its[i]?=some v:=by simpa using hv
  have hi:i<its.length:=(Ai.mp hv').1;obtain ⟨u,e,ru⟩:=rv.get (i:=i) (x:=V.bl (bs.getD i false)) (by
    rw [AM,Ag (by omega)];simp [B7,show i<bs.length by omega])
  rw [hv'] at e;cases e;cases (show v=En (bs.getD i false) from ru);exact DE hQ
theorem Zxz (hc:X.calm=true):Jx X (.builtin "any") (Xea X.K):=by intro pins s σ H xs us Q I r h;obtain ⟨p,bs,rfl,hq,q⟩:=h;obtain ⟨u,rfl,rx⟩:=vals1 r;cases rx;obtain ⟨its,rv,pl,hz⟩:=I.list hq;have hl:=pl.isList;have hlen:=rv.length;rw [Ah] at hlen;obtain ⟨oa,hoa,_⟩:=id hl;have hlt:p<s.heap.objs.size:=AJ hoa;refine call_any_walk (FW pl.isList ⟨_,_,_,_,_,_,fun i=>bs.getD i false,rfl,Walks.list (A:=X.A.in1) (I.ok.hd hc) s.heap.objs.size p (Bn hlt) its.toArray,⟨⟨_,Av _ rfl,rfl,rfl⟩,hl.push _⟩,Xum rv,fun h' tk hk=>⟨.bl (bs.any id),H,I.kept (old_kept hk),?_,q⟩⟩);show En _=En _;rw [AE,<- hlen,range_any]
theorem Xkd {bs:List Bool}(h:SqL K H p (bs.map V.bl))(q:Q (.bl (bs.any id)) H):Xea K [.ref p] H Q:=⟨p,bs,rfl,h,q⟩
structure Kept (X:Cx)(own:List Addr)(h h':Bq):Prop where
 st:(Ka h (own++frs X.stack)).StaysIn h'
 fr:h'.FunFrames (Ka h (own++frs X.stack)) X.stack
 up:h.UpToSlots h'
abbrev bmV:List Value:=[.type "ValueError",.type "Exception",.type "BaseException",.type "object"]
def exO (e:Addr)(cls:Value)(dx:Option Addr):HO:=.ext fun h=>∃o vs,h.get? e=some o/\o.cls=cls/\o.data=.fields vs/\o.dict=dx
abbrev Cx.hand (X:Cx)(e:Addr):Cx:={X with A:=X.A.mark (some (.ref e)),calm:=false,xe:=fun _ _=>False}
end L2
namespace L2
open PySem PySem.Spec
variable {prog:AQ}{w:Bl}{A:Bh}{E:Value->Af->Prop}{h:Bq}{g:Array Hf}{d:Drawn}{os:Kf}{o:Obj}{vs:Array Value}
section
variable {t:Nat}{a C:Addr}
open PySem.W (Looks)
end
end L2
namespace L2
open PySem PySem.Spec PyProof.Rows
variable {X:Cx}{a b:Addr}{e value:Expr}{es:List Expr}{te td ty:TE}{pos cpos:Pos}{K:AO}{σ:St}{H H':Hp}{κ:Type}{o:Option V}{u r:Value}{y v:V}{P prog:AQ}{w:Bl}{k ks:List Key}{kvs:List (List Key×V)}{xs:List (List Key×Addr×Value)}{h h':Bq}{pins:List (Addr×Obj)}{s:Af}{A:Bh}{E Q:Value->Af->Prop}{t':Nat}{vs:List (Key×Value)}{env:Env}
abbrev TJ:=St->Hp->(Hp->Prop)->Prop
def PJ (X:Cx)(es:List Expr)(t:TJ):Prop:=
 ∀(out:Str) (pins:List (Addr×Obj)) (s:Af) (σ:St) (H:Hp) (Q:VK),Inv X pins σ H s->out.length+2000*es.length<=Ap->t σ H (fun H1=>∀z,Q (.str z) H1)->
  Am (Aw X.prog X.w) X.A (joinParts out (evalEach es X.env)) (EP X pins σ Q) X.xe s
structure QJ (X:Cx)(es:List Expr)(t:TJ):Prop where
 out:PJ X es t
section
variable {a b:Expr}{t:TJ}
end
open PySem.W (Looks)
structure ErrIn (K:AO)(C:Addr):Prop where
 exc:PySem.W.excIn K C bmV "ValueError.__new__"=true
 ty:IY K (.ref C)=some (.type "type")
 cl:∃c,clsIn K C=some c
 ga:DX K (.ref C) "__getattribute__"=some (some (.builtin "BaseException.__getattribute__"))
 ge:DX K (.ref C) "__getattr__"=some none
 lk:DX K (.ref C) "__class__"=some (some (.builtin "object.__class__"))
 so:HA K (.ref C) (.type "object")=some true
 sb:HA K (.ref C) (.type "BaseException")=some true
 se:HA K (.ref C) (.ref C)=some true
section
variable {C D e:Addr}{b:Bool}
structure ErrK (K:AO)(C:Addr):Prop where
 ob:∃dd cd sl,K.lookup C=some ⟨.type "type",dd,.cls cd,sl⟩
 ty:IY K (.ref C)=some (.type "type")
 cl:∃c,clsIn K C=some c
 ga:DX K (.ref C) "__getattribute__"=some (some (.builtin "BaseException.__getattribute__"))
 ge:DX K (.ref C) "__getattr__"=some none
 lk:DX K (.ref C) "__class__"=some (some (.builtin "object.__class__"))
 so:HA K (.ref C) (.type "object")=some true
 sb:HA K (.ref C) (.type "BaseException")=some true
 se:HA K (.ref C) (.ref C)=some true
end
section
variable {Q:VK}{D:Ends}
variable {a b c d:Expr}{ta tb tc:TE}
variable {t:TA}{np hpos:Pos}
end
structure Pl (n:Nat)(x:Str):Prop where
 len:x.length<=n
 asc:∀c∈x.cps.toList,c<128
section
variable [DecidableEq κ]
def Znz (kvs:List (κ×V))(k:κ):Option V:=(kvs.find? fun kv=>decide (kv.1=k)).map (·.2)
def putK (kvs:List (κ×V))(k:κ)(v:V):List (κ×V):=
 if (kvs.any fun kv=>decide (kv.1=k))=true then kvs.map (fun kv=>if kv.1=k then (kv.1,v) else kv) else kvs++[(k,v)]
theorem Zef {p:κ×V}{r:List (κ×V)}{k:κ}(e:p.1=k):Znz (p::r) k=some p.2:=by simp [Znz,Eg,e]
theorem Zds {p:κ×V}{r:List (κ×V)}{k:κ}(e:¬p.1=k):Znz (p::r) k=Znz r k:=by simp [Znz,Eg,e]
theorem Zdu (k:κ):∀kvs:List (κ×V),(kvs.any fun kv=>decide (kv.1=k))=(Znz kvs k).isSome
 | []=>rfl
 | p::r=>by rw [Gd];by_cases e:p.1=k;simp only [Zef e,decide_eq_true e,Bool.true_or,Option.isSome_some];rw [Zds e,decide_eq_false e,Bool.false_or];exact Zdu k r
theorem Zhq (kvs:List (κ×V))(k:κ)(v:V):(putK kvs k v).length<=kvs.length+1:=by unfold putK;split;rw [Ah];omega;rw [Ak,Bt,Fz];omega
theorem Xbj.isSome_eq {u:Option Value}(r:Xbj o u):o.isSome=u.isSome:=by
 cases o with
 | none=>cases u with
  | none=>rfl
  | some _=>exact (show False from r).elim
 | some _=>cases u with
  | none=>exact (show False from r).elim
  | some _=>rfl
theorem KV.val {kvs:List (κ×V)}{vs:List (κ×Value)}(r:KV kvs vs)(k:κ):Xbj (Znz kvs k) (FX vs k):=by
 unfold KV at r
 induction r with
 | nil=>exact DS
 | @cons p q ps qs h t ih =>
  obtain ⟨h1,h2⟩:=h;by_cases e:p.1=k;have e':q.1=k:=h1.symm.trans e;have b:FX (q::qs) k=some q.2:=by simp [FX,Eg,e']
  rw [Zef e,b];exact h2;have e':¬q.1=k:=fun z=>e (h1.trans z);have b:FX (q::qs) k=FX qs k:=by simp [FX,Eg,e']
  rw [Zds e,b];exact ih
theorem KV.any {kvs:List (κ×V)}{vs:List (κ×Value)}(r:KV kvs vs)(k:κ):(kvs.any fun kv=>decide (kv.1=k))=vs.any fun kv=>decide (kv.1=k):=by
 unfold KV at r
 induction r with
 | nil=>rfl
 | cons h t ih=>rw [Gd,Gd,ih,h.1]
theorem KV.repl {kvs:List (κ×V)}{vs:List (κ×Value)}(r:KV kvs vs)(k:κ)(ry:RelV y u) :
  KV (kvs.map fun kv=>if kv.1=k then (kv.1,y) else kv) (vs.map fun kv=>if kv.1=k then (kv.1,u) else kv):=by
 unfold KV at r ⊢
 induction r with
 | nil=>exact .nil
 | @cons p q ps qs h t ih =>rw [AV,AV];refine .cons ?_ ih;obtain ⟨h1,h2⟩:=h;by_cases e:p.1=k;rw [if_pos e,if_pos (h1.symm.trans e)];exact ⟨h1,ry⟩;rw [if_neg e,if_neg (fun z=>e (h1.trans z))];exact ⟨h1,h2⟩
theorem KV.put {kvs:List (κ×V)}{vs:List (κ×Value)}(r:KV kvs vs)(k:κ)(ry:RelV y u):KV (putK kvs k y) (stored vs k u):=by unfold putK stored;rw [r.any k];by_cases e:(vs.any fun kv=>decide (kv.1=k))=true;rw [if_pos e,if_pos e];exact r.repl k ry;rw [if_neg e,if_neg e];exact Paired.snoc r ⟨rfl,ry⟩
theorem KV.length {kvs:List (κ×V)}{vs:List (κ×Value)}(r:KV kvs vs):kvs.length=vs.length:=Paired.length r
end
theorem Zxx {k:Key}(r:RelV (kV k) u):(Yb P w).is k u=true:=by
 cases k with
 | inl i=>obtain ⟨t,e⟩:=(show ∃t,u=Dp i t from r);subst e;exact Zoe P w i t
 | inr x=>obtain ⟨t,e⟩:=(show ∃t,u=Gy x t from r);subst e;exact Zov P w x t
theorem Zlz {P:AQ}{w:Bl}:∀{ks:List Key} {us:List Value},Yk (ks.map kV) us->ItemsAre (Yb P w) ks us
 | [],_,r=>by rw [J8] at r;cases r;exact .nil
 | k::ks,_,r=>by
  rw [AV] at r;cases r with
  | cons h t=>exact .cons (Zxx h) (Zlz t)
abbrev KT (H:Hp):List (List Key×V)->List (List Key×Addr×Value)->Prop:=Paired fun p q=>p.1=q.1/\H q.2.1=some (.tup (p.1.map kV))/\RelV p.2 q.2.2
theorem KT.val (r:KT H kvs xs)(k:List Key):Xbj (Znz kvs k) ((GZ xs k).map (·.2)):=by
 induction r with
 | nil=>exact DS
 | @cons p q ps qs h t ih =>
  obtain ⟨h1,_,h2⟩:=h;by_cases e:p.1=k;have e':q.1=k:=h1.symm.trans e;have b:GZ (q::qs) k=some q.2:=by simp [GZ,Eg,e']
  rw [Zef e,b];exact h2;have e':¬q.1=k:=fun z=>e (h1.trans z);have b:GZ (q::qs) k=GZ qs k:=by simp [GZ,Eg,e']
  rw [Zds e,b];exact ih
theorem KT.repl (r:KT H kvs xs)(k:List Key)(ry:RelV y u) :
  KT H (kvs.map fun kv=>if kv.1=k then (kv.1,y) else kv) (xs.map (putAt k u)):=by
 induction r with
 | nil=>exact .nil
 | @cons p q ps qs h t ih =>rw [AV,AV];refine .cons ?_ ih;obtain ⟨h1,h2,h3⟩:=h;unfold putAt;by_cases e:p.1=k;rw [if_pos e,if_pos (h1.symm.trans e)];exact ⟨h1,h2,ry⟩;rw [if_neg e,if_neg (fun z=>e (h1.trans z))];exact ⟨h1,h2,h3⟩
theorem KT.put (r:KT H kvs xs)(k:List Key)(hb:H b=some (.tup (k.map kV)))(ry:RelV y u) :
  KT H (putK kvs k y) (storedH xs k b u):=by
 have e:(kvs.any fun kv=>decide (kv.1=k))=(GZ xs k).isSome:=by rw [Zdu,(r.val k).isSome_eq,E6]
 unfold putK storedH;rw [e];by_cases q:(GZ xs k).isSome=true;rw [if_pos q,if_pos q];exact r.repl k ry;rw [if_neg q,if_neg q];exact Paired.snoc r ⟨rfl,hb,ry⟩
theorem KT.keeps (r:KT H kvs xs)(ht:∀b ys,H b=some (.tup ys)->H' b=some (.tup ys)):KT H' kvs xs:=Paired.mapP r fun _ _ z=>⟨z.1,ht _ _ z.2.1,z.2.2⟩
theorem Xfa {u:HO}(ok:HOk P w H h)(e:Rd H a u):Js P w H h a u:=e.ok ok
theorem Ztb {kvs:List (Key×V)}(ok:HOk P w H h)(e:Rd H a (.dK kvs)):kvs.length<=Ap/\(a==B5)=false/\∃vs,KV kvs vs/\h.DictOf (Yb P w) a vs:=show Js P w H h a (.dK kvs) from Xfa ok e
theorem dk_of {kvs:List (Key×V)}(ok:HOk P w H h)(e:H a=some (.dK kvs)):kvs.length<=Ap/\(a==B5)=false/\∃vs,KV kvs vs/\h.DictOf (Yb P w) a vs:=Ztb ok (.inl e)
theorem Ziu (ok:HOk P w H h)(e:H a=some (.tup (ks.map kV))):(CV (Yb P w)).is h ks a:=by obtain ⟨_,its,r,o,h1,h2,n,h3⟩:=(show Js P w H h a (.tup (ks.map kV)) from ok a _ e);exact ⟨o,its.toArray,n,h1,h2,h3,by simpa using Zlz r⟩
theorem Zty (ok:HOk P w H h)(e:Rd H a (.dT kvs)):kvs.length<=Ap/\(a==B5)=false/\
  ∃xs,KT H kvs xs/\h.DictOfH (CV (Yb P w)) a xs:=by
 obtain ⟨z,y,xs,r,o,es,ep,h1,h2,h3,h4,h5⟩:=(show Js P w H h a (.dT kvs) from Xfa ok e);refine ⟨z,y,xs,r,o,es,ep,h1,h2,h3,h4,fun x hx=>?_,h5⟩;have all:∀{l:List (List Key×V)} {m:List (List Key×Addr×Value)},KT H l m->∀x∈m,(CV (Yb P w)).is h x.1 x.2.1:=by
  intro l m q
  induction q with
  | nil=>intro x hx;exact nomatch hx
  | @cons p q ps qs hq t ih =>intro x hx;rcases Al.mp hx with e | hx;subst e;exact Ziu ok (by rw [<- hq.1];exact hq.2.1);exact ih x hx
 exact all r x hx
theorem Xry (ok:HOk P w H h)(e:H a=some (.dT kvs)):kvs.length<=Ap/\(a==B5)=false/\
  ∃xs,KT H kvs xs/\h.DictOfH (CV (Yb P w)) a xs:=Zty ok (.inl e)
def Znx (H:Hp)(a:Addr)(y:V)(r:Option V):Prop:=
 (∃kvs k,Rd H a (.dK kvs)/\y=kV k/\r=Znz kvs k)\/∃kvs k b,Rd H a (.dT kvs)/\y=.ref b/\H b=some (.tup (k.map kV))/\r=Znz kvs k
def Xos (H:Hp)(a:Addr)(y v:V)(H':Hp):Prop:=
 (∃kvs k,H a=some (.dK kvs)/\y=kV k/\kvs.length<Ap/\H'=upd H a (.dK (putK kvs k v)))\/
 ∃kvs k b,H a=some (.dT kvs)/\y=.ref b/\H b=some (.tup (k.map kV))/\kvs.length<Ap/\H'=upd H a (.dT (putK kvs k v))
theorem Znx.t (e:H a=some (.dT kvs))(eb:H b=some (.tup (k.map kV))):Znx H a (.ref b) (Znz kvs k):=.inr ⟨kvs,k,b,.inl e,rfl,eb,rfl⟩
theorem Xos.t (e:H a=some (.dT kvs))(eb:H b=some (.tup (k.map kV)))(hl:kvs.length<Ap) :
  Xos H a (.ref b) v (upd H a (.dT (putK kvs k v))):=.inr ⟨kvs,k,b,e,rfl,eb,hl,rfl⟩
theorem Inv.big (I:Inv X pins σ H s):B5<s.heap.objs.size:=by have h:Aq<s.heap.objs.size:=(I.mod.glob.keeps I.bk).lt;exact GW (by decide) h
theorem Zyr (hu:A.units+1<BC)(I:Inv X pins σ H s)(g:Znx H a y (some v))(ry:RelV y u)(h:∀w' s',Inv X pins σ H s'->RelV v w'->Q w' s') :
  Am (Aw X.prog X.w) A (Fi (.ref a) u) Q E s:=by
 rcases g with ⟨kvs,k,e,ey,l⟩ | ⟨kvs,k,b,e,ey,eb,l⟩;subst ey;obtain ⟨z,hd,vs,rel,dd⟩:=Ztb I.hok e;obtain ⟨w',hw,rw'⟩:=Xbj.some_of (v:=v) (o:=FX vs k) (by rw [l];exact rel.val k);exact wpAny_getItem_of (Zxx ry) dd.mapOf hw (h w' _ (I.tok _) rw');subst ey;cases (show u=AG b from ry);obtain ⟨z,hd,xs,rel,dd⟩:=Zty I.hok e;obtain ⟨w',hw,rw'⟩:=Xbj.some_of (v:=v) (o:=(GZ xs k).map (·.2)) (by rw [l];exact rel.val k);obtain ⟨p,hp,hp2⟩:=Ax.mp hw;refine wpAny_getItem_heap (Ef hu) (Ziu I.hok eb) dd hp ?_;rw [hp2];exact h w' _ (I.tok _) rw'
theorem d_in (hu:A.units+1<BC)(I:Inv X pins σ H s)(g:Znx H a y o)(ry:RelV y u)(h:∀s',Inv X pins σ H s'->Q (.bool o.isSome) s') :
  Am (Aw X.prog X.w) A (BU .In u (.ref a)) Q E s:=by
 rcases g with ⟨kvs,k,e,ey,l⟩ | ⟨kvs,k,b,e,ey,eb,l⟩;subst ey;obtain ⟨z,hd,vs,rel,dd⟩:=Ztb I.hok e;refine wpAny_in_of (Zxx ry) hd dd.mapOf ?_;rw [<- (rel.val k).isSome_eq,<- l];exact h _ (I.tok _);subst ey;cases (show u=AG b from ry);obtain ⟨z,hd,xs,rel,dd⟩:=Zty I.hok e;refine wpAny_in_heap (Ef hu) (Ziu I.hok eb) hd dd ?_;have q:=(rel.val k).isSome_eq;rw [E6] at q;rw [<- q,<- l];exact h _ (I.tok _)
theorem Xmn (hu:A.units+1<BC)(I:Inv X pins σ H s)(g:Znx H a y o)(ry:RelV y u)(h:∀s',Inv X pins σ H s'->Q (.bool (!o.isSome)) s') :
  Am (Aw X.prog X.w) A (BU .NotIn u (.ref a)) Q E s:=by
 rcases g with ⟨kvs,k,e,ey,l⟩ | ⟨kvs,k,b,e,ey,eb,l⟩;subst ey;obtain ⟨z,hd,vs,rel,dd⟩:=Ztb I.hok e;refine wpAny_notIn_of (Zxx ry) hd dd.mapOf ?_;rw [<- (rel.val k).isSome_eq,<- l];exact h _ (I.tok _);subst ey;cases (show u=AG b from ry);obtain ⟨z,hd,xs,rel,dd⟩:=Zty I.hok e;refine wpAny_notIn_heap (Ef hu) (Ziu I.hok eb) hd dd ?_;have q:=(rel.val k).isSome_eq;rw [E6] at q;rw [<- q,<- l];exact h _ (I.tok _)
theorem Zpy {ob:HO}(I:Inv X pins σ H s)(mu:Mut (H a))(hs:BH a s.heap h')(he:∃q,h'.get? a=some q)(new:Js X.prog X.w (upd H a ob) h' a ob) :
  Inv X pins σ (upd H a ob) {s with heap:=h',toks:=t'}:=
 I.write (x:=a) (e:=a) mu (.inl rfl) (fun b q hb z=>(hs.2 b hb).trans z) he new
theorem Xsf {kvs:List (Key×V)}(z:kvs.length<=Ap)(hd:(a==B5)=false)(rel:KV kvs vs)(dd:h'.DictOf (Yb P w) a vs) :
  Js P w H' h' a (.dK kvs):=⟨z,hd,vs,rel,dd⟩
theorem Xan {Q:Unit->Af->Prop}(hu:A.units+1<BC)(I:Inv X pins σ H s)(g:Xos H a y v H')(ry:RelV y u)(rv:RelV v r)(h:∀s',Inv X pins σ H' s'->Q () s') :
  Am (Aw X.prog X.w) A (GO (.ref a) u r) Q E s:=by
 rcases g with ⟨kvs,k,e,ey,l,eH⟩ | ⟨kvs,k,b,e,ey,eb,l,eH⟩;subst ey eH;obtain ⟨z,hd,vs,rel,dd⟩:=dk_of I.hok e;have hz:vs.length<=Ap:=by rw [<- rel.length];exact z
 have hl:(putK kvs k v).length<=Ap:=by have:=Zhq kvs k v;omega
 refine wpAny_setItem_pairs (hsz:=hz) (Zxx ry) dd fun h' dd' hs=>h _ ?_;have he:∃q,h'.get? a=some q:=let ⟨q,_,_,hq,_⟩:=dd';⟨q,hq⟩
 exact Zpy I (by rw [e];exact DS) hs he (Xsf hl hd (rel.put k rv) dd');subst ey eH;cases (show u=AG b from ry);obtain ⟨z,hd,xs,rel,dd⟩:=Xry I.hok e;have hz:xs.length<=Ap:=by rw [<- Paired.length rel];exact z
 have hl:(putK kvs k v).length<=Ap:=by have:=Zhq kvs k v;omega
 refine wpAny_setItem_heap (hsz:=hz) (Ef hu) (Ziu I.hok eb) dd fun h' dd' hs=>h _ ?_;obtain ⟨q,es,ep,hq,h2,h3,h4,_,h5⟩:=dd';refine Zpy I (by rw [e];exact DS) hs ⟨q,hq⟩ ⟨hl,hd,_,(rel.put k eb rv).keeps fun c ys ec=>?_,q,es,ep,hq,h2,h3,h4,h5⟩;rw [Xc (Xss ec e (fun z=>nomatch z))];exact ec
section
variable {kvs:List (Key×V)}{k:Key}
end
def NoSl (i:Expr):Prop:=∀ov iv,Gx i false ov iv=operate [ov,iv] (Fi ov iv)
theorem Xkj {slice:Expr}{T id:String}
  (hl:typeLookup (.type T) "__getitem__"=BD (some (.builtin id))) (hs:NoSl slice)
  (h:Am (Aw prog w) A (A9 value env) (fun o s₁=>Am (Aw prog w) A (A9 slice env) (fun i s₂=>s₂.TypeIs o T/\Am (Aw prog w) A (Fi o i) Q E s₂) E s₁) E s) :
  Am (Aw prog w) A (A9 (.Subscript value slice pos) env) Q E s:=by
 refine JF (B3 h (fun o s₁ h₁=>B3 h₁ (fun i s₂ h₂=>?_) fun _ _ x=>x) fun _ _ x=>x);obtain ⟨hT,h₂⟩:=h₂;unfold Hn;refine Aa ?_;rw [getitemInPython_of_ne hT.not_modules];refine Aa (GD hT hl ?_);have fin:Am (Aw prog w) A (Gx slice false o i) (fun r s₃=>Am (Aw prog w) A (letTemporaryGo value o r >>= fun _=>BD r) Q E s₃) E s₂:=by rw [hs o i];exact wpAny_operating (B3 h₂ (fun r s₃ h₃=>Aa (wpAny_letTemporaryGo (Ac h₃))) fun _ _ x=>x)
 first
  | exact Ac (Aa fin)
  | exact Aa (Ac (Aa fin))
  | exact Aa fin
theorem Zps (I:Inv X pins σ H s)(g:Znx H a y o):s.TypeIs (.ref a) "dict":=by rcases g with ⟨kvs,k,e,_,_⟩ | ⟨kvs,k,b,e,_,_,_⟩;obtain ⟨_,_,vs,_,dd⟩:=Ztb I.hok e;exact dd.typeIs;obtain ⟨_,_,xs,_,dd⟩:=Zty I.hok e;exact dd.typeIs
def Zyw (td ty:TE):TE:=fun σ H Q=>td σ H fun x H1=>ty σ H1 fun y H2=>∃a v,x=.ref a/\Znx H2 a y (some v)/\Q v H2
section
variable {o i:Expr}{pos' tpos:Pos}{tv:TE}
theorem Xbb (hu:X.A.units+1<BC)(ho:PE X o td)(hi:PE X i ty)(hs:NoSl i):PE X (.Subscript o i pos) (Zyw td ty):=by intro pins s σ H Q I h;refine Xkj PySem.F.slot_dict_getitem.lookup hs (thn (ho pins s σ H _ I h) fun u s1 ⟨x,H1,I1,rx,q1⟩=>thn (hi pins s1 σ H1 _ I1 q1) fun iv s2 ⟨y,H2,I2,ry,a,v,ex,g,q2⟩=>?_);subst ex;obtain rfl:u=AG a:=rx;exact ⟨Zps I2 g,Zyr hu I2 g ry fun w' s3 I3 rw'=>⟨v,H2,I3,rw',q2⟩⟩
end
theorem Zrd (h:Bq)(hb:B5<h.objs.size):Js P w H (h.push {cls:=.type "dict",data:=.dict #[]}) h.objs.size (.dT []):=⟨D4 _,beq_eq_false_iff_ne.mpr (Ne.symm (Bn hb)),[],.nil,_,#[],0,Av _ rfl,⟨rfl,rfl,rfl⟩,rfl,rfl,A6⟩
def Zvs:TE:=fun _ H Q=>∀p,H p=none->Q (.ref p) (upd H p (.dT []))
theorem Xbw:PE X (.Dict [] [] pos) Zvs:=fun pins s σ H Q I h =>
 wpAny_Dict_empty ⟨.ref s.heap.objs.size,_,I.laid (a:=s.heap.objs.size) (o:=.dT []) (t':=s.toks) (fun _ _ q=>Ae _ q) (As _) (Zrd s.heap I.big),rfl,h _ (I.hok.fresh (As _))⟩
structure M1 (X:Cx)(o:Expr)(m:Str)(apos:Pos)(e:Expr)(cpos:Pos):Prop where
  base:Cq o m X.env (A9 o X.env)=A9 o X.env
  few:((BG cpos (Ad [e] X.env)).all (fun x=>!x.1)&&(Ej cpos (De [] X.env)).all (fun x=>x.1.isSome)
    && decide (([e]:List Expr).length+([]:List Ce).length+(if ([]:List Ce).isEmpty then 0 else 1)<30))=true
  line:(apos.endLine==cpos.line)=true
  trees:BG cpos (Ad [e] X.env)=[(false,A9 e X.env)]
structure M2 (X:Cx)(o:Expr)(m:Str)(apos:Pos)(e f:Expr)(cpos:Pos):Prop where
  base:Cq o m X.env (A9 o X.env)=A9 o X.env
  few:((BG cpos (Ad [e,f] X.env)).all (fun x=>!x.1)&&(Ej cpos (De [] X.env)).all (fun x=>x.1.isSome)
    && decide (([e,f]:List Expr).length+([]:List Ce).length+(if ([]:List Ce).isEmpty then 0 else 1)<30))=true
  line:(apos.endLine==cpos.line)=true
  trees:BG cpos (Ad [e,f] X.env)=[(false,A9 e X.env),(false,A9 f X.env)]
def IsD (H:Hp)(a:Addr):Prop:=(∃kvs,Rd H a (.dK kvs))\/∃kvs,Rd H a (.dT kvs)
theorem Xov (I:Inv X pins σ H s)(d:IsD H a) :
  s.TypeIs (.ref a) "dict"/\(∀b,AG a=.ref b->∃ob,s.heap.get? b=some ob/\ob.dict=none)/\(a==B5)=false:=by
 rcases d with ⟨kvs,e⟩ | ⟨kvs,e⟩;obtain ⟨_,hd,vs,_,dd⟩:=Ztb I.hok e;refine ⟨dd.typeIs,fun b q=>?_,hd⟩;cases q;obtain ⟨ob,_,_,h1,h2,_⟩:=dd;exact ⟨ob,h1,h2.2.1⟩;obtain ⟨_,hd,xs,_,dd⟩:=Zty I.hok e;refine ⟨dd.typeIs,fun b q=>?_,hd⟩;cases q;obtain ⟨ob,_,_,h1,h2,_⟩:=dd;exact ⟨ob,h1,h2.2.1⟩
section
variable {d:V}
variable {o f:Expr}{apos:Pos}{tx:TE}{kvs:List (Key×V)}
end
end L2
namespace Dl
open PySem
variable {α β:Type}
set_option genInjectivity true in
inductive D where
 | non
 | bl (b:Bool)
 | int (i:Int)
 | str (x:Str)
 | lst (xs:List D)
 | tup (xs:List D)
 | scr (ns:List Int)
 | rng (lo hi:Int)
 | exc (c:String) (f:Option Int)
 | obj (c:String) (ns:List Str) (xs:List D)
 | dct (ks:List (Int ⊕ Str)) (xs:List D)
 | dtt (ks:List (List (Int ⊕ Str))) (xs:List D)
 | flst (xs:List D)
 | fdt (ks:List (List (Int ⊕ Str))) (xs:List D)
 deriving Inhabited
set_option genInjectivity true in
inductive R (α:Type) where
 | ok (a:α)
 | err (c:String) (f:Option Int)
 | bad
abbrev Env:=List (Option D)
set_option genInjectivity true in
inductive Fl where
 | nx (ρ:Env)
 | ret (d:D)
 | brk (ρ:Env)
 | cnt (ρ:Env)
def R.bind {α β:Type}:R α->(α->R β)->R β
 | .ok a,f=>f a
 | .err c x,_=>.err c x
 | .bad,_=>.bad
@[simp] theorem Zas (a:α)(f:α->R β):(R.ok a).bind f=f a:=(rfl)
@[simp] theorem bind_err (c:String)(x:Option Int)(f:α->R β):(R.err c x:R α).bind f=.err c x:=(rfl)
@[simp] theorem bind_bad (f:α->R β):(R.bad:R α).bind f=.bad:=(rfl)
abbrev FE:=Env->R D
abbrev FT:=Env->R Bool
abbrev FA:=Env->R (List D)
abbrev FO:=Env->R (Option Int)
abbrev FS:=Env->R Fl
def fC (d:D):FE:=fun _=>.ok d
def fV (i:Nat):FE:=fun ρ=>match ρ[i]? with
 | some (some d)=>.ok d
 | _=>.bad
def oR {α:Type}:Option α->R α
 | some a=>.ok a
 | none=>.bad
@[simp] theorem oR_some (a:α):oR (some a)=.ok a:=(rfl)
@[simp] theorem oR_none :(oR (none:Option α))=.bad:=(rfl)
def f1 (g:D->Option D)(a:FE):FE:=fun ρ=>(a ρ).bind fun x=>oR (g x)
def f2 (g:D->D->Option D)(a b:FE):FE:=fun ρ=>(a ρ).bind fun x=>(b ρ).bind fun y=>oR (g x y)
def Zy:FA:=fun _=>.ok []
def Ze (a:FE)(r:FA):FA:=fun ρ=>(a ρ).bind fun x=>(r ρ).bind fun xs=>.ok (x::xs)
def fA (g:List D->Option D)(a:FA):FE:=fun ρ=>(a ρ).bind fun xs=>oR (g xs)
def Yf (F:List D->R D)(a:FA):FE:=fun ρ=>(a ρ).bind F
abbrev lim:Nat:=1000000
def Yz (xs:List D):Option D:=if xs.length<=lim then some (.lst xs) else none
def Zew (xs:List D):Option D:=if xs.length<=lim then some (.tup xs) else none
mutual
def flat:D->Bool
 | .lst _=>false
 | .tup xs=>Zu xs
 | .non=>true
 | .bl _=>true
 | .int _=>true
 | .str _=>true
 | .scr _=>true
 | .rng _ _=>true
 | .exc _ _=>true
 | .obj _ _ _=>false
 | .dct _ _=>false
 | .dtt _ _=>false
 | .flst _=>true
 | .fdt _ _=>true
def Zu:List D->Bool
 | []=>true
 | x::xs=>flat x&&Zu xs
end
def Yr (d:D):Option D:=if flat d then some d else none
def Yp:D->D->Option D
 | .int i,.int j=>some (.int (i+j))
 | .str x,.str y=>if x.length+y.length<=lim then some (.str (x++y)) else none
 | .lst xs,.lst ys=>if xs.length+ys.length<=lim/\Zu xs/\Zu ys then some (.lst (xs++ys)) else none
 | _,_=>none
def Zeu:D->D->Option D
 | .int i,.int j=>some (.int (i - j))
 | _,_=>none
def short (i:Int):Bool:=decide (-(2 ^ 64)<i)&&decide (i<2 ^ 64)
def Zab:D->D->Option D
 | .int i,.int j=>if short i||short j then some (.int (i*j)) else none
 | .lst xs,.int k=>if k<=1000000/\xs.length*k.toNat<=lim/\-1000000<=k/\Zu xs then some (.lst (Ab k.toNat xs).flatten) else none
 | _,_=>none
def Zfz:D->D->Option D
 | .int i,.int j=>if 0<j then some (.int (i % j)) else none
 | _,_=>none
def Xhx:D->D->Option D
 | .int i,.int j=>if 0<j/\j<2 ^ 200 then some (.int (i / j)) else none
 | _,_=>none
def Ziq:D->D->Option D
 | .int i,.int j=>if 0<=j/\j<=1000000/\i.natAbs<2 ^ 64 then some (.int (i ^ j.toNat)) else none
 | _,_=>none
def Xhh:D->Option D
 | .int i=>some (.int (-i))
 | _=>none
def gLt:D->D->Option D
 | .int i,.int j=>some (.bl (decide (i<j)))
 | _,_=>none
def gLe:D->D->Option D
 | .int i,.int j=>some (.bl (decide (i<=j)))
 | _,_=>none
def gGt:D->D->Option D
 | .int i,.int j=>some (.bl (decide (j<i)))
 | _,_=>none
def gGe:D->D->Option D
 | .int i,.int j=>some (.bl (decide (j<=i)))
 | _,_=>none
mutual
def dep:D->Nat
 | .lst xs=>Zzl xs+1
 | .tup xs=>Zzl xs+1
 | .scr _=>100
 | .rng _ _=>100
 | .exc _ _=>100
 | .obj _ _ _=>100
 | .dct _ _=>100
 | .dtt _ _=>100
 | .flst _=>100
 | .fdt _ _=>100
 | .non=>0
 | .bl _=>0
 | .int _=>0
 | .str _=>0
def Zzl:List D->Nat
 | []=>0
 | x::xs=>max (dep x) (Zzl xs)
end
mutual
def eqv:D->D->Bool
 | .non,.non=>true
 | .bl a,.bl b=>a==b
 | .bl a,.int j=>(if a then 1 else 0)==j
 | .int i,.bl b=>i==(if b then 1 else 0)
 | .int i,.int j=>i==j
 | .str x,.str y=>x==y
 | .lst xs,.lst ys=>Xox xs ys
 | .tup xs,.tup ys=>Xox xs ys
 | _,_=>false
def Xox:List D->List D->Bool
 | [],[]=>true
 | x::xs,y::ys=>eqv x y&&Xox xs ys
 | _,_=>false
end
def gEq (a b:D):Option D:=if dep a<=20/\dep b<=20 then some (.bl (eqv a b)) else none
def ixD (n:Nat)(i:Int):Option Nat:=if 0<=i then (if i<n then some i.toNat else none) else if -(n:Int)<=i then some (i+n).toNat else none
def atD {α:Type}(xs:List α)(i:Int):Option α:=(ixD xs.length i).bind fun j=>xs[j]?
def Zpt (n d:Nat):Option Int->Nat
 | none=>d
 | some v=>if v<0 then (max (v+(n:Int)) 0).toNat else min v.toNat n
def cut {α:Type}(xs:List α)(lo hi:Option Int):List α:=(xs.drop (Zpt xs.length 0 lo)).take (Zpt xs.length xs.length hi - Zpt xs.length 0 lo)
def gIx:D->D->Option D
 | .lst xs,.int i=>(atD xs i)
 | .tup xs,.int i=>(atD xs i)
 | .scr ns,.int i=>((atD ns i).map D.int)
 | .str z,.int i=>if z.length<=lim then ((atD z.cps.toList i).map fun c=>D.str ⟨#[c]⟩) else none
 | _,_=>none
def gIxL (x y:D):Option D:=match x with
 | .lst _=>gIx x y
 | _=>none
def Zgx:FO:=fun _=>.ok none
def Zel (a:FE):FO:=fun ρ=>(a ρ).bind fun d=>match d with
 | .int i=>.ok (some i)
 | _=>.bad
def fSl (g:D->Option Int->Option Int->Option D)(a:FE)(l h:FO):FE:=fun ρ=>(a ρ).bind fun x=>(l ρ).bind fun lo=>(h ρ).bind fun hi=>oR (g x lo hi)
def gSl:D->Option Int->Option Int->Option D
 | .lst xs,lo,hi=>if Zu xs then some (.lst (cut xs lo hi)) else none
 | .scr ns,lo,hi=>some (.lst ((cut ns lo hi).map D.int))
 | _,_,_=>none
def Zxb:D->Option Int->Option Int->Option D
 | .tup xs,lo,hi=>if Zu xs=true/\¬(Zpt xs.length 0 lo=0/\Zpt xs.length xs.length hi=xs.length) then some (.tup (cut xs lo hi)) else none
 | _,_,_=>none
def plain (n:Nat)(z:Str):Bool:=decide (z.length<=n)&&z.cps.toList.all (fun c=>decide (c<128))
def intsOf:List D->Option (List Int)
 | []=>some []
 | .int i::r=>(intsOf r).map (i::·)
 | _::_=>none
def bools:List D->Option (List Bool)
 | []=>some []
 | .bl i::r=>(bools r).map (i::·)
 | _::_=>none
def Zbh:List D->Option D
 | [.lst xs]=>some (.int xs.length)
 | [.tup xs]=>some (.int xs.length)
 | [.scr xs]=>some (.int xs.length)
 | [.str z]=>if z.length<=lim then some (.int z.length) else none
 | _=>none
def Xqx:List D->Option D
 | [.lst xs]=>(intsOf xs).bind fun ns=>some (.int ns.sum)
 | _=>none
def maxL:List Int->Int
 | []=>0
 | x::r=>r.foldl max x
def Xoj:List D->Option D
 | [.int i,.int j]=>some (.int (if j<i then j else i))
 | _=>none
def Zve:List Int->Int
 | []=>0
 | x::r=>r.foldl min x
def gAny:List D->Option D
 | [.lst xs]=>(bools xs).bind fun bs=>some (.bl (bs.any id))
 | _=>none
def Zgb (lo:Int)(n:Nat):List D:=(A5 n).map fun (k:Nat)=>D.int (lo+(k:Int))
def Zij:List D->Option D
 | [.lst xs]=>if Zu xs then some (.lst xs) else none
 | [.tup xs]=>if Zu xs then some (.lst xs) else none
 | [.rng i j]=>if -1000000000<=i/\i<=1000000000/\-1000000000<=j/\j<=1000000000/\(j - i).toNat<=lim then some (.lst (Zgb i (j - i).toNat)) else none
 | _=>none
def Xpb:List D->Option D
 | [.lst xs]=>some (.lst xs)
 | _=>none
def cE (a:FE):FT:=fun ρ=>(a ρ).bind fun d=>match d with
 | .bl b=>.ok b
 | _=>.bad
def cNot (a:FT):FT:=fun ρ=>(a ρ).bind fun b=>.ok (!b)
def Xht (a b:FT):FT:=fun ρ=>(a ρ).bind fun x=>if x then b ρ else .ok false
def cOr (a b:FT):FT:=fun ρ=>(a ρ).bind fun x=>if x then .ok true else b ρ
def fAnd (a b:FE):FE:=fun ρ=>(a ρ).bind fun x=>match x with
 | .bl true=>b ρ
 | .bl false=>.ok (.bl false)
 | _=>.bad
def fOr (a b:FE):FE:=fun ρ=>(a ρ).bind fun x=>match x with
 | .bl true=>.ok (.bl true)
 | .bl false=>b ρ
 | _=>.bad
def fIf (c:FT)(a b:FE):FE:=fun ρ=>(c ρ).bind fun x=>if x then a ρ else b ρ
def Xtp (g g':D->D->Option D)(a b c:FE):FE:=fun ρ=>(a ρ).bind fun x=>(b ρ).bind fun y=>(oR (g x y)).bind fun z=>match z with
 | .bl true=>(c ρ).bind fun w=>oR (g' y w)
 | .bl false=>.ok (.bl false)
 | _=>.bad
abbrev FB:=D->Env->R Env
def Zt (i:Nat):FB:=fun d ρ=>.ok (ρ.set i (some d))
def Zeo:List D->Env->R Env
 | [],ρ=>.ok ρ
 | _,_=>.bad
def Xw (b:FB)(r:List D->Env->R Env):List D->Env->R Env
 | d::ds,ρ=>(b d ρ).bind fun ρ'=>r ds ρ'
 | _,_=>.bad
def Zet (r:List D->Env->R Env):FB:=fun d ρ=>match d with
 | .tup ds=>r ds ρ
 | _=>.bad
def R.calm {α:Type}:R α->R α
 | .ok a=>.ok a
 | .err _ _=>.bad
 | .bad=>.bad
@[simp] theorem calm_ok (a:α):(R.ok a).calm=.ok a:=(rfl)
def Zbk (k:Nat)(b:FB)(c:FT)(e:FE)(ρ:Env):List D->R (List D)
 | []=>.ok []
 | x::xs=>(b x (ρ++Ab k none)).calm.bind fun ρ1=>(c ρ1).bind fun t=>if t then (e ρ1).bind fun y=>(Zbk k b c e ρ xs).bind fun ys=>.ok (y::ys) else Zbk k b c e ρ xs
def Ziy:FT:=fun _=>.ok true
abbrev FI:=Env->R (List D)
def Zff (a:FE):FI:=fun ρ=>(a ρ).bind fun d=>match d with
 | .lst xs=>if xs.length<=lim then .ok xs else .bad
 | .scr ns=>if ns.length<=lim then .ok (ns.map D.int) else .bad
 | _=>.bad
def jTup (a:FE):FI:=fun ρ=>(a ρ).bind fun d=>match d with
 | .tup xs=>if xs.length<=lim then .ok xs else .bad
 | _=>.bad
def Zfy (a:FA):FI:=fun ρ=>(a ρ).bind fun ds=>match ds with
 | [.int j]=>if -1000000000<=j/\j<=1000000 then .ok (Zgb 0 j.toNat) else .bad
 | _=>.bad
def Zte (a:FA):FI:=fun ρ=>(a ρ).bind fun ds=>match ds with
 | [.int i,.int j]=>if -1000000000<=i/\i<=1000000000/\-1000000000<=j/\j<=1000000000/\(j - i).toNat<=lim then .ok (Zgb i (j - i).toNat) else .bad
 | _=>.bad
def Zkl (ds:List D):List D:=ds.mapIdx fun i d=>D.tup [.int (i:Int),d]
def Xlo (a:FE):FI:=fun ρ=>(a ρ).bind fun d=>match d with
 | .lst xs=>if xs.length<=lim then .ok (Zkl xs) else .bad
 | _=>.bad
def Zdb (n k:Nat)(it:FI)(b:FB)(c:FT)(e:FE):FE:=fun ρ=>if ρ.length=n then (it ρ).bind fun xs=>(Zbk k b c e ρ xs).calm.bind fun ys=>.ok (.lst ys) else .bad
def sNx:FS:=fun ρ=>.ok (.nx ρ)
def Zhu:FS:=fun _=>.bad
def Xk (a b:FS):FS:=fun ρ=>(a ρ).bind fun fl=>match fl with
 | .nx ρ'=>b ρ'
 | fl=>.ok fl
def Xq (i:Nat)(e:FE):FS:=fun ρ=>(e ρ).bind fun d=>.ok (.nx (ρ.set i (some d)))
def Zdo (e:FE):FS:=fun ρ=>(e ρ).bind fun d=>.ok (.ret d)
def sIf (c:FT)(a b:FS):FS:=fun ρ=>(c ρ).bind fun x=>if x then a ρ else b ρ
def sCnt:FS:=fun ρ=>.ok (.cnt ρ)
def Zlc (i:Nat)(e:FE):FS:=fun ρ=>match ρ[i]? with
 | some (some (.lst xs))=>(e ρ).bind fun d=>if xs.length<lim then .ok (.nx (ρ.set i (some (.lst (xs++[d]))))) else .bad
 | _=>.bad
def Xiv (i:Nat)(g:D->D->Option D)(e:FE):FS:=fun ρ=>match ρ[i]? with
 | some (some x)=>(e ρ).bind fun y=>(oR (g x y)).bind fun z=>.ok (.nx (ρ.set i (some z)))
 | _=>.bad
def Xsk (i j:Nat)(g:D->D->Option D)(x:D)(ρ:Env):R Fl:=match x,ρ[j]? with
 | .int k,some (some (.lst ds))=>match ds.getLast? with
  | some (.int n)=>match g (.int k) (.int n) with
   | some (.int z)=>if Zu ds=true then .ok (.nx ((ρ.set j (some (.lst ds.dropLast))).set i (some (.int z)))) else .bad
   | _=>.bad
  | _=>.bad
 | _,_=>.bad
def Xsn (i j:Nat)(g:D->D->Option D)(a:FE):FS:=fun ρ=>(a ρ).bind fun x=>Xsk i j g x ρ
def Zvb (e:FE):FS:=fun ρ=>(e ρ).bind fun _=>.ok (.nx ρ)
def Xom (e:FE)(b:FB):FS:=fun ρ=>(e ρ).bind fun d=>(b d ρ).calm.bind fun ρ'=>.ok (.nx ρ')
def Zgz (b:FB)(s:FS):List D->Env->R Fl
 | [],ρ=>.ok (.nx ρ)
 | x::xs,ρ=>(b x ρ).calm.bind fun ρ1=>(s ρ1).bind fun fl=>match fl with
  | .nx ρ2=>Zgz b s xs ρ2
  | .cnt ρ2=>Zgz b s xs ρ2
  | .brk ρ2=>.ok (.nx ρ2)
  | .ret d=>.ok (.ret d)
def Zeb (it:FI)(b:FB)(s:FS):FS:=fun ρ=>(it ρ).bind fun xs=>Zgz b s xs ρ
def Zrk (c:FT)(s:FS):Nat->Env->R Fl
 | 0,_=>.bad
 | n+1,ρ=>(c ρ).bind fun b=>if b then (s ρ).bind fun fl=>match fl with
  | .nx ρ2=>Zrk c s n ρ2
  | .cnt ρ2=>Zrk c s n ρ2
  | .brk ρ2=>.ok (.nx ρ2)
  | .ret d=>.ok (.ret d)
  else .ok (.nx ρ)
def Xta (n:Nat)(c:FT)(s:FS):FS:=fun ρ=>Zrk c s n ρ
def Xqw (c:String)(words:FA):FS:=fun ρ=>(words ρ).bind fun _=>.err c none
def strsOf:List D->Option (List Str)
 | []=>some []
 | .str i::r=>(strsOf r).map (i::·)
 | _::_=>none
def Xqk:D->D->Option D
 | .str s,.lst ds=>(strsOf ds).bind fun ts=>if (ts.map (·.length)).sum+ts.length*s.length<=lim then some (.str (Str.join s ts)) else none
 | _,_=>none
def Xhu:D->D->Option D
 | .lst ds,.int n=>(intsOf ds).bind fun ns=>if n∈ns then some (D.int (ns.idxOf n:Nat)) else none
 | _,_=>none
def Xpj (a b:FE):FE:=fun ρ=>(a ρ).bind fun x=>match x with
 | .lst ds=>(b ρ).bind fun y=>oR (Xhu (.lst ds) y)
 | _=>.bad
def fJoin (a b:FE):FE:=fun ρ=>(a ρ).bind fun x=>match x with
 | .str s=>(b ρ).bind fun y=>oR (Xqk (.str s) y)
 | _=>.bad
def Zue:D->D->Option D
 | .int i,.int j=>if i.natAbs<2 ^ 4000/\j.natAbs<2 ^ 4000 then some (.int (i*j)) else none
 | _,_=>none
abbrev FM:=Env->R (D×Env)
abbrev FMT:=Env->R (Bool×Env)
def Znr (a:FM):FS:=fun ρ=>(a ρ).bind fun p=>.ok (.nx p.2)
def Zvw (s:FS)(r:FM):FM:=fun ρ=>(s ρ).bind fun fl=>match fl with
 | .nx ρ'=>r ρ'
 | _=>.bad
def Xni (s:FS):FM:=Zvw s fun ρ=>.ok (.non,ρ)
def Xpr (N:Nat)(G:FM)(ds:List D):R (D×D):=(G (ds.map some++Ab (N - ds.length) none)).bind fun p=>match p.2[0]? with
 | some (some d)=>.ok (p.1,d)
 | _=>.bad
def run (N:Nat)(b:FS)(ds:List D):R D:=(b (ds.map some++Ab (N - ds.length) none)).bind fun fl=>match fl with
 | .nx _=>.ok .non
 | .ret d=>.ok d
 | _=>.bad
def keyD:D->Option (Int ⊕ Str)
 | .int i=>some (.inl i)
 | .str x=>some (.inr x)
 | _=>none
def catO:Str->List D->Option D
 | out,[]=>some (.str out)
 | out,.str y::r=>if y.length<=2000 then catO (out++y) r else none
 | _,_=>none
def Ztm:List D->Option (List (Int ⊕ Str))
 | []=>some []
 | d::r=>(keyD d).bind fun k=>(Ztm r).bind fun ks=>some (k::ks)
def Zny:D->Option (List (Int ⊕ Str))
 | .tup ds=>Ztm ds
 | _=>none
def tAt:List (List (Int ⊕ Str))->List D->List (Int ⊕ Str)->Option D
 | j::ks,x::xs,k=>if j=k then some x else tAt ks xs k
 | _,_,_=>none
def Zwp (ks:List (List (Int ⊕ Str)))(k:List (Int ⊕ Str)):Bool:=ks.any fun j=>decide (j=k)
def Xol (ks:List (List (Int ⊕ Str)))(xs:List D)(k:List (Int ⊕ Str))(d:D):D:=if Zwp ks k then .dtt ks (A3 (fun j x=>if j=k then d else x) ks xs) else .dtt (ks++[k]) (xs++[d])
def Zin (i:Nat)(k e:FE):FS:=fun ρ=>(e ρ).bind fun d=>match ρ[i]? with
 | some (some (.dtt ks xs))=>(k ρ).bind fun z=>match Zny z with
  | some q=>if flat d=true/\Zu xs=true/\ks.length<lim then .ok (.nx (ρ.set i (some (Xol ks xs q d)))) else .bad
  | none=>.bad
 | _=>.bad
def Xop:D->D->Option D
 | .dtt ks xs,y=>if Zu xs then (Zny y).bind fun k=>tAt ks xs k else none
 | _,_=>none
abbrev Pc:=Int×Str
def sLt (x y:Str):Bool:=decide (x.cps.toList<y.cps.toList)
def pcLt (p q:Pc):Bool:=if p.1=q.1 then (if p.2=q.2 then false else sLt p.2 q.2) else decide (p.1<q.1)
def ctLt:List Pc->List Pc->Bool
 | [],[]=>false
 | [],_::_=>true
 | _::_,[]=>false
 | p::c,q::d=>if p=q then ctLt c d else pcLt p q
def aVars:List Nat->FA
 | []=>Zy
 | j::r=>Ze (fV j) (aVars r)
def keyLs (fb:FE)(fr:Env):List D->R (List Int)
 | []=>.ok []
 | x::r=>(fb (some x::fr)).calm.bind fun k=>match k with
  | .int k=>(keyLs fb fr r).bind fun ks=>.ok (k::ks)
  | _=>.bad
abbrev Pr:=Int×(Int ⊕ Str)
def kLt:Int ⊕ Str->Int ⊕ Str->Bool
 | .inl a,.inl b=>decide (a<b)
 | .inr a,.inr b=>sLt a b
 | _,_=>false
def Xow (p q:Pr):Bool:=if p.1=q.1 then kLt p.2 q.2 else decide (p.1<q.1)
def insP (c:Pr):List Pr->List Pr
 | []=>[c]
 | d::r=>if Xow c d=true then c::d::r else d::insP c r
def sortP:List Pr->List Pr
 | []=>[]
 | c::r=>insP c (sortP r)
def kdD:Int ⊕ Str->D
 | .inl i=>.int i
 | .inr x=>.str x
def prOfD:D->Option Pr
 | .tup [.int i,.int j]=>some (i,.inl j)
 | .tup [.int i,.str z]=>some (i,.inr z)
 | _=>none
def prsOf:List D->Option (List Pr)
 | []=>some []
 | d::r=>(prOfD d).bind fun c=>(prsOf r).bind fun cs=>some (c::cs)
def Zfd (x y:D):Option D:=match y with
 | .dtt ks _=>(Zny x).map fun k=>.bl (!Zwp ks k)
 | _=>none
def kOk:Int ⊕ Str->Bool
 | .inl _=>true
 | .inr z=>z.cps.all fun c=>decide (c<0x110000)
def Xik (ks:List Int)(k:Int):List Int:=if k∈ks then ks else ks++[k]
def Zyx (ks:List Int):List Int->List Int
 | []=>ks
 | n::ns=>Zyx (Xik ks n) ns
def Xhq:D->Option D
 | .lst ds=>if Zu ds=true then some (.flst ds) else none
 | _=>none
def Xmr:D->Option D
 | .dtt ks ds=>if Zu ds=true then some (.fdt ks ds) else none
 | _=>none
def Zjc (i:Nat):FS:=fun ρ=>match ρ[i]? with
 | some (some (.dtt ks ds))=>if Zu ds=true then .ok (.ret (.fdt ks ds)) else .bad
 | _=>.bad
def Zjg (i j:Nat):FS:=fun ρ=>match ρ[j]? with
 | some (some (.dtt ks ds))=>if Zu ds=true/\i≠j/\i<ρ.length then .ok (.nx ((ρ.set j none).set i (some (.fdt ks ds)))) else .bad
 | _=>.bad
def Zhk (i j:Nat):FS:=fun ρ=>match ρ[i]?,ρ[j]? with
 | some (some (.lst xs)),some (some (.dtt ks ds))=>if Zu ds=true/\Zu xs=true/\i≠j/\xs.length<lim then .ok (.nx ((ρ.set j none).set i (some (.lst (xs++[.fdt ks ds]))))) else .bad
 | _,_=>.bad
def Zdn (k:List (Int ⊕ Str)):D:=.tup (k.map kdD)
def Zhz (a:FE):FI:=fun ρ=>(a ρ).bind fun d=>match d with
 | .fdt ks xs=>if ks.length<=lim/\(ks.all fun k=>k.all kOk)=true then .ok (A3 (fun k x=>.tup [Zdn k,x]) ks xs) else .bad
 | _=>.bad
def Zhc (a:FE):FI:=fun ρ=>(a ρ).bind fun d=>match d with
 | .fdt ks _=>if ks.length<=lim/\(ks.all fun k=>k.all kOk)=true then .ok (ks.map Zdn) else .bad
 | _=>.bad
def Zfm (fk fv:FE):FE:=fun ρ=>(fk ρ).bind fun y=>(fv ρ).bind fun v=>match Zny y with
 | some k=>if flat v=true then .ok (.dtt [k] [v]) else .bad
 | none=>.bad
def smK:Int ⊕ Str->Bool
 | .inl i=>decide (0<=i)&&decide (i<1000)
 | .inr _=>false
def vlK:Int ⊕ Str->Int
 | .inl i=>i
 | .inr _=>0
def thK (k:List (Int ⊕ Str)):Int:=Da (CD (k.map vlK))
def Xrd:D->Option D
 | .fdt ks xs=>if ks≠[]/\(ks.all fun k=>k.all smK)=true/\(ks.map thK).Nodup/\Zu xs=true then some (.dtt ks xs) else none
 | _=>none
end Dl
namespace Dl
def Zst:List D->Option D
 | [d]=>Xrd d
 | _=>none
def Zda:List D->Option D
 | [.lst xs]=>if Zu xs=true then some (.tup xs) else none
 | _=>none
def Zjo:D->D->Option D
 | .tup xs,.tup ys=>if xs.length+ys.length<=lim/\Zu xs=true/\Zu ys=true then some (.tup (xs++ys)) else none
 | _,_=>none
def Zva:D->D->Option D
 | .flst xs,.lst ys=>if xs.length+ys.length<=lim/\Zu ys=true then some (.lst (xs++ys)) else none
 | _,_=>none
def Zui (a:FE):FT:=fun ρ=>(a ρ).bind fun d=>match d with
 | .flst xs=>.ok (!xs.isEmpty)
 | _=>.bad
def Zje (i:Nat)(G:List D->R (D×D))(args:FA):FM:=fun ρ=>match ρ[i]? with
 | some (some d0)=>(args ρ).bind fun ys=>(G (d0::ys)).bind fun p=>.ok (p.1,ρ.set i (some p.2))
 | _=>.bad
def Zpv (f:FS):FS:=fun ρ=>(f ρ).bind fun fl=>match fl with
 | .nx ρ'=>.ok (.nx ρ')
 | _=>.bad
def Zlg (a b:FE):FI:=fun ρ=>(a ρ).bind fun x=>(b ρ).bind fun y=>match x,y with
 | .tup xs,.tup ys=>if xs.length<=lim/\Zu xs=true/\Zu ys=true then .ok (A3 (fun x y=>.tup [x,y]) xs ys) else .bad
 | _,_=>.bad
def ilt (p q:Int):Bool:=decide (p<q)
def Zbj:List Int->List Int->Bool
 | [],[]=>false
 | [],_::_=>true
 | _::_,[]=>false
 | p::c,q::d=>if p=q then Zbj c d else ilt p q
def Xok (a:List Int):List (List Int)->List (List Int)
 | []=>[a]
 | b::r=>if Zbj a b=true then a::b::r else b::Xok a r
def Jf:List (List Int)->List (List Int)
 | []=>[]
 | a::r=>Xok a (Jf r)
def Zyg:List D->Option D
 | [.tup xs]=>(intsOf xs).bind fun l=>if l=[] then none else some (.int (Zve l))
 | _=>none
def Zqg (a b:FE):FE:=fun ρ=>(a ρ).bind fun t=>match t with
 | .tup xs=>match intsOf xs with
  | some l=>(b ρ).bind fun d=>match d with
   | .int i=>.ok (.int (if l=[] then i else Zve l))
   | _=>.bad
  | none=>.bad
 | _=>.bad
end Dl
namespace Dl
open PySem
def Xcx:D->D->Option D
 | .fdt ks xs,y=>(Zny y).bind fun k=>tAt ks xs k
 | _,_=>none
def Zrs (x y:D):Option D:=match y with
 | .fdt ks _=>(Zny x).map fun k=>.bl (!Zwp ks k)
 | _=>none
def Xaq (x y:D):Option D:=match y with
 | .fdt ks _=>(Zny x).map fun k=>.bl (Zwp ks k)
 | _=>none
def Zws:List D->Option D
 | [.fdt ks _]=>if ks.length<=lim/\(ks.all fun k=>k.all kOk)=true then some (.lst (ks.map Zdn)) else none
 | _=>none
def Zss (a b:FE):FI:=fun ρ=>(a ρ).bind fun x=>(b ρ).bind fun y=>match x,y with
 | .lst xs,.tup ys=>if xs.length<=lim/\Zu xs=true/\Zu ys=true then .ok (A3 (fun x y=>.tup [x,y]) xs ys) else .bad
 | _,_=>.bad
def Xft:D->Option (List Int)
 | .tup ds=>intsOf ds
 | _=>none
def Zfl:List D->Option (List (List Int))
 | []=>some []
 | d::ds=>(Xft d).bind fun a=>(Zfl ds).bind fun l=>some (a::l)
def itD (c:List Int):D:=.tup (c.map .int)
def Zpd:List D->Option D
 | [.lst ds]=>(Zfl ds).bind fun cs=>if cs.length<=63/\(cs.length<=1\/(cs.all fun c=>!c.isEmpty)=true) then some (.lst ((Jf cs).map itD)) else none
 | _=>none
end Dl
namespace L2
open PySem PySem.Spec PyProof.Rows
open Dl (D R FE FT FA FO FS FI FB Fl)
variable {K:AO}{H H' H1 H2 H0 Hb Hc:Hp}{a Dd:Addr}{xs vs ys:List V}{C:String->Addr}{ds:List D}{A:Nat->List Addr}{d d' d0:D}{v v0:V}{ns:List Int}{E:XK}{Γ Δ Γ' Δ' Γ1 Δ1 Γl Δl Γk Δk:List Nat}{m m1 m2 mr j i m3 n k N x1 t':Nat}{S1 S2 S3:List (Nat×Bool)}{σ:St}{ρ:Xp}{α:Type}{er er':String->Option Int->Prop}{f ff:FA}{B Bx By A' B' l ch A0 as:List Addr}{r:List V->Hp->VK->Prop}{g:D->D->Option D}{ta tb te ts tk:TE}{fa fb fe fc fk:FE}{P:List Value->Prop}{F:List D->R D}{y z x qual nm:Str}{Q:VK}{p pos p2 apos cpos pos' np hpos jp tpos cp p1 p':Pos}{gv:Int->Int->V}{Cd:Int->Int->Prop}{e b c st o tg iter elt kx:Expr}{X:Cx}{lo hi:Option Expr}{tl th:TO}{fl fh:FO}{u gs:TGs}{tc tA tB':TT}{J:It}{Rr:Hp->Prop}{es ifs elts:List Expr}{o':HO}{wi:TI}{fi:FI}{op:Lr}{fB:FT}{CX:CXT}{ps loose sn:List Str}{T newId initId:String}{tt gg:TG}{fu:List D->Xp->R Xp}{sc:Scope}{fg:FB}{s1:Stmt}{ss body:List Stmt}{w:Bl}{mg:Str->Option Value}{base h' h:Bq}{fd:Ck}{s:Af}{tj:TJ}{pins:List (Addr×Obj)}{its bm bmB sub:List Value}{prog q:AQ}{a₀:Array AI}{fm G:FM}{XP:(Str->Option Value)->Bq->Prop}{kwd:List (Str×Expr)}{os:Kf}{hdct ab:Bool}{col:Option Bool}{dd:Option Addr}{k0 k1 k2 k3 k5:Option Value}{env:Env}
def FzL (K:AO)(H:Hp)(a:Addr)(xs:List V):Prop:=
 (∃o,H a=some (.frz o (.lst xs)))\/∃(o:Obj) (its:Array Value) (n:Nat),K.lookup a=some o/\o.cls=.type "list"/\o.dict=none/\o.data=.seq its n/\its.size<=Ap/\Yk xs its.toList
theorem FzL.sq (h:FzL K H a xs):SqL K H a xs:=by rcases h with ⟨o,h⟩ | h;exact .inl (.inr ⟨o,h⟩);exact .inr h
def fnm (c:String):Str:=if c="TooMany" then "most" else "at"
def FOk (H:Hp)(c:String)(f:Option Int)(dx:Option Addr):Prop:=match f with
 | none=>True
 | some i=>∃d,dx=some d/\H d=some (.xd [(fnm c,.int i)])
section
variable (K:AO)(C:String->Addr)
mutual
def Rp (H:Hp):D->V->List Addr->Prop
 | .non,v,A=>v=.non/\A=[]
 | .bl b,v,A=>v=.bl b/\A=[]
 | .int i,v,A=>v=.int i/\A=[]
 | .str x,v,A=>v=.str x/\C2 x=true/\A=[]
 | .lst ds,v,A=>∃a xs B,v=.ref a/\H a=some (.lst xs)/\RpA H ds xs B/\A=a::B
 | .tup ds,v,A=>∃a xs,v=.ref a/\H a=some (.tup xs)/\RpA H ds xs A
 | .scr ns,v,A=>∃a,v=.ref a/\FzL K H a (ns.map V.int)/\A=[]
 | .rng lo hi,v,A=>∃a,v=.ref a/\H a=some (.rng lo hi)/\A=[]
 | .exc c f,v,A=>∃e dx,v=.ref e/\H e=some (exO e (.ref (C c)) dx)/\FOk H c f dx/\A=[]
 | .obj c ns ds,v,A=>∃a dx xs B,v=.ref a/\H a=some (.ins (C c) dx (ns.zip xs))/\ns.length=ds.length/\RpA H ds xs B/\A=a::B
 | .dct ks ds,v,A=>∃a xs B,v=.ref a/\H a=some (.dK (ks.zip xs))/\ks.length=ds.length/\RpA H ds xs B/\A=a::B
 | .dtt ks ds,v,A=>∃a xs B,v=.ref a/\H a=some (.dT (ks.zip xs))/\ks.length=ds.length/\RpA H ds xs B/\A=a::B
 | .flst ds,v,A=>∃a o xs,v=.ref a/\H a=some (.frz o (.lst xs))/\RpA H ds xs []/\A=[]
 | .fdt ks ds,v,A=>∃a o xs,v=.ref a/\H a=some (.frz o (.dT (ks.zip xs)))/\ks.length=ds.length/\RpA H ds xs []/\A=[]
def RpA (H:Hp):List D->List V->List Addr->Prop
 | [],xs,A=>xs=[]/\A=[]
 | d::ds,xs,A=>∃x r B B',xs=x::r/\Rp H d x B/\RpA H ds r B'/\A=B++B'
end
end
inductive IsM:HO->Prop where
 | lst {xs:List V}:IsM (.lst xs)
 | ins {C dx:Addr} {fs:List (Str×V)}:IsM (.ins C dx fs)
 | dct {kvs:List (Key×V)}:IsM (.dK kvs)
 | dtt {kvs:List (List Key×V)}:IsM (.dT kvs)
def Ext (W:Addr->Prop)(H H':Hp):Prop:=∀b o,H b=some o->H' b=some o\/(W b/\IsM o)
theorem Ext.same (h:Xf H H'):Ext (fun _=>False) H H':=fun b o q=>.inl (h b o q)
mutual
theorem Rp.ext {W:Addr->Prop}(h:Ext W H H'):∀{d:D} {v:V} {A:List Addr},(∀a∈A,¬W a)->Rp K C H d v A->Rp K C H' d v A
 | .non,_,_,_,r=>r
 | .bl _,_,_,_,r=>r
 | .int _,_,_,_,r=>r
 | .str _,_,_,_,r=>r
 | .lst ds,v,A,hw,r=>by obtain ⟨a,xs,B,e1,e2,e3,e4⟩:=r;subst e4;refine ⟨a,xs,B,e1,?_,RpA.ext h (fun b hb=>hw b (.tail _ hb)) e3,rfl⟩;rcases h a _ e2 with q | ⟨q,_⟩;exact q;exact absurd q (hw a (.head _))
 | .tup ds,v,A,hw,r=>by obtain ⟨a,xs,e1,e2,e3⟩:=r;refine ⟨a,xs,e1,?_,RpA.ext h hw e3⟩;rcases h a _ e2 with q | ⟨_,q⟩;exact q;cases q
 | .scr ns,v,A,_,r=>by obtain ⟨a,e1,e2,e3⟩:=r;refine ⟨a,e1,?_,e3⟩;rcases e2 with ⟨o,e2⟩ | e2;rcases h a _ e2 with q | ⟨_,q⟩;exact .inl ⟨o,q⟩;cases q;exact .inr e2
 | .rng lo hi,v,A,_,r=>by obtain ⟨a,e1,e2,e3⟩:=r;refine ⟨a,e1,?_,e3⟩;rcases h a _ e2 with q | ⟨_,q⟩;exact q;cases q
 | .exc c f,v,A,_,r=>by
  obtain ⟨a,dx,e1,e2,e3,e4⟩:=r;refine ⟨a,dx,e1,?_,?_,e4⟩;rcases h a _ e2 with q | ⟨_,q⟩;exact q;cases q;cases f with
  | none=>trivial
  | some i =>obtain ⟨d,z1,z2⟩:=e3;refine ⟨d,z1,?_⟩;rcases h d _ z2 with q | ⟨_,q⟩;exact q;cases q
 | .obj c ns ds,v,A,hw,r=>by obtain ⟨a,dx,xs,B,e1,e2,e0,e3,e4⟩:=r;subst e4;refine ⟨a,dx,xs,B,e1,?_,e0,RpA.ext h (fun b hb=>hw b (.tail _ hb)) e3,rfl⟩;rcases h a _ e2 with q | ⟨q,_⟩;exact q;exact absurd q (hw a (.head _))
 | .dct ks ds,v,A,hw,r=>by obtain ⟨a,xs,B,e1,e2,e0,e3,e4⟩:=r;subst e4;refine ⟨a,xs,B,e1,?_,e0,RpA.ext h (fun b hb=>hw b (.tail _ hb)) e3,rfl⟩;rcases h a _ e2 with q | ⟨q,_⟩;exact q;exact absurd q (hw a (.head _))
 | .dtt ks ds,v,A,hw,r=>by obtain ⟨a,xs,B,e1,e2,e0,e3,e4⟩:=r;subst e4;refine ⟨a,xs,B,e1,?_,e0,RpA.ext h (fun b hb=>hw b (.tail _ hb)) e3,rfl⟩;rcases h a _ e2 with q | ⟨q,_⟩;exact q;exact absurd q (hw a (.head _))
 | .flst ds,v,A,hw,r=>by obtain ⟨a,o,xs,e1,e2,e3,e4⟩:=r;refine ⟨a,o,xs,e1,?_,RpA.ext h (fun _ hb=>nomatch hb) e3,e4⟩;rcases h a _ e2 with q | ⟨_,q⟩;exact q;cases q
 | .fdt ks ds,v,A,hw,r=>by obtain ⟨a,o,xs,e1,e2,e0,e3,e4⟩:=r;refine ⟨a,o,xs,e1,?_,e0,RpA.ext h (fun _ hb=>nomatch hb) e3,e4⟩;rcases h a _ e2 with q | ⟨_,q⟩;exact q;cases q
theorem RpA.ext {W:Addr->Prop}(h:Ext W H H'):∀{ds:List D} {vs:List V} {A:List Addr},(∀a∈A,¬W a)->RpA K C H ds vs A->RpA K C H' ds vs A
 | [],_,_,_,r=>r
 | d::ds,vs,A,hw,r=>by obtain ⟨x,l,B,B',e1,e2,e3,e4⟩:=r;subst e4;exact ⟨x,l,B,B',e1,Rp.ext h (fun a ha=>hw a (AF _ ha)) e2,RpA.ext h (fun a ha=>hw a (Ar _ ha)) e3,rfl⟩
end
theorem Rp.same (h:Xf H H'){d:D}{v:V}{A:List Addr}(r:Rp K C H d v A):Rp K C H' d v A:=r.ext (Ext.same h) (fun _ _ q=>q)
theorem RpA.same (h:Xf H H'){d:List D}{v:List V}{A:List Addr}(r:RpA K C H d v A):RpA K C H' d v A:=r.ext (Ext.same h) (fun _ _ q=>q)
def Agree (W:List Addr)(H Hb:Hp):Prop:=(∀a∈W,Hb a=H a)/\∀b o,H b=some o->¬IsM o->Hb b=some o
theorem Agree.ext {W:List Addr}(h:Agree W H H'):Ext (fun a=>a∉W) H H':=fun b o q=>by by_cases hb:b∈W;exact .inl ((h.1 b hb).trans q);by_cases ho:IsM o;exact .inr ⟨hb,ho⟩;exact .inl (h.2 b o q ho)
theorem RpA.agree {W:List Addr}(h:Agree W H H'){A:List Addr}(hA:∀a∈A,a∈W)(r:RpA K C H ds vs A):RpA K C H' ds vs A:=r.ext h.ext fun a ha z=>z (hA a ha)
mutual
theorem Rp.isl:∀{d:D} {v:V} {A:List Addr},Rp K C H d v A->∀a∈A,∃o,H a=some o/\IsM o
 | .non,_,_,r,a,ha=>by rw [r.2] at ha;cases ha
 | .bl _,_,_,r,a,ha=>by rw [r.2] at ha;cases ha
 | .int _,_,_,r,a,ha=>by rw [r.2] at ha;cases ha
 | .str _,_,_,r,a,ha=>by rw [r.2.2] at ha;cases ha
 | .lst ds,_,_,r,a,ha=>by obtain ⟨b,xs,B,e1,e2,e3,e4⟩:=r;rw [e4] at ha;rcases Al.mp ha with z | z;rw [z];exact ⟨_,e2,.lst⟩;exact RpA.isl e3 a z
 | .tup ds,_,_,r,a,ha=>by obtain ⟨b,xs,e1,e2,e3⟩:=r;exact RpA.isl e3 a ha
 | .scr _,_,_,r,a,ha=>by obtain ⟨_,_,_,e⟩:=r;rw [e] at ha;cases ha
 | .rng _ _,_,_,r,a,ha=>by obtain ⟨_,_,_,e⟩:=r;rw [e] at ha;cases ha
 | .exc _ _,_,_,r,a,ha=>by obtain ⟨_,_,_,_,_,e⟩:=r;rw [e] at ha;cases ha
 | .obj c ns ds,_,_,r,a,ha=>by obtain ⟨b,dx,xs,B,e1,e2,e0,e3,e4⟩:=r;rw [e4] at ha;rcases Al.mp ha with z | z;rw [z];exact ⟨_,e2,.ins⟩;exact RpA.isl e3 a z
 | .dct ks ds,_,_,r,a,ha=>by obtain ⟨b,xs,B,e1,e2,e0,e3,e4⟩:=r;rw [e4] at ha;rcases Al.mp ha with z | z;rw [z];exact ⟨_,e2,.dct⟩;exact RpA.isl e3 a z
 | .dtt ks ds,_,_,r,a,ha=>by obtain ⟨b,xs,B,e1,e2,e0,e3,e4⟩:=r;rw [e4] at ha;rcases Al.mp ha with z | z;rw [z];exact ⟨_,e2,.dtt⟩;exact RpA.isl e3 a z
 | .flst ds,_,_,r,a,ha=>by obtain ⟨b,o,xs,e1,e2,e3,e4⟩:=r;rw [e4] at ha;cases ha
 | .fdt ks ds,_,_,r,a,ha=>by obtain ⟨b,o,xs,e1,e2,e0,e3,e4⟩:=r;rw [e4] at ha;cases ha
theorem RpA.isl:∀{ds:List D} {vs:List V} {A:List Addr},RpA K C H ds vs A->∀a∈A,∃o,H a=some o/\IsM o
 | [],_,_,r,a,ha=>by rw [r.2] at ha;cases ha
 | d::ds,_,_,r,a,ha=>by obtain ⟨x,l,B,B',e1,e2,e3,e4⟩:=r;rw [e4] at ha;rcases Ao.mp ha with z | z;exact Rp.isl e2 a z;exact RpA.isl e3 a z
end
mutual
theorem Rp.flat:∀{d:D} {v:V} {A:List Addr},Dl.flat d=true->Rp K C H d v A->A=[]
 | .non,_,_,_,r=>r.2
 | .bl _,_,_,_,r=>r.2
 | .int _,_,_,_,r=>r.2
 | .str _,_,_,_,r=>r.2.2
 | .lst _,_,_,h,_=>by simp [Dl.flat] at h
 | .tup ds,_,_,h,r=>by obtain ⟨b,xs,e1,e2,e3⟩:=r;exact RpA.flat (by simpa [Dl.flat] using h) e3
 | .scr _,_,_,_,r=>by obtain ⟨_,_,_,e⟩:=r;exact e
 | .rng _ _,_,_,_,r=>by obtain ⟨_,_,_,e⟩:=r;exact e
 | .exc _ _,_,_,_,r=>by obtain ⟨_,_,_,_,_,e⟩:=r;exact e
 | .obj _ _ _,_,_,h,_=>by simp [Dl.flat] at h
 | .dct _ _,_,_,h,_=>by simp [Dl.flat] at h
 | .dtt _ _,_,_,h,_=>by simp [Dl.flat] at h
 | .flst _,_,_,_,r=>by obtain ⟨_,_,_,_,_,_,e⟩:=r;exact e
 | .fdt _ _,_,_,_,r=>by obtain ⟨_,_,_,_,_,_,_,e⟩:=r;exact e
theorem RpA.flat:∀{ds:List D} {vs:List V} {A:List Addr},Dl.Zu ds=true->RpA K C H ds vs A->A=[]
 | [],_,_,_,r=>r.2
 | d::ds,_,_,h,r=>by obtain ⟨x,l,B,B',e1,e2,e3,e4⟩:=r;simp only [Dl.Zu,AY] at h;rw [e4,Rp.flat h.1 e2,RpA.flat h.2 e3];rfl
end
theorem RpA.len:∀{ds:List D} {vs:List V} {A:List Addr},RpA K C H ds vs A->vs.length=ds.length
 | [],_,_,r=>by rw [r.1];rfl
 | d::ds,_,_,r=>by obtain ⟨x,l,B,B',e1,e2,e3,e4⟩:=r;rw [e1,Bt,Bt,RpA.len e3]
theorem RpA.get:∀{ds:List D} {vs:List V} {A:List Addr} {i:Nat} {d:D},RpA K C H ds vs A->ds[i]?=some d->∃v B,vs[i]?=some v/\Rp K C H d v B/\∀a∈B,a∈A
 | [],_,_,_,_,_,h=>by simp at h
 | d::ds,_,_,0,_,r,h=>by obtain ⟨x,l,B,B',e1,e2,e3,e4⟩:=r;simp only [List.getElem?_cons_zero,DJ] at h;subst h e1 e4;exact ⟨x,B,rfl,e2,fun a ha=>AF _ ha⟩
 | d::ds,_,_,i+1,_,r,h=>by obtain ⟨x,l,B,B',e1,e2,e3,e4⟩:=r;simp only [Dr] at h;obtain ⟨v,B2,q1,q2,q3⟩:=RpA.get e3 h;subst e1 e4;exact ⟨v,B2,by simpa using q1,q2,fun a ha=>Ar _ (q3 a ha)⟩
theorem RpA.get':∀{ds:List D} {vs:List V} {A:List Addr} {i:Nat} {v:V},RpA K C H ds vs A->vs[i]?=some v->∃d B,ds[i]?=some d/\Rp K C H d v B/\∀a∈B,a∈A:=fun {ds vs A i v} r h=>by
 have hl:=r.len;have hi:i<ds.length:=by have:=(Ai.mp h).1;omega
 obtain ⟨v',B,q1,q2,q3⟩:=r.get (Ag hi);rw [h] at q1;cases q1;exact ⟨_,B,Ag hi,q2,q3⟩
theorem RpA.app:∀{ds es:List D} {vs ws:List V} {A B:List Addr},RpA K C H ds vs A->RpA K C H es ws B->RpA K C H (ds++es) (vs++ws) (A++B)
 | [],_,_,_,_,_,r,q=>by obtain ⟨e1,e2⟩:=r;subst e1 e2;exact q
 | d::ds,_,_,_,_,_,r,q=>by obtain ⟨x,l,B,B',e1,e2,e3,e4⟩:=r;subst e1 e4;exact ⟨x,_,B,_,rfl,e2,RpA.app e3 q,CN ..⟩
theorem RpA.one {A:List Addr}(r:Rp K C H d v A):RpA K C H [d] [v] A:=⟨v,[],A,[],rfl,r,⟨rfl,rfl⟩,(Dg _).symm⟩
theorem RpA.flatDrop {A:List Addr}:Dl.Zu ds=true->RpA K C H ds vs A->∀n,RpA K C H (ds.drop n) (vs.drop n) []:=by
 intro h r n
 induction ds generalizing vs A n with
 | nil=>rw [r.1];simp;exact ⟨rfl,rfl⟩
 | cons d ds ih =>
  have r0:=r;obtain ⟨x,l,B,B',e1,e2,e3,e4⟩:=r;cases n with
  | zero =>have z:=RpA.flat h r0;subst z;exact r0
  | succ n =>simp only [Dl.Zu,AY] at h;subst e1;exact ih h.2 e3 n
theorem RpA.flatTake {A:List Addr}:Dl.Zu ds=true->RpA K C H ds vs A->∀n,RpA K C H (ds.take n) (vs.take n) []:=by
 intro h r n
 induction ds generalizing vs A n with
 | nil=>rw [r.1];simp;exact ⟨rfl,rfl⟩
 | cons d ds ih =>
  obtain ⟨x,l,B,B',e1,e2,e3,e4⟩:=r;simp only [Dl.Zu,AY] at h;have z:=Rp.flat h.1 e2;subst e1 z;cases n with
  | zero=>exact ⟨rfl,rfl⟩
  | succ n=>exact ⟨x,_,[],_,rfl,e2,ih h.2 e3 n,rfl⟩
theorem Zsz (h:Dl.Zu ds=true):∀n,Dl.Zu (ds.drop n)=true:=by
 intro n
 induction ds generalizing n with
 | nil=>simp;rfl
 | cons d ds ih =>
  cases n with
  | zero=>exact h
  | succ n =>simp only [Dl.Zu,AY] at h;exact ih h.2 n
theorem RpA.ints :RpA K C H (ns.map D.int) (ns.map V.int) []:=by
 induction ns with
 | nil=>exact ⟨rfl,rfl⟩
 | cons n ns ih=>exact ⟨_,_,[],[],rfl,⟨rfl,rfl⟩,ih,rfl⟩
theorem RpA.ofInts:∀{ds:List D} {vs:List V} {A:List Addr} {ns:List Int},RpA K C H ds vs A->Dl.intsOf ds=some ns->vs=ns.map V.int
 | [],_,_,ns,r,h=>by simp only [Dl.intsOf,DJ] at h;rw [r.1,<- h];rfl
 | d::ds,_,_,ns,r,h=>by
  obtain ⟨x,l,B,B',e1,e2,e3,e4⟩:=r;cases d<;>simp only [Dl.intsOf] at h<;>try cases h
  obtain ⟨ms,h1,h2⟩:=Ax.mp h;rw [e1,e2.1,RpA.ofInts e3 h1,<- h2];rfl
theorem RpA.ofBools:∀{ds:List D} {vs:List V} {A:List Addr} {ns:List Bool},RpA K C H ds vs A->Dl.bools ds=some ns->vs=ns.map V.bl
 | [],_,_,ns,r,h=>by simp only [Dl.bools,DJ] at h;rw [r.1,<- h];rfl
 | d::ds,_,_,ns,r,h=>by
  obtain ⟨x,l,B,B',e1,e2,e3,e4⟩:=r;cases d<;>simp only [Dl.bools] at h<;>try cases h
  obtain ⟨ms,h1,h2⟩:=Ax.mp h;rw [e1,e2.1,RpA.ofBools e3 h1,<- h2];rfl
mutual
def toPy:D->Fg
 | .non=>.none
 | .bl b=>.bool b
 | .int i=>.int i
 | .str x=>.str x
 | .lst ds=>.list (Zgc ds)
 | .tup ds=>.tuple (Zgc ds)
 | .scr _=>.none
 | .rng _ _=>.none
 | .exc _ _=>.none
 | .obj _ _ _=>.none
 | .dct _ _=>.none
 | .dtt _ _=>.none
 | .flst _=>.none
 | .fdt _ _=>.none
def Zgc:List D->List Fg
 | []=>[]
 | d::ds=>toPy d::Zgc ds
end
mutual
theorem Rp.dn:∀{d:D} {v:V} {A:List Addr} {n:Nat},Dl.dep d<=n->n<100->Rp K C H d v A->Dn K H v (toPy d)/\(toPy d).canLay0=true/\(toPy d).depth=Dl.dep d
 | .non,_,_,_,_,_,r=>by rw [r.1];exact ⟨.non,rfl,rfl⟩
 | .bl _,_,_,_,_,_,r=>by rw [r.1];exact ⟨.bl _,rfl,rfl⟩
 | .int _,_,_,_,_,_,r=>by rw [r.1];exact ⟨.int _,rfl,rfl⟩
 | .str _,_,_,_,_,_,r=>by rw [r.1];exact ⟨.str _,by simpa [toPy,FJ] using r.2.1,by simp [toPy,Gz,Dl.dep]⟩
 | .lst ds,_,_,n,h,hn,r=>by obtain ⟨a,xs,B,e1,e2,e3,e4⟩:=r;simp only [Dl.dep] at h;obtain ⟨q1,q2,q3⟩:=RpA.dn (n:=n) (by omega) hn e3;rw [e1];exact ⟨.lst (SqL.of e2) q1,by simpa [toPy,FJ] using q2,by simp [toPy,Gz,Dl.dep,q3]⟩
 | .tup ds,_,_,n,h,hn,r=>by obtain ⟨a,xs,e1,e2,e3⟩:=r;simp only [Dl.dep] at h;obtain ⟨q1,q2,q3⟩:=RpA.dn (n:=n) (by omega) hn e3;rw [e1];exact ⟨.tup (SqT.of e2) q1,by simpa [toPy,FJ] using q2,by simp [toPy,Gz,Dl.dep,q3]⟩
 | .scr _,_,_,n,h,hn,_=>by simp only [Dl.dep] at h;omega
 | .rng _ _,_,_,n,h,hn,_=>by simp only [Dl.dep] at h;omega
 | .exc _ _,_,_,n,h,hn,_=>by simp only [Dl.dep] at h;omega
 | .obj _ _ _,_,_,n,h,hn,_=>by simp only [Dl.dep] at h;omega
 | .dct _ _,_,_,n,h,hn,_=>by simp only [Dl.dep] at h;omega
 | .dtt _ _,_,_,n,h,hn,_=>by simp only [Dl.dep] at h;omega
 | .flst _,_,_,n,h,hn,_=>by simp only [Dl.dep] at h;omega
 | .fdt _ _,_,_,n,h,hn,_=>by simp only [Dl.dep] at h;omega
theorem RpA.dn:∀{ds:List D} {vs:List V} {A:List Addr} {n:Nat},Dl.Zzl ds<=n->n<100->RpA K C H ds vs A->DnA K H vs (Zgc ds)/\Hr (Zgc ds)=true/\HX (Zgc ds)=Dl.Zzl ds
 | [],_,_,_,_,_,r=>by rw [r.1];exact ⟨.nil,rfl,rfl⟩
 | d::ds,_,_,n,h,hn,r=>by obtain ⟨x,l,B,B',e1,e2,e3,e4⟩:=r;simp only [Dl.Zzl] at h;obtain ⟨q1,q2,q3⟩:=Rp.dn (n:=n) (by omega) hn e2;obtain ⟨p1,p2,p3⟩:=RpA.dn (n:=n) (by omega) hn e3;rw [e1];exact ⟨.cons q1 p1,by simp [Zgc,Hr,q2,p2],by simp [Zgc,HX,Dl.Zzl,q3,p3]⟩
end
mutual
theorem Xgz:∀{d e:D},Dl.dep d<100->Dl.dep e<100->Hi (toPy d) (toPy e)=Dl.eqv d e
 | .non,e,_,h=>by cases e<;>first | rfl | exact absurd h (Bb 100)
 | .bl _,e,_,h=>by cases e<;>first | rfl | exact absurd h (Bb 100)
 | .int _,e,_,h=>by cases e<;>first | rfl | exact absurd h (Bb 100)
 | .str _,e,_,h=>by cases e<;>first | rfl | exact absurd h (Bb 100)
 | .lst ds,e,h1,h=>by
  cases e with
  | lst es=>exact Zpc (Ea h1) (Ea h)
  | _=>rfl
 | .tup ds,e,h1,h=>by
  cases e with
  | tup es=>exact Zpc (Ea h1) (Ea h)
  | _=>rfl
 | .scr _,_,h,_=>absurd h (Bb 100)
 | .rng _ _,_,h,_=>absurd h (Bb 100)
 | .exc _ _,_,h,_=>absurd h (Bb 100)
 | .obj _ _ _,_,h,_=>absurd h (Bb 100)
 | .dct _ _,_,h,_=>absurd h (Bb 100)
 | .dtt _ _,_,h,_=>absurd h (Bb 100)
 | .flst _,_,h,_=>absurd h (Bb 100)
 | .fdt _ _,_,h,_=>absurd h (Bb 100)
theorem Zpc:∀{d e:List D},Dl.Zzl d<100->Dl.Zzl e<100->IC (Zgc d) (Zgc e)=Dl.Xox d e
 | [],[],_,_=>rfl
 | [],_::_,_,_=>rfl
 | _::_,[],_,_=>rfl
 | d::ds,e::es,h1,h=>by have a1:Dl.dep d<100/\Dl.Zzl ds<100:=K8.mp h1;have a2:Dl.dep e<100/\Dl.Zzl es<100:=K8.mp h;show (Hi (toPy d) (toPy e)&&IC (Zgc ds) (Zgc es))=(Dl.eqv d e&&Dl.Xox ds es);rw [Xgz a1.1 a2.1,Zpc a1.2 a2.2]
end
abbrev Xp:=Dl.Env
section
variable (K:AO)(C:String->Addr)
structure Zq (H0 Hb H:Hp)(Γ Δ:List Nat)(σ:St)(ρ:Xp)(A:Nat->List Addr):Prop where
 s0:Xf H0 Hb
 same:Xf Hb H
 len:σ.length=ρ.length
 rep:∀i d,ρ[i]?=some (some d)->∃v,σ[i]?=some (some v)/\Rp K C H d v (A i)
 nil:∀i,(∀d,ρ[i]?≠some (some d))->A i=[]
 loc:∀i∈Γ,∀a∈A i,H0 a=none
 top:∀i∈Γ,∀a r,A i=a::r->Hb a=none/\a∉r/\∀j,j≠i->a∉A j
 deep:∀i∈Δ,(A i).Nodup/\(∀j,j≠i->∀a∈A i,a∉A j)/\∀a∈A i,Hb a=none
def InS (A:Nat->List Addr)(S:List (Nat×Bool))(a:Addr):Prop:=∃p∈S,if p.2=true then a∈(A p.1).tail else a∈A p.1
def Res (m:Nat)(S:List (Nat×Bool))(H:Hp)(A:Nat->List Addr)(d:D)(v:V)(H':Hp):Prop:=
 ∃B,Rp K C H' d v B/\(∀a∈B,H a=none\/InS A S a)/\(m=1->∀a r,B=a::r->H a=none/\a∉r)/\(m=2->B.Nodup)
def ResA (m:Nat)(S:List (Nat×Bool))(H:Hp)(A:Nat->List Addr)(ds:List D)(vs:List V)(H':Hp):Prop:=
 ∃B,RpA K C H' ds vs B/\(∀a∈B,H a=none\/InS A S a)/\(m=2->B.Nodup)
def EC (E:XK)(c:String)(x:Option Int)(H:Hp):Prop:=∀dx,FOk H c x dx->E (.ref (C c)) dx H
def Xa {α:Type}(r:R α)(ok:α->Prop)(er:String->Option Int->Prop):Prop:=match r with
 | .ok a=>ok a
 | .err c x=>er c x
 | .bad=>False
def EOk (E:XK)(Γ Δ:List Nat)(m:Nat)(S:List (Nat×Bool))(t:TE)(f:FE):Prop:=∀(H0 Hb H:Hp) (σ:St) (ρ:Xp) (A:Nat->List Addr) (Q:VK),Zq K C H0 Hb H Γ Δ σ ρ A->
 Xa (f ρ) (fun d=>∀v H',Xf H H'->Res K C m S H A d v H'->Q v H') (fun c x=>∀H',Xf H H'->EC C E c x H')->t σ H Q
def AOk (E:XK)(Γ Δ:List Nat)(m:Nat)(S:List (Nat×Bool))(t:TA)(f:FA):Prop:=∀(H0 Hb H:Hp) (σ:St) (ρ:Xp) (A:Nat->List Addr) (Q:List V->Hp->Prop),Zq K C H0 Hb H Γ Δ σ ρ A->
 Xa (f ρ) (fun d=>∀v H',Xf H H'->ResA K C m S H A d v H'->Q v H') (fun c x=>∀H',Xf H H'->EC C E c x H')->t σ H Q
def TOk (E:XK)(Γ Δ:List Nat)(t:TT)(f:FT):Prop:=∀(H0 Hb H:Hp) (σ:St) (ρ:Xp) (A:Nat->List Addr) (Q:Bool->Hp->Prop),Zq K C H0 Hb H Γ Δ σ ρ A->
 Xa (f ρ) (fun b=>∀H',Xf H H'->Q b H') (fun c x=>∀H',Xf H H'->EC C E c x H')->t σ H Q
def OOk (E:XK)(Γ Δ:List Nat)(t:TO)(f:FO):Prop:=∀(H0 Hb H:Hp) (σ:St) (ρ:Xp) (A:Nat->List Addr) (Q:Option Int->Hp->Prop),Zq K C H0 Hb H Γ Δ σ ρ A->
 Xa (f ρ) (fun b=>∀H',Xf H H'->Q b H') (fun c x=>∀H',Xf H H'->EC C E c x H')->t σ H Q
def Zux (E:XK)(mr:Nat)(Γl Δl Γ' Δ':List Nat)(H0 Hb:Hp)(D:Ends)(r:R Fl):Prop:=Xa r (fun fl=>match fl with
    | .nx ρ'=>∀σ' H' A',Zq K C H0 Hb H' Γ' Δ' σ' ρ' A'->D.nx σ' H'
    | .ret d=>∀v H',Xf H0 H'->Res K C mr [] H0 (fun _=>[]) d v H'->D.rt v H'
    | .brk ρ'=>∀σ' H' A',Zq K C H0 Hb H' Γl Δl σ' ρ' A'->D.bk σ' H'
    | .cnt ρ'=>∀σ' H' A',Zq K C H0 Hb H' Γl Δl σ' ρ' A'->D.ct σ' H')
  (fun c x=>∀H',Xf H0 H'->EC C E c x H')
def SOk (E:XK)(mr:Nat)(Γl Δl Γ Δ Γ' Δ':List Nat)(t:TS)(f:FS):Prop:=∀(H0 Hb H:Hp) (σ:St) (ρ:Xp) (A:Nat->List Addr) (D:Ends),Zq K C H0 Hb H Γ Δ σ ρ A->
 Zux K C E mr Γl Δl Γ' Δ' H0 Hb D (f ρ)->t D σ H
end
section
variable {S:List (Nat×Bool)}
theorem Zq.mono (h:Zq K C H0 Hb H Γ Δ σ ρ A)(g:Xf H H'):Zq K C H0 Hb H' Γ Δ σ ρ A:=⟨h.s0,h.same.trans g,h.len,fun i d e=>let ⟨v,q1,q2⟩:=h.rep i d e;⟨v,q1,q2.same g⟩,h.nil,h.loc,h.top,h.deep⟩
theorem Zq.weak (h:Zq K C H0 Hb H Γ Δ σ ρ A)(h1:∀i∈Γ',i∈Γ)(h2:∀i∈Δ',i∈Δ):Zq K C H0 Hb H Γ' Δ' σ ρ A:=⟨h.s0,h.same,h.len,h.rep,h.nil,fun i hi=>h.loc i (h1 i hi),fun i hi=>h.top i (h1 i hi),fun i hi=>h.deep i (h2 i hi)⟩
theorem Zq.is (h:Zq K C H0 Hb H Γ Δ σ ρ A)(ha:a∈A j):∃o,H a=some o/\IsM o:=by by_cases q:∃d,ρ[j]?=some (some d);obtain ⟨d,q⟩:=q;obtain ⟨v,_,r⟩:=h.rep j d q;exact r.isl a ha;rw [h.nil j fun d e=>q ⟨d,e⟩] at ha;cases ha
theorem Zq.ne (h:Zq K C H0 Hb H Γ Δ σ ρ A)(ha:a∈A j)(hn:H a=none):False:=by obtain ⟨xs,q,_⟩:=h.is ha;rw [q] at hn;cases hn
theorem InS.mem (h:InS A S a):∃p∈S,a∈A p.1:=by obtain ⟨p,hp,q⟩:=h;refine ⟨p,hp,?_⟩;split at q;exact Hk q;exact q
theorem InS.mono (h:InS A S1 a)(hs:∀p∈S1,p∈S2):InS A S2 a:=let ⟨p,hp,q⟩:=h;⟨p,hs p hp,q⟩
theorem Xa.imp {r:R α}{ok ok':α->Prop}(h:Xa r ok er)(h1:∀a,ok a->ok' a)(h2:∀c x,er c x->er' c x):Xa r ok' er':=by
 cases r with
 | ok a=>exact h1 a h
 | err c x=>exact h2 c x h
 | bad=>exact h
theorem Xa.bind {α β:Type}{r:R α}{g:α->R β}{ok:β->Prop}{er:String->Option Int->Prop}(h:Xa (r.bind g) ok er):Xa r (fun a=>Xa (g a) ok er) er:=by
 cases r with
 | ok a=>exact h
 | err c x=>exact h
 | bad=>exact h
theorem Res.flat (r:Rp K C H' d v []):Res K C m S H A d v H':=⟨[],r,fun _ h=>(nomatch h),fun _ _ _ e=>(nomatch e),fun _=>A6⟩
theorem Xcf (h:∀H,Rp K C H d v []):EOk K C E Γ Δ 2 [] (tC v) (Dl.fC d):=fun _ _ H _ _ _ _ _ p=>p v H (Xf.refl _) (Res.flat (h H))
theorem Xpn {ok:D->Prop}(h:Xa (Dl.fV i ρ) ok er):∃d,ρ[i]?=some (some d)/\ok d:=by unfold Dl.fV at h;split at h;rename_i d e;exact ⟨d,e,h⟩;exact h.elim
theorem eok_v :EOk K C E Γ Δ 0 [(i,false)] (Zge i) (Dl.fV i):=fun H0 Hb H σ ρ A Q I p=>by obtain ⟨d,e,p⟩:=Xpn p;obtain ⟨v,e1,r⟩:=I.rep i d e;exact ⟨v,e1,p v H (Xf.refl _) ⟨A i,r,fun a ha=>.inr ⟨(i,false),.head _,ha⟩,(fun z=>nomatch z),(fun z=>nomatch z)⟩⟩
theorem Xtw (hi:i∈Δ):EOk K C E Γ Δ 2 [(i,false)] (Zge i) (Dl.fV i):=fun H0 Hb H σ ρ A Q I p=>by obtain ⟨d,e,p⟩:=Xpn p;obtain ⟨v,e1,r⟩:=I.rep i d e;exact ⟨v,e1,p v H (Xf.refl _) ⟨A i,r,fun a ha=>.inr ⟨(i,false),.head _,ha⟩,(fun z=>nomatch z),fun _=>(I.deep i hi).1⟩⟩
theorem Xga {t:TE}{f:FE}(h:EOk K C E Γ Δ m S t f):EOk K C E Γ Δ 2 [] t (Dl.f1 Dl.Yr f):=fun H0 Hb H σ ρ A Q I p =>
  h H0 Hb H σ ρ A Q I (p.bind.imp (fun d q v H' g r=>by
    unfold Dl.Yr at q;split at q;rename_i hf;obtain ⟨B,r1,_⟩:=r;have e:=r1.flat hf;subst e;exact q v H' g (Res.flat r1)
    · exact q.elim) fun _ _ q=>q)
theorem Res.later {H3:Hp}(g1:Xf H0 H1)(g2:Xf H2 H3)(r:Res K C m S H1 A d v H2):Res K C m S H0 A d v H3:=by obtain ⟨B,r1,r2,r3,r4⟩:=r;exact ⟨B,r1.same g2,fun a ha=>(r2 a ha).imp (fun h=>g1.free h) id,fun hm a l e=>⟨g1.free (r3 hm a l e).1,(r3 hm a l e).2⟩,r4⟩
theorem Res.new (r:Rp K C H' d v B)(h1:B.Nodup)(h2:∀a∈B,H a=none):Res K C m S H A d v H':=⟨B,r,fun a ha=>.inl (h2 a ha),fun _ a l e=>by subst e;exact ⟨h2 a (.head _),(Ay.mp h1).1⟩,fun _=>h1⟩
theorem Zei {o:Option α}{ok:α->Prop}(h:Xa (Dl.oR o) ok er):∃a,o=some a/\ok a:=by
 cases o with
 | none=>exact h.elim
 | some a=>exact ⟨a,rfl,h⟩
def GOk (K:AO)(C:String->Addr)(r:R2)(g:D->D->Option D):Prop:=
 ∀(H:Hp) (x y d:D) (vx vy:V) (Bx By:List Addr) (Q:VK),Rp K C H x vx Bx->Rp K C H y vy By->g x y=some d->(∀v H' B,Xf H H'->Rp K C H' d v B->B.Nodup->(∀a∈B,H a=none)->Q v H')->r vx vy H Q
def GAk (K:AO)(C:String->Addr)(r:List V->Hp->VK->Prop)(g:List D->Option D):Prop:=
 ∀(H:Hp) (xs:List D) (d:D) (vs:List V) (Bx:List Addr) (Q:VK),RpA K C H xs vs Bx->g xs=some d->(∀v H' B,Xf H H'->Rp K C H' d v B->B.Nodup->(∀a∈B,H a=none)->Q v H')->r vs H Q
theorem Zwn {r:R2}(hg:GOk K C r g)(ha:EOk K C E Γ Δ m1 S1 ta fa)(hb:EOk K C E Γ Δ m2 S2 tb fb):EOk K C E Γ Δ 2 [] (tOp r ta tb) (Dl.f2 g fa fb):=
  fun H0 Hb H σ ρ A Q I p=>ha H0 Hb H σ ρ A _ I (p.bind.imp (fun x q vx H1 g1 r1=>hb H0 Hb H1 σ ρ A _ (I.mono g1) (q.bind.imp (fun y q vy H2 g2 r2=>by
    obtain ⟨d,e,q⟩:=Zei q;obtain ⟨Bx,r1,_⟩:=r1;obtain ⟨By,r2,_⟩:=r2;exact hg H2 x y d vx vy Bx By Q (r1.same g2) r2 e fun v H' B g3 r3 h1 h2=>q v H' (g1.trans (g2.trans g3)) (Res.new r3 h1 fun a ha=>(g1.trans g2).free (h2 a ha))) fun c x q H' g'=>q H' (g1.trans g'))) fun c x q H' g'=>q H' g')
theorem Xqa {r:V->Hp->VK->Prop}{g:D->Option D}(hg:∀(H:Hp) (x d:D) (vx:V) (Bx:List Addr) (Q:VK),Rp K C H x vx Bx->g x=some d->(∀v H' B,Xf H H'->Rp K C H' d v B->B.Nodup->(∀a∈B,H a=none)->Q v H')->r vx H Q)
    (ha:EOk K C E Γ Δ m1 S1 ta fa):EOk K C E Γ Δ 2 [] (tUn r ta) (Dl.f1 g fa):=
  fun H0 Hb H σ ρ A Q I p=>ha H0 Hb H σ ρ A _ I (p.bind.imp (fun x q vx H1 g1 r1=>by
    obtain ⟨d,e,q⟩:=Zei q;obtain ⟨Bx,r1,_⟩:=r1;exact hg H1 x d vx Bx Q r1 e fun v H' B g3 r3 h1 h2=>q v H' (g1.trans g3) (Res.new r3 h1 fun a ha=>g1.free (h2 a ha))) fun c x q H' g'=>q H' g')
theorem Yq {d:α}{P:Prop}(e:(none:Option α)=some d):P:=nomatch e
theorem Zrh {F:List D->Option D}(hn:F []=none)(hc:∀x y r,F (x::y::r)=none):∀{ds:List D} {d:D},F ds=some d->∃x,ds=[x]
 | [],_,e=>Yq (hn.symm.trans e)
 | [x],_,_=>⟨x,rfl⟩
 | x::y::r,_,e=>Yq ((hc x y r).symm.trans e)
theorem Xkt {y:D}(e:Dl.gIx (.lst ds) y=some d):∃i,y=.int i/\atI ds i=some d:=by
 cases y with
 | int i=>exact ⟨i,rfl,e⟩
 | _=>exact Yq e
theorem Xmc {y:D}(e:Dl.gIx (.tup ds) y=some d):∃i,y=.int i/\atI ds i=some d:=by
 cases y with
 | int i=>exact ⟨i,rfl,e⟩
 | _=>exact Yq e
theorem Xlh {y:D}(e:Dl.gIx (.scr ns) y=some d):∃i,y=.int i/\(atI ns i).map D.int=some d:=by
 cases y with
 | int i=>exact ⟨i,rfl,e⟩
 | _=>exact Yq e
theorem Xkf {y:D}(e:Dl.gIx (.str z) y=some d):∃i,y=.int i/\z.length<=Dl.lim/\(atI z.cps.toList i).map (fun c=>D.str ⟨#[c]⟩)=some d:=by
 cases y with
 | int i =>have e':(if z.length<=Dl.lim then ((Dl.atD z.cps.toList i).map fun c=>D.str ⟨#[c]⟩) else none)=some d:=e;by_cases h:z.length<=Dl.lim;rw [if_pos h] at e';exact ⟨i,rfl,h,e'⟩;rw [if_neg h] at e';exact Yq e'
 | _=>exact Yq e
theorem Xuh {x y:D}(e:Dl.gIx x y=some d):∃i,y=.int i/\((∃ds,x=.lst ds/\atI ds i=some d)\/(∃ds,x=.tup ds/\atI ds i=some d)\/(∃ns,x=.scr ns/\(atI ns i).map D.int=some d)\/∃z,x=.str z/\z.length<=Dl.lim/\(atI z.cps.toList i).map (fun c=>D.str ⟨#[c]⟩)=some d):=by
 cases x with
 | lst ds=>exact (Xkt e).imp fun _ h=>⟨h.1,.inl ⟨ds,rfl,h.2⟩⟩
 | tup ds=>exact (Xmc e).imp fun _ h=>⟨h.1,.inr (.inl ⟨ds,rfl,h.2⟩)⟩
 | scr ns=>exact (Xlh e).imp fun _ h=>⟨h.1,.inr (.inr (.inl ⟨ns,rfl,h.2⟩))⟩
 | str z=>exact (Xkf e).imp fun _ h=>⟨h.1,.inr (.inr (.inr ⟨z,rfl,h.2⟩))⟩
 | _=>exact Yq e
theorem Zvi {β:Type}{ds:List α}{xs:List β}{i:Int}{d:α}{v:β}(hl:xs.length=ds.length)(e:atI ds i=some d)(h1:Kp i ds.length=some j)(hv:xs[j]?=some v):atI xs i=some v:=by
 unfold atI at e ⊢;rw [hl];cases hx:ixN ds.length i with
 | none=>rw [hx] at e;cases e
 | some k =>obtain ⟨z1,_⟩:=Zyc hx;rw [h1] at z1;cases z1;exact hv
theorem Xrf {x y:D}{vx vy:V}(rx:Rp K C H x vx Bx)(ry:Rp K C H y vy By)(e:Dl.gIx x y=some d)(q:∀v B,Rp K C H d v B->(∀a∈B,a∈Bx)->((∃ds,x=.lst ds)->∀a∈B,a∈Bx.tail)->Q v H):rIx K vx vy H Q:=by obtain ⟨i,rfl,h⟩:=Xuh e;cases ry.1;rcases h with ⟨ds,rfl,e'⟩ | ⟨ds,rfl,e'⟩ | ⟨ns,rfl,e'⟩ | ⟨z,rfl,hz,e'⟩;obtain ⟨a,xs,B,rfl,e2,e3,rfl⟩:=rx;obtain ⟨j,h1,h2,_⟩:=Zdj e';obtain ⟨v,B',q1,q2,q3⟩:=e3.get h2;exact Xrg (SqL.of e2) (v:=v) (Zvi e3.len e' h1 q1) (q v B' q2 (fun a ha=>.tail _ (q3 a ha)) fun _ a ha=>q3 a ha);obtain ⟨a,xs,rfl,e2,e3⟩:=rx;obtain ⟨j,h1,h2,_⟩:=Zdj e';obtain ⟨v,B',q1,q2,q3⟩:=e3.get h2;exact Xup (SqT.of e2) (v:=v) (Zvi e3.len e' h1 q1) (q v B' q2 q3 fun z=>by obtain ⟨_,z⟩:=z;cases z);obtain ⟨a,rfl,e2,rfl⟩:=rx;obtain ⟨n,h1,rfl⟩:=Ax.mp e';obtain ⟨j,h2,h3,_⟩:=Zdj h1;exact .inl ⟨a,ns.map V.int,i,.int n,rfl,rfl,e2.sq,Zvi (Ah _) h1 h2 (by rw [AM,h3];rfl),q (.int n) [] ⟨rfl,rfl⟩ (fun _ h=>(nomatch h)) fun _ _ h=>(nomatch h)⟩;obtain ⟨rfl,e2,rfl⟩:=rx;obtain ⟨c,h1,rfl⟩:=Ax.mp e';refine .inr (.inr ⟨z,i,c,rfl,rfl,Az hz (by decide),h1,q _ [] ⟨rfl,?_,rfl⟩ (fun _ h=>(nomatch h)) fun _ _ h=>(nomatch h)⟩);obtain ⟨j,_,h3,_⟩:=Zdj h1;have hm:c∈z.cps:=Array.mem_toList_iff.mp (AW h3);have ho:z.cps.all (·<0x110000)=true:=e2;have:=(Array.all_eq_true_iff_forall_mem.mp ho) c hm;unfold C2;simpa using this
theorem Xpq (ha:EOk K C E Γ Δ m1 S1 ta fa)(hb:EOk K C E Γ Δ m2 S2 tb fb):EOk K C E Γ Δ 0 S1 (tOp (rIx K) ta tb) (Dl.f2 Dl.gIx fa fb):=
  fun H0 Hb H σ ρ A Q I p=>ha H0 Hb H σ ρ A _ I (p.bind.imp (fun x q vx H1 g1 r1=>hb H0 Hb H1 σ ρ A _ (I.mono g1) (q.bind.imp (fun y q vy H2 g2 r2=>by
    obtain ⟨d,e,q⟩:=Zei q;obtain ⟨Bx,r1,r1',_⟩:=r1;obtain ⟨By,r2,_⟩:=r2;exact Xrf (r1.same g2) r2 e fun v B r3 h _=>q v H2 (g1.trans g2) ⟨B,r3,fun a ha=>r1' a (h a ha),(fun z=>nomatch z),(fun z=>nomatch z)⟩) fun c x q H' g'=>q H' (g1.trans g'))) fun c x q H' g'=>q H' g')
def gIxL (x y:D):Option D:=match x with
 | .lst _=>Dl.gIx x y
 | _=>none
theorem sameNew {p:Addr}(h:H p=none)(o:HO):Xf H (upd H p o):=fun b u q=>by rw [Xc (Xm q h)];exact q
abbrev Out (K:AO)(C:String->Addr)(H:Hp)(d:D)(Q:VK):Prop:=∀v H' B,Xf H H'->Rp K C H' d v B->B.Nodup->(∀a∈B,H a=none)->Q v H'
theorem Out.flat (q:Out K C H d Q)(r:Rp K C H d v []):Q v H:=q v H [] (Xf.refl _) r A6 (fun _ h=>nomatch h)
theorem Out.lst {ds:List D}{vs:List V}{p:Addr}(q:Out K C H (.lst ds) Q)(r:RpA K C H ds vs [])(hp:H p=none):Q (.ref p) (upd H p (.lst vs)):=q _ _ [p] (sameNew hp _) ⟨p,vs,[],rfl,Xd,r.same (sameNew hp _),rfl⟩ (by simp) (fun a ha=>by rw [Aj.mp ha];exact hp)
theorem Out.tup {ds:List D}{vs:List V}{p:Addr}(q:Out K C H (.tup ds) Q)(r:RpA K C H ds vs [])(hp:H p=none):Q (.ref p) (upd H p (.tup vs)):=q _ _ [] (sameNew hp _) ⟨p,vs,rfl,Xd,r.same (sameNew hp _)⟩ A6 (fun _ h=>nomatch h)
theorem Zbp (h:n<=Dl.lim):n<=Ap:=Az h (by decide)
theorem Zcu (h:n<Dl.lim):n<Ap:=AC h (by decide)
theorem Zxc (h1:C2 x=true)(h2:C2 y=true):C2 (x++y)=true:=by unfold C2 at *;show (x.cps++y.cps).all _=true;rw [Array.all_append,h1,h2];rfl
theorem RpA.nil:RpA K C H [] [] []:=⟨rfl,rfl⟩
theorem RpA.flat' {A:List Addr}(h:Dl.Zu ds=true)(r:RpA K C H ds vs A):RpA K C H ds vs []:=by have e:=RpA.flat h r;subst e;exact r
theorem RpA.rep {ds:List D}{vs:List V}(r:RpA K C H ds vs []):∀n,RpA K C H (Ab n ds).flatten (Ab n vs).flatten []
 | 0=>RpA.nil
 | n+1=>by rw [Bc,Bc,BN,BN];exact r.app (RpA.rep r n)
theorem Zv:GOk K C Xfl Dl.Yp:=by intro H x y d vx vy Bx By Q rx ry e q;unfold Dl.Yp at e;split at e;cases e;obtain ⟨rfl,_⟩:=rx;obtain ⟨rfl,_⟩:=ry;exact Xto (Out.flat q ⟨rfl,rfl⟩);split at e;rename_i hz;cases e;obtain ⟨rfl,h1,_⟩:=rx;obtain ⟨rfl,h2,_⟩:=ry;exact .inr (.inl ⟨_,_,rfl,rfl,Zbp hz,Out.flat q ⟨rfl,Zxc h1 h2,rfl⟩⟩);cases e;split at e;rename_i hz;cases e;obtain ⟨a,xs,B,rfl,e2,e3,_⟩:=rx;obtain ⟨a',xs',B',rfl,e2',e3',_⟩:=ry;obtain ⟨hz,f1,f2⟩:=hz;refine Xuj e2 e2' (by rw [e3.len,e3'.len];exact Zbp hz) fun p hp=>?_;exact Out.lst q ((e3.flat' f1).app (e3'.flat' f2)) hp;cases e;cases e
theorem Zlh {g:Int->Int->D}{f:D->D->Option D}(hf:∀x y d,f x y=some d->∃i j,x=.int i/\y=.int j/\d=g i j)(hr:∀H i j,Rp K C H (g i j) (gv i j) []):GOk K C (rI0 gv) f:=by intro H x y d vx vy Bx By Q rx ry e q;obtain ⟨i,j,rfl,rfl,rfl⟩:=hf x y d e;obtain ⟨rfl,_⟩:=rx;obtain ⟨rfl,_⟩:=ry;exact rd_I0 (Out.flat q (hr H i j))
theorem Xmb {g:Int->Int->D}{f:D->D->Option D}(hf:∀x y d,f x y=some d->∃i j,x=.int i/\y=.int j/\d=g i j/\Cd i j)(hr:∀H i j,Rp K C H (g i j) (gv i j) []):GOk K C (rI Cd gv) f:=by intro H x y d vx vy Bx By Q rx ry e q;obtain ⟨i,j,rfl,rfl,rfl,hc⟩:=hf x y d e;obtain ⟨rfl,_⟩:=rx;obtain ⟨rfl,_⟩:=ry;exact rd_I hc (Out.flat q (hr H i j))
theorem rpI {i:Int}:Rp K C H (.int i) (.int i) []:=⟨rfl,rfl⟩
theorem rpB {i:Bool}:Rp K C H (.bl i) (.bl i) []:=⟨rfl,rfl⟩
theorem Zcb:GOk K C (rI0 fun i j=>.int (i - j)) Dl.Zeu:=Zlh (fun x y d e=>by unfold Dl.Zeu at e;split at e<;>cases e;exact ⟨_,_,rfl,rfl,rfl⟩) fun _ _ _=>rpI
theorem Zcc:GOk K C (rI0 fun i j=>.bl (decide (i<j))) Dl.gLt:=Zlh (fun x y d e=>by unfold Dl.gLt at e;split at e<;>cases e;exact ⟨_,_,rfl,rfl,rfl⟩) fun _ _ _=>rpB
theorem Xie:GOk K C (rI0 fun i j=>.bl (decide (i<=j))) Dl.gLe:=Zlh (fun x y d e=>by unfold Dl.gLe at e;split at e<;>cases e;exact ⟨_,_,rfl,rfl,rfl⟩) fun _ _ _=>rpB
theorem Zhi:GOk K C (rI0 fun i j=>.bl (decide (j<i))) Dl.gGt:=Zlh (fun x y d e=>by unfold Dl.gGt at e;split at e<;>cases e;exact ⟨_,_,rfl,rfl,rfl⟩) fun _ _ _=>rpB
theorem Xhg:GOk K C (rI0 fun i j=>.bl (decide (j<=i))) Dl.gGe:=Zlh (fun x y d e=>by unfold Dl.gGe at e;split at e<;>cases e;exact ⟨_,_,rfl,rfl,rfl⟩) fun _ _ _=>rpB
theorem Yo:GOk K C (rI (fun _ j=>0<j) fun i j=>.int (i % j)) Dl.Zfz:=Xmb (fun x y d e=>by
  unfold Dl.Zfz at e;split at e;split at e;rename_i h;cases e;exact ⟨_,_,rfl,rfl,rfl,h⟩;cases e
  · cases e) fun _ _ _=>rpI
theorem Zqd:GOk K C (rI Xqs fun i j=>.int (i / j)) Dl.Xhx:=Xmb (fun x y d e=>by
  unfold Dl.Xhx at e;split at e;split at e;rename_i h;cases e;exact ⟨_,_,rfl,rfl,rfl,h⟩;cases e
  · cases e) fun _ _ _=>rpI
theorem Zbv:GOk K C (rI CPow fun i j=>.int (i ^ j.toNat)) Dl.Ziq:=Xmb (fun x y d e=>by
  unfold Dl.Ziq at e;split at e;split at e;rename_i h;cases e;exact ⟨_,_,rfl,rfl,rfl,h⟩;cases e
  · cases e) fun _ _ _=>rpI
theorem Zxl {i j:Int}(h:(Dl.short i||Dl.short j)=true):Xoq i j:=by unfold Dl.short at h;simp only [Bool.or_eq_true,AY,decide_eq_true_eq] at h;exact h
theorem Xn:GOk K C Xeq Dl.Zab:=by intro H x y d vx vy Bx By Q rx ry e q;unfold Dl.Zab at e;split at e;split at e;rename_i h;cases e;obtain ⟨rfl,_⟩:=rx;obtain ⟨rfl,_⟩:=ry;exact Xqp (Zxl h) (Out.flat q rpI);cases e;split at e;rename_i h;cases e;obtain ⟨a,xs,B,rfl,e2,e3,_⟩:=rx;obtain ⟨rfl,_⟩:=ry;obtain ⟨h1,h2,h3,h4⟩:=h;refine Xsg e2 (by omega) (by omega) (by rw [e3.len];exact Zbp h2) fun p hp=>?_;exact Out.lst q ((e3.flat' h4).rep _) hp;cases e;cases e
theorem Zlw {A:List Addr}(h:Dl.dep d<=20)(r:Rp K C H d v A):Dn K H v (toPy d)/\Ff (toPy d)=true:=by obtain ⟨q1,q2,q3⟩:=r.dn h (by decide);refine ⟨q1,?_⟩;unfold Ff;rw [q2,q3];simp only [Bool.true_and,decide_eq_true_eq];omega
theorem Zeg:GOk K C (Zyv K) Dl.gEq:=by intro H x y d vx vy Bx By Q rx ry e q;unfold Dl.gEq at e;split at e;rename_i h;cases e;obtain ⟨a1,a2⟩:=Zlw h.1 rx;obtain ⟨b1,b2⟩:=Zlw h.2 ry;refine .inr ⟨_,_,a1,b1,a2,b2,?_⟩;rw [Xgz (by omega) (by omega)];exact Out.flat q rpB;cases e
theorem Xin:AOk K C E Γ Δ 2 [] Ztt Dl.Zy:=fun _ _ H _ _ _ _ _ p=>p [] H (Xf.refl _) ⟨[],RpA.nil,(fun _ h=>nomatch h),fun _=>A6⟩
theorem InS.left (h:InS A S1 a):InS A (S1++S2) a:=h.mono fun _ hp=>AF _ hp
theorem InS.right (h:InS A S2 a):InS A (S1++S2) a:=h.mono fun _ hp=>Ar _ hp
theorem Xdq {t:TA}(he:EOk K C E Γ Δ m1 S1 te fe)(ha:AOk K C E Γ Δ m2 S2 t f):AOk K C E Γ Δ 0 (S1++S2) (Zbu te t) (Dl.Ze fe f):=
  fun H0 Hb H σ ρ A Q I p=>he H0 Hb H σ ρ A _ I (p.bind.imp (fun x q vx H1 g1 r1=>ha H0 Hb H1 σ ρ A _ (I.mono g1) (q.bind.imp (fun ys q vs H2 g2 r2=>by
    obtain ⟨Bx,r1,r1',_⟩:=r1;obtain ⟨By,r2,r2',_⟩:=r2;exact q _ H2 (g1.trans g2) ⟨Bx++By,⟨vx,vs,Bx,By,rfl,r1.same g2,r2,rfl⟩,fun a h=>(Ao.mp h).elim (fun h=>(r1' a h).imp id InS.left) (fun h=>(r2' a h).imp (fun h=>g1.free h) InS.right),(fun z=>nomatch z)⟩)
    fun c x q H' g'=>q H' (g1.trans g'))) fun c x q H' g'=>q H' g')
theorem Zmb {t:TA}(he:EOk K C E Γ Δ 2 S1 te fe)(ha:AOk K C E Γ Δ 2 S2 t f)(h1:∀p∈S1,p.1∈Δ:=by decide)(h2:∀p∈S1,∀q∈S2,p.1≠q.1:=by decide):AOk K C E Γ Δ 2 (S1++S2) (Zbu te t) (Dl.Ze fe f):=
  fun H0 Hb H σ ρ A Q I p=>he H0 Hb H σ ρ A _ I (p.bind.imp (fun x q vx H1 g1 r1=>ha H0 Hb H1 σ ρ A _ (I.mono g1) (q.bind.imp (fun ys q vs H2 g2 r2=>by
    obtain ⟨Bx,r1,r1',_,n1⟩:=r1;obtain ⟨By,r2,r2',n2⟩:=r2;refine q _ H2 (g1.trans g2) ⟨Bx++By,⟨vx,vs,Bx,By,rfl,r1.same g2,r2,rfl⟩,fun a h=>(Ao.mp h).elim (fun h=>(r1' a h).imp id InS.left) (fun h=>(r2' a h).imp (fun h=>g1.free h) InS.right),fun _=>?_⟩;refine Dy.mpr ⟨n1 rfl,n2 rfl,fun a ha b hb e=>?_⟩;subst e;rcases r2' a hb with z | z;obtain ⟨xs,w,_⟩:=r1.isl a ha;rw [w] at z;cases z
    · obtain ⟨p2,hp2,z⟩:=z.mem;rcases r1' a ha with w | w;exact I.ne z w
      · obtain ⟨p1,hp1,w⟩:=w.mem;exact (I.deep p1.1 (h1 p1 hp1)).2.1 p2.1 (fun e=>h2 p1 hp1 p2 hp2 e.symm) a w z)
    fun c x q H' g'=>q H' (g1.trans g'))) fun c x q H' g'=>q H' g')
theorem Xmt {t:TA}(ha:AOk K C E Γ Δ 2 S t f):EOk K C E Γ Δ 2 S (Xoh t) (Dl.fA Dl.Yz f):=
  fun H0 Hb H σ ρ A Q I p=>ha H0 Hb H σ ρ A _ I (p.bind.imp (fun ds q vs H1 g1 r1=>by
    obtain ⟨d,e,q⟩:=Zei q;unfold Dl.Yz at e;split at e;rename_i hz;cases e;obtain ⟨B,r1,r1',n1⟩:=r1;refine ⟨by rw [r1.len];exact Zbp hz,fun p hp=>?_⟩;have g2:=sameNew hp (.lst vs);refine q _ _ (g1.trans g2) ⟨p::B,⟨p,vs,B,rfl,Xd,r1.same g2,rfl⟩,fun a ha=>?_,(fun z=>nomatch z),fun _=>Ay.mpr ⟨fun h=>?_,n1 rfl⟩⟩;rcases Al.mp ha with z | z;rw [z];exact .inl (g1.free hp);exact r1' a z;obtain ⟨xs,w,_⟩:=r1.isl p h;rw [w] at hp;cases hp
    · cases e) fun c x q H' g'=>q H' g')
theorem Xcn {t:TA}(ha:AOk K C E Γ Δ m S t f):EOk K C E Γ Δ 1 S (Xoh t) (Dl.fA Dl.Yz f):=
  fun H0 Hb H σ ρ A Q I p=>ha H0 Hb H σ ρ A _ I (p.bind.imp (fun ds q vs H1 g1 r1=>by
    obtain ⟨d,e,q⟩:=Zei q;unfold Dl.Yz at e;split at e;rename_i hz;cases e;obtain ⟨B,r1,r1',n1⟩:=r1;refine ⟨by rw [r1.len];exact Zbp hz,fun p hp=>?_⟩;have g2:=sameNew hp (.lst vs);refine q _ _ (g1.trans g2) ⟨p::B,⟨p,vs,B,rfl,Xd,r1.same g2,rfl⟩,fun a ha=>?_,fun _ a r e=>?_,(fun z=>nomatch z)⟩;rcases Al.mp ha with z | z;rw [z];exact .inl (g1.free hp);exact r1' a z;cases e;refine ⟨g1.free hp,fun h=>?_⟩;obtain ⟨xs,w,_⟩:=r1.isl p h;rw [w] at hp;cases hp
    · cases e) fun c x q H' g'=>q H' g')
theorem Xaf (hm:m=0\/m=2){t:TA}(ha:AOk K C E Γ Δ m S t f):EOk K C E Γ Δ m S (Xpo t) (Dl.fA Dl.Zew f):=
  fun H0 Hb H σ ρ A Q I p=>ha H0 Hb H σ ρ A _ I (p.bind.imp (fun ds q vs H1 g1 r1=>by
    obtain ⟨d,e,q⟩:=Zei q;unfold Dl.Zew at e;split at e;rename_i hz;cases e;obtain ⟨B,r1,r1',n1⟩:=r1;refine ⟨by rw [r1.len];exact Zbp hz,fun p hp=>?_⟩;have g2:=sameNew hp (.tup vs);exact q _ _ (g1.trans g2) ⟨B,⟨p,vs,rfl,Xd,r1.same g2⟩,r1',(fun z=>by omega),n1⟩
    · cases e) fun c x q H' g'=>q H' g')
theorem Xha {g:List D->Option D}{t:TA}(hg:GAk K C r g)(ha:AOk K C E Γ Δ m S t f):EOk K C E Γ Δ 2 [] (tCB r t) (Dl.fA g f):=
  fun H0 Hb H σ ρ A Q I p=>ha H0 Hb H σ ρ A _ I (p.bind.imp (fun ds q vs H1 g1 r1=>by
    obtain ⟨d,e,q⟩:=Zei q;obtain ⟨B,r1,_⟩:=r1;exact hg H1 ds d vs B Q r1 e fun v H' B' g2 r2 h1 h2=>q v H' (g1.trans g2) (Res.new r2 h1 fun a ha=>g1.free (h2 a ha))) fun c x q H' g'=>q H' g')
theorem RpA.one' {A:List Addr}(r:RpA K C H [d] vs A):∃v,vs=[v]/\Rp K C H d v A:=by obtain ⟨x,l,B,B',e1,e2,e3,e4⟩:=r;obtain ⟨e5,e6⟩:=e3;subst e1 e4 e5 e6;rw [Dg];exact ⟨x,rfl,e2⟩
theorem RpA.two' {e:D}{A:List Addr}(r:RpA K C H [d,e] vs A):∃v w B B',vs=[v,w]/\Rp K C H d v B/\Rp K C H e w B':=by obtain ⟨x,l,B,B',e1,e2,e3,e4⟩:=r;obtain ⟨w,e5,e6⟩:=e3.one';subst e1 e5;exact ⟨x,w,B,B',rfl,e2,e6⟩
theorem Yh:GAk K C (Zai K) Dl.Zbh:=by
 intro H xs d vs B Q r e q;obtain ⟨x,rfl⟩:=Zrh (F:=Dl.Zbh) rfl (fun x _ _=>by cases x<;>rfl) e;obtain ⟨v,rfl,r1⟩:=r.one';cases x with
 | lst xs =>cases (show some (D.int xs.length)=some d from e);obtain ⟨a,ys,B,rfl,e2,e3,_⟩:=r1;refine Zxf (SqL.of e2) ?_;rw [e3.len];exact Out.flat q rpI
 | tup xs =>cases (show some (D.int xs.length)=some d from e);obtain ⟨a,ys,rfl,e2,e3⟩:=r1;refine Xnu (SqT.of e2) ?_;rw [e3.len];exact Out.flat q rpI
 | scr xs =>cases (show some (D.int xs.length)=some d from e);obtain ⟨a,rfl,e2,_⟩:=r1;refine Zxf e2.sq ?_;rw [Ah];exact Out.flat q rpI
 | str z =>have e:(if z.length<=Dl.lim then some (D.int z.length) else none)=some d:=e;by_cases hz:z.length<=Dl.lim;rw [if_pos hz] at e;cases e;obtain ⟨rfl,_⟩:=r1;exact Xme (Zbp hz) (Out.flat q rpI);rw [if_neg hz] at e;exact Yq e
 | _=>exact Yq e
theorem Xnm:GAk K C (rSum K) Dl.Xqx:=by
 intro H xs d vs B Q r e q;obtain ⟨x,rfl⟩:=Zrh (F:=Dl.Xqx) rfl (fun x _ _=>by cases x<;>rfl) e;obtain ⟨v,rfl,r1⟩:=r.one';cases x with
 | lst xs =>obtain ⟨ns,h1,h2⟩:=AX.mp e;cases h2;obtain ⟨a,ys,B,rfl,e2,e3,_⟩:=r1;have h:=e3.ofInts h1;subst h;exact Xrz (SqL.of e2) (Out.flat q rpI)
 | _=>exact Yq e
def Xbu:List V->Hp->VK->Prop:=fun xs H Q=>∃i j,xs=[.int i,.int j]/\Q (.int (if j<i then j else i)) H
theorem Zlx (hc:X.calm=true):Jx X (.builtin "min") Xbu:=Xap hc
theorem Zya:GAk K C Xbu Dl.Xoj:=by intro H xs d vs B Q r e q;unfold Dl.Xoj at e;split at e;cases e;obtain ⟨v,w,B,B',rfl,r1,r2⟩:=r.two';obtain ⟨rfl,_⟩:=r1;obtain ⟨rfl,_⟩:=r2;exact ⟨_,_,rfl,Out.flat q rpI⟩;cases e
theorem Xns:GAk K C (Xea K) Dl.gAny:=by
 intro H xs d vs B Q r e q;obtain ⟨x,rfl⟩:=Zrh (F:=Dl.gAny) rfl (fun x _ _=>by cases x<;>rfl) e;obtain ⟨v,rfl,r1⟩:=r.one';cases x with
 | lst xs =>obtain ⟨ns,h1,h2⟩:=AX.mp e;cases h2;obtain ⟨a,ys,B,rfl,e2,e3,_⟩:=r1;have h:=e3.ofBools h1;subst h;exact Xkd (SqL.of e2) (Out.flat q rpB)
 | _=>exact Yq e
theorem RpA.rng {lo:Int}:RpA K C H (Dl.Zgb lo n) (Zoi lo n) []:=by
 unfold Dl.Zgb Zoi;generalize A5 n=l
 induction l with
 | nil=>exact RpA.nil
 | cons k l ih=>exact ⟨_,_,[],[],rfl,rpI,ih,rfl⟩
theorem Zjp:GAk K C (Zqf K) Dl.Zij:=by
 intro H xs d vs B Q r e q;obtain ⟨x,rfl⟩:=Zrh (F:=Dl.Zij) rfl (fun x _ _=>by cases x<;>rfl) e;obtain ⟨v,rfl,r1⟩:=r.one';cases x with
 | lst xs =>have e:(if Dl.Zu xs then some (D.lst xs) else none)=some d:=e;split at e;rename_i hf;cases e;obtain ⟨a,ys,B,rfl,e2,e3,_⟩:=r1;exact Xdu (SqL.of e2) fun l hl=>Out.lst q (e3.flat' hf) hl;exact Yq e
 | tup xs =>have e:(if Dl.Zu xs then some (D.lst xs) else none)=some d:=e;split at e;rename_i hf;cases e;obtain ⟨a,ys,rfl,e2,e3⟩:=r1;exact .inl ⟨a,ys,rfl,.inr (SqT.of e2),fun l hl=>Out.lst q (e3.flat' hf) hl⟩;exact Yq e
 | rng i j =>have e:(if -1000000000<=i/\i<=1000000000/\-1000000000<=j/\j<=1000000000/\(j - i).toNat<=Dl.lim then some (D.lst (Dl.Zgb i (j - i).toNat)) else none)=some d:=e;split at e;rename_i hf;cases e;obtain ⟨a,rfl,e2,_⟩:=r1;obtain ⟨h1,h2,h3,h4,h5⟩:=hf;exact Xcj e2 (by omega) (by omega) (by omega) (by omega) h5 fun l hl=>Out.lst q RpA.rng hl;exact Yq e
 | _=>exact Yq e
theorem Xfm:OOk K C E Γ Δ Zkv Dl.Zgx:=fun _ _ H _ _ _ _ _ p=>p H (Xf.refl _)
theorem Xco {t:TE}{f:FE}(h:EOk K C E Γ Δ m S t f):OOk K C E Γ Δ (Xeh t) (Dl.Zel f):=fun H0 Hb H σ ρ A Q I p=>h H0 Hb H σ ρ A _ I (p.bind.imp (fun d q v H' g r=>by
  obtain ⟨B,r,_⟩:=r;cases d with
  | int i =>obtain ⟨rfl,_⟩:=r;exact ⟨i,rfl,q H' g⟩
  | _=>exact q.elim) fun c x q H' g'=>q H' g')
theorem Zix (n d:Nat)(o:Option Int):Dl.Zpt n d o=HT.sIx n d o:=by
 cases o with
 | none=>rfl
 | some v =>have h:=HT.clip_eq v n d;show (if v<0 then (max (v+(n:Int)) 0).toNat else min v.toNat n)=_;by_cases hv:v<0;rw [if_pos hv] at h ⊢;omega;rw [if_neg hv] at h ⊢;omega
theorem RpA.cut {ds:List D}{vs:List V}{A:List Addr}(h:Dl.Zu ds=true)(r:RpA K C H ds vs A)(lo hi:Option Int):RpA K C H (Dl.cut ds lo hi) (Zzz vs lo hi) []:=by unfold Dl.cut Zzz;rw [Zix,Zix,r.len];exact (r.flatDrop h _).flatTake (Zsz h _) _
theorem Xdw (ns:List Int)(lo hi:Option Int):Zzz (ns.map V.int) lo hi=(Dl.cut ns lo hi).map V.int:=by unfold Dl.cut Zzz;rw [Zix,Zix,Ah,Ga,GV]
theorem Xro (ha:EOk K C E Γ Δ m S ta fa)(hl:OOk K C E Γ Δ tl fl)(hh:OOk K C E Γ Δ th fh):EOk K C E Γ Δ 2 [] (tSl (rSlL K) ta tl th) (Dl.fSl Dl.gSl fa fl fh):=
  fun H0 Hb H σ ρ A Q I p=>ha H0 Hb H σ ρ A _ I (p.bind.imp (fun x q vx H1 g1 r1=>hl H0 Hb H1 σ ρ A _ (I.mono g1) (q.bind.imp (fun lo q H2 g2=>hh H0 Hb H2 σ ρ A _ (I.mono (g1.trans g2)) (q.bind.imp (fun hi q H3 g3=>by
    obtain ⟨d,e,q⟩:=Zei q;obtain ⟨B,r1,_⟩:=r1;have r1:=r1.same (g2.trans g3);have g13:=g1.trans (g2.trans g3);have out:Out K C H3 d Q:=fun v H' B g4 r h1 h2=>q v H' (g13.trans g4) (Res.new r h1 fun a ha=>g13.free (h2 a ha));unfold Dl.gSl at e;split at e;split at e;rename_i hf;cases e;obtain ⟨a,ys,B,rfl,e2,e3,_⟩:=r1;exact Xhm (SqL.of e2) fun p hp=>Out.lst out (e3.cut hf _ _) hp;cases e;cases e;obtain ⟨a,rfl,e2,_⟩:=r1;refine Xhm e2.sq fun p hp=>?_;rw [Xdw];exact Out.lst out RpA.ints hp
    · cases e) fun c x q H' g'=>q H' ((g1.trans g2).trans g'))) fun c x q H' g'=>q H' (g1.trans g'))) fun c x q H' g'=>q H' g')
theorem Xhz {t:TE}{f:FE}(h:EOk K C E Γ Δ m S t f):∀(H0 Hb H:Hp) (σ:St) (ρ:Xp) (A:Nat->List Addr) (Q:Bool->Hp->Prop),Zq K C H0 Hb H Γ Δ σ ρ A->
    Xa (Dl.cE f ρ) (fun b=>∀H',Xf H H'->Q b H') (fun c x=>∀H',Xf H H'->EC C E c x H')->t σ H fun x H'=>∃k,x=.bl k/\Q k H':=fun H0 Hb H σ ρ A Q I p=>h H0 Hb H σ ρ A _ I (p.bind.imp (fun d q v H' g r=>by
  obtain ⟨B,r,_⟩:=r;cases d with
  | bl b =>obtain ⟨rfl,_⟩:=r;exact ⟨b,rfl,q H' g⟩
  | _=>exact q.elim) fun c x q H' g'=>q H' g')
theorem Xgi {t:TE}{f:FE}(h:EOk K C E Γ Δ m S t f):TOk K C E Γ Δ (Xdr t) (Dl.cE f):=Xhz h
theorem tok_B {t:TE}{f:FE}(h:EOk K C E Γ Δ m S t f):TOk K C E Γ Δ (tB t) (Dl.cE f):=Xhz h
theorem Xjm {t u:TT}{f g:FT}(h:TOk K C E Γ Δ t f)(h':TOk K C E Γ Δ u g):TOk K C E Γ Δ (tAnd t u) (Dl.Xht f g):=fun H0 Hb H σ ρ A Q I p=>h H0 Hb H σ ρ A _ I (p.bind.imp (fun b q H' g'=>by
  cases b with
  | true=>exact h' H0 Hb H' σ ρ A Q (I.mono g') (Xa.imp q (fun b q H2 g2=>q H2 (g'.trans g2)) fun c x q H2 g2=>q H2 (g'.trans g2))
  | false=>exact q H' g') fun c x q H' g'=>q H' g')
theorem Xue {t u:TT}{f g:FT}(h:TOk K C E Γ Δ t f)(h':TOk K C E Γ Δ u g):TOk K C E Γ Δ (tOr t u) (Dl.cOr f g):=fun H0 Hb H σ ρ A Q I p=>h H0 Hb H σ ρ A _ I (p.bind.imp (fun b q H' g'=>by
  cases b with
  | false=>exact h' H0 Hb H' σ ρ A Q (I.mono g') (Xa.imp q (fun b q H2 g2=>q H2 (g'.trans g2)) fun c x q H2 g2=>q H2 (g'.trans g2))
  | true=>exact q H' g') fun c x q H' g'=>q H' g')
theorem Xlb:TOk K C E Γ Δ tYes Dl.Ziy:=fun _ _ H _ _ _ _ _ p=>p H (Xf.refl _)
theorem EOk.run {t:TE}{f:FE}(h:EOk K C E Γ Δ m S t f)(I:Zq K C H0 Hb H Γ Δ σ ρ A)(g:Xf H H1)
  (p:Xa (f ρ) (fun d=>∀v H',Xf H H'->Res K C m S H A d v H'->Q v H') (fun c x=>∀H',Xf H H'->EC C E c x H')):t σ H1 Q:=
 h H0 Hb H1 σ ρ A Q (I.mono g) (p.imp (fun d q v H2 g2 r=>q v H2 (g.trans g2) (r.later g (Xf.refl _))) fun c x q H2 g2=>q H2 (g.trans g2))
theorem Xuq {fc:FT}(hc:TOk K C E Γ Δ tc fc)(ha:EOk K C E Γ Δ m S ta fa)(hb:EOk K C E Γ Δ m S tb fb):EOk K C E Γ Δ m S (tIf tc ta tb) (Dl.fIf fc fa fb):=
  fun H0 Hb H σ ρ A Q I p=>hc H0 Hb H σ ρ A _ I (p.bind.imp (fun b q H' g=>by
    cases b with
    | true=>exact ha.run I g q
    | false=>exact hb.run I g q) fun c x q H' g'=>q H' g')
def spD (K:AO)(C:String->Addr)(n mr:Nat)(F:List D->R D):Sp:=fun vs H Q E=>∃ds B,ds.length=n/\RpA K C H ds vs B/\
 Xa (F ds) (fun d=>∀v H',Xf H H'->Res K C mr [] H (fun _=>[]) d v H'->Q v H') (fun c x=>∀H',Xf H H'->EC C E c x H')
theorem InS.none (h:InS A [] a):False:=by obtain ⟨p,hp,_⟩:=h;cases hp
theorem Res.reA {A':Nat->List Addr}(r:Res K C m [] H A d v H'):Res K C m S H A' d v H':=by obtain ⟨B,r1,r2,r3,r4⟩:=r;exact ⟨B,r1,fun a ha=>(r2 a ha).imp id fun h=>h.none.elim,r3,r4⟩
theorem Xcv {t:TA}(ha:AOk K C E Γ Δ m S t f)(hn:∀ρ ds,f ρ=.ok ds->ds.length=n):EOk K C E Γ Δ mr [] (Zim (spD K C n mr F) [] E t) (Dl.Yf F f):=
  fun H0 Hb H σ ρ A Q I p=>Zpp (ha H0 Hb H σ ρ A _ I (by
    have p':=p.bind;cases e:f ρ with
    | bad=>rw [e] at p';exact p'
    | err c x=>rw [e] at p';exact p'
    | ok ds =>
      rw [e] at p';intro vs H1 g1 r1;obtain ⟨B,r1,_⟩:=r1;exact ⟨ds,B,hn ρ ds e,r1,Xa.imp p' (fun d q v H' g2 r=>q v H' (g1.trans g2) ((r.later g1 (Xf.refl _)).reA)) fun c x q H' g'=>q H' (g1.trans g')⟩))
theorem Xnb (ρ:Xp)(ds:List D)(h:Dl.Zy ρ=.ok ds):ds.length=0:=by cases h;rfl
theorem Zjl (hf:∀ρ ds,f ρ=.ok ds->ds.length=n)(ρ:Xp)(ds:List D)(h:Dl.Ze fe f ρ=.ok ds):ds.length=n+1:=by
 unfold Dl.Ze at h;cases e:fe ρ with
 | ok x =>
  rw [e] at h;cases e':f ρ with
  | ok xs =>rw [e'] at h;cases h;rw [Bt,hf ρ xs e']
  | err c x=>rw [e'] at h;cases h
  | bad=>rw [e'] at h;cases h
 | err c x=>rw [e] at h;cases h
 | bad=>rw [e] at h;cases h
def Goes (K:AO)(C:String->Addr)(J:It)(ds:List D)(Hb:Hp):Prop:=∀H2,Xf Hb H2->(∀i,i<ds.length->J.go i H2)/\(∀i,ds.length<=i->J.stop i H2)/\
 ∀i x H3,i<ds.length->J.yld i H2 x H3->Xf H2 H3/\∃d B,ds[i]?=some d/\Rp K C H3 d x B/\∀a∈B,Hb a≠none
def IOk (K:AO)(C:String->Addr)(E:XK)(Γ Δ:List Nat)(S:List (Nat×Bool))(wi:TI)(f:FI):Prop:=∀(H0 Hb H:Hp) (σ:St) (ρ:Xp) (A:Nat->List Addr) (Rr:It->Hp->Prop),Zq K C H0 Hb H Γ Δ σ ρ A->
  Xa (f ρ) (fun ds=>∀J H' W,Xf H H'->(∀a∈W,(∃o,H' a=some o/\IsM o)/\(H a=none\/InS A S a))->ds.length<=Dl.lim->
    (∀Hc,Agree W H' Hc->Goes K C J ds Hc)->Rr J H') (fun c x=>∀H',Xf H H'->EC C E c x H')->wi σ H Rr
theorem Zzg (r:RpA K C Hc ds vs B)(h:∀H2,Xf Hc H2->(∀i,i<vs.length->J.go i H2)/\(∀i,vs.length<=i->J.stop i H2)/\∀i x H3,J.yld i H2 x H3->H3=H2/\(i<vs.length->vs[i]?=some x)):Goes K C J ds Hc:=fun H2 g=>by obtain ⟨h1,h2,h3⟩:=h H2 g;have hl:=r.len;refine ⟨fun i hi=>h1 i (by omega),fun i hi=>h2 i (by omega),fun i x H3 hi y=>?_⟩;obtain ⟨e,y2⟩:=h3 i x H3 y;subst e;obtain ⟨d,Bd,q1,q2,q3⟩:=r.get' (y2 (by omega));refine ⟨Xf.refl _,d,Bd,q1,q2.same g,fun a ha z=>?_⟩;obtain ⟨xs,e,_⟩:=q2.isl a ha;rw [e] at z;cases z
theorem Zlv (r:RpA K C Hc ds vs B)(h:∀H2,Xf Hc H2->SqL K H2 a vs):Goes K C (Itl K a) ds Hc:=Zzg r fun H2 g=>by have q:=h H2 g;exact ⟨fun i hi=>⟨vs,vs[i],q,by simp [hi]⟩,fun i hi=>⟨vs,q,hi⟩,fun i x H3 y=>⟨y.1,fun _=>y.2 vs q⟩⟩
theorem Zru {lo:Int}:Goes K C (Itr lo n) (Dl.Zgb lo n) Hc:=Zzg (vs:=Zoi lo n) RpA.rng fun H2 _=>by
 have hl:(Zoi lo n).length=n:=by simp [Zoi]
 refine ⟨fun i hi=>by rw [hl] at hi;exact hi,fun i hi=>by rw [hl] at hi;exact hi,fun i x H3 y=>⟨y.1,fun hi=>?_⟩⟩;rw [hl] at hi;rw [y.2];simp [Zoi,hi]
theorem FzL.keep (h:FzL K H a xs)(hk:∀b o,H b=some o->¬IsM o->Hb b=some o):FzL K Hb a xs:=by rcases h with ⟨o,h⟩ | h;exact .inl ⟨o,hk a _ h (fun z=>by cases z)⟩;exact .inr h
theorem FzL.same (h:FzL K H a xs)(g:Xf H Hb):FzL K Hb a xs:=h.keep fun b o q _=>g b o q
theorem Xfn {t:TE}{f:FE}(h:EOk K C E Γ Δ m S t f):IOk K C E Γ Δ S (Xfp K t) (Dl.Zff f):=fun H0 Hb H σ ρ A Rr I p=>h H0 Hb H σ ρ A _ I (p.bind.imp (fun d q v H' g r=>by
  obtain ⟨B,r,r',_⟩:=r;cases d with
  | lst ds =>obtain ⟨a,xs,B',rfl,e2,e3,e4⟩:=r;subst e4;simp only at q;split at q;rename_i hl;refine ⟨a,rfl,⟨xs,SqL.of e2⟩,q _ H' (a::B') g (fun b hb=>?_) hl fun Hc h1=>Zlv (e3.agree h1 fun b hb=>.tail _ hb) fun H2 g2=>SqL.of (g2 _ _ ((h1.1 a (.head _)).trans e2))⟩;rcases Al.mp hb with z | z;rw [z];exact ⟨⟨_,e2,.lst⟩,r' a (.head _)⟩;exact ⟨e3.isl b z,r' b (.tail _ z)⟩;exact q.elim
  | scr ns =>obtain ⟨a,rfl,e2,_⟩:=r;simp only at q;split at q;rename_i hl;exact ⟨a,rfl,⟨_,e2.sq⟩,q _ H' [] g (fun b hb=>nomatch hb) (by rw [Ah];exact hl) fun Hc h2=>Zlv RpA.ints fun H2 g2=>((e2.keep h2.2).same g2).sq⟩;exact q.elim
  | _=>exact q.elim) fun c x q H' g'=>q H' g')
theorem Zrc (lo:Int)(n:Nat):(Dl.Zgb lo n).length=n:=by simp [Dl.Zgb]
theorem Xfd {t:TA}(h:AOk K C E Γ Δ m S t f):IOk K C E Γ Δ [] (Xfi t) (Dl.Zfy f):=fun H0 Hb H σ ρ A Rr I p=>h H0 Hb H σ ρ A _ I (p.bind.imp (fun ds q vs H' g r=>by
  obtain ⟨B,r,_⟩:=r;split at q;split at q;rename_i hl;obtain ⟨v,rfl,r1⟩:=r.one';obtain ⟨rfl,_⟩:=r1;exact ⟨_,rfl,by omega,by omega,q _ H' [] g (fun b hb=>nomatch hb) (by rw [Zrc];show _<=1000000;omega) fun Hc _=>Zru⟩;exact q.elim
  · exact q.elim) fun c x q H' g'=>q H' g')
theorem Xed {t:TA}(h:AOk K C E Γ Δ m S t f):IOk K C E Γ Δ [] (Xem t) (Dl.Zte f):=fun H0 Hb H σ ρ A Rr I p=>h H0 Hb H σ ρ A _ I (p.bind.imp (fun ds q vs H' g r=>by
  obtain ⟨B,r,_⟩:=r;split at q;split at q;rename_i hl;obtain ⟨v,w,B,B',rfl,r1,r2⟩:=r.two';obtain ⟨rfl,_⟩:=r1;obtain ⟨rfl,_⟩:=r2;obtain ⟨h1,h2,h3,h4,h5⟩:=hl;exact ⟨_,_,rfl,⟨by omega,by omega,by omega,by omega⟩,q _ H' [] g (fun b hb=>nomatch hb) (by rw [Zrc];exact h5) fun Hc _=>Zru⟩;exact q.elim
  · exact q.elim) fun c x q H' g'=>q H' g')
theorem Xcr {g:TG}(go:Goes K C J ds Hc)(Pv:Nat->Hp->Prop)(h0:Pv 0 (upd H Dd (.lst [])))(hb:∀i H,Pv i H->Xf Hc H)
    (hs:∀i d x B H H3,ds[i]?=some d->Pv i H->Xf H H3->Rp K C H3 d x B->(∀a∈B,Hc a≠none)->∀os:St,os.length=k->g x (σ++os) H3 fun σ' Hg=>(∃os',os'.length=k/\σ'=σ++os')/\tc σ' Hg fun b H2=>if b=true then te σ' H2 fun v H3=>∃ys,H3 Dd=some (.lst ys)/\ys.length<Ap/\Pv (i+1) (upd H3 Dd (.lst (ys++[v]))) else Pv (i+1) H2)
    (hd:∀H,Pv ds.length H->Rr H) :
    ∃W:Nat->Nat->Hp->Prop,(∃m,W 0 m (upd H Dd (.lst [])))/\∀i m H,W i m H->
      (J.stop i H/\Rr H)\/(J.go i H/\∃N:Hp->Prop,(∀H',N H'->∃m',m'<m/\W (i+1) m' H')/\∀x H',J.yld i H x H'->∀os:St,os.length=k->g x (σ++os) H' fun σ' Hg=>(∃os',os'.length=k/\σ'=σ++os')/\tc σ' Hg fun b H2 =>
        if b=true then te σ' H2 fun v H3=>∃ys,H3 Dd=some (.lst ys)/\ys.length<Ap/\N (upd H3 Dd (.lst (ys++[v])))
        else N H2):=by
  refine ⟨fun i m H=>m=ds.length - i/\i<=ds.length/\Pv i H,⟨ds.length,by simp,D4 _,h0⟩,?_⟩;rintro i m H1 ⟨rfl,hi,p⟩;obtain ⟨g1,g2,g3⟩:=go H1 (hb i H1 p);by_cases hlt:i<ds.length;refine .inr ⟨g1 i hlt,Pv (i+1),fun H' p'=>⟨ds.length - (i+1),by omega,rfl,hlt,p'⟩,fun x H' y=>?_⟩;obtain ⟨e,d,B,y1,y2,y3⟩:=g3 i x H' hlt y;exact hs i d x B H1 H' y1 p e y2 y3;have e:i=ds.length:=by omega
  subst e;exact .inl ⟨g2 _ (As _),hd H1 p⟩
theorem Zob {g:TG}{tb:TS}{Dd:Ends}(go:Goes K C J ds Hc)(Pv:Nat->St->Hp->Prop)(h0:Pv 0 σ H)(hb:∀i σ H,Pv i σ H->Xf Hc H)
  (hs:∀i d x B σ H H3,ds[i]?=some d->Pv i σ H->Xf H H3->Rp K C H3 d x B->(∀a∈B,Hc a≠none)->g x σ H3 fun σ2 H2=>tb {Dd with nx:=Pv (i+1),ct:=Pv (i+1),bk:=Dd.nx} σ2 H2) (hd:∀σ H,Pv ds.length σ H->Dd.nx σ H) :
  ∃W:Nat->Nat->St->Hp->Prop,(∃m,W 0 m σ H)/\∀i m σ H,W i m σ H->
   (J.stop i H/\Dd.nx σ H)\/(J.go i H/\∃N:St->Hp->Prop,(∀σ' H',N σ' H'->∃m',m'<m/\W (i+1) m' σ' H')/\∀x H',J.yld i H x H'->g x σ H' fun σ2 H2=>tb {Dd with nx:=N,ct:=N,bk:=Dd.nx} σ2 H2):=by
 refine ⟨fun i m σ H=>m=ds.length - i/\i<=ds.length/\Pv i σ H,⟨ds.length,by simp,D4 _,h0⟩,?_⟩;rintro i m σ H1 ⟨rfl,hi,p⟩;obtain ⟨g1,g2,g3⟩:=go H1 (hb i σ H1 p);by_cases hlt:i<ds.length;refine .inr ⟨g1 i hlt,Pv (i+1),fun σ' H' p'=>⟨ds.length - (i+1),by omega,rfl,hlt,p'⟩,fun x H' y=>?_⟩;obtain ⟨e,d,B,y1,y2,y3⟩:=g3 i x H' hlt y;exact hs i d x B σ H1 H' y1 p e y2 y3;have e:i=ds.length:=by omega
 subst e;exact .inl ⟨g2 _ (As _),hd σ H1 p⟩
theorem Zq.more (I:Zq K C H0 Hb H Γ Δ σ ρ A)(os:St):Zq K C H H H [] [] (σ++os) (ρ++Ab os.length none) A:=by refine ⟨Xf.refl _,Xf.refl _,by rw [Ak,Ak,I.len,BS],fun i e h=>?_,fun i h=>?_,(fun _ h=>nomatch h),(fun _ h=>nomatch h),(fun _ h=>nomatch h)⟩;by_cases hi:i<ρ.length;rw [AD hi] at h;obtain ⟨w,q1,q2⟩:=I.rep i e h;refine ⟨w,?_,q2⟩;rw [AD (by rw [I.len];exact hi)];exact q1;rw [Bj (by omega)] at h;have hm:=AW h;rw [DN] at hm;exact absurd hm.2 (by intro z;cases z);refine I.nil i fun e h'=>h e ?_;rw [AD (Ai.mp h').1];exact h'
def NOk (K:AO)(C:String->Addr)(n k:Nat)(g:TG)(b:FB):Prop:=∀(H:Hp) (σ os:St) (ρ:Xp) (A:Nat->List Addr) (d:D) (v:V) (B:List Addr) (Rr:St->Hp->Prop),σ.length=n->os.length=k->Zq K C H H H [] [] (σ++os) ρ A->Rp K C H d v B->
 Xa (b d ρ) (fun ρ'=>∀os' A',os'.length=k->Zq K C H H H [] [] (σ++os') ρ' A'->Rr (σ++os') H) (fun _ _=>False)->g v (σ++os) H Rr
def Xpy (K:AO)(C:String->Addr)(n k:Nat)(g:TGs)(b:List D->Xp->R Xp):Prop:=∀(H:Hp) (σ os:St) (ρ:Xp) (A:Nat->List Addr) (d:List D) (v:List V) (B:List Addr) (Rr:St->Hp->Prop),σ.length=n->os.length=k->Zq K C H H H [] [] (σ++os) ρ A->RpA K C H d v B->
 Xa (b d ρ) (fun ρ'=>∀os' A',os'.length=k->Zq K C H H H [] [] (σ++os') ρ' A'->Rr (σ++os') H) (fun _ _=>False)->g v (σ++os) H Rr
theorem Ztp (k:Nat)(b:FB)(c:FT)(e:FE)(ρ:Xp)(xs:List D){x:D}(h:xs[i]?=some x):Dl.Zbk k b c e ρ (xs.drop i)=(b x (ρ++Ab k none)).calm.bind fun ρ1=>(c ρ1).bind fun t=>if t then (e ρ1).bind fun y=>(Dl.Zbk k b c e ρ (xs.drop (i+1))).bind fun ys=>.ok (y::ys) else Dl.Zbk k b c e ρ (xs.drop (i+1)):=by obtain ⟨hi,rfl⟩:=Ai.mp h;rw [D3 hi];rfl
theorem Zby {r:R α}{ok:α->Prop}(h:Xa r.calm ok er):Xa r ok (fun _ _=>False):=by
 cases r with
 | ok a=>exact h
 | err c x=>exact h
 | bad=>exact h
theorem get_set {l:List α}{x y:α}(h:(l.set i x)[j]?=some y):(j=i/\i<l.length/\y=x)\/(j≠i/\l[j]?=some y):=by by_cases e:i=j;subst e;rw [List.getElem?_set_self'] at h;by_cases hi:i<l.length;rw [Ag hi] at h;simp at h;exact .inl ⟨rfl,hi,h.symm⟩;rw [G9 (by omega)] at h;cases h;rw [BE e] at h;exact .inr ⟨fun z=>e z.symm,h⟩
theorem Zq.put (I:Zq K C H0 Hb H Γ Δ σ ρ A)(r:Rp K C H d v B)
  (h1:∀j∈Γ',j≠i->j∈Γ/\∀a l,A j=a::l->a∉B)
  (h2:i∈Γ'->(∀a∈B,H0 a=none)/\∀a l,B=a::l->Hb a=none/\a∉l/\∀j,j≠i->a∉A j)
  (h3:∀j∈Δ',j≠i->j∈Δ/\∀a∈A j,a∉B)
  (h4:i∈Δ'->B.Nodup/\(∀j,j≠i->∀a∈B,a∉A j)/\∀a∈B,Hb a=none):∃A',Zq K C H0 Hb H Γ' Δ' (σ.set i (some v)) (ρ.set i (some d)) A'/\∀j a,a∈A' j->a∈B\/a∈A j:=by
 by_cases hi:i<ρ.length;refine ⟨fun j=>if j=i then B else A j,⟨I.s0,I.same,by rw [DA,DA,I.len],fun j e h=>?_,fun j h=>?_,fun j hj a ha=>?_,fun j hj a l e=>?_,fun j hj=>?_⟩,fun j a ha=>?_⟩;rcases get_set h with ⟨e1,_,e2⟩ | ⟨e1,e2⟩;subst e1;cases e2;refine ⟨v,?_,by rw [if_pos rfl];exact r⟩;rw [Ci (by rw [I.len];exact hi)];obtain ⟨w,q1,q2⟩:=I.rep j e e2;refine ⟨w,?_,by rw [if_neg e1];exact q2⟩;rw [BE (fun z=>e1 z.symm)];exact q1;by_cases e:j=i;subst e;exact absurd (Ci hi) (h d);rw [if_neg e];refine I.nil j fun x hx=>h x ?_;rw [BE (fun z=>e z.symm)];exact hx;by_cases e:j=i;subst e;rw [if_pos rfl] at ha;exact (h2 hj).1 a ha;rw [if_neg e] at ha;exact I.loc j (h1 j hj e).1 a ha;by_cases e':j=i;subst e';rw [if_pos rfl] at e;obtain ⟨q0,q1,q2⟩:=(h2 hj).2 a l e;refine ⟨q0,q1,fun k hk=>?_⟩;rw [if_neg hk];exact q2 k hk;rw [if_neg e'] at e;obtain ⟨q0,q⟩:=h1 j hj e';obtain ⟨q3,q1,q2⟩:=I.top j q0 a l e;refine ⟨q3,q1,fun k hk=>?_⟩;by_cases ek:k=i;rw [if_pos ek];exact q a l e;rw [if_neg ek];exact q2 k hk;by_cases e:j=i;subst e;rw [if_pos rfl];obtain ⟨q1,q2,q3⟩:=h4 hj;refine ⟨q1,fun k hk a ha=>?_,q3⟩;rw [if_neg hk];exact q2 k hk a ha;rw [if_neg e];obtain ⟨q0,q⟩:=h3 j hj e;obtain ⟨q1,q2,q3⟩:=I.deep j q0;refine ⟨q1,fun k hk a ha=>?_,q3⟩;by_cases ek:k=i;rw [if_pos ek];exact q a ha;rw [if_neg ek];exact q2 k hk a ha;have ha:a∈(if j=i then B else A j):=ha;by_cases e:j=i;rw [if_pos e] at ha;exact .inl ha;rw [if_neg e] at ha;exact .inr ha;have e1:ρ.set i (some d)=ρ:=GA (by omega);have e2:σ.set i (some v)=σ:=GA (by rw [I.len];omega);have e3:A i=[]:=I.nil i fun x h=>by have:=(Ai.mp h).1;omega
 refine ⟨A,?_,fun j a ha=>.inr ha⟩;rw [e1,e2];refine ⟨I.s0,I.same,I.len,I.rep,I.nil,fun j hj a ha=>?_,fun j hj a l e=>?_,fun j hj=>?_⟩;by_cases e:j=i;subst e;rw [e3] at ha;cases ha;exact I.loc j (h1 j hj e).1 a ha;by_cases e':j=i;subst e';rw [e3] at e;cases e;exact I.top j (h1 j hj e').1 a l e;by_cases e:j=i;subst e;rw [e3];exact ⟨A6,fun _ _ _ h=>(nomatch h),fun _ h=>(nomatch h)⟩;exact I.deep j (h3 j hj e).1
theorem Zq.writeA {es:List D}(I:Zq K C H0 Hb H Γ Δ σ ρ A)(hi:i∈Γ)(hA:A i=a::l)(hl:i<ρ.length)(hs:σ[i]?=some (some (.ref a)))
  (mk:∀H',H' a=some o'->RpA K C H' es ys B'->Rp K C H' d' (.ref a) (a::B')) (r:RpA K C H es ys B') (hn:∀b∈B',H0 b=none) (ha:a∉B')
  (h1:∀j∈Γ',j≠i->j∈Γ/\∀b l,A j=b::l->b∉B')
  (h2:∀j∈Δ',j≠i->j∈Δ/\∀b∈A j,b∉B')
  (h3:i∈Δ'->B'.Nodup/\(∀j,j≠i->∀b∈B',b∉A j)/\∀b∈B',Hb b=none):∃A',Zq K C H0 Hb (upd H a o') Γ' Δ' σ (ρ.set i (some d')) A'/\∀j b,b∈A' j->b∈a::B'\/b∈A j:=by
 obtain ⟨xs,hxs,hm⟩:=I.is (j:=i) (a:=a) (by rw [hA];exact .head _);have hne:∀j,j≠i->a∉A j:=(I.top i hi a l hA).2.2;have hb0:Hb a=none:=(I.top i hi a l hA).1;have h0:H0 a=none:=I.loc i hi a (by rw [hA];exact .head _);have ext:Ext (fun b=>b=a) H (upd H a o'):=fun b o h=>by by_cases e:b=a;subst e;rw [hxs] at h;cases h;exact .inr ⟨rfl,hm⟩;rw [Xc e];exact .inl h
 refine ⟨fun j=>if j=i then a::B' else A j,⟨I.s0,fun b o h=>?_,by rw [DA,I.len],fun j e h=>?_,fun j h=>?_,fun j hj b hb=>?_,fun j hj b l' e=>?_,fun j hj=>?_⟩,fun j b hb=>?_⟩;rw [Xc (Xm h hb0)];exact I.same b o h;rcases get_set h with ⟨e1,_,e2⟩ | ⟨e1,e2⟩;subst e1;cases e2;refine ⟨.ref a,hs,?_⟩;rw [if_pos rfl];exact mk _ Xd (r.ext ext (fun b hb h=>ha (by rw [h] at hb;exact hb)));obtain ⟨w,q1,q2⟩:=I.rep j e e2;refine ⟨w,q1,?_⟩;rw [if_neg e1];exact q2.ext ext fun b hb h=>hne j e1 (by rw [h] at hb;exact hb);by_cases e:j=i;subst e;exact absurd (Ci hl) (h _);rw [if_neg e];refine I.nil j fun x hx=>h x ?_;rw [BE (fun z=>e z.symm)];exact hx;by_cases e:j=i;subst e;rw [if_pos rfl] at hb;rcases Al.mp hb with z | z;rw [z];exact h0;exact hn b z;rw [if_neg e] at hb;exact I.loc j (h1 j hj e).1 b hb;by_cases e':j=i;subst e';rw [if_pos rfl] at e;cases e;refine ⟨hb0,ha,fun k hk=>?_⟩;rw [if_neg hk];exact hne k hk;rw [if_neg e'] at e;obtain ⟨q0,q⟩:=h1 j hj e';obtain ⟨q3,q1,q2⟩:=I.top j q0 b l' e;refine ⟨q3,q1,fun k hk=>?_⟩;by_cases ek:k=i;rw [if_pos ek];intro z;rcases Al.mp z with z | z;exact hne j e' (by rw [e,z];exact .head _);exact q b l' e z;rw [if_neg ek];exact q2 k hk;by_cases e:j=i;subst e;rw [if_pos rfl];obtain ⟨q1,q2,q3⟩:=h3 hj;refine ⟨Ay.mpr ⟨ha,q1⟩,fun k hk b hb=>?_,fun b hb=>?_⟩;rw [if_neg hk];rcases Al.mp hb with z | z;rw [z];exact hne k hk;exact q2 k hk b z;rcases Al.mp hb with z | z;rw [z];exact hb0;exact q3 b z;rw [if_neg e];obtain ⟨q0,q⟩:=h2 j hj e;obtain ⟨q1,q2,q3⟩:=I.deep j q0;refine ⟨q1,fun k hk b hb=>?_,q3⟩;by_cases ek:k=i;rw [if_pos ek];intro z;rcases Al.mp z with z | z;exact hne j e (by rw [<- z];exact hb);exact q b hb z;rw [if_neg ek];exact q2 k hk b hb;by_cases e:j=i;simp only [if_pos e] at hb;exact .inl hb;simp only [if_neg e] at hb;exact .inr hb
theorem Zq.writeO {es:List D}(I:Zq K C H0 Hb H Γ Δ σ ρ A)(hi:i∈Γ)(hA:A i=a::l)(hl:i<ρ.length)(hs:σ[i]?=some (some (.ref a)))
  (mk:∀H',H' a=some o'->RpA K C H' es ys B'->Rp K C H' d' (.ref a) (a::B')) (r:RpA K C H es ys B') (hn:∀b∈B',H0 b=none) (ha:a∉B')
  (h1:∀j∈Γ',j≠i->j∈Γ/\∀b l,A j=b::l->b∉B')
  (h2:∀j∈Δ',j≠i->j∈Δ/\∀b∈A j,b∉B')
  (h3:i∈Δ'->B'.Nodup/\(∀j,j≠i->∀b∈B',b∉A j)/\∀b∈B',Hb b=none):∃A',Zq K C H0 Hb (upd H a o') Γ' Δ' σ (ρ.set i (some d')) A':=
 let ⟨A',h,_⟩:=I.writeA hi hA hl hs mk r hn ha h1 h2 h3;⟨A',h⟩
theorem Zq.write {es:List D}(I:Zq K C H0 Hb H Γ Δ σ ρ A)(hi:i∈Γ)(hA:A i=a::l)(hl:i<ρ.length)(hs:σ[i]?=some (some (.ref a)))
  (r:RpA K C H es ys B') (hn:∀b∈B',H0 b=none) (ha:a∉B')
  (h1:∀j∈Γ',j≠i->j∈Γ/\∀b l,A j=b::l->b∉B')
  (h2:∀j∈Δ',j≠i->j∈Δ/\∀b∈A j,b∉B')
  (h3:i∈Δ'->B'.Nodup/\(∀j,j≠i->∀b∈B',b∉A j)/\∀b∈B',Hb b=none):∃A',Zq K C H0 Hb (upd H a (.lst ys)) Γ' Δ' σ (ρ.set i (some (.lst es))) A':=I.writeO hi hA hl hs (fun _ q1 q2=>⟨a,_,_,rfl,q1,q2,rfl⟩) r hn ha h1 h2 h3
theorem Xdi (i:Nat)(h1:n<=i)(h2:i<n+k):NOk K C n k (Yw i) (Dl.Zt i):=fun H σ os ρ A d v B Rr hσ hos I r p=>by
 have e:(σ++os).set i (some v)=σ++os.set (i - n) (some v):=by rw [<- hσ,Di _ _ (by omega)]
 obtain ⟨A',I',_⟩:=I.put (Γ':=[]) (Δ':=[]) (i:=i) r (fun _ h=>nomatch h) (fun h=>nomatch h) (fun _ h=>nomatch h) (fun h=>nomatch h);show Rr ((σ++os).set i (some v)) H;rw [e] at I' ⊢;exact p _ A' (by rw [DA];exact hos) I'
theorem Xmh :Xpy K C n k Xbh Dl.Zeo:=fun H σ os ρ A d v B Rr hσ hos I r p=>by
 cases d with
 | nil=>exact ⟨r.1,p _ A hos I⟩
 | cons _ _=>exact p.elim
theorem Xdh {g:TG}{b:FB}{bs:List D->Xp->R Xp}(h1:NOk K C n k g b)(h2:Xpy K C n k gs bs):Xpy K C n k (Zih g gs) (Dl.Xw b bs):=fun H σ os ρ A d v B Rr hσ hos I r p=>by
 cases d with
 | nil=>exact p.elim
 | cons d ds =>obtain ⟨x,l,B1,B2,e1,e2,e3,e4⟩:=r;subst e1 e4;exact ⟨x,l,rfl,h1 H σ os ρ A d x B1 _ hσ hos I e2 (Xa.imp (Xa.bind p) (fun ρ1 q os1 A1 ho1 I1=>h2 H σ os1 ρ1 A1 ds l B2 Rr hσ ho1 I1 e3 q) fun _ _ z=>z)⟩
theorem Xjt {bs:List D->Xp->R Xp}{l:Nat}(hn:∀ds ρ ρ',bs ds ρ=.ok ρ'->ds.length=l)(h:Xpy K C n k gs bs):NOk K C n k (Zew K l gs) (Dl.Zet bs):=fun H σ os ρ A d v B Rr hσ hos I r p=>by
 cases d with
 | tup ds =>
  obtain ⟨a,xs,rfl,e2,e3⟩:=r;have p':Xa (bs ds ρ) (fun ρ'=>∀os' A',os'.length=k->Zq K C H H H [] [] (σ++os') ρ' A'->Rr (σ++os') H) (fun _ _=>False):=p;have hl:xs.length=l:=by
   rw [e3.len];cases e:bs ds ρ with
   | ok ρ'=>exact hn ds ρ ρ' e
   | err _ _=>rw [e] at p';exact p'.elim
   | bad=>rw [e] at p';exact p'.elim
  exact ⟨a,xs,rfl,SqT.of e2,hl,h H σ os ρ A ds xs B Rr hσ hos I e3 p'⟩
 | _=>exact p.elim
theorem Zqw {g:TG}{fb:FB}{fc:FT}(hi:IOk K C E Γ Δ S wi fi)(hg:NOk K C n k g fb)(hc:TOk K C E0 [] [] tc fc)(he:EOk K C E0 [] [] 2 [] te fe):EOk K C E Γ Δ 2 [] (Zee k g wi tc te) (Dl.Zdb n k fi fb fc fe):=fun H0 Hb H σ ρ A Q I p=>by
  unfold Dl.Zdb at p;split at p
  · rename_i hn;refine hi H0 Hb H σ ρ A _ I (p.bind.imp (fun ds q J H1 W g1 hW hlen hJ Dd hD=>?_) fun c x q H' g'=>q H' g');have I1:=I.mono g1;have go:Goes K C J ds H1:=hJ H1 ⟨fun _ _=>rfl,fun b o h _=>h⟩;have q':=Zby q.bind;refine Xcr go (fun i H2=>Xf H1 H2/\∃(us:List D) (ys:List V) (B':List Addr),H2 Dd=some (.lst ys)/\us.length<=i/\RpA K C H2 us ys B'/\B'.Nodup/\Dd∉B'/\(∀a∈B',H1 a=none)/\
      Xa (Dl.Zbk k fb fc fe ρ (ds.drop i)) (fun zs=>∀v H',Xf H H'->Res K C 2 [] H A (.lst (us++zs)) v H'->Q v H') (fun _ _=>False)) ⟨sameNew hD _,[],[],[],Xd,As _,RpA.nil,A6,(fun h=>nomatch h),(fun _ h=>nomatch h),q'⟩ (fun _ _ h=>h.1) ?_ ?_
    · rintro i x v Bx H2a H2 hx ⟨g2a,us,ys,B',hD2,hul,ru,nd,hDB,hnew,pq⟩ g2b rx _ os hos;have g2:=g2a.trans g2b;have hil:=(Ai.mp hx).1;rw [Ztp _ _ _ _ _ _ hx] at pq;have I2:=(I1.mono g2).more os;have pq':=Zby pq.bind;rw [<- hos] at pq';refine hg H2 σ os _ A x v Bx _ (by rw [I.len,hn]) hos I2 rx (pq'.imp (fun ρ1 pq os1 A1 ho1 I3=>⟨⟨os1,ho1,rfl⟩,?_⟩) fun _ _ z=>z);refine hc H2 H2 H2 _ _ _ _ I3 (pq.bind.imp (fun b pq H3 g3=>?_) fun _ _ z=>z.elim);have hD2':=g2b _ _ hD2;have ru':=ru.same g2b;cases b with
      | false =>simp only [A7,if_false] at pq ⊢;rw [hos] at pq;exact ⟨g2.trans g3,us,ys,B',g3 _ _ hD2',by omega,ru'.same g3,nd,hDB,hnew,pq⟩
      | true =>
        simp only [if_true] at pq ⊢;refine he H2 H2 H3 _ _ _ _ (I3.mono g3) (pq.bind.imp (fun y pq w H4 g4 r4=>?_) fun _ _ z=>z.elim);rw [hos] at pq;obtain ⟨By,ry,hy1,_,hy2⟩:=r4;have g24:=g3.trans g4;have hD4:=g24 _ _ hD2';have hnewy:∀a∈By,H3 a=none:=fun a ha=>(hy1 a ha).elim id fun z=>z.none.elim;have hDy:Dd∉By:=fun h=>by have z:=hnewy Dd h;rw [g3 _ _ hD2'] at z;cases z
        have ext:Ext (fun a=>a=Dd) H4 (upd H4 Dd (.lst (ys++[w]))):=fun b o h=>by by_cases e:b=Dd;subst e;rw [hD4] at h;cases h;exact .inr ⟨rfl,.lst⟩;rw [Xc e];exact .inl h
        have hDB':Dd∉B'++By:=fun h=>(Ao.mp h).elim hDB hDy;refine ⟨ys,hD4,?_,?_,us++[y],ys++[w],B'++By,Xd,by rw [Ak];simp;omega,?_,?_,hDB',?_,?_⟩;rw [ru.len];exact Zcu (by omega);intro b o h;have hb:b≠Dd:=Xm h hD;rw [Xc hb];exact (g2.trans g24) b o h;exact ((ru'.same g24).app (RpA.one ry)).ext ext fun a ha h=>hDB' (by rw [h] at ha;exact ha);refine Dy.mpr ⟨nd,hy2 rfl,fun a ha b hb e=>?_⟩;subst e;obtain ⟨xs,z,_⟩:=(ru'.same g3).isl a ha;rw [hnewy a hb] at z;cases z;intro a ha;rcases Ao.mp ha with h | h;exact hnew a h;exact (g2.trans g3).free (hnewy a h)
        · exact pq.bind.imp (fun zs pq v H' g' r=>by
            rw [CN] at r;exact pq v H' g' r) fun _ _ z=>z
    rintro H2 ⟨g2,us,ys,B',hD2,hul,ru,nd,hDB,hnew,pq⟩;rw [Fd] at pq;have pq:∀v H',Xf H H'->Res K C 2 [] H A (.lst (us++[])) v H'->Q v H':=pq;rw [Dg] at pq;refine pq _ H2 (g1.trans g2) ⟨Dd::B',⟨Dd,ys,B',rfl,hD2,ru,rfl⟩,fun a ha=>.inl ?_,(fun z=>nomatch z),fun _=>Ay.mpr ⟨hDB,nd⟩⟩;rcases Al.mp ha with h | h;rw [h];exact g1.free hD;exact g1.free (hnew a h)
  exact p.elim
theorem Zux.weak {H0 Hb:Hp}{D:Ends}{r:R Fl}(h:Zux K C E mr Γl Δl Γ' Δ' H0 Hb D r)(h1:∀i∈Γ',i∈Γ1)(h2:∀i∈Δ',i∈Δ1):Zux K C E mr Γl Δl Γ1 Δ1 H0 Hb D r:=by
 unfold Zux at *;refine Xa.imp h (fun fl q=>?_) fun _ _ q=>q;cases fl with
 | nx ρ'=>exact fun σ' H' A' I=>q σ' H' A' (I.weak h1 h2)
 | ret d=>exact q
 | brk ρ'=>exact q
 | cnt ρ'=>exact q
theorem Xcg {t:TS}{f:FS}(h:SOk K C E mr Γl Δl Γ Δ Γ1 Δ1 t f)(h1:∀i∈Γ',i∈Γ1:=by decide)(h2:∀i∈Δ',i∈Δ1:=by decide):SOk K C E mr Γl Δl Γ Δ Γ' Δ' t f:=fun H0 Hb H σ ρ A D I p =>
 h H0 Hb H σ ρ A D I (p.weak h1 h2)
theorem Xpd:SOk K C E mr Γl Δl Γ Δ Γ Δ Zly Dl.sNx:=fun _ _ H σ _ A _ I p=>p σ H A I
theorem Zxp:SOk K C E mr Γl Δl Γ Δ Γ' Δ' Zsj Dl.Zhu:=fun _ _ _ _ _ _ _ _ p=>p.elim
theorem Xlg {t u:TS}{f g:FS}(h1:SOk K C E mr Γl Δl Γ Δ Γ1 Δ1 t f)(h2:SOk K C E mr Γl Δl Γ1 Δ1 Γ' Δ' u g):SOk K C E mr Γl Δl Γ Δ Γ' Δ' (Xib t u) (Dl.Xk f g):=fun H0 Hb H σ ρ A D I p =>
  h1 H0 Hb H σ ρ A _ I (Xa.imp (Xa.bind p) (fun fl q=>by
    cases fl with
    | nx ρ'=>exact fun σ' H' A' I'=>h2 H0 Hb H' σ' ρ' A' D I' q
    | ret d=>exact q
    | brk ρ'=>exact q
    | cnt ρ'=>exact q) fun _ _ q=>q)
theorem Xf.from0 (I:Zq K C H0 Hb H Γ Δ σ ρ A)(g:Xf H H'):Xf H0 H':=I.s0.trans (I.same.trans g)
theorem Zq.top_out (I:Zq K C H0 Hb H Γ Δ σ ρ A)(hj:j∈Γ)(hS:(j,false)∉S)(e:A j=a::l):¬InS A S a:=fun h=>by
 obtain ⟨q0,q1,q2⟩:=I.top j hj a l e;obtain ⟨p,hp,q⟩:=h;split at q;by_cases ep:p.1=j;rw [ep,e] at q;exact q1 q;exact q2 p.1 ep (Hk q);rename_i hf;by_cases ep:p.1=j;refine hS ?_;have:p=(j,false):=by obtain ⟨p1,p2⟩:=p;simp at ep hf;rw [ep,hf]
 rw [<- this];exact hp;exact q2 p.1 ep q
theorem Zq.deep_out (I:Zq K C H0 Hb H Γ Δ σ ρ A)(hj:j∈Δ)(hS:∀p∈S,p.1≠j)(e:a∈A j):¬InS A S a:=fun h=>by obtain ⟨p,hp,q⟩:=h.mem;exact (I.deep j hj).2.1 p.1 (hS p hp) a e q
theorem Zsk (he:EOk K C E Γ Δ 2 [] te fe)(h1:∀j∈Γ',j=i\/j∈Γ:=by decide)(h2:∀j∈Δ',j=i\/j∈Δ:=by decide):SOk K C E mr Γl Δl Γ Δ Γ' Δ' (Zgl te (Yw i)) (Dl.Xq i fe):=fun H0 Hb H σ ρ A D I p =>
  he H0 Hb H σ ρ A _ I (Xa.imp (Xa.bind p) (fun d q v H1 g1 r=>by
    obtain ⟨B,r1,r2,r3,r4⟩:=r;have hn:∀a∈B,H a=none:=fun a ha=>(r2 a ha).elim id fun z=>z.none.elim;have nd:=r4 rfl;obtain ⟨A',I',_⟩:=(I.mono g1).put (Γ':=Γ') (Δ':=Δ') (i:=i) r1 (fun j hj e=>⟨(h1 j hj).elim (fun z=>absurd z e) id,fun a l e' ha=>I.ne (j:=j) (by rw [e'];exact .head _) (hn a ha)⟩)
      (fun _=>⟨fun a ha=>I.s0.free (I.same.free (hn a ha)),fun a l e=>by subst e;exact ⟨I.same.free (hn a (.head _)),(Ay.mp nd).1,fun j _ h=>I.ne h (hn a (.head _))⟩⟩)
      (fun j hj e=>⟨(h2 j hj).elim (fun z=>absurd z e) id,fun a ha hB=>I.ne ha (hn a hB)⟩)
      (fun _=>⟨nd,fun j _ a ha h=>I.ne h (hn a ha),fun a ha=>I.same.free (hn a ha)⟩)
    exact q _ H1 A' I') fun c x q H' g'=>q H' (Xf.from0 I g'))
theorem Xcm (he:EOk K C E Γ Δ m S te fe)(h1:∀j∈Γ',j≠i/\j∈Γ/\(j,false)∉S:=by decide)(h2:∀j∈Δ',j≠i/\j∈Δ/\∀p∈S,p.1≠j:=by decide) :
    SOk K C E mr Γl Δl Γ Δ Γ' Δ' (Zgl te (Yw i)) (Dl.Xq i fe):=fun H0 Hb H σ ρ A D I p =>
  he H0 Hb H σ ρ A _ I (Xa.imp (Xa.bind p) (fun d q v H1 g1 r=>by
    obtain ⟨B,r1,r2,r3,r4⟩:=r;obtain ⟨A',I',_⟩:=(I.mono g1).put (Γ':=Γ') (Δ':=Δ') (i:=i) r1 (fun j hj e=>by
        obtain ⟨_,q1,q2⟩:=h1 j hj;exact ⟨q1,fun a l e' ha=>(r2 a ha).elim (fun z=>I.ne (j:=j) (by rw [e'];exact .head _) z) (I.top_out q1 q2 e')⟩)
      (fun hj=>absurd rfl (h1 i hj).1)
      (fun j hj e=>⟨(h2 j hj).2.1,fun a ha hB=>(r2 a hB).elim (fun z=>I.ne ha z) (I.deep_out (h2 j hj).2.1 (h2 j hj).2.2 ha)⟩)
      (fun hj=>absurd rfl (h2 i hj).1)
    exact q _ H1 A' I') fun c x q H' g'=>q H' (Xf.from0 I g'))
theorem Xdj (he:EOk K C E Γ Δ 2 S te fe)(h0:∀p∈S,p.1∈Δ:=by decide):SOk K C E 2 Γl Δl Γ Δ Γ' Δ' (Xhd te) (Dl.Zdo fe):=fun H0 Hb H σ ρ A D I p =>
  he H0 Hb H σ ρ A _ I (Xa.imp (Xa.bind p) (fun d q v H1 g1 r=>by
    obtain ⟨B,r1,r2,r3,r4⟩:=r;refine q v H1 (Xf.from0 I g1) ⟨B,r1,fun a ha=>.inl ((r2 a ha).elim (fun z=>I.s0.free (I.same.free z)) fun z=>?_),(fun z=>nomatch z),r4⟩;obtain ⟨p,hp,z⟩:=z.mem;exact I.s0.free ((I.deep p.1 (h0 p hp)).2.2 a z)) fun c x q H' g'=>q H' (Xf.from0 I g'))
theorem Xrm {t u:TS}{fc:FT}{f g:FS}(hc:TOk K C E Γ Δ tc fc)(h1:SOk K C E mr Γl Δl Γ Δ Γ' Δ' t f)(h2:SOk K C E mr Γl Δl Γ Δ Γ' Δ' u g):SOk K C E mr Γl Δl Γ Δ Γ' Δ' (Xhb tc t u) (Dl.sIf fc f g):=fun H0 Hb H σ ρ A D I p =>
  hc H0 Hb H σ ρ A _ I (Xa.imp (Xa.bind p) (fun b q H1 g1=>by
    cases b with
    | true=>exact h1 H0 Hb H1 σ ρ A D (I.mono g1) q
    | false=>exact h2 H0 Hb H1 σ ρ A D (I.mono g1) q) fun c x q H' g'=>q H' (Xf.from0 I g'))
theorem Zku (I:Zq K C H0 Hb H Γ Δ σ ρ A)(e:ρ[i]?=some (some (.lst ds))):∃a xs l,σ[i]?=some (some (.ref a))/\H a=some (.lst xs)/\RpA K C H ds xs l/\A i=a::l/\i<ρ.length:=by obtain ⟨v,q1,a,xs,l,rfl,q3,q4,q5⟩:=I.rep i _ e;exact ⟨a,xs,l,q1,q3,q4,q5,(Ai.mp e).1⟩
theorem Xcc (hi:i∈Γ:=by decide)(he:EOk K C E Γ Δ 2 [] te fe):SOk K C E mr Γl Δl Γ Δ Γ Δ (Zga (tBM K "list" Zbf (Zge i) (Zbu te Ztt))) (Dl.Zlc i fe):=fun H0 Hb H σ ρ A D I p=>by
  unfold Dl.Zlc at p;split at p
  · rename_i ds e;obtain ⟨a,xs,l,s1,h1,r1,hA,hl⟩:=Zku I e;refine ⟨.ref a,s1,.inl ⟨rfl,xs,SqL.of h1⟩,he H0 Hb H σ ρ A _ I (Xa.imp (Xa.bind p) (fun d q v H1 g1 r=>?_) fun c x q H' g'=>q H' (Xf.from0 I g'))⟩;split at q
    · rename_i hz;obtain ⟨B,r2,r3,_,r4⟩:=r;have hn:∀a∈B,H a=none:=fun a ha=>(r3 a ha).elim id fun z=>z.none.elim;have h1':=g1 _ _ h1;show Zbf (.ref a) [v] H1 fun _ H3=>D.nx σ H3;refine Xhp h1' (by rw [r1.len];exact Zcu hz) ?_;obtain ⟨tb,ta,tt⟩:=I.top i hi a l hA;have I1:=I.mono g1;have haB:a∉B:=fun z=>by have:=hn a z;rw [h1] at this;cases this
      have w1:∀b∈l++B,H0 b=none:=fun b hb=>by rcases Ao.mp hb with z | z;exact I.loc i hi b (by rw [hA];exact .tail _ z);exact I.s0.free (I.same.free (hn b z))
      have w2:∀j∈Γ,j≠i->j∈Γ/\∀b l',A j=b::l'->b∉l++B:=fun j hj e=>⟨hj,fun b l' e' z=>by
        rcases Ao.mp z with z | z;exact (I.top j hj b l' e').2.2 i (fun w=>e w.symm) (by rw [hA];exact .tail _ z)
        · exact I.ne (j:=j) (by rw [e'];exact .head _) (hn b z)⟩
      have w3:∀j∈Δ,j≠i->j∈Δ/\∀b∈A j,b∉l++B:=fun j hj e=>⟨hj,fun b hb z=>by
        rcases Ao.mp z with z | z;exact (I.deep j hj).2.1 i (fun w=>e w.symm) b hb (by rw [hA];exact .tail _ z)
        · exact I.ne hb (hn b z)⟩
      have w4:i∈Δ->(l++B).Nodup/\(∀j,j≠i->∀b∈l++B,b∉A j)/\∀b∈l++B,Hb b=none:=fun hd=>by obtain ⟨d1,d2,d3⟩:=I.deep i hd;rw [hA] at d1 d2 d3;refine ⟨Dy.mpr ⟨(Ay.mp d1).2,r4 rfl,fun x hx y hy e=>?_⟩,fun j hj b hb=>?_,fun b hb=>?_⟩;subst e;exact I.ne (j:=i) (by rw [hA];exact .tail _ hx) (hn x hy);rcases Ao.mp hb with z | z;exact d2 j hj b (.tail _ z);exact fun w=>I.ne w (hn b z);rcases Ao.mp hb with z | z;exact d3 b (.tail _ z);exact I.same.free (hn b z)
      obtain ⟨A',I'⟩:=I1.write (Γ':=Γ) (Δ':=Δ) hi hA hl s1 ((r1.same g1).app (RpA.one r2)) w1 (fun z=>(Ao.mp z).elim ta haB) w2 w3 w4;exact q _ _ A' I'
    exact q.elim
  exact p.elim
def BOk (K:AO)(C:String->Addr)(Γ Δ:List Nat)(g:TG)(b:FB):Prop:=∀(H0 Hb H:Hp) (σ:St) (ρ:Xp) (A:Nat->List Addr) (d:D) (v:V) (B:List Addr) (Rr:St->Hp->Prop),Zq K C H0 Hb H Γ Δ σ ρ A->Rp K C H d v B->(∀a∈B,Hb a≠none)->
 Xa (b d ρ) (fun ρ'=>∀σ' A',Zq K C H0 Hb H Γ Δ σ' ρ' A'->Rr σ' H) (fun _ _=>False)->g v σ H Rr
def Xtj (K:AO)(C:String->Addr)(Γ Δ:List Nat)(g:TGs)(b:List D->Xp->R Xp):Prop:=∀(H0 Hb H:Hp) (σ:St) (ρ:Xp) (A:Nat->List Addr) (d:List D) (v:List V) (B:List Addr) (Rr:St->Hp->Prop),Zq K C H0 Hb H Γ Δ σ ρ A->RpA K C H d v B->(∀a∈B,Hb a≠none)->
 Xa (b d ρ) (fun ρ'=>∀σ' A',Zq K C H0 Hb H Γ Δ σ' ρ' A'->Rr σ' H) (fun _ _=>False)->g v σ H Rr
theorem Xef (h1:i∉Γ:=by decide)(h2:i∉Δ:=by decide):BOk K C Γ Δ (Yw i) (Dl.Zt i):=fun H0 Hb H σ ρ A d v B Rr I r hB p=>by obtain ⟨A',I',_⟩:=I.put (Γ':=Γ) (Δ':=Δ) (i:=i) r (fun j hj e=>⟨hj,fun a l e' ha=>hB a ha (I.top j hj a l e').1⟩) (fun hj=>absurd hj h1) (fun j hj e=>⟨hj,fun a ha hb=>hB a hb ((I.deep j hj).2.2 a ha)⟩) (fun hj=>absurd hj h2);exact p _ A' I'
theorem Xmw:Xtj K C Γ Δ Xbh Dl.Zeo:=fun H0 Hb H σ ρ A d v B Rr I r hB p=>by
 cases d with
 | nil=>exact ⟨r.1,p _ A I⟩
 | cons _ _=>exact p.elim
theorem Xbm {g:TG}{b:FB}{bs:List D->Xp->R Xp}(h1:BOk K C Γ Δ g b)(h2:Xtj K C Γ Δ gs bs):Xtj K C Γ Δ (Zih g gs) (Dl.Xw b bs):=fun H0 Hb H σ ρ A d v B Rr I r hB p=>by
 cases d with
 | nil=>exact p.elim
 | cons d ds =>obtain ⟨x,l,B1,B2,e1,e2,e3,e4⟩:=r;subst e1 e4;refine ⟨x,l,rfl,h1 H0 Hb H σ ρ A d x B1 _ I e2 (fun a ha=>hB a (AF _ ha)) (Xa.imp (Xa.bind p) (fun ρ1 q σ1 A1 I1=>?_) fun _ _ z=>z)⟩;exact h2 H0 Hb H σ1 ρ1 A1 ds l B2 Rr I1 e3 (fun a ha=>hB a (Ar _ ha)) q
theorem Xno {bs:List D->Xp->R Xp}(hn:∀ds ρ ρ',bs ds ρ=.ok ρ'->ds.length=n)(h:Xtj K C Γ Δ gs bs):BOk K C Γ Δ (Zew K n gs) (Dl.Zet bs):=fun H0 Hb H σ ρ A d v B Rr I r hB p=>by
 cases d with
 | tup ds =>
  obtain ⟨a,xs,rfl,e2,e3⟩:=r;have hl:xs.length=n:=by
   rw [e3.len];have p':Xa (bs ds ρ) (fun ρ'=>∀σ' A',Zq K C H0 Hb H Γ Δ σ' ρ' A'->Rr σ' H) (fun _ _=>False):=p;cases e:bs ds ρ with
   | ok ρ'=>exact hn ds ρ ρ' e
   | err _ _=>rw [e] at p';exact p'.elim
   | bad=>rw [e] at p';exact p'.elim
  exact ⟨a,xs,rfl,SqT.of e2,hl,h H0 Hb H σ ρ A ds xs B Rr I e3 hB p⟩
 | _=>exact p.elim
theorem Zqs (ds:List D)(ρ ρ':Xp)(h:Dl.Zeo ds ρ=.ok ρ'):ds.length=0:=by
 cases ds with
 | nil=>rfl
 | cons _ _=>cases h
theorem Zjy {b:FB}{bs:List D->Xp->R Xp}(hb:∀ds ρ ρ',bs ds ρ=.ok ρ'->ds.length=n)(ds:List D)(ρ ρ':Xp)(h:Dl.Xw b bs ds ρ=.ok ρ'):ds.length=n+1:=by
 cases ds with
 | nil=>cases h
 | cons d ds =>
  have h:((b d ρ).bind fun ρ'=>bs ds ρ')=.ok ρ':=h;cases e:b d ρ with
  | ok ρ1 =>rw [e] at h;rw [Bt,hb ds ρ1 ρ' h]
  | err _ _=>rw [e] at h;cases h
  | bad=>rw [e] at h;cases h
def ownAt (A:Nat->List Addr)(Γ Δ:List Nat):List Addr:=Γ.flatMap (fun i=>(A i).take 1)++Δ.flatMap A
theorem Jw (h:a∈ownAt A Γ Δ):(∃i∈Γ,∃l,A i=a::l)\/∃i∈Δ,a∈A i:=by
 rcases Ao.mp h with h | h;obtain ⟨i,hi,h⟩:=DD.mp h;left;refine ⟨i,hi,?_⟩;cases e:A i with
 | nil=>rw [e] at h;cases h
 | cons b l =>rw [e] at h;simp only [List.take_succ_cons,List.take_zero,Aj] at h;rw [h];exact ⟨l,rfl⟩
 obtain ⟨i,hi,h⟩:=DD.mp h;exact .inr ⟨i,hi,h⟩
theorem Zoo (hi:i∈Γ)(e:A i=a::l):a∈ownAt A Γ Δ:=AF _ (DD.mpr ⟨i,hi,by rw [e];simp⟩)
theorem Zke (hi:i∈Δ)(h:a∈A i):a∈ownAt A Γ Δ:=Ar _ (DD.mpr ⟨i,hi,h⟩)
theorem Zer (b:FB)(s:FS)(xs:List D){x:D}(h:xs[i]?=some x)(ρ:Xp):Dl.Zgz b s (xs.drop i) ρ=(b x ρ).calm.bind fun ρ1=>(s ρ1).bind fun fl=>match fl with
  | .nx ρ2=>Dl.Zgz b s (xs.drop (i+1)) ρ2
  | .cnt ρ2=>Dl.Zgz b s (xs.drop (i+1)) ρ2
  | .brk ρ2=>.ok (.nx ρ2)
  | .ret d=>.ok (.ret d):=by
 obtain ⟨hi,rfl⟩:=Ai.mp h;rw [D3 hi];rfl
theorem Xlf {g:TG}{tb:TS}{fb:FB}{fs:FS}(hi:IOk K C E Γ Δ S wi fi)(hb:BOk K C Γl Δl g fb)(hs:SOk K C E mr Γl Δl Γl Δl Γl Δl tb fs)
    (h1:∀i∈Γl,i∈Γ:=by decide) (h2:∀i∈Δl,i∈Δ:=by decide) (h3:∀p∈S,p.1∉Γl/\p.1∉Δl:=by decide):SOk K C E mr Γk Δk Γ Δ Γl Δl (Xho wi g tb) (Dl.Zeb fi fb fs):=fun H0 Hb H σ ρ A D I p=>by
  refine hi H0 Hb H σ ρ A _ I (Xa.imp (Xa.bind p) (fun ds q J H1 W g1 hW hlen hJ=>?_) fun c x q H' g'=>q H' (Xf.from0 I g'));have I1:=(I.mono g1).weak h1 h2;have hlst:∀a∈ownAt A Γl Δl,∃o,H1 a=some o/\IsM o:=fun a ha=>by rcases Jw ha with ⟨i,_,l,e⟩ | ⟨i,_,e⟩;exact I1.is (j:=i) (by rw [e];exact .head _);exact I1.is e
  have hbn:∀a∈ownAt A Γl Δl,Hb a=none:=fun a ha=>by rcases Jw ha with ⟨i,hi,l,e⟩ | ⟨i,hi,e⟩;exact (I1.top i hi a l e).1;exact (I1.deep i hi).2.2 a e
  have hout:∀a∈W,a∉ownAt A Γl Δl:=fun a ha ho=>by rcases (hW a ha).2 with z | z;rcases Jw ho with ⟨i,hi,l,e⟩ | ⟨i,hi,e⟩;exact I.ne (j:=i) (by rw [e];exact .head _) z;exact I.ne e z;rcases Jw ho with ⟨i,hi,l,e⟩ | ⟨i,hi,e⟩;exact I1.top_out hi (fun h=>(h3 _ h).1 hi) e z;exact I1.deep_out hi (fun p hp e'=>(h3 p hp).2 (by rw [e'];exact hi)) e z
  let Hc:Hp:=fun b=>if b∈ownAt A Γl Δl then none else H1 b
  have c1:Xf Hc H1:=fun b o h=>by show H1 b=some o;have h:(if b∈ownAt A Γl Δl then none else H1 b)=some o:=h;split at h;cases h;exact h
  have c2:Xf Hb Hc:=fun b o h=>by show (if b∈ownAt A Γl Δl then none else H1 b)=some o;rw [if_neg fun ho=>by rw [hbn b ho] at h;cases h];exact I1.same b o h
  have c3:∀a,a∉ownAt A Γl Δl->Hc a=H1 a:=fun a ha=>if_neg ha;have c4:∀a∈ownAt A Γl Δl,Hc a=none:=fun a ha=>if_pos ha;have I2:Zq K C H0 Hc H1 Γl Δl σ ρ A:=⟨I1.s0.trans c2,c1,I1.len,I1.rep,I1.nil,I1.loc,fun i hi a l e=>⟨c4 a (Zoo hi e),(I1.top i hi a l e).2⟩,fun i hi=>⟨(I1.deep i hi).1,(I1.deep i hi).2.1,fun a ha=>c4 a (Zke hi ha)⟩⟩;have back:∀{σ':St} {ρ':Xp} {H':Hp} {A':Nat->List Addr},Zq K C H0 Hc H' Γl Δl σ' ρ' A'->Zq K C H0 Hb H' Γl Δl σ' ρ' A':=fun I' =>
    ⟨I1.s0,c2.trans I'.same,I'.len,I'.rep,I'.nil,I'.loc,fun i hi a l e=>⟨c2.free (I'.top i hi a l e).1,(I'.top i hi a l e).2⟩,fun i hi=>⟨(I'.deep i hi).1,(I'.deep i hi).2.1,fun a ha=>c2.free ((I'.deep i hi).2.2 a ha)⟩⟩
  have go:Goes K C J ds Hc:=hJ Hc ⟨fun a ha=>c3 a (hout a ha),fun b o h hn=>(c3 b fun ho=>by
    obtain ⟨xs,e,hm⟩:=hlst b ho;rw [e] at h;cases h;exact hn hm).trans h⟩
  refine Zob go (fun k σ' H'=>∃ρ' A',Zq K C H0 Hc H' Γl Δl σ' ρ' A'/\Zux K C E mr Γk Δk Γl Δl H0 Hb D (Dl.Zgz fb fs (ds.drop k) ρ')) ⟨ρ,A,I2,q⟩ (fun _ _ _ ⟨_,_,I',_⟩=>I'.same) ?_ ?_;rintro k d x Bx σ' Ha H' hd ⟨ρ',A',Ia,pq⟩ ga rx hBx;have I':=Ia.mono ga;rw [Zer _ _ _ hd] at pq;have pq':=Zby (Xa.bind pq);refine hb H0 Hc H' σ' ρ' A' d x Bx _ I' rx hBx (Xa.imp pq' (fun ρ1 pq σ1 A1 I1'=>?_) fun _ _ z=>z);refine hs H0 Hc H' σ1 ρ1 A1 _ I1' (Xa.imp (Xa.bind pq) (fun fl pq=>?_) fun _ _ z=>z);cases fl with
  | nx ρ2=>exact fun σ2 H2 A2 I2'=>⟨ρ2,A2,I2',pq⟩
  | cnt ρ2=>exact fun σ2 H2 A2 I2'=>⟨ρ2,A2,I2',pq⟩
  | brk ρ2=>exact fun σ2 H2 A2 I2'=>pq σ2 H2 A2 (back I2')
  | ret d=>exact pq
  rintro σ' H' ⟨ρ',A',I',pq⟩;rw [Fd] at pq;exact pq σ' H' A' (back I')
theorem Zvo (r:RpA K C H ds vs B):∃A,Zq K C H H H [] [] (vs.map some++Ab (N - vs.length) none) (ds.map some++Ab (N - ds.length) none) A:=by
 have hl:=r.len;have key:∀{ds:List D} {vs:List V} {B:List Addr},RpA K C H ds vs B->∃A:Nat->List Addr,(∀(i:Nat) d,ds[i]?=some d->∃v,vs[i]?=some v/\Rp K C H d v (A i))/\∀i,ds.length<=i->A i=[]:=by
  intro ds
  induction ds with
  | nil=>intro vs B r;exact ⟨fun _=>[],fun i d h=>by simp at h,fun _ _=>rfl⟩
  | cons d ds ih =>
   intro vs B r;obtain ⟨x,l,B1,B2,e1,e2,e3,e4⟩:=r;obtain ⟨A,h1,h2⟩:=ih e3;subst e1;refine ⟨fun i=>match i with | 0=>B1 | i+1=>A i,fun i d' h=>?_,fun i h=>?_⟩;cases i with
   | zero=>simp at h;subst h;exact ⟨x,rfl,e2⟩
   | succ i=>simp at h;obtain ⟨v,q1,q2⟩:=h1 i d' h;exact ⟨v,by simpa using q1,q2⟩
   cases i with
   | zero=>simp at h
   | succ i=>exact h2 i (by simpa using h)
 obtain ⟨A,h1,h2⟩:=key r;refine ⟨A,Xf.refl _,Xf.refl _,by simp [hl],fun i d h=>?_,fun i h=>?_,(fun _ h=>nomatch h),(fun _ h=>nomatch h),(fun _ h=>nomatch h)⟩;by_cases hi:i<ds.length;rw [AD (by simpa using hi),AM] at h;obtain ⟨d',hd,e⟩:=Ax.mp h;cases e;obtain ⟨v,q1,q2⟩:=h1 i d hd;refine ⟨v,?_,q2⟩;rw [AD (by simp [hl,hi]),AM,q1];rfl;rw [Bj (by simpa using hi)] at h;have:=AW h;rw [DN] at this;exact absurd this.2 (by intro z;cases z);by_cases hi:i<ds.length;exact absurd (by rw [AD (by simpa using hi),AM,Ag hi];rfl) (h ds[i]);exact h2 i (by omega)
theorem Xgb {t:TS}{f:FS}(h:SOk K C E mr [] [] [] [] Γ' Δ' t f)(r:RpA K C H ds vs B)
  (p:Xa (Dl.run N f ds) (fun d=>∀v H',Xf H H'->Res K C mr [] H (fun _=>[]) d v H'->Q v H') (fun c x=>∀H',Xf H H'->EC C E c x H')) :
  t {nx:=fun _ H'=>Q .non H',rt:=Q} (vs.map some++Ab (N - vs.length) none) H:=by
 obtain ⟨A,I⟩:=Zvo (N:=N) r;refine h H H H _ _ A _ I (Xa.imp (Xa.bind p) (fun fl q=>?_) fun _ _ q=>q);cases fl with
 | nx ρ'=>exact fun σ' H' A' I'=>q _ H' I'.same (Res.flat ⟨rfl,rfl⟩)
 | ret d=>exact q
 | brk _=>exact q.elim
 | cnt _=>exact q.elim
end
structure JE (X:Cx)(C:String->Addr)(E:XK)(Γ Δ:List Nat)(m:Nat)(S:List (Nat×Bool))(e:Expr)(t:TE)(f:FE):Prop where
 q:QE X e t
 o:EOk X.K C E Γ Δ m S t f
structure JT (X:Cx)(C:String->Addr)(E:XK)(Γ Δ:List Nat)(e:Expr)(t:TT)(f:FT):Prop where
 q:QT X e t
 o:TOk X.K C E Γ Δ t f
structure JW (X:Cx)(C:String->Addr)(E:XK)(Γ Δ:List Nat)(e:Expr)(t:TT)(f:FT):Prop where
 q:QW X e t
 o:TOk X.K C E Γ Δ t f
structure JA (X:Cx)(C:String->Addr)(E:XK)(Γ Δ:List Nat)(m:Nat)(S:List (Nat×Bool))(e:List Expr)(n:Nat)(t:TA)(f:FA):Prop where
 q:QA X e t
 o:AOk X.K C E Γ Δ m S t f
 n:∀ρ ds,f ρ=.ok ds->ds.length=n
structure JO (X:Cx)(C:String->Addr)(E:XK)(Γ Δ:List Nat)(e:Option Expr)(t:TO)(f:FO):Prop where
 q:QO X e t
 o:OOk X.K C E Γ Δ t f
structure JI (X:Cx)(C:String->Addr)(E:XK)(Γ Δ:List Nat)(S:List (Nat×Bool))(tg e:Expr)(t:TI)(f:FI):Prop where
 q:QI X tg e t
 o:IOk X.K C E Γ Δ S t f
structure JG (X:Cx)(C:String->Addr)(Γ Δ:List Nat)(e:Expr)(t:TG)(f:FB):Prop where
 q:QG X e t
 o:BOk X.K C Γ Δ t f
structure JGs (X:Cx)(C:String->Addr)(Γ Δ:List Nat)(es:List Expr)(n:Nat)(t:TGs)(f:List D->Xp->R Xp):Prop where
 q:QGs X es t
 o:Xtj X.K C Γ Δ t f
 n:∀ds ρ ρ',f ds ρ=.ok ρ'->ds.length=n
structure JS (X:Cx)(C:String->Addr)(E:XK)(mr:Nat)(Γl Δl Γ Δ Γ' Δ':List Nat)(s:Stmt)(t:TS)(f:FS):Prop where
 q:QS X s t
 o:SOk X.K C E mr Γl Δl Γ Δ Γ' Δ' t f
structure JSs (X:Cx)(C:String->Addr)(E:XK)(mr:Nat)(Γl Δl Γ Δ Γ' Δ':List Nat)(s:List Stmt)(t:TS)(f:FS):Prop where
 q:QSs X s t
 o:SOk X.K C E mr Γl Δl Γ Δ Γ' Δ' t f
structure JIf (X:Cx)(C:String->Addr)(E:XK)(Γ Δ:List Nat)(e:List Expr)(t:TT)(f:FT):Prop where
 q:QIf X e t
 o:TOk X.K C E Γ Δ t f
section
variable {S:List (Nat×Bool)}{a:Expr}{rest:List Expr}{tc:TE}{fs:FE}{t:TA}
theorem Zc {i:Int}:JE X C E Γ Δ 2 [] (.Constant (.int i) j pos) (tC (.int i)) (Dl.fC (.int i)):=⟨Xpf,Xcf fun _=>rpI⟩
theorem Zuu {i:Bool}:JE X C E Γ Δ 2 [] (.Constant (.bool i) j pos) (tC (.bl i)) (Dl.fC (.bl i)):=⟨qe_bl,Xcf fun _=>rpB⟩
theorem Zac (h:C2 x=true:=by decide +kernel):JE X C E Γ Δ 2 [] (.Constant (.str x) j pos) (tC (.str x)) (Dl.fC (.str x)):=⟨Xqh,Xcf fun _=>⟨rfl,h,rfl⟩⟩
theorem Zj (i:Nat)(hN:X.N[i]?=some x:=by rfl)(hv:autoParam (Vis X.env.scope x) aT3._auto_1)(hd:(x==("__debug__":Str))=false:=by decide)
  (hcd:(x==("__classdict__":Str))=false:=by decide):JE X C E Γ Δ 0 [(i,false)] (.Name x pos) (Zge i) (Dl.fV i):=⟨qv i hN hv hd hcd,eok_v⟩
theorem Zik (i:Nat)(hi:i∈Δ:=by decide)(hN:X.N[i]?=some x:=by rfl)(hv:autoParam (Vis X.env.scope x) aT3._auto_1)(hd:(x==("__debug__":Str))=false:=by decide)
  (hcd:(x==("__classdict__":Str))=false:=by decide):JE X C E Γ Δ 2 [(i,false)] (.Name x pos) (Zge i) (Dl.fV i):=⟨qv i hN hv hd hcd,Xtw hi⟩
theorem Ye (h:JE X C E Γ Δ m S e te fe):JE X C E Γ Δ 2 [] e te (Dl.f1 Dl.Yr fe):=⟨h.q,Xga h.o⟩
theorem Zp {op:G2}{r:R2}(ho:OpR X (B8 op) r)(hg:GOk X.K C r g)(ha:JE X C E Γ Δ m1 S1 a ta fa)(hb:JE X C E Γ Δ m2 S2 b tb fb):JE X C E Γ Δ 2 [] (.BinOp a op b pos) (tOp r ta tb) (Dl.f2 g fa fb):=⟨qe_op ho ha.q hb.q,Zwn hg ha.o hb.o⟩
theorem Zmy (ha:JE X C E Γ Δ m1 S1 a ta fa):JE X C E Γ Δ 2 [] (.UnaryOp .USub a pos) (tUn (rU fun i=>.int (-i)) ta) (Dl.f1 Dl.Xhh fa):=⟨qe_un Xru ha.q,Xqa (fun H x d vx Bx Q r e q=>by
  unfold Dl.Xhh at e;split at e;cases e;obtain ⟨rfl,_⟩:=r;exact rd_U (Out.flat q rpI)
  · cases e) ha.o⟩
theorem Zql {r:R2}(ho:OpR X (BU op) r)(hg:GOk X.K C r g)(ha:JE X C E Γ Δ m1 S1 a ta fa)(hb:JE X C E Γ Δ m2 S2 b tb fb)(hm:C1 op b=false):JE X C E Γ Δ 2 [] (.Compare a [op] [b] pos) (tOp r ta tb) (Dl.f2 g fa fb):=⟨Xlk ho ha.q hb.q hm,Zwn hg ha.o hb.o⟩
theorem Xv {r:R2}(ho:OpR X (BU op) r)(hg:GOk X.K C r g)(ha:JE X C E Γ Δ m1 S1 a ta fa)(hb:JE X C E Γ Δ m2 S2 b tb fb)(hm:C1 op b=false):JT X C E Γ Δ (.Compare a [op] [b] pos) (Xdr (tOp r ta tb)) (Dl.cE (Dl.f2 g fa fb)):=⟨Xjx ho ha.q hb.q hm,Xgi (Zwn hg ha.o hb.o)⟩
theorem ce_if {fA:FT}(hc:JT X C E Γ Δ c tA fA)(ha:JE X C E Γ Δ m S a ta fa)(hb:JE X C E Γ Δ m S b tb fb):JE X C E Γ Δ m S (.IfExp c a b pos) (tIf tA ta tb) (Dl.fIf fA fa fb):=⟨Xbn hc.q ha.q hb.q,Xuq hc.o ha.o hb.o⟩
theorem Zyn (h:JE X C E Γ Δ m S e te fe)(he:∀whole,isTrue e X.env whole=(do let v <- whole;EO e.pos;Cs [v] (HP v)):=by intro _;rfl):JT X C E Γ Δ e (tB te) (Dl.cE fe):=⟨Xqq h.q he,tok_B h.o⟩
theorem Xat {fA:FT}(ha:JT X C E Γ Δ a tA fA):JW X C E Γ Δ (.BoolOp .And [a] pos) tA fA:=⟨Xmg ha.q,ha.o⟩
theorem Zmg {fA:FT}(ha:JT X C E Γ Δ a tA fA):JW X C E Γ Δ (.BoolOp .Or [a] pos) tA fA:=⟨Xqj ha.q,ha.o⟩
theorem Xhi {fA:FT}(ha:JT X C E Γ Δ a tA fA)(hb:JW X C E Γ Δ (.BoolOp .And (b::rest) pos) tB' fB):JW X C E Γ Δ (.BoolOp .And (a::b::rest) pos) (tAnd tA tB') (Dl.Xht fA fB):=⟨Xtv ha.q hb.q,Xjm ha.o hb.o⟩
theorem Zto {fA:FT}(ha:JT X C E Γ Δ a tA fA)(hb:JW X C E Γ Δ (.BoolOp .Or (b::rest) pos) tB' fB):JW X C E Γ Δ (.BoolOp .Or (a::b::rest) pos) (tOr tA tB') (Dl.cOr fA fB):=⟨qw_or ha.q hb.q,Xue ha.o hb.o⟩
theorem Xil {fA:FT}(h:JW X C E Γ Δ a tA fA):JT X C E Γ Δ a tA fA:=⟨qt_w h.q,h.o⟩
theorem Zi:JA X C E Γ Δ 2 [] [] 0 Ztt Dl.Zy:=⟨Zsf,Xin,Xnb⟩
theorem Zb (ha:JE X C E Γ Δ m1 S1 e te fe)(hr:JA X C E Γ Δ m2 S2 es n t f)(hs:Ad (e::es) X.env=(false,A9 e X.env)::Ad es X.env):JA X C E Γ Δ 0 (S1++S2) (e::es) (n+1) (Zbu te t) (Dl.Ze fe f):=⟨Zdh ha.q hr.q hs,Xdq ha.o hr.o,Zjl hr.n⟩
theorem Zrj (S:List (Nat×Bool))(ha:JE X C E Γ Δ 2 S1 e te fe)(hr:JA X C E Γ Δ 2 S2 es n t f)(hs:Ad (e::es) X.env=(false,A9 e X.env)::Ad es X.env)(h1:∀p∈S1,p.1∈Δ:=by decide)(h2:∀p∈S1,∀q∈S2,p.1≠q.1:=by decide)(hS:S1++S2=S:=by rfl):JA X C E Γ Δ 2 S (e::es) (n+1) (Zbu te t) (Dl.Ze fe f):=by subst hS;exact ⟨Zdh ha.q hr.q hs,Zmb ha.o hr.o h1 h2,Zjl hr.n⟩
theorem Zh (ha:JE X C E Γ Δ 2 [] e te fe)(hr:JA X C E Γ Δ 2 [] es n t f)(hs:Ad (e::es) X.env=(false,A9 e X.env)::Ad es X.env):JA X C E Γ Δ 2 [] (e::es) (n+1) (Zbu te t) (Dl.Ze fe f):=⟨Zdh ha.q hr.q hs,Zmb (S1:=[]) (S2:=[]) ha.o hr.o (fun _ h=>nomatch h) (fun _ h=>nomatch h),Zjl hr.n⟩
theorem Znk (h:JA X C E Γ Δ 2 S es n t f):JE X C E Γ Δ 2 S (.Tuple es x1 pos) (Xpo t) (Dl.fA Dl.Zew f):=⟨Xgw h.q,Xaf (.inr rfl) h.o⟩
theorem Zvl (h:JA X C E Γ Δ 0 S es n t f):JE X C E Γ Δ 0 S (.Tuple es x1 pos) (Xpo t) (Dl.fA Dl.Zew f):=⟨Xgw h.q,Xaf (.inl rfl) h.o⟩
theorem Xt (h:JA X C E Γ Δ 2 S es n t f):JE X C E Γ Δ 2 S (.List es pos) (Xoh t) (Dl.fA Dl.Yz f):=⟨Xia h.q,Xmt h.o⟩
theorem Zkg (h:JA X C E Γ Δ m S es n t f):JE X C E Γ Δ 1 S (.List es pos) (Xoh t) (Dl.fA Dl.Yz f):=⟨Xia h.q,Xcn h.o⟩
theorem Xb (K:AO)(ha:JE X C E Γ Δ m1 S1 a ta fa)(hb:JE X C E Γ Δ m2 S2 b tb fb)(hs:Zcj b)(hK:X.K=K:=by rfl):JE X C E Γ Δ 0 S1 (.Subscript a b pos) (tOp (rIx K) ta tb) (Dl.f2 Dl.gIx fa fb):=by subst hK;exact ⟨qe_ix Xsb ha.q hb.q hs,Xpq ha.o hb.o⟩
theorem Zgy:JO X C E Γ Δ none Zkv Dl.Zgx:=⟨Xkg,Xfm⟩
theorem Zdm (h:JE X C E Γ Δ m S e te fe):JO X C E Γ Δ (some e) (Xeh te) (Dl.Zel fe):=⟨Xnx h.q,Xco h.o⟩
theorem Xph (K:AO)(he:JE X C E Γ Δ m S e te fe)(hl:JO X C E Γ Δ lo tl fl)(hu:JO X C E Γ Δ hi th fh)(hK:X.K=K:=by rfl):JE X C E Γ Δ 2 [] (.Subscript e (.Slice lo hi none p2) pos) (tSl (rSlL K) te tl th) (Dl.fSl Dl.gSl fe fl fh):=by subst hK;exact ⟨Zsr Xir he.q hl.q hu.q,Xro he.o hl.o hu.o⟩
theorem Xi (Df:Def X.prog X.w X.K X.mg X.base CX k x ps (spD K C n mr F))(hr:Zfo k X.A)(hg:Gl X x)(hx:Zfk CX X E)
  (ha:JA X C E Γ Δ m S (e::es) n t f) (hdb:(x==("__debug__":Str))=false:=by decide) (he:Ad (e::es) X.env=(false,A9 e X.env)::Ad es X.env:=by rfl) (hpl:(BG pos (Ad es X.env)).any (·.1)=false:=by rfl) (hK:X.K=K:=by rfl) :
  JE X C E Γ Δ mr [] (.Call (.Name x p) (e::es) [] pos) (Zim (spD K C n mr F) [] E t) (Dl.Yf F f):=by
 subst hK;exact ⟨Zjv Df hr hg hx ha.q hdb he hpl,Xcv ha.o ha.n⟩
theorem Xg {id:String}{g:List D->Option D}(hc:Jx X (.builtin id) r)(hgk:GAk X.K C r g)(hg:Gl X x)(hm:X.mg x=none)(hv:CL x=some (.builtin id))(ha:JA X C E Γ Δ m S (e::es) n t f)(hn:x≠"__name__":=by decide)(hdb:(x==("__debug__":Str))=false:=by decide)
  (he:Ad (e::es) X.env=(false,A9 e X.env)::Ad es X.env:=by rfl) (hpl:(BG pos (Ad es X.env)).any (·.1)=false:=by rfl):JE X C E Γ Δ 2 [] (.Call (.Name x p) (e::es) [] pos) (tCB r t) (Dl.fA g f):=⟨Xcp hc hg hm hv ha.q hn hdb he hpl,Xha hgk ha.o⟩
theorem Xz {g:List D->Option D}(hc:Jx X (.type T) r)(hgk:GAk X.K C r g)(hg:Gl X x)(hm:X.mg x=none)(hv:CL x=some (.type T))(ha:JA X C E Γ Δ m S (e::es) n t f)(hn:x≠"__name__":=by decide)(hdb:(x==("__debug__":Str))=false:=by decide)
  (he:Ad (e::es) X.env=(false,A9 e X.env)::Ad es X.env:=by rfl) (hpl:(BG pos (Ad es X.env)).any (·.1)=false:=by rfl):JE X C E Γ Δ 2 [] (.Call (.Name x p) (e::es) [] pos) (tCB r t) (Dl.fA g f):=⟨Zwl hc hg hm hv ha.q hn hdb he hpl,Xha hgk ha.o⟩
theorem Zci (h:JE X C E Γ Δ m S e te fe):JI X C E Γ Δ S tg e (Xfp X.K te) (Dl.Zff fe):=⟨Xjo h.q,Xfn h.o⟩
theorem Zdi (hg:Gl X "range")(hm:X.mg "range"=none)(ha:JA X C E Γ Δ m S [a] n t f)(hs:Ad [a] X.env=[(false,A9 a X.env)]:=by rfl):JI X C E Γ Δ [] tg (.Call (.Name "range" p) [a] [] pos) (Xfi t) (Dl.Zfy f):=⟨Zvt hg hm ha.q hs,Xfd ha.o⟩
theorem Zwe (hg:Gl X "range")(hm:X.mg "range"=none)(ha:JA X C E Γ Δ m S [a,b] n t f)(hs:Ad [a,b] X.env=[(false,A9 a X.env),(false,A9 b X.env)]:=by rfl)(hs2:Ad [b] X.env=[(false,A9 b X.env)]:=by rfl):JI X C E Γ Δ [] tg (.Call (.Name "range" p) [a,b] [] pos) (Xem t) (Dl.Zte f):=⟨Zyb hg hm ha.q hs hs2,Xed ha.o⟩
theorem Xx (h1:i∉Γ:=by decide)(h2:i∉Δ:=by decide)(hN:X.N.Nodup)(hi:X.N[i]?=some x)(hx:Loc X.env.scope x)(hf:autoParam (X.fn x=true\/X.env.scope.names.lookup x=some .local) aT0._auto_1):JG X C Γ Δ (.Name x pos) (Yw i) (Dl.Zt i):=⟨Zie hN hi hx hf,Xef h1 h2⟩
theorem Zpw:JGs X C Γ Δ [] 0 Xbh Dl.Zeo:=⟨Zkj,Xmw,Zqs⟩
theorem Zcq {fb:FB}(h1:JG X C Γ Δ e tt fb)(h2:JGs X C Γ Δ es n u fu)(hs:(AR (e::es) X.env).map (·.2)=CM e X.env::(AR es X.env).map (·.2):=by rfl):JGs X C Γ Δ (e::es) (n+1) (Zih tt u) (Dl.Xw fb fu):=⟨Zgj h1.q h2.q hs,Xbm h1.o h2.o,Zjy h2.n⟩
theorem Zvm (hc:X.calm=true)(h:JGs X C Γ Δ es n u fu)(hn:(AR es X.env).length=n:=by rfl)(hst:(AR es X.env).findIdx? (·.1)=none:=by rfl):JG X C Γ Δ (.Tuple es k pos) (Zew X.K n u) (Dl.Zet fu):=⟨Zrl hc h.q hn hst,Xno h.n h.o⟩
theorem Zfh:JIf X C E Γ Δ [] tYes Dl.Ziy:=⟨Xob,Xlb⟩
structure JB (X:Cx)(C:String->Addr)(n k:Nat)(e:Expr)(t:TG)(f:FB):Prop where
 q:QG X e t
 o:NOk X.K C n k t f
structure JBs (X:Cx)(C:String->Addr)(n k:Nat)(es:List Expr)(l:Nat)(t:TGs)(f:List D->Xp->R Xp):Prop where
 q:QGs X es t
 o:Xpy X.K C n k t f
 n:∀ds ρ ρ',f ds ρ=.ok ρ'->ds.length=l
theorem Zbx (i:Nat)(hN:X.N.Nodup:=by decide +kernel)(hi:X.N[i]?=some x:=by rfl)(hx:Loc X.env.scope x:=by exact .inl rfl)(hf:X.fn x=true\/X.env.scope.names.lookup x=some .local:=by exact .inr rfl)(h1:n<=i:=by decide)(h2:i<n+k:=by decide):JB X C n k (.Name x pos) (Yw i) (Dl.Zt i):=⟨Zie hN hi hx hf,Xdi i h1 h2⟩
theorem Zod :JBs X C n k [] 0 Xbh Dl.Zeo:=⟨Zkj,Xmh,Zqs⟩
theorem Zct {l:Nat}{fb:FB}(h1:JB X C n k e tt fb)(h2:JBs X C n k es l u fu)(hs:(AR (e::es) X.env).map (·.2)=CM e X.env::(AR es X.env).map (·.2):=by rfl):JBs X C n k (e::es) (l+1) (Zih tt u) (Dl.Xw fb fu):=⟨Zgj h1.q h2.q hs,Xdh h1.o h2.o,Zjy h2.n⟩
theorem Zyi (K:AO){l kk:Nat}(h:JBs X C n k es l u fu)(hc:X.calm=true:=by rfl)(hn:(AR es X.env).length=l:=by rfl)(hst:(AR es X.env).findIdx? (·.1)=none:=by rfl)(hK:X.K=K:=by rfl):JB X C n k (.Tuple es kk pos) (Zew K l u) (Dl.Zet fu):=by subst hK;exact ⟨Zrl hc h.q hn hst,Xjt h.n h.o⟩
theorem Zkd {tc:TT}{fc:FT}(esc:Scope)(N N2 xs:List Str)(B:Xbi sc esc xs N N2)(hi:JI X C E Γ Δ S tg iter wi fi)(hg:∀cl C' s0 H0 fp,JB (X.blkN N2 xs sc cl C' s0 H0 fp) C n xs.length tg gg fg)(ht:∀cl C' s0 H0 fp,JIf (X.blkN N2 xs sc cl C' s0 H0 fp) C E0 [] [] ifs tc fc)(he:∀cl C' s0 H0 fp,JE (X.blkN N2 xs sc cl C' s0 H0 fp) C E0 [] [] 2 [] elt te fe)
  (hesc:X.env.scope=esc:=by rfl) (hN:X.N=N:=by rfl) (hc:X.calm=true:=by rfl) (hs:∀v,Bf iter X.env v=BD v:=by intro _;rfl):JE X C E Γ Δ 2 [] (.ListComp elt [⟨tg,iter,ifs,0⟩] sc pos) (Zee xs.length gg wi tc te) (Dl.Zdb n xs.length fi fg fc fe):=
 ⟨Xfc esc N N2 xs B hi.q (fun cl C' s0 H0 fp=>(hg cl C' s0 H0 fp).q) (fun cl C' s0 H0 fp=>(ht cl C' s0 H0 fp).q) (fun cl C' s0 H0 fp=>(he cl C' s0 H0 fp).q) hesc hN hc hs,Zqw hi.o (hg [] 0 X.s₀ X.H₀ []).o (ht [] 0 X.s₀ X.H₀ []).o (he [] 0 X.s₀ X.H₀ []).o⟩
variable {other:List Stmt}{u v:TS}{g h:FS}
theorem Yc:JSs X C E mr Γl Δl Γ Δ Γ Δ [] Zly Dl.sNx:=⟨Zpi,Xpd⟩
theorem Zg (Γ1 Δ1:List Nat)(h1:JS X C E mr Γl Δl Γ Δ Γ1 Δ1 s1 u g)(h2:JSs X C E mr Γl Δl Γ1 Δ1 Γ' Δ' ss v h):JSs X C E mr Γl Δl Γ Δ Γ' Δ' (s1::ss) (Xib u v) (Dl.Xk g h):=⟨Zkt h1.q h2.q,Xlg h1.o h2.o⟩
theorem Zl (h1:JS X C E mr Γl Δl Γ Δ Γ' Δ' s1 u g):JSs X C E mr Γl Δl Γ Δ Γ' Δ' [s1] u g:=⟨Zka h1.q,h1.o⟩
theorem Jm (Γ1 Δ1:List Nat)(h:JSs X C E mr Γl Δl Γ Δ Γ1 Δ1 ss u g)(h1:∀i∈Γ',i∈Γ1:=by decide)(h2:∀i∈Δ',i∈Δ1:=by decide):JSs X C E mr Γl Δl Γ Δ Γ' Δ' ss u g:=⟨h.q,Xcg h.o h1 h2⟩
theorem Zgf:JS X C E mr Γl Δl Γ Δ Γ' Δ' s1 Zsj Dl.Zhu:=⟨Xgp,Zxp⟩
theorem Yl (he:JE X C E Γ Δ 2 S e te fe)(h0:∀p∈S,p.1∈Δ:=by decide):JS X C E 2 Γl Δl Γ Δ Γ' Δ' (.Return (some e) pos) (Xhd te) (Dl.Zdo fe):=⟨Zyq he.q,Xdj he.o h0⟩
theorem Zan {fA:FT}(hc:JT X C E Γ Δ c tA fA)(ha:JSs X C E mr Γl Δl Γ Δ Γ' Δ' body u g)(hb:JSs X C E mr Γl Δl Γ Δ Γ' Δ' other v h):JS X C E mr Γl Δl Γ Δ Γ' Δ' (.If c body other pos) (Xhb tA u v) (Dl.sIf fA g h):=⟨Xny hc.q ha.q hb.q,Xrm hc.o ha.o hb.o⟩
theorem Zr (hN:X.N.Nodup)(hi:X.N[i]?=some x)(hx:Loc X.env.scope x)(he:JE X C E Γ Δ 2 [] e te fe)(hs:BO e (some (.Name x pos')) pos.line X.env=BD false:=by rfl)(hf:autoParam (X.fn x=true\/X.env.scope.names.lookup x=some .local) aT0._auto_1)
  (h1:∀j∈Γ',j=i\/j∈Γ:=by decide) (h2:∀j∈Δ',j=i\/j∈Δ:=by decide):JS X C E mr Γl Δl Γ Δ Γ' Δ' (.Assign [.Name x pos'] e pos) (Zgl te (Yw i)) (Dl.Xq i fe):=⟨Znp hN hi hx he.q hs hf,Zsk he.o h1 h2⟩
theorem Xod (hN:X.N.Nodup)(hi:X.N[i]?=some x)(hx:Loc X.env.scope x)(he:JE X C E Γ Δ m S e te fe)(hs:BO e (some (.Name x pos')) pos.line X.env=BD false:=by rfl)(hf:autoParam (X.fn x=true\/X.env.scope.names.lookup x=some .local) aT0._auto_1)
  (h1:∀j∈Γ',j≠i/\j∈Γ/\(j,false)∉S:=by decide) (h2:∀j∈Δ',j≠i/\j∈Δ/\∀p∈S,p.1≠j:=by decide):JS X C E mr Γl Δl Γ Δ Γ' Δ' (.Assign [.Name x pos'] e pos) (Zgl te (Yw i)) (Dl.Xq i fe):=⟨Znp hN hi hx he.q hs hf,Xcm he.o h1 h2⟩
theorem Zvz {py spos:Pos}{tc:TT}{fc:FT}(esc:Scope)(N N2 xs:List Str)(B:Xbi sc esc xs N N2)(hy:N[i]?=some y)(hl:esc.names.lookup y=some .local)(hi:JI X C E Γ Δ S tg iter wi fi)(hg:∀cl C' s0 H0 fp,JB (X.blkN N2 xs sc cl C' s0 H0 fp) C n xs.length tg gg fg)(ht:∀cl C' s0 H0 fp,JIf (X.blkN N2 xs sc cl C' s0 H0 fp) C E0 [] [] ifs tc fc)(he:∀cl C' s0 H0 fp,JE (X.blkN N2 xs sc cl C' s0 H0 fp) C E0 [] [] 2 [] elt te fe)
  (hesc:X.env.scope=esc:=by rfl) (hN:X.N=N:=by rfl) (hc:X.calm=true:=by rfl) (hsw:BO (.ListComp elt [⟨tg,iter,ifs,0⟩] sc pos) (some (.Name y py)) spos.line X.env=BD true:=by rfl) (hs:∀v,Bf iter X.env v=BD v:=by intro _;rfl)
  (h1:∀j∈Γ',j=i\/j∈Γ:=by decide) (h2:∀j∈Δ',j=i\/j∈Δ:=by decide):JS X C E mr Γl Δl Γ Δ Γ' Δ' (.Assign [.Name y py] (.ListComp elt [⟨tg,iter,ifs,0⟩] sc pos) spos) (Zgl (Zee xs.length gg wi tc te) (Yw i)) (Dl.Xq i (Dl.Zdb n xs.length fi fg fc fe)):=
 ⟨Xej esc N N2 xs B hy hl hi.q (fun cl C' s0 H0 fp=>(hg cl C' s0 H0 fp).q) (fun cl C' s0 H0 fp=>(ht cl C' s0 H0 fp).q) (fun cl C' s0 H0 fp=>(he cl C' s0 H0 fp).q) hesc hN hc hsw hs,Zsk (Zqw hi.o (hg [] 0 X.s₀ X.H₀ []).o (ht [] 0 X.s₀ X.H₀ []).o (he [] 0 X.s₀ X.H₀ []).o) h1 h2⟩
theorem Zgq (hi:i∈Γ:=by decide)(hN:X.N[i]?=some x:=by rfl)(hv:autoParam (Vis X.env.scope x) aT3._auto_1)(hd:(x==("__debug__":Str))=false:=by decide)(hcd:(x==("__classdict__":Str))=false:=by decide)
  (he:JE X C E Γ Δ 2 [] e te fe) (hse:Ad [e] X.env=(false,A9 e X.env)::Ad [] X.env)
  (hbase:Cq (.Name x p) "append" X.env (A9 (.Name x p) X.env)=A9 (.Name x p) X.env:=by rfl)
  (hfew:((BG cpos (Ad [e] X.env)).all (fun x=>!x.1)&&(Ej cpos (De [] X.env)).all (fun x=>x.1.isSome)&&decide (([e]:List Expr).length+([]:List Ce).length+(if ([]:List Ce).isEmpty then 0 else 1)<30))=true:=by rfl)
  (hline:(apos.endLine==cpos.line)=true:=by rfl) (hplain:(BG cpos (Ad ([]:List Expr) X.env)).any (·.1)=false:=by rfl) (hsw:BO (.Call (.Attribute (.Name x p) "append" apos) [e] [] cpos) none pos.line X.env=BD false:=by rfl) :
  JS X C E mr Γl Δl Γ Δ Γ Δ (.Expr (.Call (.Attribute (.Name x p) "append" apos) [e] [] cpos) pos) (Zga (tBM X.K "list" Zbf (Zge i) (Zbu te Ztt))) (Dl.Zlc i fe):=
 ⟨Zhw (Xlt PySem.F.plainAttrs_list PySem.F.slot_list_append PySem.F.type_list_append Zen (qv i hN hv hd hcd) (Zdh he.q Zsf hse) hbase hfew hline hse hplain) hsw,Xcc hi he.o⟩
theorem Jc {fb:FB}(Γl Δl:List Nat)(hp:Gq (Aw X.prog X.w) X.A X.env X.xe)(hc:X.calm=true)(hi:JI X C E Γ Δ S tg iter wi fi)(hg:JG X C Γl Δl tg tt fb)(hb:JSs X C E mr Γl Δl Γl Δl Γl Δl body u g)(hs:∀x,Bf iter X.env x=BD x:=by intro _;rfl)
  (h1:∀i∈Γl,i∈Γ:=by decide) (h2:∀i∈Δl,i∈Δ:=by decide) (h3:∀p∈S,p.1∉Γl/\p.1∉Δl:=by decide):JS X C E mr Γk Δk Γ Δ Γl Δl (.For tg iter body [] pos) (Xho wi tt u) (Dl.Zeb fi fb g):=⟨Zys hp hc hi.q hg.q hb.q hs,Xlf hi.o hg.o hb.o h1 h2 h3⟩
end
theorem Fun.okC {P:AQ}{st:Stmt}{f:Addr}{N:List Str}{g:FS}(F:Fun K x qual st f fd)(S:Xe N ps (Zk st))(hn:ps.length=n)
    (hbody:∀(cdv:Value) (A:Bh) (outer:List Env) (s:Af) (H:Hp) (E:XK),Zfo k (A.deeper (Ei qual (Zk st) s.heap.objs.size f cdv))->
      ∃t,JSs (Xbk CX0 P w K mg base N qual (Zk st) f cdv A outer s H E).nox C E0 mr [] [] [] [] Γ' Δ' (Jj st) t g):Zbe P w K mg base CX0 (k+1) f fd ps (spD K C n mr fun ds=>(Dl.run N.length g ds).calm):=
  F.okQ S (fun vs H Q E h=>by
    obtain ⟨ds,B,h1,h2,_⟩:=h;rw [h2.len,h1,hn]) fun cdv A outer s H vs Q E hr h=>by
    obtain ⟨ds,B,h1,h2,h3⟩:=h;obtain ⟨t,ht⟩:=hbody cdv A outer s H E hr;exact ⟨t,ht.q,Xgb (K:=K) ht.o h2 (Xa.imp (Zby h3) (fun _ q=>q) fun _ _ z=>z.elim)⟩
section
variable {S:List (Nat×Bool)}
theorem Zq.rewrite {es:List D}(I:Zq K C H0 Hb H Γ Δ σ ρ A)(g1:Xf H H1)(hi:i∈Γ)(hA:A i=a::l)(hl:i<ρ.length)(s1:σ[i]?=some (some (.ref a)))(r:RpA K C H1 es ys B')
    (hB:∀b∈B',b∈l\/H b=none) (hD:i∈Δ->B'.Nodup):∃A',Zq K C H0 Hb (upd H1 a (.lst ys)) Γ Δ σ (ρ.set i (some (.lst es))) A':=by
  obtain ⟨tb,ta,tt⟩:=I.top i hi a l hA;have ha:a∈A i:=by rw [hA];exact .head _
  have w1:∀b∈B',H0 b=none:=fun b hb=>(hB b hb).elim (fun z=>I.loc i hi b (by rw [hA];exact .tail _ z)) fun z=>I.s0.free (I.same.free z);have w0:a∉B':=fun z=>(hB a z).elim ta fun z=>I.ne ha z;have w2:∀j∈Γ,j≠i->j∈Γ/\∀b l',A j=b::l'->b∉B':=fun j hj e=>⟨hj,fun b l' e' z=>(hB b z).elim
    (fun z=>(I.top j hj b l' e').2.2 i (fun w=>e w.symm) (by rw [hA];exact .tail _ z)) fun z=>I.ne (j:=j) (by rw [e'];exact .head _) z⟩
  have w3:∀j∈Δ,j≠i->j∈Δ/\∀b∈A j,b∉B':=fun j hj e=>⟨hj,fun b hb z=>(hB b z).elim
    (fun z=>(I.deep j hj).2.1 i (fun w=>e w.symm) b hb (by rw [hA];exact .tail _ z)) fun z=>I.ne hb z⟩
  have w4:i∈Δ->B'.Nodup/\(∀j,j≠i->∀b∈B',b∉A j)/\∀b∈B',Hb b=none:=fun hd=>by obtain ⟨d1,d2,d3⟩:=I.deep i hd;rw [hA] at d2 d3;exact ⟨hD hd,fun j hj b hb=>(hB b hb).elim (fun z=>d2 j hj b (.tail _ z)) fun z w=>I.ne w z,fun b hb=>(hB b hb).elim (fun z=>d3 b (.tail _ z)) fun z=>I.same.free z⟩
  exact (I.mono g1).write (Γ':=Γ) (Δ':=Δ) hi hA hl s1 r w1 w0 w2 w3 w4
def BsN (K:AO)(C:String->Addr)(Γ Δ Γ' Δ':List Nat)(g:TGs)(b:List D->Xp->R Xp):Prop:=∀(H0 Hb H:Hp) (σ:St) (ρ:Xp) (A:Nat->List Addr) (d:List D) (v:List V) (B:List Addr) (Rr:St->Hp->Prop),Zq K C H0 Hb H Γ Δ σ ρ A->RpA K C H d v B->B.Nodup->(∀a∈B,Hb a=none/\∀j,a∉A j)->
 Xa (b d ρ) (fun ρ'=>∀σ' A',Zq K C H0 Hb H Γ' Δ' σ' ρ' A'->Rr σ' H) (fun _ _=>False)->g v σ H Rr
theorem Xkk (h1:∀i∈Γ',i∈Γ)(h2:∀i∈Δ',i∈Δ):BsN K C Γ Δ Γ' Δ' Xbh Dl.Zeo:=fun H0 Hb H σ ρ A d v B Rr I r _ _ p=>by
 cases d with
 | nil=>exact ⟨r.1,p _ A (I.weak h1 h2)⟩
 | cons _ _=>exact p.elim
theorem Xeo {bs:List D->Xp->R Xp}(h2:BsN K C (i::Γ) (i::Δ) Γ' Δ' gs bs):BsN K C Γ Δ Γ' Δ' (Zih (Yw i) gs) (Dl.Xw (Dl.Zt i) bs):=fun H0 Hb H σ ρ A d v B Rr I r nd hB p=>by
  cases d with
  | nil=>exact p.elim
  | cons d ds =>
    obtain ⟨x,l,B1,B2,e1,e2,e3,e4⟩:=r;subst e1 e4;obtain ⟨n1,n2,n3⟩:=Dy.mp nd;have hB1:∀a∈B1,Hb a=none/\∀j,a∉A j:=fun a ha=>hB a (AF _ ha);obtain ⟨A',I',hA'⟩:=I.put (Γ':=i::Γ) (Δ':=i::Δ) (i:=i) e2
      (fun j hj e=>⟨(Al.mp hj).elim (fun z=>absurd z e) id,fun a l' e' ha=>(hB1 a ha).2 j (by rw [e'];exact .head _)⟩)
      (fun _=>⟨fun a ha=>I.s0.free (hB1 a ha).1,fun a l' e=>by
        subst e;exact ⟨(hB1 a (.head _)).1,(Ay.mp n1).1,fun j _=>(hB1 a (.head _)).2 j⟩⟩)
      (fun j hj e=>⟨(Al.mp hj).elim (fun z=>absurd z e) id,fun a ha hb=>(hB1 a hb).2 j ha⟩)
      (fun _=>⟨n1,fun j _ a ha=>(hB1 a ha).2 j,fun a ha=>(hB1 a ha).1⟩)
    exact ⟨x,l,rfl,h2 H0 Hb H _ _ A' ds l B2 Rr I' e3 n2 (fun a ha=>⟨(hB a (Ar _ ha)).1,fun j h=>(hA' j a h).elim (fun z=>n3 a z a ha rfl) fun z=>(hB a (Ar _ ha)).2 j z⟩) p⟩
theorem Ztz {bs:List D->Xp->R Xp}(hn:∀ds ρ ρ',bs ds ρ=.ok ρ'->ds.length=n)(he:EOk K C E Γ Δ 2 [] te fe)(hb:BsN K C Γ Δ Γ' Δ' gs bs):SOk K C E mr Γl Δl Γ Δ Γ' Δ' (Zgl te (Zew K n gs)) (Dl.Xom fe (Dl.Zet bs)):=fun H0 Hb H σ ρ A D I p=>by
 refine he H0 Hb H σ ρ A _ I (Xa.imp (Xa.bind p) (fun d q v H1 g1 r=>?_) fun c x q H' g'=>q H' (Xf.from0 I g'));obtain ⟨B,r1,r2,_,r4⟩:=r;have hn':∀a∈B,H a=none:=fun a ha=>(r2 a ha).elim id fun z=>z.none.elim;have q':=Zby (Xa.bind q);cases d with
 | tup ds =>
  obtain ⟨a,xs,rfl,e2,e3⟩:=r1;have q'':Xa (bs ds ρ) (fun ρ'=>∀σ' H' A',Zq K C H0 Hb H' Γ' Δ' σ' ρ' A'->D.nx σ' H') (fun _ _=>False):=q';have hl:xs.length=n:=by
   rw [e3.len];cases e:bs ds ρ with
   | ok ρ'=>exact hn ds ρ ρ' e
   | err _ _=>rw [e] at q'';exact q''.elim
   | bad=>rw [e] at q'';exact q''.elim
  exact ⟨a,xs,rfl,SqT.of e2,hl,hb H0 Hb H1 σ ρ A ds xs B D.nx (I.mono g1) e3 (r4 rfl) (fun a ha=>⟨I.same.free (hn' a ha),fun j z=>I.ne z (hn' a ha)⟩) (Xa.imp q'' (fun ρ' q σ' A' I'=>q σ' H1 A' I') fun _ _ z=>z)⟩
 | _=>exact q'.elim
variable {a:Expr}{rest:List Expr}{tc:TE}{fs:FE}{t:TA}
structure JN (X:Cx)(C:String->Addr)(Γ Δ Γ' Δ':List Nat)(es:List Expr)(n:Nat)(t:TGs)(f:List D->Xp->R Xp):Prop where
 q:QGs X es t
 o:BsN X.K C Γ Δ Γ' Δ' t f
 n:∀ds ρ ρ',f ds ρ=.ok ρ'->ds.length=n
theorem Xul (h1:∀i∈Γ',i∈Γ:=by decide)(h2:∀i∈Δ',i∈Δ:=by decide):JN X C Γ Δ Γ' Δ' [] 0 Xbh Dl.Zeo:=⟨Zkj,Xkk h1 h2,Zqs⟩
theorem Xaw (hN:X.N.Nodup)(hi:X.N[i]?=some x)(hx:Loc X.env.scope x)(h2:JN X C (i::Γ) (i::Δ) Γ' Δ' es n u fu)(hf:autoParam (X.fn x=true\/X.env.scope.names.lookup x=some .local) aT0._auto_1)
  (hs:(AR (.Name x p::es) X.env).map (·.2)=CM (.Name x p) X.env::(AR es X.env).map (·.2):=by rfl):JN X C Γ Δ Γ' Δ' (.Name x p::es) (n+1) (Zih (Yw i) u) (Dl.Xw (Dl.Zt i) fu):=⟨Zgj (Zie hN hi hx hf) h2.q hs,Xeo h2.o,Zjy h2.n⟩
theorem Zvh (hc:X.calm=true)(he:JE X C E Γ Δ 2 [] e te fe)(hb:JN X C Γ Δ Γ' Δ' es n u fu)(hn:(AR es X.env).length=n:=by rfl)(hst:(AR es X.env).findIdx? (·.1)=none:=by rfl)
  (hs:Ex [.Tuple es k p] e pos.line X.env=BD false:=by rfl) (hw:Ey [.Tuple es k p] e X.env=BD none:=by rfl) (h1:(AR [.Tuple es k p] X.env).map (·.2)=[CM (.Tuple es k p) X.env]:=by rfl) :
  JS X C E mr Γl Δl Γ Δ Γ' Δ' (.Assign [.Tuple es k p] e pos) (Zgl te (Zew X.K n u)) (Dl.Xom fe (Dl.Zet fu)):=⟨Zwr he.q (Zrl hc hb.q hn hst) hs hw h1,Ztz hb.n he.o hb.o⟩
theorem Zwy {i:Int}{u:Value}(hg:Gl X x)(hm:X.mg x=some u)(r:RelV (.int i) u)(hd:(x==("__debug__":Str))=false:=by decide):JE X C E Γ Δ 2 [] (.Name x pos) (tC (.int i)) (Dl.fC (.int i)):=⟨Xjw hg hm r hd,Xcf fun _=>rpI⟩
end
section
variable {S:List (Nat×Bool)}
def JOk (K:AO)(C:String->Addr)(E:XK)(Γ Δ:List Nat)(t:TJ)(f:FA):Prop:=∀(H0 Hb H:Hp) (σ:St) (ρ:Xp) (A:Nat->List Addr) (Q:Hp->Prop),Zq K C H0 Hb H Γ Δ σ ρ A->
 Xa (f ρ) (fun _=>∀H',Xf H H'->Q H') (fun c x=>∀H',Xf H H'->EC C E c x H')->t σ H Q
variable {t:TA}
end
section
variable {S:List (Nat×Bool)}{a:Expr}{rest:List Expr}{tc:TE}{fs:FE}{t:TA}{u:TS}{g:FS}
end
structure ClsIn (K:AO)(C:Addr):Prop where
 ty:IY K (.ref C)=some (.type "type")
 cl:∃c,clsIn K C=some c
 se:HA K (.ref C) (.ref C)=some true
theorem all_cons {P:α->Prop}{a:α}{l:List α}(h:P a)(hl:∀c∈l,P c):∀c∈a::l,P c:=fun c hc=>(Al.mp hc).elim (fun e=>by rw [e];exact h) fun hc=>hl c hc
section
variable {S:List (Nat×Bool)}
end
structure JJ (X:Cx)(C:String->Addr)(E:XK)(Γ Δ:List Nat)(es:List Expr)(t:TJ)(f:FA):Prop where
 q:QJ X es t
 o:JOk X.K C E Γ Δ t f
section
variable {S:List (Nat×Bool)}{a:Expr}{rest:List Expr}{tc:TE}{fs:FE}{t:TA}{s:Stmt}{u:TS}{g:FS}
end
section
variable {S:List (Nat×Bool)}
theorem Xli (ha:EOk K C E Γ Δ m S ta fa)(hl:OOk K C E Γ Δ tl fl)(hh:OOk K C E Γ Δ th fh):EOk K C E Γ Δ 2 [] (tSl (rSlT K) ta tl th) (Dl.fSl Dl.Zxb fa fl fh):=
  fun H0 Hb H σ ρ A Q I p=>ha H0 Hb H σ ρ A _ I (p.bind.imp (fun x q vx H1 g1 r1=>hl H0 Hb H1 σ ρ A _ (I.mono g1) (q.bind.imp (fun lo q H2 g2=>hh H0 Hb H2 σ ρ A _ (I.mono (g1.trans g2)) (q.bind.imp (fun hi q H3 g3=>by
    obtain ⟨d,e,q⟩:=Zei q;obtain ⟨B,r1,_⟩:=r1;have r1:=r1.same (g2.trans g3);have g13:=g1.trans (g2.trans g3);have out:Out K C H3 d Q:=fun v H' B g4 r h1 h2=>q v H' (g13.trans g4) (Res.new r h1 fun a ha=>g13.free (h2 a ha));unfold Dl.Zxb at e;split at e;split at e;rename_i hf;cases e;obtain ⟨a,ys,rfl,e2,e3⟩:=r1;refine ⟨a,ys,rfl,SqT.of e2,?_⟩;refine ⟨?_,fun p hp=>Out.tup out (e3.cut hf.1 _ _) hp⟩;rw [e3.len,<- Zix,<- Zix];exact hf.2;cases e
    · cases e) fun c x q H' g'=>q H' ((g1.trans g2).trans g'))) fun c x q H' g'=>q H' (g1.trans g'))) fun c x q H' g'=>q H' g')
variable {a:Expr}{rest:List Expr}{tc:TE}{fs:FE}{t:TA}
theorem Zrx (K:AO)(he:JE X C E Γ Δ m S e te fe)(hl:JO X C E Γ Δ lo tl fl)(hu:JO X C E Γ Δ hi th fh)(hK:X.K=K:=by rfl):JE X C E Γ Δ 2 [] (.Subscript e (.Slice lo hi none p2) pos) (tSl (rSlT K) te tl th) (Dl.fSl Dl.Zxb fe fl fh):=by subst hK;exact ⟨Zsr Xpc he.q hl.q hu.q,Xli he.o hl.o hu.o⟩
end
theorem Inv.turnTup {p:Addr}(I:Inv X pins σ H s)(k:∀b o,b∉ch->s.heap.get? b=some o->h'.get? b=some o)(hf:∀b∈ch,Zuo X pins H b)
  (hp:s.heap.objs.size<=p) (hz:xs.length<=Ap) (hv:Yk xs its) (ho:HM h' p its.toArray):Inv X pins σ (upd H p (.tup xs)) {s with heap:=h',toks:=t'}:=by
 have hn:H p=none:=I.hok.fresh hp;have nch:∀b u,H b=some u->b∉ch:=fun b u e z=>by rw [(hf b z).1] at e;cases e
 refine I.step (g':=s.gens) (d':=s.drawn) (ch:=ch) (fun b hb=>⟨(hf b hb).2.2.2.1,(hf b hb).2.1,(hf b hb).2.2.2.2.1,(hf b hb).2.2.2.2.2⟩) (fun b o _ _ hc e _=>k b o hc e) (fun b o _ _ hc e _=>⟨o.slots,k b o hc e⟩) (fun b o _ e n=>?_)
  (fun b o hc e=>⟨o,k b o hc e⟩) (fun b ys e=>by rw [Xc (Xm e hn)];exact e) (fun b o u e=>by rw [Xc (Xm e hn)];exact e) (fun b p n e=>by rw [Xc (Xm e hn)];exact e) (fun m hm=>?_) (fun b u e=>?_) I.bare
 rw [Xc];exact n;exact Bn (AC (AJ e) hp);obtain ⟨o,es,ep,ho,r⟩:=hm;exact ⟨o,es,ep,k _ o (fun z=>(hf _ z).2.1 rfl) ho,r⟩;by_cases hb:b=p;subst hb;rw [Xd] at e;cases e;exact ⟨hz,its,hv,ho⟩;rw [Xc hb] at e;refine (I.hok b u e).stay (fun c v hc q=>k c v ?_ q) (fun c q=>by rw [Xc (Xm q hn)];exact q) (fun c ys q=>by rw [Xc (Xm q hn)];exact q) fun c ob u q=>by rw [Xc (Xm q hn)];exact q
 rcases hc with z | z;rw [z];exact nch b u e;exact nch c _ z
theorem Inv.turneds (I:Inv X pins σ H s)(k:∀b o,b∉ch->s.heap.get? b=some o->h'.get? b=some o)(hf:∀b∈ch,Zuo X pins H b):Inv X pins σ H {s with heap:=h',toks:=t'}:=by
 have nch:∀b u,H b=some u->b∉ch:=fun b u e z=>by rw [(hf b z).1] at e;cases e
 refine I.step (g':=s.gens) (d':=s.drawn) (ch:=ch) (fun b hb=>⟨(hf b hb).2.2.2.1,(hf b hb).2.1,(hf b hb).2.2.2.2.1,(hf b hb).2.2.2.2.2⟩) (fun b o _ _ hc e _=>k b o hc e) (fun b o _ _ hc e _=>⟨o.slots,k b o hc e⟩) (fun _ _ _ _ n=>n)
  (fun b o hc e=>⟨o,k b o hc e⟩) (fun _ _ e=>e) (fun _ _ _ e=>e) (fun _ _ _ e=>e) (fun m hm=>?_) (fun b u e=>?_) I.bare
 obtain ⟨o,es,ep,ho,r⟩:=hm;exact ⟨o,es,ep,k _ o (fun z=>(hf _ z).2.1 rfl) ho,r⟩;refine (I.hok b u e).stay (fun c v hc q=>k c v ?_ q) (fun _ q=>q) (fun _ _ q=>q) fun _ _ _ q=>q;rcases hc with z | z;rw [z];exact nch b u e;exact nch c _ z
def Ite (K:AO)(a:Addr):It:=
  ⟨fun i H=>∃xs x,SqL K H a xs/\xs[i]?=some x,
   fun i H v H'=>∃p,v=.ref p/\H p=none/\∀xs,SqL K H a xs->∃x,xs[i]?=some x/\H'=upd H p (.tup [.int i,x]),
   fun i H=>∃xs,SqL K H a xs/\xs.length<=i⟩
theorem Zkz {x y:V}{u v:Value}(h1:RelV x u)(h2:RelV y v):Yk [x,y] [u,v]:=.cons h1 (.cons h2 .nil)
theorem Zwc {P:AQ}{e it:Addr}(hne:e≠it) :
    Turn P w K (.Tuple elts x1 pos) (Ite K a) [e,it] e (fun i h=>(∃old,IsEnum h e it i old)/\h.IsListIter it a i) where
  mem:=by simp
  obj:=fun i h st c hc=>by obtain ⟨⟨old,h1⟩,⟨o5,e5,_,d5⟩⟩:=st;simp only [Al,BY,or_false] at hc;rcases hc with rfl | rfl;exact ⟨_,h1,fun v z=>by cases z⟩;exact ⟨_,e5,fun v z=>by rw [d5] at z;cases z⟩
  keep:=fun i h h' st k=>by obtain ⟨⟨old,h1⟩,h5⟩:=st;exact ⟨⟨old,k e (by simp) _ h1⟩,h5.at fun o q=>k it (by simp) o q⟩
  item:=by
    intro X hP hw hK hc i pins s σ H E I hf st hg;subst hP hw hK;obtain ⟨xs,x,hq1,hx⟩:=hg;obtain ⟨⟨old,h1⟩,h4⟩:=st;obtain ⟨its1,rv1,p1,hz1⟩:=I.list hq1;obtain ⟨u,hu,ru⟩:=rv1.get hx;refine wpAny_pyNext_enum_item h1 h4 p1.isList (x:=u) (by simpa using hu) hne fun h' a1 a2 a3 a4 a5=>?_;refine ⟨_,rfl,wpAny_letOwnedTupleGo_enum a1 fun h'' b1 b2=>?_⟩;have hne1:s.heap.objs.size≠e:=fun q=>absurd (AJ h1) (by rw [<- q];exact Bb _);have ht:h''.get? s.heap.objs.size=some {cls:=.type "tuple",data:=.seq #[.int i s.toks,u]}:=b2.extBut _ _ hne1 a3;have I2:=I.turnTup (t':=s.toks+1) (h':=h'') (ch:=[e,it]) (p:=s.heap.objs.size) (xs:=[.int i,x]) (its:=[.int i s.toks,u]) (fun c o hc q=>by
        simp only [Al,BY,or_false,not_or] at hc;exact b2.extBut _ _ hc.1 (a5 c o hc.1 hc.2 q)) (fun c hc=>hf c hc) (As _) (by show 2<=Ap;decide) (Zkz ⟨_,rfl⟩ ru) ⟨_,ht,rfl,_,rfl⟩
    refine ⟨.ref s.heap.objs.size,_,I2,rfl,⟨_,rfl,I.hok.fresh (As _),fun xs' e1=>⟨x,by rw [I.list_inj e1 hq1];exact hx,rfl⟩⟩,⟨⟨_,b1⟩,a2.extBut b2.extBut hne.symm⟩,fun c hc=>?_⟩;rw [Xc];exact (hf c hc).1;rintro rfl;have:∃o,s.heap.get? s.heap.objs.size=some o:=by simp only [Al,BY,or_false] at hc;rcases hc with q | q;exact ⟨_,by rw [q];exact h1⟩;obtain ⟨o,q',_⟩:=h4;exact ⟨o,by rw [q];exact q'⟩
    obtain ⟨o,q⟩:=this;exact absurd (AJ q) (Bb _)
  done:=by
    intro X hP hw hK hc i pins s σ H E I hf st hg;subst hP hw hK;obtain ⟨xs,hq1,hl⟩:=hg;obtain ⟨⟨old,h1⟩,h4⟩:=st;obtain ⟨its1,rv1,p1,hz1⟩:=I.list hq1;have l1:=rv1.length;refine wpAny_pyNext_enum_end (I.ok.hd hc) h1 h4 p1.isList (by simp;omega) fun h' k=>⟨rfl,I.turneds (t':=s.toks) (ch:=[e,it]) (fun c o hc q=>by
        simp only [Al,BY,or_false,not_or] at hc;exact k c o hc.2 q) (fun c hc=>hf c hc)⟩
  self:=fun _ _ _ _ _ st h=>by obtain ⟨⟨old,h1⟩,_⟩:=st;exact J3 h1 h
section
variable {a:Expr}
def Xjj (K:AO)(ta:TE):TI:=fun σ H R=>Zbu ta Ztt σ H fun vs H1=>∃p,vs=[.ref p]/\(∃xs,SqL K H1 p xs)/\R (Ite K p) H1
theorem Xln (hg:Gl X "enumerate")(hm:X.mg "enumerate"=none)(ha:PE X a ta)(hs:Ad [a] X.env=(false,A9 a X.env)::Ad [] X.env)(hs3:Ad ([]:List Expr) X.env=[]:=by rfl) :
  PI X (.Tuple elts x1 tpos) (.Call (.Name "enumerate" p) [a] [] pos) (Xjj X.K ta):=by
 intro pins s σ H R I h;refine Call_ (Zgv I hg hm boot_enumerate (BR (thn (Zgr ha Zso hs pos pins s σ H _ I h) fun us s1 ⟨vs,H1,I1,r1,q1⟩=>?_) (by rw [hs]) (by rw [hs3];rfl)));obtain ⟨l1,rfl,⟨xs,hq1⟩,q⟩:=q1;obtain ⟨u,rfl,rx⟩:=vals1 r1;cases rx;obtain ⟨its1,rv1,p1,hz1⟩:=I1.list hq1;refine call_enumerate_list p1.isList fun h' z1 z4 z6 z7=>?_;refine J3 z1 ?_;have I2:Inv X pins σ H1 {s1 with heap:=h'}:=I1.kept (t':=s1.toks) z7;refine ⟨_,[s1.heap.objs.size+1,s1.heap.objs.size],_,_,H1,rfl,I2,Zwc (a:=l1) (Fc (FG _)),⟨⟨_,z1⟩,z4⟩,fun c hc=>?_,q⟩;have hc':s1.heap.objs.size<=c:=by simp only [Al,BY,or_false] at hc;rcases hc with rfl | rfl<;>first | exact As _ | exact Dj _ _
 exact I1.fpOk hc' (I1.hok.fresh hc')
end
section
variable {S:List (Nat×Bool)}
theorem RpA.two {e:D}{w:V}{A:List Addr}(r:Rp K C H d v A)(q:Rp K C H e w B):RpA K C H [d,e] [v,w] (A++B):=(RpA.one r).app (RpA.one q)
theorem Zwg (r:RpA K C Hc ds vs B)(h:∀H2,Xf Hc H2->SqL K H2 a vs):Goes K C (Ite K a) (Dl.Zkl ds) Hc:=fun H2 g=>by
 have q:=h H2 g;have hl:=r.len;have he:(Dl.Zkl ds).length=ds.length:=by simp [Dl.Zkl]
 refine ⟨fun i hi=>⟨vs,vs[i]'(by omega),q,Ag (by omega)⟩,fun i hi=>⟨vs,q,by omega⟩,fun i x H3 hi y=>?_⟩;obtain ⟨p,rfl,hp,y⟩:=y;obtain ⟨x,hx,rfl⟩:=y vs q;obtain ⟨d,Bd,q1,q2,q3⟩:=r.get' hx;have sm:=sameNew hp (.tup [.int i,x]);refine ⟨sm,.tup [.int i,d],Bd,by simp [Dl.Zkl,List.getElem?_mapIdx,q1],⟨p,[.int i,x],rfl,Xd,?_⟩,fun a ha z=>?_⟩;exact ⟨.int i,[x],[],Bd,rfl,⟨rfl,rfl⟩,RpA.one ((q2.same g).same sm),rfl⟩;obtain ⟨xs,e,_⟩:=q2.isl a ha;rw [e] at z;cases z
theorem Xfj {t:TE}{f:FE}(h:EOk K C E Γ Δ m S t f):IOk K C E Γ Δ S (Xjj K t) (Dl.Xlo f):=fun H0 Hb H σ ρ A Rr I p=>h H0 Hb H σ ρ A _ I (p.bind.imp (fun d q v H' g r=>by
  obtain ⟨B,r,r',_⟩:=r;cases d with
  | lst ds =>obtain ⟨a,xs,B',rfl,e2,e3,e4⟩:=r;subst e4;simp only at q;split at q;rename_i hl;refine ⟨a,rfl,⟨xs,SqL.of e2⟩,q _ H' (a::B') g (fun b hb=>?_) (by simpa [Dl.Zkl] using hl) fun Hc h1=>Zwg (e3.agree h1 fun b hb=>.tail _ hb) fun H2 g2=>SqL.of (g2 _ _ ((h1.1 a (.head _)).trans e2))⟩;rcases Al.mp hb with z | z;rw [z];exact ⟨⟨_,e2,.lst⟩,r' a (.head _)⟩;exact ⟨e3.isl b z,r' b (.tail _ z)⟩;exact q.elim
  | _=>exact q.elim) fun c x q H' g'=>q H' g')
variable {a:Expr}
theorem Xml (hg:Gl X "enumerate")(hm:X.mg "enumerate"=none)(ha:JE X C E Γ Δ m1 S1 a ta fa)(hs:Ad [a] X.env=(false,A9 a X.env)::Ad [] X.env) :
  JI X C E Γ Δ S1 (.Tuple elts x1 tpos) (.Call (.Name "enumerate" p) [a] [] pos) (Xjj X.K ta) (Dl.Xlo fa):=⟨⟨Xln hg hm ha.q.out hs⟩,Xfj ha.o⟩
theorem Xcu (he:EOk K C E Γ Δ m S te fe):SOk K C E mr Γl Δl Γ Δ Γ Δ (Zga te) (Dl.Zvb fe):=fun H0 Hb H σ ρ A D I p =>
 he H0 Hb H σ ρ A _ I (Xa.imp (Xa.bind p) (fun d q v H1 g1 r=>q σ H1 A (I.mono g1)) fun c x q H' g'=>q H' (Xf.from0 I g'))
variable {rest:List Expr}{tc:TE}{fs:FE}{t:TA}{bpos:Pos}
theorem Xmu (he:JE X C E Γ Δ m S e te fe)(hs:BO e none pos.line X.env=BD false:=by rfl):JS X C E mr Γl Δl Γ Δ Γ Δ (.Expr e pos) (Zga te) (Dl.Zvb fe):=⟨Zhw he.q hs,Xcu he.o⟩
end
section
variable {kp:Pos}
variable {S:List (Nat×Bool)}
end
section
variable {S:List (Nat×Bool)}{a:Expr}{rest:List Expr}{tc:TE}{fs:FE}{kp:Pos}
variable {u:TS}{g:FS}
variable {t:TA}{pt2:Pos}{k2:Nat}
end
section
variable {S:List (Nat×Bool)}
theorem Zq.dead {σ':St}(I:Zq K C H0 Hb H Γ Δ σ ρ A)(hσ:σ'.length=σ.length)(hk:∀k,k≠j->σ'[k]?=σ[k]?)(h1:j∉Γ)(h2:j∉Δ):Zq K C H0 Hb H Γ Δ σ' (ρ.set j DC) (fun k=>if k=j then [] else A k):=by refine ⟨I.s0,I.same,by rw [DA,hσ,I.len],fun k e h=>?_,fun k h=>?_,fun k hk a ha=>?_,fun k hk a l e=>?_,fun k hk=>?_⟩;rcases get_set h with ⟨e1,_,e2⟩ | ⟨e1,e2⟩;cases e2;obtain ⟨w,q1,q2⟩:=I.rep k e e2;exact ⟨w,(hk k e1).trans q1,by rw [if_neg e1];exact q2⟩;by_cases e:k=j;rw [if_pos e];rw [if_neg e];exact I.nil k fun x hx=>h x (by rw [BE (fun z=>e z.symm)];exact hx);have e:k≠j:=fun z=>h1 (by rw [<- z];exact hk);rw [if_neg e] at ha;exact I.loc k hk a ha;have e':k≠j:=fun z=>h1 (by rw [<- z];exact hk);rw [if_neg e'] at e;obtain ⟨t1,t2,t3⟩:=I.top k hk a l e;refine ⟨t1,t2,fun i hi=>?_⟩;by_cases ei:i=j;rw [if_pos ei];exact fun z=>nomatch z;rw [if_neg ei];exact t3 i hi;have e':k≠j:=fun z=>h2 (by rw [<- z];exact hk);simp only [if_neg e'];obtain ⟨t1,t2,t3⟩:=I.deep k hk;refine ⟨t1,fun i hi a ha=>?_,t3⟩;by_cases ei:i=j;rw [if_pos ei];exact fun z=>nomatch z;rw [if_neg ei];exact t2 i hi a ha
variable {a lx:Expr}{rest:List Expr}{tc tl:TE}{fs fl:FE}
variable {A:Bh}{E:Value->Af->Prop}
variable {t:TA}
end
theorem Zli (val:Nat->Int):∀k j,j<=k->val (C5 (fun i j=>decide (val i<val j)) k)<=val j
 | 0,j,h=>by
  have e:j=0:=by omega
  subst e;exact FQ _
 | k+1,j,h=>by have ih:=Zli val k;rw [C5];by_cases c:val (k+1)<val (C5 (fun i j=>decide (val i<val j)) k);rw [if_pos (by simpa using c)];by_cases e:j=k+1;subst e;exact FQ _;have:=ih j (by omega);omega;rw [if_neg (by simpa using c)];by_cases e:j=k+1;subst e;omega;exact ih j (by omega)
theorem Zlq (h:ns≠[]):Dl.Zve ns∈ns/\∀n∈ns,Dl.Zve ns<=n:=by
 cases ns with
 | nil=>exact absurd rfl h
 | cons x r =>
  show r.foldl min x∈_/\_;have key:∀(r:List Int) (x:Int),r.foldl min x∈x::r/\∀n∈x::r,r.foldl min x<=n:=by
   intro r
   induction r with
   | nil=>intro x;exact ⟨.head _,fun n hn=>by rw [Aj.mp hn];exact FQ _⟩
   | cons y r ih =>intro x;obtain ⟨h1,h2⟩:=ih (min x y);refine ⟨?_,fun n hn=>?_⟩;rcases Al.mp h1 with e | e;rw [DL,e];by_cases c:x<=y;rw [Int.min_eq_left c];exact .head _;rw [Int.min_eq_right (by omega)];exact .tail _ (.head _);exact .tail _ (.tail _ e);have h3:=h2 (min x y) (.head _);rw [DL];rcases Al.mp hn with rfl | hn;omega;rcases Al.mp hn with rfl | hn;omega;exact h2 n (.tail _ hn)
  exact key r x
open Dl (FM FMT)
section
variable {S:List (Nat×Bool)}
def spM (K:AO)(C:String->Addr)(n:Nat)(G:List D->R (D×D)):Sp:=fun vs H Q E=>∃d0 ds v0 vs' A0 B,vs=v0::vs'/\ds.length=n/\Rp K C H d0 v0 A0/\A0.Nodup/\RpA K C H ds vs' B/\(∀a∈B,a∉A0)/\
 Xa (G (d0::ds)) (fun p=>∀v H' A1 Br,(∀b o,b∉A0->H b=some o->H' b=some o)->Rp K C H' p.2 v0 A1->A1.Nodup->(∀a∈A1,a∈A0\/H a=none)->Rp K C H' p.1 v Br->Br.Nodup->(∀a∈Br,(a∈A0\/H a=none)/\a∉A1)->Q v H')
  (fun c x=>∀H',(∀b o,b∉A0->H b=some o->H' b=some o)->EC C E c x H')
theorem Zq.deepTo (I:Zq K C H0 Hb H Γ Δ σ ρ A)(hi:i∈Δ)(hl:i<ρ.length)(hs:σ[i]?=some (some v))
  (hk:∀c o,c∉A i->H c=some o->H' c=some o) (r:Rp K C H' d' v A') (nd:A'.Nodup) (hA:∀a∈A',a∈A i\/(Hb a=DC/\∀j,a∉A j)) :
  Zq K C H0 Hb H' Γ Δ σ (ρ.set i (some d')) (fun j=>if j=i then A' else A j):=by
 obtain ⟨d1,d2,d3⟩:=I.deep i hi;have hA2:∀a∈A',Hb a=DC/\∀j,j≠i->a∉A j:=fun a ha=>(hA a ha).elim (fun z=>⟨d3 a z,fun j hj=>d2 j hj a z⟩) fun z=>⟨z.1,fun j _=>z.2 j⟩;have ext:Ext (fun c=>c∈A i) H H':=fun c o h=>by by_cases e:c∈A i;obtain ⟨o',ho,hm⟩:=I.is e;rw [ho] at h;cases h;exact .inr ⟨e,hm⟩;exact .inl (hk c o e h)
 refine ⟨I.s0,fun c o h=>?_,by rw [DA,I.len],fun j e h=>?_,fun j h=>?_,fun j hj c hc=>?_,fun j hj c l' e=>?_,fun j hj=>?_⟩;exact hk c o (fun z=>by rw [d3 c z] at h;cases h) (I.same c o h);rcases get_set h with ⟨e1,_,e2⟩ | ⟨e1,e2⟩;subst e1;cases e2;exact ⟨v,hs,by rw [if_pos rfl];exact r⟩;obtain ⟨w,q1,q2⟩:=I.rep j e e2;refine ⟨w,q1,?_⟩;rw [if_neg e1];exact q2.ext ext fun c hc z=>d2 j e1 c z hc;by_cases e:j=i;subst e;exact absurd (Ci hl) (h d');rw [if_neg e];exact I.nil j fun x hx=>h x (by rw [BE (fun z=>e z.symm)];exact hx);by_cases e:j=i;subst e;rw [if_pos rfl] at hc;exact I.s0.free (hA2 c hc).1;rw [if_neg e] at hc;exact I.loc j hj c hc;by_cases e':j=i;subst e';rw [if_pos rfl] at e;subst e;refine ⟨(hA2 c (.head _)).1,(Ay.mp nd).1,fun k hk=>?_⟩;rw [if_neg hk];exact (hA2 c (.head _)).2 k hk;rw [if_neg e'] at e;obtain ⟨q1,q2,q3⟩:=I.top j hj c l' e;refine ⟨q1,q2,fun k hk=>?_⟩;by_cases e2:k=i;subst e2;rw [if_pos rfl];exact fun z=>(hA2 c z).2 j e' (by rw [e];exact .head _);rw [if_neg e2];exact q3 k hk;by_cases e:j=i;subst e;rw [if_pos rfl];refine ⟨nd,fun k hk a ha=>?_,fun a ha=>(hA2 a ha).1⟩;rw [if_neg hk];exact (hA2 a ha).2 k hk;rw [if_neg e];obtain ⟨q1,q2,q3⟩:=I.deep j hj;refine ⟨q1,fun k hk a ha=>?_,q3⟩;by_cases e2:k=i;subst e2;rw [if_pos rfl];exact fun z=>(hA2 a z).2 j e ha;rw [if_neg e2];exact q2 k hk a ha
def MOk (K:AO)(C:String->Addr)(E:XK)(Γ Δ:List Nat)(t:TE)(f:FM):Prop:=∀(H0 Hb H:Hp) (σ:St) (ρ:Xp) (A:Nat->List Addr) (Q:VK),Zq K C H0 Hb H Γ Δ σ ρ A->
 Xa (f ρ) (fun p=>∀v H' A' B,Zq K C H0 Hb H' Γ Δ σ p.2 A'->Rp K C H' p.1 v B->B.Nodup->(∀a∈B,Hb a=none/\∀j,a∉A' j)->Q v H') (fun c x=>∀H',Xf H0 H'->EC C E c x H')->t σ H Q
def MTOk (K:AO)(C:String->Addr)(E:XK)(Γ Δ:List Nat)(t:TT)(f:FMT):Prop:=∀(H0 Hb H:Hp) (σ:St) (ρ:Xp) (A:Nat->List Addr) (Q:Bool->Hp->Prop),Zq K C H0 Hb H Γ Δ σ ρ A->
 Xa (f ρ) (fun p=>∀H' A',Zq K C H0 Hb H' Γ Δ σ p.2 A'->Q p.1 H') (fun c x=>∀H',Xf H0 H'->EC C E c x H')->t σ H Q
theorem Zwj (h:MOk K C E Γ Δ te fm):SOk K C E mr Γl Δl Γ Δ Γ Δ (Zga te) (Dl.Znr fm):=fun H0 Hb H σ ρ A D I p =>
 h H0 Hb H σ ρ A _ I (Xa.imp (Xa.bind p) (fun q pq v H1 A1 B I1 r nd hB=>pq σ H1 A1 I1) fun c x q=>q)
def Znw (K:AO)(C:String->Addr)(E:XK)(Γ Δ Γ' Δ':List Nat)(t:TS)(f:FS):Prop:=∀(H0 Hb H:Hp) (σ:St) (ρ:Xp) (A:Nat->List Addr) (D:Ends),Zq K C H0 Hb H Γ Δ σ ρ A->
  Xa (f ρ) (fun fl=>match fl with
    | .nx ρ'=>∀σ' H' A',σ'[0]?=σ[0]?->Zq K C H0 Hb H' Γ' Δ' σ' ρ' A'->D.nx σ' H'
    | _=>False) (fun c x=>∀H',Xf H0 H'->EC C E c x H')->t D σ H
theorem Zym (he:EOk K C E Γ Δ 2 [] te fe)(h0:i≠0:=by decide)(h1:∀j∈Γ',j=i\/j∈Γ:=by decide)(h2:∀j∈Δ',j=i\/j∈Δ:=by decide):Znw K C E Γ Δ Γ' Δ' (Zgl te (Yw i)) (Dl.Xq i fe):=fun H0 Hb H σ ρ A D I p =>
  he H0 Hb H σ ρ A _ I (Xa.imp (Xa.bind p) (fun d q v H1 g1 r=>by
    obtain ⟨B,r1,r2,r3,r4⟩:=r;have hn:∀a∈B,H a=none:=fun a ha=>(r2 a ha).elim id fun z=>z.none.elim;have nd:=r4 rfl;obtain ⟨A',I',_⟩:=(I.mono g1).put (Γ':=Γ') (Δ':=Δ') (i:=i) r1 (fun j hj e=>⟨(h1 j hj).elim (fun z=>absurd z e) id,fun a l e' ha=>I.ne (j:=j) (by rw [e'];exact .head _) (hn a ha)⟩)
      (fun _=>⟨fun a ha=>I.s0.free (I.same.free (hn a ha)),fun a l e=>by subst e;exact ⟨I.same.free (hn a (.head _)),(Ay.mp nd).1,fun j _ h=>I.ne h (hn a (.head _))⟩⟩)
      (fun j hj e=>⟨(h2 j hj).elim (fun z=>absurd z e) id,fun a ha hB=>I.ne ha (hn a hB)⟩)
      (fun _=>⟨nd,fun j _ a ha h=>I.ne h (hn a ha),fun a ha=>I.same.free (hn a ha)⟩)
    exact q _ H1 A' (BE h0) I') fun c x q H' g'=>q H' (Xf.from0 I g'))
def MBOk (K:AO)(C:String->Addr)(E:XK)(Γ Δ:List Nat)(t:TS)(G:FM):Prop:=∀(H0 Hb H:Hp) (σ:St) (ρ:Xp) (A:Nat->List Addr) (D:Ends) (Q:VK),Zq K C H0 Hb H Γ Δ σ ρ A->D.rt=Q->(D.nx=fun _ H'=>Q .non H')->
 Xa (G ρ) (fun p=>∀v H' σ' A' B,σ'[0]?=σ[0]?->Zq K C H0 Hb H' [0] [0] σ' p.2 A'->Rp K C H' p.1 v B->B.Nodup->(∀a∈B,Hb a=none/\∀j,a∉A' j)->Q v H') (fun c x=>∀H',Xf H0 H'->EC C E c x H')->t D σ H
theorem Xps {t:TS}{g:FS}(h:Znw K C E Γ Δ Γ1 Δ1 t g)(h1:∀i∈[0],i∈Γ1:=by decide)(h2:∀i∈[0],i∈Δ1:=by decide):MBOk K C E Γ Δ t (Dl.Xni g):=fun H0 Hb H σ ρ A D Q I e1 e2 p =>
  h H0 Hb H σ ρ A _ I (Xa.imp (Xa.bind p) (fun fl q=>by
    cases fl with
    | nx ρ'=>exact fun σ' H' A' hσ I'=>by rw [e2];exact q .non H' σ' A' [] hσ (I'.weak h1 h2) ⟨rfl,rfl⟩ A6 (fun _ h=>nomatch h)
    | _=>exact q.elim) fun c x q=>q)
theorem Xbd (r:RpA K C H ds vs B):∃A:Nat->List Addr,(∀(i:Nat) d,ds[i]?=some d->∃v,vs[i]?=some v/\Rp K C H d v (A i))/\(∀i,ds.length<=i->A i=[])/\∀i,∀a∈A i,a∈B:=by
 induction ds generalizing vs B with
 | nil=>exact ⟨fun _=>[],fun i d h=>by simp at h,fun _ _=>rfl,fun _ _ h=>nomatch h⟩
 | cons d ds ih =>
  obtain ⟨x,l,B1,B2,e1,e2,e3,e4⟩:=r;obtain ⟨A,h1,h2,h3⟩:=ih e3;subst e1 e4;refine ⟨fun i=>match i with | 0=>B1 | i+1=>A i,fun i d' h=>?_,fun i h=>?_,fun i a ha=>?_⟩;cases i with
  | zero=>simp at h;subst h;exact ⟨x,rfl,e2⟩
  | succ i=>simp at h;obtain ⟨v,q1,q2⟩:=h1 i d' h;exact ⟨v,by simpa using q1,q2⟩
  cases i with
  | zero=>simp at h
  | succ i=>exact h2 i (by simpa using h)
  cases i with
  | zero=>exact AF _ ha
  | succ i=>exact Ar _ (h3 i a ha)
theorem Zug (r0:Rp K C H d0 v0 A0)(nd:A0.Nodup)(r:RpA K C H ds vs B)(hd:∀a∈B,a∉A0) :
  ∃A,Zq K C (fun b=>if b∈A0 then none else H b) (fun b=>if b∈A0 then none else H b) H [0] [0] ((v0::vs).map some++Ab (N - (v0::vs).length) none) ((d0::ds).map some++Ab (N - (d0::ds).length) none) A/\A 0=A0:=by
 obtain ⟨A,h1,h2,h3⟩:=Xbd r;have hl:=r.len;have hne:∀j,j≠0->∀a∈A0,a∉(match j with | 0=>A0 | i+1=>A i):=fun j hj a ha h=>by
  cases j with
  | zero=>exact hj rfl
  | succ j=>exact hd a (h3 j a h) ha
 have h0:∀a∈A0,(if a∈A0 then none else H a)=none:=fun a ha=>if_pos ha;refine ⟨fun i=>match i with | 0=>A0 | i+1=>A i,⟨Xf.refl _,fun b o h=>?_,by simp [hl],fun i d h=>?_,fun i h=>?_,fun i hi a ha=>?_,fun i hi a l e=>?_,fun i hi=>?_⟩,rfl⟩;have h:(if b∈A0 then none else H b)=some o:=h;split at h;cases h;exact h;cases i with
 | zero=>simp at h;subst h;exact ⟨v0,by simp,r0⟩
 | succ i =>by_cases hi:i<ds.length;rw [AD (by simpa using hi),AM,Dr] at h;obtain ⟨d',hd',e⟩:=Ax.mp h;cases e;obtain ⟨v,q1,q2⟩:=h1 i d hd';refine ⟨v,?_,q2⟩;rw [AD (by simp [hl,hi]),AM,Dr,q1];rfl;rw [Bj (by simpa using hi)] at h;have:=AW h;rw [DN] at this;exact absurd this.2 (by intro z;cases z)
 cases i with
 | zero=>exact absurd (by simp) (h d0)
 | succ i =>by_cases hi:i<ds.length;refine absurd ?_ (h ds[i]);rw [AD (by simpa using hi),AM,Dr,Ag hi];rfl;exact h2 i (by omega)
 rw [Aj.mp hi] at ha;exact h0 a ha;obtain rfl:=Aj.mp hi;have e:A0=a::l:=e;subst e;exact ⟨h0 a (.head _),(Ay.mp nd).1,fun j hj=>hne j hj a (.head _)⟩;obtain rfl:=Aj.mp hi;exact ⟨nd,hne,h0⟩
theorem Zzi {t:TS}{E':XK}(h:MBOk K C E [0] [0] t G)(r0:Rp K C H d0 v0 A0)(nd:A0.Nodup)(r:RpA K C H ds vs B)(hd:∀a∈B,a∉A0)
    (p:Xa (Dl.Xpr N G (d0::ds)) (fun p=>∀v H' A1 Br,(∀b o,b∉A0->H b=some o->H' b=some o)->Rp K C H' p.2 v0 A1->A1.Nodup->(∀a∈A1,a∈A0\/H a=none)->Rp K C H' p.1 v Br->Br.Nodup->(∀a∈Br,(a∈A0\/H a=none)/\a∉A1)->Q v H')
      (fun c x=>∀H',(∀b o,b∉A0->H b=some o->H' b=some o)->EC C E c x H')) :
    t {nx:=fun _ H'=>Q .non H',rt:=Q} ((v0::vs).map some++Ab (N - (v0::vs).length) none) H:=by
  obtain ⟨A,I,hA⟩:=Zug (N:=N) r0 nd r hd;have bk:∀{H'},Xf (fun b=>if b∈A0 then none else H b) H'->∀b o,b∉A0->H b=some o->H' b=some o:=fun g b o hb h=>g b o ((if_neg hb).trans h);have fr:∀{a},(if a∈A0 then none else H a)=none->a∈A0\/H a=none:=fun {a} h=>by split at h;exact .inl (by assumption);exact .inr h
  refine h _ _ H _ _ A _ Q I rfl rfl (Xa.imp (Xa.bind p) (fun q pq v H' σ' A' B' hσ I' rr ndr hB=>?_) fun c x q H' g=>q H' (bk g));split at pq;rename_i d e;obtain ⟨w,hw,rw'⟩:=I'.rep 0 d e;have hw2:some (some w)=some (some v0):=by rw [<- hw,hσ];simp
  cases hw2;obtain ⟨q1,q2,q3⟩:=I'.deep 0 (by simp);refine pq v H' (A' 0) B' (bk I'.same) rw' q1 (fun a ha=>fr (q3 a ha)) rr ndr fun a ha=>⟨fr (hB a ha).1,(hB a ha).2 0⟩;exact pq.elim
end
structure JM (X:Cx)(C:String->Addr)(E:XK)(Γ Δ:List Nat)(e:Expr)(t:TE)(f:FM):Prop where
 q:QE X e t
 o:MOk X.K C E Γ Δ t f
structure JMT (X:Cx)(C:String->Addr)(E:XK)(Γ Δ:List Nat)(e:Expr)(t:TT)(f:FMT):Prop where
 q:QT X e t
 o:MTOk X.K C E Γ Δ t f
structure JMW (X:Cx)(C:String->Addr)(E:XK)(Γ Δ:List Nat)(e:Expr)(t:TT)(f:FMT):Prop where
 q:QW X e t
 o:MTOk X.K C E Γ Δ t f
structure JP (X:Cx)(C:String->Addr)(E:XK)(Γ Δ Γ' Δ':List Nat)(s:Stmt)(t:TS)(f:FS):Prop where
 q:QS X s t
 o:Znw X.K C E Γ Δ Γ' Δ' t f
structure JMB (X:Cx)(C:String->Addr)(E:XK)(Γ Δ:List Nat)(s:List Stmt)(t:TS)(f:FM):Prop where
 q:QSs X s t
 o:MBOk X.K C E Γ Δ t f
structure MDef (P:AQ)(w:Bl)(K:AO)(mg:Str->Option Value)(base:Bq)(CX:CXT)(k:Nat)(C:Addr)(x:Str)(ps:List Str)(sp:Sp):Prop where
 ex:∃f fd,Meth K C x f/\Binds K fd ps []/\Zbe P w K mg base CX k f fd ps sp
structure MkDef (P:AQ)(w:Bl)(K:AO)(mg:Str->Option Value)(base:Bq)(CX:CXT)(k:Nat)(C:Addr)(ps:List Str)(sp:Sp):Prop where
 ex:∃f fd,Mk K C f/\Binds K fd ps []/\Zbe P w K mg base CX k f fd ps sp
section
variable {S:List (Nat×Bool)}{a:Expr}{rest:List Expr}{t:TA}{fa:FA}{c:String}{f md:Str}{s:Stmt}{tm:TE}{u:TS}{g:FS}
theorem Xbl (he:JM X C E Γ Δ e tm fm)(hs:BO e none pos.line X.env=BD false:=by rfl):JS X C E mr Γl Δl Γ Δ Γ Δ (.Expr e pos) (Zga tm) (Dl.Znr fm):=⟨Zhw he.q hs,Zwj he.o⟩
theorem Xqb (h:JP X C E Γ Δ Γ1 Δ1 s u g)(h1:∀i∈[0],i∈Γ1:=by decide)(h2:∀i∈[0],i∈Δ1:=by decide):JMB X C E Γ Δ [s] u (Dl.Xni g):=⟨Zka h.q,Xps h.o h1 h2⟩
theorem Xpu (hN:X.N.Nodup)(hi:X.N[i]?=some x)(hx:Loc X.env.scope x)(he:JE X C E Γ Δ 2 [] e te fe)(h0:i≠0:=by decide)(hs:BO e (some (.Name x p')) pos.line X.env=BD false:=by rfl)(hf:autoParam (X.fn x=true\/X.env.scope.names.lookup x=some .local) aT0._auto_1)
  (h1:∀j∈Γ',j=i\/j∈Γ:=by decide) (h2:∀j∈Δ',j=i\/j∈Δ:=by decide):JP X C E Γ Δ Γ' Δ' (.Assign [.Name x p'] e pos) (Zgl te (Yw i)) (Dl.Xq i fe):=⟨Znp hN hi hx he.q hs hf,Zym he.o h0 h1 h2⟩
end
theorem Fun.okM {P:AQ}{st:Stmt}{f:Addr}{N:List Str}(F:Fun K x qual st f fd)(S:Xe N ps (Zk st))(hn:ps.length=n+1)
    (hbody:∀(cdv:Value) (A:Bh) (outer:List Env) (s:Af) (H:Hp) (E:XK),Zfo k (A.deeper (Ei qual (Zk st) s.heap.objs.size f cdv))->
      ∃t,JMB (Xbk CX0 P w K mg base N qual (Zk st) f cdv A outer s H E).nox C E0 [0] [0] (Jj st) t G):Zbe P w K mg base CX0 (k+1) f fd ps (spM K C n fun ds=>(Dl.Xpr N.length G ds).calm):=
  F.okQ S (fun vs H Q E h=>by
    obtain ⟨d0,ds,v0,vs',A0,B,rfl,h1,_,_,h2,_⟩:=h;rw [Bt,h2.len,h1,hn]) fun cdv A outer s H vs Q E hr h=>by
    obtain ⟨d0,ds,v0,vs',A0,B,rfl,h1,r0,nd,r,hd,p⟩:=h;obtain ⟨t,ht⟩:=hbody cdv A outer s H E hr;exact ⟨t,ht.q,Zzi (K:=K) (E':=E) ht.o r0 nd r hd (Xa.imp (Zby p) (fun _ q=>q) fun _ _ z=>z.elim)⟩
section
variable {S:List (Nat×Bool)}
variable {a:Expr}{t:TA}
end
theorem allN0 (h:P []):∀us:List Value,us.length=0->P us
 | [],_=>h
theorem Xnh (h:∀a0,P [a0])(us:List Value)(hl:us.length=1):P us:=by
 cases us with
 | nil=>exact absurd hl (by decide)
 | cons a us=>exact allN0 (P:=fun z=>P (a::z)) (h a) us (BF hl)
theorem Zth (h:∀a0 a1,P [a0,a1])(us:List Value)(hl:us.length=2):P us:=by
 cases us with
 | nil=>exact absurd hl (by decide)
 | cons a us=>exact Xnh (P:=fun z=>P (a::z)) (h a) us (BF hl)
theorem Zey (h:∀a0 a1 a2,P [a0,a1,a2])(us:List Value)(hl:us.length=3):P us:=by
 cases us with
 | nil=>exact absurd hl (by decide)
 | cons a us=>exact Zth (P:=fun z=>P (a::z)) (h a) us (BF hl)
theorem Xug (h:∀a0 a1 a2 a3,P [a0,a1,a2,a3])(us:List Value)(hl:us.length=4):P us:=by
 cases us with
 | nil=>exact absurd hl (by decide)
 | cons a us=>exact Zey (P:=fun z=>P (a::z)) (h a) us (BF hl)
theorem Xbs (h:∀a0 a1 a2 a3 a4,P [a0,a1,a2,a3,a4])(us:List Value)(hl:us.length=5):P us:=by
 cases us with
 | nil=>exact absurd hl (by decide)
 | cons a us=>exact Xug (P:=fun z=>P (a::z)) (h a) us (BF hl)
theorem Xfo {K:Params->AO}{t:Nat}{r:PySem.W.RowW}{d:DefRec}{run:Value->List Value->Sem Value}
  (e:∀P,as=(K P).map (·.1)) (W:PySem.W.WalkO q loose XP (PySem.W.InK K) r d kwd run):PySem.W.WalkX q loose XP (PySem.W.X.obsZ as) (PySem.W.X.valZ K n t) r d kwd run:=
 fun w s₀ s₁ mg mb G y a o pm cd doc dV kV ho hd hcd hD hmg hg args vals as' L hpre hlay hrd hwl hlo =>
  W w s₀ s₁ mg mb G (PySem.W.InK.keeps w _ _ (PySem.W.X.z_facts e y).2.1 (PySem.W.Laid.keeps L)) a o pm cd doc dV kV ho hd hcd hD hmg hg args vals as' hpre hlay hrd hwl hlo
theorem Xaa:∀{ds:List D} {ns:List Int},Dl.intsOf ds=some ns->ds=ns.map D.int
 | [],ns,h=>by simp only [Dl.intsOf,DJ] at h;rw [<- h];rfl
 | d::ds,ns,h=>by
  cases d<;>simp only [Dl.intsOf] at h<;>try cases h
  obtain ⟨ms,h1,h2⟩:=Ax.mp h;rw [Xaa h1,<- h2];rfl
theorem RpA.noInts {H:Hp}:∀{ns:List Int} {vs:List V} {A:List Addr},RpA K C H (ns.map D.int) vs A->vs=ns.map V.int/\A=[]
 | [],_,_,r=>r
 | n::ns,_,_,r=>by obtain ⟨x,l,B,B',e1,e2,e3,e4⟩:=r;obtain ⟨h1,h2⟩:=RpA.noInts e3;rw [e1,e2.1,h1,e4,e2.2,h2];exact ⟨rfl,rfl⟩
section
variable {t:TA}{p3:Pos}
end
def Xsj (K:AO)(C:Addr)(bmB:List Value)(newId:String)(fI:Addr):Bool:=match K.lookup C with
  | some ⟨.type "type",_,.cls cd,sl⟩=>(match cd.mro,sl.toList with
    | .ref C'::bm,[_,_,_,_,some (.builtin n),_]=>C'==C&&n==newId&&!cd.hasDel&&cd.hasDict&&PySem.W.tailIn K bmB bm&&PySem.W.nsOkIn K cd.ns&&Cy K cd.ns "__init__"==some (some (.ref fI))
    | _,_=>false)
  | _=>false
section
variable {A:Bh}{E:Value->Af->Prop}{g:Array Hf}{d:Drawn}{t:Nat}
variable {q:Str}{C N:Addr}{bs:List Value}{B:String}
end
end L2
namespace L2
open PySem PySem.Spec PyProof.Rows
open PySem.W (Looks)
open Builtin Builtin.ObjectAttr
variable {prog:AQ}{w:Bl}{A:Bh}{E:Value->Af->Prop}{h:Bq}{g:Array Hf}{d:Drawn}{os:Kf}{sn:List Str}{sub:List Value}{ab:Bool}{col:Option Bool}{dd:Option Addr}
section
variable {t:Nat}
variable {nm q:Str}{C N x:Addr}{bs bm bmB:List Value}{k0 k1 k2 k3 k5:Option Value}{B newId sa owner:String}
 {name:Str} {v:Value} {fs:Array Value} {sl:Array (Option Value)}
end
end L2
namespace L2
open PySem PySem.Spec PyProof.Rows
open PySem.W (Looks)
variable {prog P:AQ}{w:Bl}{A:Bh}{E:XK}{h base:Bq}{g:Array Hf}{d:Drawn}{os:Kf}{C:String->Addr}{hdct ab:Bool}{sn:List Str}{sub:List Value}{col:Option Bool}{dd:Option Addr}{o e a b c kx:Expr}{vs:Array Value}{mA mg:Str->Option Value}{v:V}{name x:Str}{X:Cx}{pins:List (Addr×Obj)}{σ:St}{H:Hp}{s:Af}{es:List Expr}{ta te tb tk:TE}{pos pos' apos np cpos p p2:Pos}{B:List Addr}{K:AO}{Γ Δ Γ' Δ' Γl Δl Γk Δk Γ1 Δ1:List Nat}{m mr i m1 m2 m3 n:Nat}{fe fa fb fk:FE}{y:D}{S1 S2 S3:List (Nat×Bool)}{ret suite:List Stmt}{k:List (Int ⊕ Str)}{hs:List DO}{zs:List Clz}{ds:List (List (String×Bool)×Option Nat×FS)}{b₀:Stmt}{ρ:Dl.Env}{ks:List (List (Int ⊕ Str))}
section
variable {E:Value->Af->Prop}{t:Nat}
variable {nm q:Str}{C N x:Addr}{bs bm bmB:List Value}{k0 k1 k2 k3 k5:Option Value}{B newId initId:String}
end
section
variable {E:Value->Af->Prop}{t:Nat}{a C dx:Addr}{o:Obj}{v:Value}
end
open Dl (D R FE FT FA FO FS FI FB Fl)
structure ErrF (K:AO)(C:Addr)(nm:Str)(fI:Addr):Prop where
 exc:Xsj K C bmV "ValueError.__new__" fI=true
 sa:DX K (.ref C) "__setattr__"=some (some (.builtin "object.__setattr__"))
 nf:DX K (.ref C) nm=some none
 hd:PySem.W.hasDictIn K C=true
def exA (e C:Addr)(dx:Option Addr):HO:=.ext fun h=>∃t sl,h.get? e=some {cls:=.ref C,dict:=dx,data:=.fields #[.ref t,.none,.none,.none,.bool false,.none],slots:=sl}
structure BaseI (K:AO)(B:Addr):Prop where
 sp:HB K (.ref B) "__getattribute__"=some (some (.builtin "type.__getattribute__"))
 rd:PySem.W.readsIn K B (.type "type")=true
 fc:PySem.W.findCls K (.ref B) (.type "type") "__init__"=some (.val (.builtin "ValueError.__init__"))
section
variable {value:Expr}{t:TA}{tv:TE}{b f:Str}{B:Addr}
end
def Xtz (K:AO)(nm:Str):Sp:=fun vs H Q _=>∃e C i fI,vs=[.ref e,.int i]/\H e=some (exA e C none)/\ErrF K C nm fI/\i.natAbs.log2<1920/\∀d,H d=none->Q .non (upd (upd H d (.xd [(nm,.int i)])) e (exA e C (some d)))
section
structure IDef (P:AQ)(w:Bl)(K:AO)(mg:Str->Option Value)(base:Bq)(C:Addr)(nm:Str):Prop where
 ex:∃fI fd ps,ErrF K C nm fI/\IY K (.ref fI)=some (.type "function")/\ps.length=2/\Binds K fd ps []/\Zbe P w K mg base CX0 1 fI fd ps (Xtz K nm)
variable {S:List (Nat×Bool)}
variable {S:List (Nat×Bool)}
end
def Xdf (i j:Int):Prop:=i.natAbs<2 ^ 4000/\j.natAbs<2 ^ 4000
theorem Xdf.ok {i j:Int}(h:Xdf i j):IntMulOk i j:=PySem.IntMulOk.of_le (PySem.intBits_le_iff.mpr h.1) (PySem.intBits_le_iff.mpr h.2) (by decide)
def ipM:TIp:=fun x y H Q=>∃i j,x=.int i/\y=.int j/\Xdf i j/\Q (.int (i*j)) H
theorem Xls:PIp X .Mult ipM:=by intro pins s σ H x y v u Q I r1 r2 h;obtain ⟨i,j,e1,e2,hc,q⟩:=h;subst e1;subst e2;obtain ⟨t,rfl⟩:=r1;obtain ⟨t',rfl⟩:=r2;exact imul_int ⟨.int _,H,I.tok _,⟨_,rfl⟩,q⟩ hc.ok
theorem Xio {x d:D}(e:Dl.Zue x y=some d):∃i j,x=.int i/\y=.int j/\Xdf i j/\d=.int (i*j):=by unfold Dl.Zue at e;split at e;split at e;rename_i h;cases e;exact ⟨_,_,rfl,rfl,h,rfl⟩;cases e;cases e
section
variable {S:List (Nat×Bool)}
theorem Xgn (he:EOk K C E Γ Δ m S te fe)(h1:∀j∈Γ',j=i\/j∈Γ:=by decide)(h2:∀j∈Δ',j=i\/j∈Δ:=by decide) :
  SOk K C E mr Γl Δl Γ Δ Γ' Δ' (tAug i te ipM) (Dl.Xiv i Dl.Zue fe):=fun H0 Hb H σ ρ A D I p=>by
 unfold Dl.Xiv at p;split at p;rename_i x e;obtain ⟨v,e1,r⟩:=I.rep i x e;refine ⟨v,e1,he H0 Hb H σ ρ A _ I (Xa.imp (Xa.bind p) (fun y q w H1 g1 r1=>?_) fun c x q H' g'=>q H' (Xf.from0 I g'))⟩;obtain ⟨z,ez,q⟩:=Zei (Xa.bind q);obtain ⟨B,r1,_⟩:=r1;obtain ⟨k,l,rfl,rfl,hc,rfl⟩:=Xio ez;obtain ⟨rfl,_⟩:=r;obtain ⟨rfl,_⟩:=r1;obtain ⟨A',I',_⟩:=(I.mono g1).put (Γ':=Γ') (Δ':=Δ') (i:=i) (d:=.int (k*l)) (v:=.int (k*l)) (B:=[]) rpI (fun j hj e=>⟨(h1 j hj).elim (fun z=>absurd z e) id,fun _ _ _ z=>nomatch z⟩)
  (fun _=>⟨(fun _ z=>nomatch z),(fun _ _ z=>nomatch z)⟩) (fun j hj e=>⟨(h2 j hj).elim (fun z=>absurd z e) id,fun _ _ z=>nomatch z⟩) (fun _=>⟨A6,(fun _ _ _ z=>nomatch z),(fun _ z=>nomatch z)⟩)
 exact ⟨k,l,rfl,rfl,hc,q _ H1 A' I'⟩;exact p.elim
theorem Xiu (hN:X.N.Nodup)(hi:X.N[i]?=some x)(hx:Loc X.env.scope x)(he:JE X C E Γ Δ m S e te fe)
  (hf:autoParam (X.fn x=true\/X.env.scope.names.lookup x=some .local) aT0._auto_1) (h1:∀j∈Γ',j=i\/j∈Γ:=by decide) (h2:∀j∈Δ',j=i\/j∈Δ:=by decide):JS X C E mr Γl Δl Γ Δ Γ' Δ' (.AugAssign (.Name x pos') .Mult e pos) (tAug i te ipM) (Dl.Xiv i Dl.Zue fe):=⟨Xsh hN hi hx he.q Xls hf,Xgn he.o h1 h2⟩
variable {iter:Expr}{u:TS}{g:FS}{ip:Pos}{k:Nat}
end
structure Clz where
 c:Value
 i:Option Nat
 th:TS
inductive PClz (X:Cx):List DO->List Clz->Prop
 | nil:PClz X [] []
 | named {c n:Str} {np hpos:Pos} {C:Addr} {b₀:Stmt} {suite:List Stmt} {i:Nat} {th:TS} {hs:List DO} {zs:List Clz} (hm:X.mg c=some (.ref C)) (hg:Gl X c) (hdb:(c==("__debug__":Str))=false) (hi:X.N[i]?=some n) (hl:X.env.scope.names.lookup n=some .local)
   (hh:∀e:Addr,PSs (X.hand e) (b₀::suite) th) (hr:PClz X hs zs):PClz X (.ExceptHandler (some (.Name c np)) (some n) (b₀::suite) hpos::hs) (⟨.ref C,some i,th⟩::zs)
 | plain {c:Str} {np hpos:Pos} {C:Addr} {b₀:Stmt} {suite:List Stmt} {th:TS} {hs:List DO} {zs:List Clz} (hm:X.mg c=some (.ref C)) (hg:Gl X c) (hdb:(c==("__debug__":Str))=false)
   (hh:∀e:Addr,PSs (X.hand e) (b₀::suite) th) (hr:PClz X hs zs):PClz X (.ExceptHandler (some (.Name c np)) none (b₀::suite) hpos::hs) (⟨.ref C,none,th⟩::zs)
inductive OClz (K:AO)(C:String->Addr)(N mr:Nat)(Γl Δl Γ1 Δ1:List Nat):List Clz->List (List (String×Bool)×Option Nat×FS)->Prop
 | nil:OClz K C N mr Γl Δl Γ1 Δ1 [] []
 | named {c:Addr} {i:Nat} {th:TS} {fh:FS} {tb:List (String×Bool)} {Γ2 Δ2:List Nat} {Eh:XK} {zs:List Clz} {ds:List (List (String×Bool)×Option Nat×FS)} (ht:∀p∈tb,exmOne K (.ref (C p.1)) (.ref c)=some p.2) (hi:i<N) (hh:SOk K C Eh mr [] [] [] [] Γ2 Δ2 th fh)
   (hr:OClz K C N mr Γl Δl Γ1 Δ1 zs ds):OClz K C N mr Γl Δl Γ1 Δ1 (⟨.ref c,some i,th⟩::zs) ((tb,some i,fh)::ds)
 | plain {c:Addr} {th:TS} {fh:FS} {tb:List (String×Bool)} {Eh:XK} {zs:List Clz} {ds:List (List (String×Bool)×Option Nat×FS)} (ht:∀p∈tb,exmOne K (.ref (C p.1)) (.ref c)=some p.2) (hh:SOk K C Eh mr Γl Δl [] [] Γ1 Δ1 th fh)
   (hr:OClz K C N mr Γl Δl Γ1 Δ1 zs ds):OClz K C N mr Γl Δl Γ1 Δ1 (⟨.ref c,none,th⟩::zs) ((tb,none,fh)::ds)
inductive JClz (X:Cx)(C:String->Addr)(mr:Nat)(Γl Δl Γ1 Δ1:List Nat):List DO->List Clz->List (List (String×Bool)×Option Nat×FS)->Prop
 | mk {hs:List DO} {zs:List Clz} {ds:List (List (String×Bool)×Option Nat×FS)} (p:PClz X hs zs) (o:OClz X.K C X.N.length mr Γl Δl Γ1 Δ1 zs ds):JClz X C mr Γl Δl Γ1 Δ1 hs zs ds
section
variable {hpos:Pos}{th:TS}{fh:FS}
end
def rDin:R2:=fun x y H Q=>∃a o,y=.ref a/\Znx H a x o/\Q (.bl o.isSome) H
theorem Xuf (hu:X.A.units+64<BC):OpR X (BU .In) rDin:=by intro pins s σ H x y v u Q I rx ry h;obtain ⟨a,o,rfl,g,q⟩:=h;cases (show u=AG a from ry);exact d_in (by omega) I g rx fun s3 I3=>⟨.bl o.isSome,H,I3,rfl,q⟩
def Zxh:V->V->V->Hp->(Hp->Prop)->Prop:=fun o i v H Q=>∃a H4,o=.ref a/\Xos H a i v H4/\Q H4
theorem set_dict (hu:X.A.units+64<BC):PSet X Zxh:=by intro pins s σ H o i v ov iv u Q I ro ri rv h;obtain ⟨a,H4,rfl,g,q⟩:=h;cases (show ov=AG a from ro);exact Xan (by omega) I g ri rv fun s4 I4=>⟨H4,I4,q⟩
section
variable {S:List (Nat×Bool)}
theorem Xkp {x:D}{k:Int ⊕ Str}(e:Dl.keyD x=some k)(r:Rp K C H x v B):v=kV k:=by
 cases x with
 | int i=>cases e;exact r.1
 | str z=>cases e;exact r.1
 | _=>cases e
theorem RpA.snoc0 {d:D}{v:V}(r:Rp K C H d v []):∀{ds:List D} {xs:List V},RpA K C H ds xs []->RpA K C H (ds++[d]) (xs++[v]) []
 | [],xs,q=>by rw [q.1];exact ⟨v,[],[],[],rfl,r,RpA.nil,rfl⟩
 | x::ds,xs,q=>by obtain ⟨y,l,B,B',e1,e2,e3,e4⟩:=q;obtain ⟨rfl,rfl⟩:=Et.mp e4.symm;subst e1;exact ⟨y,_,[],[],rfl,e2,RpA.snoc0 r e3,rfl⟩
variable {tg:Expr}
abbrev TX:=Str->St->Hp->VK->Prop
def PX (X:Cx)(es:List Expr)(t:TX):Prop:=
 ∀(out:Str) (pins:List (Addr×Obj)) (s:Af) (σ:St) (H:Hp) (Q:VK),Inv X pins σ H s->out.length+2000*es.length<=Ap->t out σ H Q->
  Am (Aw X.prog X.w) X.A (joinParts out (evalEach es X.env)) (EP X pins σ Q) X.xe s
def XOk (K:AO)(C:String->Addr)(E:XK)(Γ Δ:List Nat)(t:TX)(f:FA):Prop:=∀(H0 Hb H:Hp) (σ:St) (ρ:Dl.Env) (A:Nat->List Addr) (Q:VK) (out:Str),C2 out=true->Zq K C H0 Hb H Γ Δ σ ρ A->
 Xa ((f ρ).bind fun xs=>Dl.oR (Dl.catO out xs)) (fun d=>∀v H',Xf H H'->Res K C 2 [] H A d v H'->Q v H') (fun c x=>∀H',Xf H H'->EC C E c x H')->t out σ H Q
end
structure JX (X:Cx)(C:String->Addr)(E:XK)(Γ Δ:List Nat)(es:List Expr)(t:TX)(f:FA):Prop where
 q:PX X es t
 o:XOk X.K C E Γ Δ t f
section
variable {S:List (Nat×Bool)}{tx:TX}{f:FA}
theorem Zqr:∀{ds:List D} {k:List (Int ⊕ Str)} {vs:List V} {B:List Addr},Dl.Ztm ds=some k->RpA K C H ds vs B->vs=k.map kV
 | [],k,vs,B,e,r=>by cases e;exact r.1
 | d::ds,k,vs,B,e,r=>by obtain ⟨j,e1,e⟩:=AX.mp (show ((Dl.keyD d).bind fun k=>(Dl.Ztm ds).bind fun ks=>some (k::ks))=some k from e);obtain ⟨js,e2,e⟩:=AX.mp e;cases e;obtain ⟨x,l,B1,B2,rfl,h1,h2,_⟩:=r;rw [Xkp e1 h1,Zqr e2 h2];rfl
theorem Zcf (e:Dl.Zny y=some k)(r:Rp K C H y v B):∃b,v=.ref b/\H b=some (.tup (k.map kV)):=by
 cases y with
 | tup ds =>obtain ⟨a,xs,rfl,h1,h2⟩:=r;refine ⟨a,rfl,?_⟩;rw [h1,Zqr e h2]
 | _=>cases e
theorem Zcs {k:List (Int ⊕ Str)}:∀{ks:List (List (Int ⊕ Str))} {xs:List V},ks.length=xs.length->((ks.zip xs).any fun kv=>decide (kv.1=k))=Dl.Zwp ks k
 | [],_,_=>rfl
 | j::ks,[],h=>by cases h
 | j::ks,x::xs,h=>by have:=Zcs (k:=k) (ks:=ks) (xs:=xs) (by simpa using h);unfold Dl.Zwp at *;rw [Ca,Gd,Gd,this]
theorem Zyp {k:List (Int ⊕ Str)}:∀{ks:List (List (Int ⊕ Str))} {ds:List D} {xs:List V},RpA K C H ds xs []->Dl.Zu ds=true->match Dl.tAt ks ds k with
  | some d=>∃v,Znz (ks.zip xs) k=some v/\Rp K C H d v []/\Dl.flat d=true
  | none=>Znz (ks.zip xs) k=none
 | [],ds,xs,_,_=>by cases ds<;>rfl
 | j::ks,[],xs,q,_=>by rw [q.1];rfl
 | j::ks,x::ds,xs,q,h=>by obtain ⟨y,l,B,B',e1,e2,e3,e4⟩:=q;simp only [Dl.Zu,AY] at h;subst e1;have z:=e2.flat h.1;subst z;rw [Dl.tAt];by_cases e:j=k;rw [if_pos e];exact ⟨y,Zef e,e2,h.1⟩;rw [if_neg e,Ca,Zds e];exact Zyp (e3.flat' h.2) h.2
theorem Xdd:EOk K C E Γ Δ 2 [] Zvs (Dl.fC (.dtt [] [])):=fun H0 Hb H σ ρ A Q I p q hp=>by
 refine p _ _ (sameNew hp _) ⟨[q],⟨q,[],[],rfl,Xd,rfl,RpA.nil,rfl⟩,fun a ha=>?_,fun z=>by omega,fun _=>Ay.mpr ⟨(fun z=>nomatch z),A6⟩⟩;have:a=q:=by simpa using ha
 subst this;exact .inl hp
theorem Zkr {k:List (Int ⊕ Str)}{v:V}:∀{ks:List (List (Int ⊕ Str))} {xs:List V},ks.length=xs.length->(ks.zip xs).map (fun kv=>if kv.1=k then (kv.1,v) else kv)=ks.zip (A3 (fun j x=>if j=k then v else x) ks xs)
 | [],_,_=>rfl
 | j::ks,[],h=>by cases h
 | j::ks,x::xs,h=>by have:=Zkr (k:=k) (v:=v) (ks:=ks) (xs:=xs) (by simpa using h);rw [Ca,AV,this,Dw,Ca];congr 1;by_cases e:j=k;simp [e];simp [e]
theorem RpA.replT {k:List (Int ⊕ Str)}{d:D}{v:V}(r:Rp K C H d v []):∀{ks:List (List (Int ⊕ Str))} {ds:List D} {xs:List V},RpA K C H ds xs []->Dl.Zu ds=true->RpA K C H (A3 (fun j x=>if j=k then d else x) ks ds) (A3 (fun j x=>if j=k then v else x) ks xs) []
 | [],ds,xs,_,_=>by cases ds<;>cases xs<;>exact RpA.nil
 | j::ks,[],xs,q,_=>by rw [q.1];exact RpA.nil
 | j::ks,x::ds,xs,q,h=>by obtain ⟨y,l,B,B',e1,e2,e3,e4⟩:=q;simp only [Dl.Zu,AY] at h;subst e1;have z:=e2.flat h.1;subst z;refine ⟨_,_,[],[],rfl,?_,RpA.replT r (e3.flat' h.2) h.2,rfl⟩;show Rp K C H (if j=k then d else x) (if j=k then v else y) [];by_cases e:j=k;rw [if_pos e,if_pos e];exact r;rw [if_neg e,if_neg e];exact e2
theorem Zgi {H0 Hb:Hp}{A:Nat->List Addr}{ds:List D}(I:Zq K C H0 Hb H Γ Δ σ ρ A)(e:ρ[i]?=some (some (.dtt ks ds))):∃a xs l,σ[i]?=some (some (.ref a))/\H a=some (.dT (ks.zip xs))/\ks.length=ds.length/\RpA K C H ds xs l/\A i=a::l/\i<ρ.length:=by obtain ⟨v,h1,h2⟩:=I.rep i _ e;obtain ⟨a,xs,B,rfl,h3,h4,h5,h6⟩:=h2;exact ⟨a,xs,B,h1,h3,h4,h5,h6,(Ai.mp e).1⟩
theorem Xfs (hi:i∈Γ:=by decide)(he:EOk K C E Γ Δ m1 S1 te fe)(hk:EOk K C E Γ Δ m2 S2 tk fk):SOk K C E mr Γl Δl Γ Δ Γ Δ (Zgl te (Zeu (Zge i) tk Zxh)) (Dl.Zin i fk fe):=fun H0 Hb H σ ρ A D I p=>by
 refine he H0 Hb H σ ρ A _ I (Xa.imp (Xa.bind p) (fun d q v H1 g1 r=>?_) fun c x q H' g'=>q H' (Xf.from0 I g'));have I1:=I.mono g1;split at q;rename_i ks ds e;obtain ⟨a,xs,l,s1,h1,h2,r1,hA,hl⟩:=Zgi I1 e;refine ⟨.ref a,s1,hk H0 Hb H1 σ ρ A _ I1 (Xa.imp (Xa.bind q) (fun z q w H2 g2 rz=>?_) fun c x q H' g'=>q H' (Xf.from0 I1 g'))⟩;obtain ⟨Bz,rz,_⟩:=rz;obtain ⟨B,rd,_⟩:=r;split at q;rename_i k hk;split at q;rename_i hf;obtain ⟨b,rfl,hb⟩:=Zcf hk rz;have zB:=rd.flat hf.1;subst zB;have hx:ks.length=xs.length:=by rw [h2,r1.len]
 have r2:=(r1.same g2).flat' hf.2.1;have rd2:=rd.same g2;have I2:=I1.mono g2;refine ⟨a,_,rfl,Xos.t (g2 _ _ h1) hb (Cz (by rw [ER];exact EB _ _) (Zcu hf.2.2)),?_⟩;unfold Dl.Xol at q;unfold putK;rw [Zcs hx];split at q;rename_i hh;rw [if_pos hh,Zkr hx];obtain ⟨A',I'⟩:=I2.writeO (Γ':=Γ) (Δ':=Δ) (o':=.dT (ks.zip (A3 (fun j x=>if j=k then v else x) ks xs))) (d':=.dtt ks (A3 (fun j x=>if j=k then d else x) ks ds)) hi hA hl s1 (fun H' q1 q2=>⟨a,_,_,rfl,q1,by rw [Cb,h2,GU],q2,rfl⟩) (RpA.replT rd2 r2 hf.2.1) (fun _ z=>nomatch z) (fun z=>nomatch z) (fun j hj _=>⟨hj,fun _ _ _ z=>nomatch z⟩) (fun j hj _=>⟨hj,fun _ _ z=>nomatch z⟩) (fun _=>⟨A6,(fun _ _ _ z=>nomatch z),(fun _ z=>nomatch z)⟩);exact q _ _ A' I';rename_i hh;rw [if_neg hh,show ks.zip xs++[(k,v)]=(ks++[k]).zip (xs++[v]) by rw [FL hx];rfl];obtain ⟨A',I'⟩:=I2.writeO (Γ':=Γ) (Δ':=Δ) (o':=.dT ((ks++[k]).zip (xs++[v]))) (d':=.dtt (ks++[k]) (ds++[d])) hi hA hl s1 (fun H' q1 q2=>⟨a,_,_,rfl,q1,by simp [h2],q2,rfl⟩) (RpA.snoc0 rd2 r2) (fun _ z=>nomatch z) (fun z=>nomatch z) (fun j hj _=>⟨hj,fun _ _ _ z=>nomatch z⟩) (fun j hj _=>⟨hj,fun _ _ z=>nomatch z⟩) (fun _=>⟨A6,(fun _ _ _ z=>nomatch z),(fun _ z=>nomatch z)⟩);exact q _ _ A' I';exact q.elim;exact q.elim;exact q.elim
theorem Xlc {td ty:TE}{fd fy:FE}(hd:EOk K C E Γ Δ m1 S1 td fd)(hy:EOk K C E Γ Δ m2 S2 ty fy):EOk K C E Γ Δ 2 [] (Zyw td ty) (Dl.f2 Dl.Xop fd fy):=
  fun H0 Hb H σ ρ A Q I p=>hd H0 Hb H σ ρ A _ I (p.bind.imp (fun d q vd H1 g1 r1=>hy H0 Hb H1 σ ρ A _ (I.mono g1) (q.bind.imp (fun y q vy H2 g2 r2=>by
    obtain ⟨z,e,q2⟩:=Zei q;obtain ⟨Bd,r1,_⟩:=r1;obtain ⟨By,r2,_⟩:=r2;cases d with
    | dtt ks ds =>have e:(if Dl.Zu ds then (Dl.Zny y).bind fun k=>Dl.tAt ks ds k else none)=some z:=e;split at e;rename_i hf;obtain ⟨k,hk,e⟩:=AX.mp e;obtain ⟨a,xs,B,rfl,h1,h2,h3,_⟩:=r1;obtain ⟨b,rfl,hb⟩:=Zcf hk r2;have hv:=Zyp (ks:=ks) (k:=k) ((h3.same g2).flat' hf) hf;rw [e] at hv;obtain ⟨v,v1,v2,_⟩:=hv;refine ⟨a,v,rfl,?_,q2 v H2 (g1.trans g2) (Res.flat v2)⟩;rw [<- v1];exact Znx.t (g2 _ _ h1) hb;cases e
    | _=>cases e) fun c x q H' g'=>q H' (g1.trans g'))) fun c x q H' g'=>q H' g')
variable {tc:TE}{fc:FE}
theorem Zwd:JE X C E Γ Δ 2 [] (.Dict [] [] pos) Zvs (Dl.fC (.dtt [] [])):=⟨⟨Xbw⟩,Xdd⟩
theorem Xui (ha:JE X C E Γ Δ m1 S1 a ta fa)(hb:JE X C E Γ Δ m2 S2 b tb fb)(hu:X.A.units+64<BC)(hs:NoSl b:=by intro _ _;rfl):JE X C E Γ Δ 2 [] (.Subscript a b pos) (Zyw ta tb) (Dl.f2 Dl.Xop fa fb):=⟨⟨Xbb (by omega) ha.q.out hb.q.out hs⟩,Xlc ha.o hb.o⟩
theorem Zoz (hi:i∈Γ:=by decide)(hN:X.N[i]?=some x:=by rfl)(hv:autoParam (Vis X.env.scope x) aT3._auto_1)(hd:(x==("__debug__":Str))=false:=by decide)(hcd:(x==("__classdict__":Str))=false:=by decide)
    (he:JE X C E Γ Δ m1 S1 e te fe) (hk:JE X C E Γ Δ m2 S2 kx tk fk) (hs:Ex [.Subscript (.Name x p) kx p2] e pos.line X.env=BD false:=by rfl) (hw:Ey [.Subscript (.Name x p) kx p2] e X.env=BD none:=by rfl) (h1:(AR [.Subscript (.Name x p) kx p2] X.env).map (·.2)=[CM (.Subscript (.Name x p) kx p2) X.env]:=by rfl)
    (hq:∀v,CM (.Subscript (.Name x p) kx p2) X.env v=(do
      let ov <- Cs [v] (A9 (.Name x p) X.env)
      let iv <- Cs [v,ov] (A9 kx X.env)
      EO p2
      Cs [v,ov,iv] (GO ov iv v)
      J7 [v,ov,iv] []):=by intro _;rfl) (hu:X.A.units+64<BC) :
    JS X C E mr Γl Δl Γ Δ Γ Δ (.Assign [.Subscript (.Name x p) kx p2] e pos) (Zgl te (Zeu (Zge i) tk Zxh)) (Dl.Zin i fk fe):=⟨Zwr he.q (Xid (qv i hN hv hd hcd) hk.q (set_dict hu) hq) hs hw h1,Xfs hi he.o hk.o⟩
end
end L2
namespace L2
open PySem PyProof.Rows
variable {prog:AQ}{w:Bl}{A:Bh}{E:Value->Af->Prop}{s:Af}{κ:Fe}{P:AI->Prop}{r:AI->AI->Bool}{lat:AI->AI->Prop}{st st' st1:CO}{x y d0:AI}{Q:Option Bool->CO->Prop}{arr a b a':Array AI}{i n j lo nrem i' j' k l:Nat}{α:Type}{c:Prop}{g g':Nat->AI}{a0 Z:List AI}{Rs:List (List AI)}
structure Ask (prog:AQ)(w:Bl)(A:Bh)(s:Af)(κ:Fe)(P:AI->Prop)(r:AI->AI->Bool)(lat:AI->AI->Prop:=fun _ _=>True):Prop where
 run:∀{x y:AI} {Q:Bool->Af->Prop} {E:Value->Af->Prop},P x->P y->lat x y->Q (r x y) s->Am (Aw prog w) A (keyLt' κ x.1 y.1) Q E s
 tr:∀{x y z:AI},P x->P y->P z->r y x=false->r z y=false->r z x=false
 as:∀{x y:AI},P x->P y->r x y=true->r y x=false
theorem Xsa (K:Ask prog w A s κ P r lat)(hk:CA st=κ)(hx:P x)(hy:P y)(h:Q (some (r x y)) st)(hl:lat x y:=by trivial):wpS (Aw prog w) A E s (lt' x y) Q st:=by rw [lt'_eq];refine A8 (GN ?_);rw [hk];exact A8 (K3 (Du (K.run hx hy hl ⟨rfl,BB h⟩)))
theorem Zse {Q:AI->CO->Prop}(e:arr[i]?=some x)(h:Q x st):wpS (Aw prog w) A E s (elem' arr i) Q st:=by rw [elem'_eq,e];exact BB h
section
def Up (r:AI->AI->Bool)(l:List AI):Prop:=l.Pairwise fun x y=>r y x=false
structure MI (r:AI->AI->Bool)(a b out:List AI)(ia ib:Nat):Prop where
 pm:out.Perm (a.take ia++b.take ib)
 so:Up r out
 le:∀x∈out,∀y,(y∈a.drop ia\/y∈b.drop ib)->r y x=false
variable {a b out:List AI}{ia ib:Nat}
structure MJ (r:AI->AI->Bool)(a b out:List AI)(na nb:Nat):Prop where
 pm:out.Perm (a.drop na++b.drop nb)
 so:Up r out
 le:∀x∈out,∀y,(y∈a.take na\/y∈b.take nb)->r x y=false
end
structure SG (st st':CO):Prop where
 k:CA st'=CA st
 a:AA st'=AA st
 p:CY st'=CY st
 f:DH st'=DH st
theorem Ask.ir (K:Ask prog w A s κ P r lat)(hx:P x):r x x=false:=by
 cases e:r x x with
 | false=>rfl
 | true=>rw [K.as hx hx e] at e;cases e
theorem Zbm [Decidable c]{x y:StateT CO Sem α}{Q:α->CO->Prop}(h1:c->wpS (Aw prog w) A E s x Q st)(h2:¬c->wpS (Aw prog w) A E s y Q st):wpS (Aw prog w) A E s (if c then x else y) Q st:=by by_cases h:c;rw [if_pos h];exact h1 h;rw [if_neg h];exact h2 h
theorem nbeq {m:Nat}(h:¬(m==n)=true):m≠n:=fun z=>h (by rw [z];exact beq_self_eq_true _)
theorem Xcd (K:Ask prog w A s κ P r)(hk:CA st=κ)(hi:(AA st)[i]?=some x)(hj:(AA st)[j]?=some y)(hx:P x)(hy:P y)(h:Q (some (r x y)) st):wpS (Aw prog w) A E s (ltAt' i j) Q st:=by rw [ltAt'_eq];exact A8 (GN (A8 (Zse hi (A8 (Zse hj (Xsa K hk hx hy h))))))
structure SC (κ:Fe)(lo:Nat)(st st':CO):Prop where
 k:CA st'=κ
 f:DH st'=none
 p:CY st'=CY st
 m:(AA st').Perm (AA st)
 o:∀i,i<lo->(AA st')[i]?=(AA st)[i]?
theorem SC.size {lo:Nat}{st st':CO}(c:SC κ lo st st'):(AA st').size=(AA st).size:=c.m.size_eq
theorem SC.put (c:SC κ lo st st')(hm:a.Perm (AA st'))(ho:∀i,i<lo->a[i]?=(AA st')[i]?):SC κ lo st (IZ st' a):=⟨c.k,c.f,c.p,hm.trans c.m,fun i hi=>(ho i hi).trans (c.o i hi)⟩
def gx (d0:AI)(lo:Nat)(a:Array AI)(i:Nat):AI:=(a[lo+i]?).getD d0
theorem Xif (h:lo+i<a.size):a[lo+i]?=some (gx d0 lo a i):=by unfold gx;rw [C6 h];rfl
theorem Zea (h:a[lo+i]?=b[lo+j]?):gx d0 lo a i=gx d0 lo b j:=by unfold gx;rw [h]
theorem Zvd (hP:∀x∈(AA st).toList,P x)(c:SC κ lo st st')(hn:lo+nrem<=(AA st).size)(hi:i<nrem):P (gx d0 lo (AA st') i):=by have e:=Xif (d0:=d0) (a:=AA st') (lo:=lo) (i:=i) (by rw [c.size];omega);have hm:gx d0 lo (AA st') i∈(AA st').toList:=AW (by rw [DW];exact e);exact hP _ (c.m.toList.mem_iff.mp hm)
theorem Zmx (K:Ask prog w A s κ P r)(hP:∀x∈(AA st).toList,P x)(hn:lo+nrem<=(AA st).size)(c:SC κ lo st st')(hi:i<nrem)(hj:j<nrem)(ei:i'=lo+i)(ej:j'=lo+j)(h:Q (some (r (gx d0 lo (AA st') i) (gx d0 lo (AA st') j))) st'):wpS (Aw prog w) A E s (ltAt' i' j') Q st':=by subst ei ej;exact Xcd K c.k (Xif (by rw [c.size];omega)) (Xif (by rw [c.size];omega)) (Zvd hP c hn hi) (Zvd hP c hn hj) h
theorem Zwx (hj:lo+j<=a.size)(k:Nat):gx d0 lo (Gn a (lo+i) (lo+j) ((lo+j - (lo+i)) / 2)) k=if i<=k/\k<j then gx d0 lo a (i+j - 1 - k) else gx d0 lo a k:=by have e:=IJ (i:=lo+i) hj (lo+k);by_cases c:i<=k/\k<j;rw [if_pos c];rw [if_pos (by omega)] at e;exact Zea (e.trans (by congr 1;omega));rw [if_neg c];rw [if_neg (by omega)] at e;exact Zea e
theorem Zwv (hj:lo+j<=a.size)(k:Nat)(hk:k<lo):(Gn a (lo+i) (lo+j) ((lo+j - (lo+i)) / 2))[k]?=a[k]?:=by rw [IJ (i:=lo+i) hj k,if_neg (by omega)]
def Zoa (r:AI->AI->Bool)(g:Nat->AI)(n:Nat):Prop:=∀i j,i<=j->j<n->r (g j) (g i)=false
def Zig (r:AI->AI->Bool)(g:Nat->AI)(n:Nat):Prop:=∀i j,i<=j->j<n->r (g i) (g j)=false
def Eqv (r:AI->AI->Bool)(x y:AI):Prop:=r x y=false/\r y x=false
theorem Zoa.snoc (K:Ask prog w A s κ P r)(hp:∀i,i<n+1->P (g i))(h1:1<=n)(h:Zoa r g n)(q:r (g n) (g (n - 1))=false):Zoa r g (n+1):=fun i j hij hj=>by
 by_cases e:j<n;exact h i j hij e;have ej:j=n:=by omega
 subst ej;by_cases ei:i=j;subst ei;exact K.ir (hp i hj);exact K.tr (hp i (by omega)) (hp (j - 1) (by omega)) (hp j hj) (h i (j - 1) (by omega) (by omega)) q
theorem Zig.snoc (K:Ask prog w A s κ P r)(hp:∀i,i<n+1->P (g i))(h1:1<=n)(h:Zig r g n)(q:r (g (n - 1)) (g n)=false):Zig r g (n+1):=fun i j hij hj=>by
 by_cases e:j<n;exact h i j hij e;have ej:j=n:=by omega
 subst ej;by_cases ei:i=j;subst ei;exact K.ir (hp i hj);exact K.tr (hp j hj) (hp (j - 1) (by omega)) (hp i (by omega)) q (h i (j - 1) (by omega) (by omega))
theorem Zig.eqv (K:Ask prog w A s κ P r)(hp:∀i,i<n->P (g i))(hp':∀i,i<n->P (g' i))(h:Zig r g n)(q:∀i,i<n->Eqv r (g' i) (g i)):Zig r g' n:=fun i j hij hj =>
 K.tr (hp' j hj) (hp j hj) (hp' i (by omega)) (q j hj).2 (K.tr (hp j hj) (hp i (by omega)) (hp' i (by omega)) (h i j hij hj) (q i (by omega)).1)
theorem Xau (K:Ask prog w A s κ P r)(hP:∀x∈(AA st).toList,P x)(hn:lo+nrem<=(AA st).size)(c:SC κ lo st st'){a:Nat}(ha:1<=a)(han:a<=nrem)(hs:Zoa r (gx d0 lo (AA st')) a)
  {f:Nat->Option (Option Nat)×Nat->StateT CO Sem (ForInStep (Option (Option Nat)×Nat))} {Q:Option (Option Nat)×Nat->CO->Prop}
  (hf:∀x n (Q':ForInStep (Option (Option Nat)×Nat)->CO->Prop),wpS (Aw prog w) A E s (ltAt' (lo+n) (lo+n - 1)) (fun b st''=>st''=st'/\∃b',b=some b'/\(b'=true->Q' (.done (none,n)) st')/\(b'=false->Q' (.yield (none,n+1)) st')) st'->wpS (Aw prog w) A E s (f x (none,n)) Q' st')
  (h:∀n,a<=n->n<=nrem->Zoa r (gx d0 lo (AA st')) n->(n=nrem\/r (gx d0 lo (AA st') n) (gx d0 lo (AA st') (n - 1))=true)->Q (none,n) st') :
  wpS (Aw prog w) A E s (forIn [a:nrem] ((none,a):Option (Option Nat)×Nat) f) Q st':=by
 refine D5 (I:=fun x c st''=>st''=st'/\c=(none,x)/\Zoa r (gx d0 lo (AA st')) x) ?step ?fin ⟨rfl,rfl,hs⟩
 case fin =>rintro c st'' ⟨rfl,rfl,hs'⟩;rw [show max a nrem=nrem by omega] at hs' ⊢;exact h nrem han (As _) hs' (.inl rfl)
 case step =>
  rintro x c st'' hax hxn ⟨rfl,rfl,hs'⟩;have hp:∀i,i<x+1->P (gx d0 lo (AA st'') i):=fun i hi=>Zvd hP c hn (by omega);refine hf x x _ (Zmx (d0:=d0) K hP hn c (i:=x) (j:=x - 1) (by omega) (by omega) rfl (by omega) ⟨rfl,_,rfl,fun e=>?_,fun e=>?_⟩)
  ·exact h x hax (by omega) hs' (.inr e)
  ·exact ⟨rfl,rfl,Zoa.snoc K hp (by omega) hs' e⟩
theorem Eqv.same (K:Ask prog w A s κ P r)(hx:P x):Eqv r x x:=⟨K.ir hx,K.ir hx⟩
theorem Eqv.via (K:Ask prog w A s κ P r){z:AI}(hx:P x)(hy:P y)(hz:P z)(h1:Eqv r x y)(h2:Eqv r z y):Eqv r x z:=⟨K.tr hz hy hx h2.2 h1.1,K.tr hx hy hz h1.2 h2.1⟩
theorem Zig.mir (K:Ask prog w A s κ P r)(hP:∀x∈(AA st).toList,P x)(hn:lo+nrem<=(AA st).size)(c:SC κ lo st st')(hj:j<=n)(hnn:n<=nrem)(h:Zig r (gx d0 lo (AA st')) n)(he:∀k,i<=k->k<j->Eqv r (gx d0 lo (AA st') k) (gx d0 lo (AA st') (j - 1)))
  (ea:a'=Gn (AA st') (lo+i) (lo+j) ((lo+j - (lo+i)) / 2)):SC κ lo st (IZ st' a')/\Zig r (gx d0 lo a') n:=by
 subst ea;have hsz:lo+j<=(AA st').size:=by rw [c.size];omega
 have c':SC κ lo st (IZ st' (Gn (AA st') (lo+i) (lo+j) ((lo+j - (lo+i)) / 2))):=c.put (mirror_perm _ _ _ _) (fun k hk=>Zwv hsz k hk);have hp:∀k,k<n->P (gx d0 lo (AA st') k):=fun k hk=>Zvd hP c hn (by omega);refine ⟨c',Zig.eqv K hp (fun k hk=>Zvd (d0:=d0) hP c' hn (by omega)) h fun k hk=>?_⟩;rw [Zwx hsz];split;rename_i q;exact Eqv.via K (hp _ (by omega)) (hp (j - 1) (by omega)) (hp k hk) (he _ (by omega) (by omega)) (he k q.1 q.2);exact Eqv.same K (hp k hk)
theorem Zjr {Q:Unit->CO->Prop}(ei:i'=lo+i)(ej:j'=lo+j)(h:Q () (IZ st' (Gn (AA st') (lo+i) (lo+j) ((lo+j - (lo+i)) / 2)))):wpS (Aw prog w) A E s (reverseSlice' i' j') Q st':=by subst ei ej;exact wpS_reverse h
theorem Zxm {Q:Option Nat->CO->Prop}(d0:AI)(K:Ask prog w A s κ P r)(hP:∀x∈(AA st).toList,P x)(hk:CA st=κ)(hf:DH st=none)(hn:lo+nrem<=(AA st).size)(h1:1<=nrem)
    (h:∀m st',SC κ lo st st'->1<=m->m<=nrem->Zoa r (gx d0 lo (AA st')) m->Q (some m) st'):wpS (Aw prog w) A E s (countRun' lo nrem) Q st:=by
  have c0:SC κ lo st st:=⟨hk,hf,rfl,Ll _,fun _ _=>rfl⟩;refine A8 (Xau (d0:=d0) K hP hn c0 (As 1) h1 (fun i j hij hj=>by rw [show i=0 by omega,show j=0 by omega];exact K.ir (Zvd hP c0 hn (by omega))) (fun x n Q' q=>?_) fun n n1 n2 n3 n4=>?_)
  · refine A8 (E8 q ?_);rintro b st'' ⟨rfl,b',rfl,q1,q2⟩;dsimp only;cases b' with
    | true =>rw [if_pos rfl];exact BB (q1 rfl)
    | false =>rw [if_neg Au];exact BB (q2 rfl)
  refine Zbm (fun c1=>?_) (fun c1=>?_)
  · exact BB (h n st c0 n1 n2 n3)
  have c1':n≠nrem:=nbeq c1;have n4':r (gx d0 lo (AA st) n) (gx d0 lo (AA st) (n - 1))=true:=n4.resolve_left c1';have hp0:∀i,i<nrem->P (gx d0 lo (AA st) i):=fun i hi=>Zvd hP c0 hn hi;have n5:r (gx d0 lo (AA st) (n - 1)) (gx d0 lo (AA st) n)=false:=K.as (hp0 _ (by omega)) (hp0 _ (by omega)) n4'
  extract_lets -underBinder jp
  have hd:∀st1,SC κ lo st st1->Zig r (gx d0 lo (AA st1)) (n+1)->wpS (Aw prog w) A E s (jp ()) Q st1:=fun st1 sc1 dn1=>by
    refine A8 (K3 (EN ⟨rfl,?_⟩));refine A8 (E8 (D5 (I:=fun x c st2=>∃q,c=(none,x,q)/\SC κ lo st st2/\Zig r (gx d0 lo (AA st2)) x/\q+1<=x/\∀i,x - (q+1)<=i->i<x->Eqv r (gx d0 lo (AA st2) i) (gx d0 lo (AA st2) (x - 1)))
      (Q:=fun c st2=>∃m q,c=(none,m,q)/\n+1<=m/\m<=nrem/\SC κ lo st st2/\Zig r (gx d0 lo (AA st2)) m/\q+1<=m/\∀i,m - (q+1)<=i->i<m->Eqv r (gx d0 lo (AA st2) i) (gx d0 lo (AA st2) (m - 1))) ?step ?fin
      ⟨0,rfl,sc1,dn1,by omega,fun i i1 i2=>by rw [show i=n+1 - 1 by omega];exact Eqv.same K (Zvd hP sc1 hn (by omega))⟩) ?post)
    case fin =>rintro c st2 ⟨q,rfl,sc,dn,hq,he⟩;rw [show max (n+1) nrem=nrem by omega] at dn hq he ⊢;exact ⟨nrem,q,rfl,by omega,As _,sc,dn,hq,he⟩
    case step =>
      rintro x c st2 hx1 hx2 ⟨q,rfl,sc,dn,hq,he⟩;have hp:∀i,i<nrem->P (gx d0 lo (AA st2) i):=fun i hi=>Zvd hP sc hn hi;refine A8 (Zmx (d0:=d0) K hP hn sc (i:=x) (j:=x - 1) hx2 (by omega) rfl (by show lo+x - 1=_;omega) ?_);cases e:r (gx d0 lo (AA st2) x) (gx d0 lo (AA st2) (x - 1)) with
      | true =>
        have dn':=Zig.snoc K (fun i hi=>hp i (by omega)) (by omega) dn (K.as (hp x hx2) (hp (x - 1) (by omega)) e);refine Zbm (fun _=>?_) (fun z=>absurd rfl z);refine Zbm (fun q0=>?_) (fun q0=>?_)
        · obtain ⟨c2,d2⟩:=Zig.mir K hP hn sc (i:=x - (q+1)) (j:=x) (n:=x+1) (by omega) hx2 dn' he rfl;refine A8 (Zjr (i:=x - (q+1)) (j:=x) (by show lo+x - (q+1)=_;omega) rfl ?_);exact BB ⟨0,rfl,c2,d2,by omega,fun i i1 i2=>by rw [show i=x+1 - 1 by omega];exact Eqv.same K (Zvd hP c2 hn hx2)⟩
        · exact BB ⟨0,rfl,sc,dn',by omega,fun i i1 i2=>by rw [show i=x+1 - 1 by omega];exact Eqv.same K (hp x hx2)⟩
      | false =>
        refine Zbm (fun z=>absurd z Au) (fun _=>?_);refine A8 (Zmx (d0:=d0) K hP hn sc (i:=x - 1) (j:=x) (by omega) hx2 (by show lo+x - 1=_;omega) rfl ?_);cases e2:r (gx d0 lo (AA st2) (x - 1)) (gx d0 lo (AA st2) x) with
        | true =>refine Zbm (fun _=>?_) (fun z=>absurd rfl z);exact BB ⟨x,q,rfl,hx1,by omega,sc,dn,hq,he⟩
        | false =>
          refine Zbm (fun z=>absurd z Au) (fun _=>?_);refine BB ⟨q+1,rfl,sc,Zig.snoc K (fun i hi=>hp i (by omega)) (by omega) dn e2,by omega,fun i i1 i2=>?_⟩;rw [show x+1 - 1=x by omega];by_cases ix:i=x
          · rw [ix];exact Eqv.same K (hp x hx2)
          · exact Eqv.via K (hp i (by omega)) (hp (x - 1) (by omega)) (hp x hx2) (he i (by omega) (by omega)) ⟨e,e2⟩
    case post =>
      rintro c st2 ⟨m,q,rfl,m1,m2,sc,dn,hq,he⟩;dsimp -zeta -zetaHave only
      extract_lets -underBinder u1 u2 u3 u4
      dsimp -zeta -zetaHave only [u1]
      extract_lets -underBinder jp4
      have hd3:∀st3,SC κ lo st st3->Zig r (gx d0 lo (AA st3)) m->wpS (Aw prog w) A E s (jp4 ()) Q st3:=fun st3 sc3 dn3=>by
        refine A8 (Zjr (lo:=lo) (i:=0) (j:=m) rfl rfl ?_);have hsz:lo+m<=(AA st3).size:=by rw [sc3.size];omega
        have c4:SC κ lo st (IZ st3 (Gn (AA st3) (lo+0) (lo+m) ((lo+m - (lo+0)) / 2))):=sc3.put (mirror_perm _ _ _ _) (fun k hk=>Zwv hsz k hk);refine A8 (Xau (d0:=d0) K hP hn c4 (by omega) m2 (fun i j hij hj=>?_) (fun x n Q' q=>?_) fun n g1 g2 g3 _=>BB (h n _ c4 (by omega) g2 g3))
        · show r (gx d0 lo (Gn (AA st3) (lo+0) (lo+m) ((lo+m - (lo+0)) / 2)) j) (gx d0 lo (Gn (AA st3) (lo+0) (lo+m) ((lo+m - (lo+0)) / 2)) i)=false;rw [Zwx hsz,Zwx hsz,if_pos (by omega),if_pos (by omega)];exact dn3 _ _ (by omega) (by omega)
        · refine A8 (E8 q ?_);rintro b st'' ⟨rfl,b',rfl,q1,q2⟩;dsimp only;cases b' with
          | true =>rw [if_pos rfl];exact BB (q1 rfl)
          | false =>rw [if_neg Au];exact BB (q2 rfl)
      refine Zbm (fun q0=>?_) (fun q0=>?_)
      · obtain ⟨c2,d2⟩:=Zig.mir K hP hn sc (i:=m - (q+1)) (j:=m) (n:=m) (As _) m2 dn he rfl;refine A8 (Zjr (i:=m - (q+1)) (j:=m) (by show lo+m - (q+1)=_;omega) rfl ?_);exact hd3 _ c2 d2
      · exact hd3 _ sc dn
  refine Zbm (fun c2=>?_) (fun c2=>?_)
  · refine A8 (Zmx (d0:=d0) K hP hn c0 (i:=0) (j:=n - 1) (by omega) (by omega) rfl (by show lo+n - 1=_;omega) ?_);cases e:r (gx d0 lo (AA st) 0) (gx d0 lo (AA st) (n - 1)) with
    | true =>refine Zbm (fun _=>?_) (fun z=>absurd rfl z);exact BB (h n st c0 n1 n2 n3)
    | false =>
      refine Zbm (fun z=>absurd z Au) (fun _=>?_);have all:∀k,k<n->Eqv r (gx d0 lo (AA st) k) (gx d0 lo (AA st) (n - 1)):=fun k hk =>
        ⟨K.tr (hp0 (n - 1) (by omega)) (hp0 0 (by omega)) (hp0 k (by omega)) e (n3 0 k (D4 _) hk),n3 k (n - 1) (by omega) (by omega)⟩
      have dn:Zig r (gx d0 lo (AA st)) n:=fun i j hij hj=>(Eqv.via K (hp0 i (by omega)) (hp0 (n - 1) (by omega)) (hp0 j (by omega)) (all i (by omega)) (all j hj)).1;obtain ⟨c3,d3⟩:=Zig.mir K hP hn c0 (i:=0) (j:=n) (n:=n+1) (by omega) (by omega) (Zig.snoc K (fun i hi=>hp0 i (by omega)) n1 dn n5) (fun k _ hk=>all k hk) rfl;refine A8 (Zjr (lo:=lo) (i:=0) (j:=n) rfl rfl ?_);exact hd _ c3 d3
  · have e1:n=1:=by omega
    subst e1;refine hd _ c0 (Zig.snoc K (fun i hi=>hp0 i (by omega)) (As 1) (fun i j hij hj=>?_) n5);rw [show i=0 by omega,show j=0 by omega];exact K.ir (hp0 0 (by omega))
theorem Xhj (hk:lo+k<a.size)(hl:l<=k)(i:Nat):gx d0 lo (bubble a (lo+k) (lo+k - (lo+l))) i=if i=l then gx d0 lo a k else if l<i/\i<=k then gx d0 lo a (i - 1) else gx d0 lo a i:=by have e:=KE hk (lo+k - (lo+l)) (by omega) (lo+i);rw [show lo+k - (lo+k - (lo+l))=lo+l by omega] at e;by_cases c:i=l;rw [if_pos c];rw [if_pos (by omega)] at e;exact Zea e;rw [if_neg c];rw [if_neg (by omega)] at e;by_cases c2:l<i/\i<=k;rw [if_pos c2];rw [if_pos (by omega)] at e;exact Zea (e.trans (by congr 1;omega));rw [if_neg c2];rw [if_neg (by omega)] at e;exact Zea e
theorem Xlp (hk:lo+k<a.size)(hl:l<=k)(i:Nat)(hi:i<lo):(bubble a (lo+k) (lo+k - (lo+l)))[i]?=a[i]?:=by rw [KE hk (lo+k - (lo+l)) (by omega) i,if_neg (by omega),if_neg (by omega)]
theorem Xoa {Q:Bool->CO->Prop}(d0:AI)(K:Ask prog w A s κ P r)(hP:∀x∈(AA st).toList,P x)(hn:lo+nrem<=(AA st).size)(c1:SC κ lo st st1){ok:Nat}(hnn:n<=nrem)(hok:ok<=n)(h1:1<=n)(hs:Zoa r (gx d0 lo (AA st1)) ok)
    (h:∀st',SC κ lo st st'->Zoa r (gx d0 lo (AA st')) n->Q true st'):wpS (Aw prog w) A E s (binarySort' lo n ok) Q st1:=by
  refine A8 (E8 (D5 (I:=fun k c st'=>c.1=none/\SC κ lo st st'/\Zoa r (gx d0 lo (AA st')) (min k n)) (Q:=fun c st'=>c.1=none/\SC κ lo st st'/\Zoa r (gx d0 lo (AA st')) n) ?step ?fin ?init) ?post)
  case post =>rintro ⟨c,_⟩ st' ⟨e,sc,u⟩;have e:c=none:=e;subst e;exact BB (h st' sc u)
  case init =>
    refine ⟨rfl,c1,fun i j hij hj=>?_⟩;by_cases z:ok=0
    · rw [show i=0 by omega,show j=0 by omega];exact K.ir (Zvd hP c1 hn (by omega))
    · exact hs i j hij (by omega)
  case fin =>rintro c st' ⟨e,sc,u⟩;rw [show min (max (max ok 1) n) n=n by omega] at u;exact ⟨e,sc,u⟩
  case step =>
    rintro k ⟨c,_⟩ st' hk1 hk2 ⟨e,sc,u⟩;have e:c=none:=e;subst e;rw [show min k n=k by omega] at u;have hp:∀i,i<nrem->P (gx d0 lo (AA st') i):=fun i hi=>Zvd hP sc hn hi;refine A8 (E8 (D5 (I:=fun x c st2=>st2=st'/\∃l m,c=(none,l,m)/\l<=m/\m<=k/\m - l<=k - x/\(∀i,i<l->r (gx d0 lo (AA st') k) (gx d0 lo (AA st') i)=false)/\(∀i,m<=i->i<k->r (gx d0 lo (AA st') k) (gx d0 lo (AA st') i)=true))
      (Q:=fun c st2=>st2=st'/\∃l m,c=(none,l,m)/\l<=k/\(∀i,i<l->r (gx d0 lo (AA st') k) (gx d0 lo (AA st') i)=false)/\(∀i,l<=i->i<k->r (gx d0 lo (AA st') k) (gx d0 lo (AA st') i)=true)) ?istep ?ifin ⟨rfl,0,k,rfl,D4 _,As _,by omega,fun i hi=>by omega,fun i q1 q2=>by omega⟩) ?ipost)
    case ifin =>
      rintro c st2 ⟨rfl,l,m,rfl,q1,q2,q3,q4,q5⟩;have:l=m:=by omega
      subst this;exact ⟨rfl,l,l,rfl,q2,q4,q5⟩
    case istep =>
      rintro x c st2 _ hx ⟨rfl,l,m,rfl,q1,q2,q3,q4,q5⟩;refine Zbm (fun z=>?_) (fun z=>?_)
      · have z:l>=m:=z;have:l=m:=by omega
        subst this;exact BB ⟨rfl,l,l,rfl,q2,q4,q5⟩
      · have z:¬l>=m:=z;refine A8 (Zmx (d0:=d0) K hP hn sc (i:=k) (j:=(l+m) / 2) (by omega) (by omega) rfl rfl ?_);cases e:r (gx d0 lo (AA st2) k) (gx d0 lo (AA st2) ((l+m) / 2)) with
        | true =>
          refine Zbm (fun _=>?_) (fun z=>absurd rfl z);refine BB ⟨rfl,l,(l+m) / 2,rfl,by omega,by omega,by omega,q4,fun i i1 i2=>?_⟩;cases e2:r (gx d0 lo (AA st2) k) (gx d0 lo (AA st2) i) with
          | true=>rfl
          | false=>rw [K.tr (hp _ (by omega)) (hp i (by omega)) (hp k (by omega)) (u ((l+m) / 2) i i1 i2) e2] at e;cases e
        | false =>refine Zbm (fun z=>absurd z Au) (fun _=>?_);exact BB ⟨rfl,(l+m) / 2+1,m,rfl,by omega,q2,by omega,fun i i1=>K.tr (hp i (by omega)) (hp _ (by omega)) (hp k (by omega)) (u i ((l+m) / 2) (by omega) (by omega)) e,q5⟩
    case ipost =>
      rintro c st2 ⟨rfl,l,m,rfl,q1,q2,q3⟩;refine A8 (IU (BB ⟨rfl,sc.put (bubble_perm _ _ _) (fun i hi=>Xlp (by rw [sc.size];omega) q1 i hi),?_⟩));rw [show min (k+1) n=k+1 by omega];have hks:lo+k<(AA st2).size:=by rw [sc.size];omega
      intro i j hij hj;show r (gx d0 lo (bubble (AA st2) (lo+k) (lo+k - (lo+l))) j) (gx d0 lo (bubble (AA st2) (lo+k) (lo+k - (lo+l))) i)=false;rw [Xhj hks q1,Xhj hks q1];by_cases ij:i=j
      · subst ij;refine K.ir ?_
        repeat' split
        all_goals exact hp _ (by omega)
      · repeat' split
        all_goals first
          | (exfalso;omega)
          | exact q2 _ (by omega)
          | exact K.as (hp _ (by omega)) (hp _ (by omega)) (q3 _ (by omega) (by omega))
          | exact u _ _ (by omega) (by omega)
abbrev Pn:=Nat×Nat×Nat
def Pend:Nat->List (List AI)->List Pn->Prop
 | _,[],[]=>True
 | off,R::Rs,p::ps=>p.1=off/\p.2.1=R.length/\Pend (off+R.length) Rs ps
 | _,_,_=>False
structure RI (κ:Fe)(r:AI->AI->Bool)(a0:List AI)(st:CO)(Rs:List (List AI))(Z:List AI):Prop where
 k:CA st=κ
 f:DH st=none
 m:(AA st).toList.Perm a0
 l:(AA st).toList=Rs.flatten++Z
 p:Pend 0 Rs (CY st).toList
 u:∀R∈Rs,Up r R/\1<=R.length
end L2
namespace L2
open PySem PySem.SeqAt PySem.MeetsSeq PySem.MeetsSeq3
open AutoSeq1 (wpAny_loadPart')
end L2
namespace L2
open PySem PySem.SeqAt PyProof.Rows
open Dl (Pc sLt pcLt ctLt)
variable {A:Bh}{s:Af}{prog:AQ}{w:Bl}{E:Value->Af->Prop}
theorem Zmi:∀vs:List Value,vs.zip vs=vs.map fun v=>(v,v)
 | []=>rfl
 | v::vs=>by rw [Ca,AV,Zmi vs]
theorem Zbs (vs:List Value):(vs.toArray.zip vs.toArray).toList=vs.map fun v=>(v,v):=by rw [<- Zmi];simp
open Dl (Pr kLt Xow)
end L2
namespace L2
open PySem PySem.Spec PyProof.Rows
open Dl (D R FE FT FA FO FS FI FB Fl Pc ctLt)
variable {K:AO}{C:String->Addr}{E:XK}{Γ Δ Γl Δl Γ' Δ' js Γk Δk Γ1 Δ1:List Nat}{m m1 m2 m3 mr n k mb i j ep:Nat}{S1 S2 S3 Sb:List (Nat×Bool)}{H H':Hp}{X:Cx}{a c it d:Addr}{b e kx tg body elt iter:Expr}{o:Obj}{ta te tk tm:TE}{tb:V->Hp->VK->Prop}{tc:TT}{fa f:FA}{fb fe fk:FE}{fc:FT}{p p1 p2 pos apos cpos lpos np pos' p3:Pos}{x qual y:Str}{es ifs:List Expr}{prog P:AQ}{w:Bl}{A:Bh}{s:Af}{pins:List (Addr×Obj)}{σ:St}{params:Fm}{sc:Scope}{cl:List (Str×Addr)}{xs vs:List V}{Q:Option Value->Af->Prop}{N ps N2:List Str}{mg:Str->Option Value}{base h:Bq}{st:Stmt}{fd:Ck}{g:FS}{ts:List (Addr×Pos×Str)}{T B:List Addr}{v:Option Value}{oc:Value}{od an:Option Addr}{osl:Array (Option Value)}{ss:List Stmt}{CX:CXT}{fm:FM}{wi:TI}{u:TS}{ds:List D}{F:List D->R D}
section
variable {S:List (Nat×Bool)}
end
theorem Zns:∀{bs:List Addr} {its:List Value},Yk (bs.map V.ref) its->its=bs.map AG
 | [],_,.nil=>rfl
 | b::bs,_,.cons r rs=>by rw [show _=AG b from r,Zns rs];rfl
theorem Zgo:∀(bs:List Addr),Yk (bs.map V.ref) (bs.map AG)
 | []=>.nil
 | b::bs=>.cons rfl (Zgo bs)
def adr:Value->Addr
 | .ref a=>a
 | _=>0
section
variable {S:List (Nat×Bool)}
variable {a c o:Expr}{tb tc:TE}{fa fc:FE}
end
structure RoomH (k:Nat)(A:Bh):Prop where
 dp:A.depth+3*k+5<Fb
 un:A.units+16*k+200<BC
structure FnOkH (P:AQ)(w:Bl)(K:AO)(mg:Str->Option Value)(base:Bq)(k:Nat)(f:Addr)(fd:Ck)(ps:List Str)(sp:Sp):Prop where
 len:∀vs H Q E,sp vs H Q E->vs.length=ps.length
 run:∀(A:Bh) (outer:List Env) (s:Af) (H:Hp) (args:Args) (us:List Value) (vs:List V) (Q:VK) (E:XK),RoomH k A->Xrp P w K mg base A outer s H->Fk s fd args (ps.zip us)->Yk vs us->sp vs H Q E->
  D6 (Aw P w) A (.call (.ref f) args) (CR CX0 outer P w H s Q E) s
structure DefH (P:AQ)(w:Bl)(K:AO)(mg:Str->Option Value)(base:Bq)(k:Nat)(x:Str)(ps:List Str)(sp:Sp):Prop where
 ex:∃f fd,mg x=some (.ref f)/\ES K (.ref f)=true/\Binds K fd ps []/\FnOkH P w K mg base k f fd ps sp
section
variable {S:List (Nat×Bool)}{t:TA}
variable {a c o:Expr}{tb tc:TE}{fa fc:FE}
end
section
variable {K:Type}[DecidableEq K]{knd:HeapKind prog w K}{E:Value->Af->Prop}
end
section
variable {S:List (Nat×Bool)}
variable {a c:Expr}{t:TA}
end
structure LamSc (X:Cx)(N:List Str)(p:Str)(sc:Scope)(cl:List (Str×Addr)):Prop where
 kind:sc.kind=.function
 co:sc.isCoroutine=false
 gen:sc.isGenerator=false
 nocell:∀x∈sc.names,x.2≠.cell
 par:sc.names.lookup p=some .local
 nd:N.Nodup
 hd:N.head?=some p
 tl:∀x∈N.tail,sc.names.lookup x=some .free
 fr:∀x,sc.names.lookup x=some .free->∃c,cl.lookup x=some c
 cls:∀x c,cl.lookup x=some c->X.env.cells.lookup x=some c
def BMod (base:Bq)(mg:Str->Option Value):Prop:=∃bm ob,mg "__builtins__"=some (.ref bm)/\bm≠FF/\base.get? bm=some ob/\ob.cls=.type "module"/\ob.dict=some FF/\ob.data=.plain
section
variable {P:Addr}{E:Value->Af->Prop}
variable {f I S:Addr}{R:JK->Af->Prop}{Q:V->Hp->Prop}
end
section
variable {f:Addr}{Q:VK}
end
structure LamOk (X:Cx)(N:List Str)(p qual:Str)(params:Fm)(body:Expr)(sc:Scope)(cl:List (Str×Addr))(js:List Nat)(P c:Addr)(lpos:Pos):Prop where
 bm:BMod X.base X.mg
 tab:X.H₀ P=some (.tbl lpos qual)
 code:X.env.code=.ref c
 hd:PySem.W.CodeHd X.base c P
 clo:JC sc X.env=BD cl
 qu:X.env.qual++"<lambda>"=qual
 df:defaultsOf params X.env=([],[])
 lsc:LamSc X N p sc cl
 jsx:∀(i:Nat) (x:Str),N.tail[i]?=some x->∃j:Nat,js[i]?=some j/\X.N[j]?=some x/\Vis X.env.scope x/\X.env.kindOf x≠some .local
 len:js.length+1=N.length
 bind:∀(u pm ctv:Value) (c:Addr),K7 (PySem.W.kla_fn "<lambda>" qual params body sc cl pm (.ref c) ctv) ⟨[u],[]⟩=BD [(p,u)]
 dep:X.A.in1.depth<Fb
 calm:X.calm=true
section
variable {p:Str}{P:Addr}
variable {kp:Pos}{tb:TE}
variable {S:List (Nat×Bool)}
end
section
variable {S:List (Nat×Bool)}{p:Str}{P:Addr}{kp:Pos}{tb:TE}
end
structure FunL (K:AO)(x qual:Str)(st:Stmt)(f:Addr)(fd:Ck)(c:Addr):Prop where
 ex:∃(oc:Value) (od:Option Addr) (kV doc pm:Value) (an:Option Addr) (ct:Value) (osl:Array (Option Value)),
  fd=HU x qual (Zcm st) (Jj st) (Zk st) .none kV doc pm an (.ref c) ct/\K.lookup f=some ⟨oc,od,.func fd,osl⟩/\FD K (.ref c) qual=true
 kp:ES K (.ref f)=true
section
variable {f:Addr}
variable {S:List (Nat×Bool)}{t:TA}
end
def Zha (T:List Addr)(K:AO):AO:=K.filter fun p=>!T.contains p.1
theorem Zhh {T:List Addr}{a:Addr}(h:T.contains a=true):∀K:AO,(Zha T K).lookup a=none
 | []=>rfl
 | (b,o)::K=>by unfold Zha;rw [Fx];split;rename_i hb;rw [Bi];split;rename_i e;have e:=HE e;subst e;have hb:(!T.contains a)=true:=hb;rw [h] at hb;cases hb;exact Zhh h K;exact Zhh h K
theorem Ja {T:List Addr}{a:Addr}(h:T.contains a=false):∀K:AO,(Zha T K).lookup a=K.lookup a
 | []=>rfl
 | (b,o)::K=>by unfold Zha;rw [Fx,Bi];split;rw [Bi];split;rfl;exact Ja h K;rename_i hb;have hb:¬(!T.contains b)=true:=hb;split;rename_i e;have e:=HE e;subst e;rw [h] at hb;exact absurd rfl hb;exact Ja h K
theorem dropT_in (x:K.In h):(Zha T K).In h:=fun a o e=>by
 cases q:T.contains a with
 | true=>rw [Zhh q] at e;cases e
 | false=>rw [Ja q] at e;exact x a o e
section
variable {f:Addr}{n:Str}
theorem dropT_ns (e:Cy K a n=some v)(h:T.contains a=false:=by decide):Cy (Zha T K) a n=some v:=by unfold Cy at e ⊢;rw [Ja h];exact e
theorem Ztj (e:FD K (.ref c) qual=true)(h:T.contains c=false:=by decide):FD (Zha T K) (.ref c) qual=true:=by unfold FD at e ⊢;simp only [Ja h];exact e
theorem dropT_hd {P:Addr}(e:IB K c P=true)(h:T.contains c=false:=by decide):IB (Zha T K) c P=true:=by unfold IB at e ⊢;rw [Ja h];exact e
theorem Ztu (l:K.lookup f=some ⟨oc,od,.func fd,osl⟩)(h:T.contains f=false:=by decide):ES (Zha T K) (.ref f)=true:=by unfold ES;simp only [Ja h,l]
theorem fun_mkT {kV doc pm ct:Value}(l:K.lookup f=some ⟨oc,od,.func (HU x qual (Zcm st) (Jj st) (Zk st) .none kV doc pm an (.ref c) ct),osl⟩)
  (cd:FD K (.ref c) qual=true) (hf:T.contains f=false:=by decide) (hc:T.contains c=false:=by decide):FunL (Zha T K) x qual st f (HU x qual (Zcm st) (Jj st) (Zk st) .none kV doc pm an (.ref c) ct) c:=
 ⟨⟨oc,od,kV,doc,pm,an,ct,osl,rfl,by rw [Ja hf];exact l,Ztj cd hc⟩,Ztu l hf⟩
theorem Xor (l:K.lookup a=some o)(h:T.contains a=false:=by decide):(Zha T K).lookup a=some o:=by rw [Ja h];exact l
variable {H2:Hp}
variable {pa pb pc pd:Pos}
variable {h':Bq}{o:HO}
theorem Js.stayF (x:Js P w H h a o)(ho:∀b,H b=some (.own a)->H' b=some (.own a))(ht:∀b xs,H b=some (.tup xs)->H' b=some (.tup xs))(hf:∀b o,H b=some (.frz o (.own 0))->H' b=some (.frz o (.own 0))):Js P w H' h a o:=by
 induction o with
 | dT kvs =>obtain ⟨z,y,xs,r,ob,es,ep,e,c⟩:=x;exact ⟨z,y,xs,Paired.mapP r fun p q z=>⟨z.1,ht _ _ z.2.1,z.2.2⟩,ob,es,ep,e,c⟩
 | ins C dx fs =>obtain ⟨d,r⟩:=x;exact ⟨ho _ d,r⟩
 | frz ob u ih=>obtain ⟨e,q⟩:=x;exact ⟨e,ih q⟩
 | tbl pos qual =>obtain ⟨ps,e,tr,hc⟩:=x;refine ⟨ps,e,tr,fun v hv=>?_⟩;obtain ⟨c,o,vs,t,e1,e2,e3⟩:=hc v hv;exact ⟨c,o,vs,t,e1,hf _ _ e2,e3⟩
 | _=>exact x
end
section
variable {u u':HO}
theorem Inv.fz (I:Inv X pins σ H s)(e:H a=some u)(mu:Mut (H a))(hu:∀b o v,u≠.own b/\u≠.frz o v)(ho:s.heap.get? a=some o):Inv X pins σ (upd H a (.frz o u)) s/\∀o u,X.H₀ a≠some (.frz o u):=by
 refine ⟨?_,fun o' u' q=>?_⟩;have new:Js X.prog X.w (upd H a (.frz o u)) s.heap a (.frz o u):=by refine ⟨ho,(I.hok a u e).stayF (fun c q=>?_) (fun c xs q=>?_) fun c ob q=>?_⟩;rw [Xc fun z=>by subst z;rw [e] at q;cases q;exact (hu _ o (.own 0)).1 rfl];exact q;rw [Xc fun z=>by subst z;rw [q] at mu;exact mu];exact q;rw [Xc fun z=>by subst z;rw [q] at mu;exact mu];exact q
 have z:=I.write (x:=a) (e:=a) (t':=s.toks) (h':=s.heap) mu (.inl rfl) (fun b q _ z=>z) ⟨o,ho⟩ new;exact z;have z:=I.base.frzs a o' u' q;rw [e] at z;cases z;exact (hu 0 o' u').2 rfl
variable {S:List (Nat×Bool)}
variable {a c o:Expr}{tb tc:TE}{fa fc:FE}
variable {Q:VK}
variable {pos2:Pos}{e1 e2:Expr}{t1 t2:TE}{f1 f2:FE}{v:TS}{h:FS}
end
open Dl (FM)
section
variable {S:List (Nat×Bool)}{Q:VK}
def MOkF (K:AO)(C:String->Addr)(E:XK)(Γ Δ:List Nat)(i:Nat)(t:TE)(f:FM):Prop:=∀(H0 Hb H:Hp) (σ:St) (ρ:Xp) (A:Nat->List Addr) (Q:VK),Zq K C H0 Hb H Γ Δ σ ρ A->
 Xa (f ρ) (fun p=>∀v H' A' B,Zq K C H0 Hb H' Γ Δ σ p.2 A'->(∀b o,b∉A i->H b=some o->H' b=some o)->(∀j,j≠i->p.2[j]?=ρ[j]?/\A' j=A j)->Rp K C H' p.1 v B->B.Nodup->(∀a∈B,Hb a=none/\∀j,a∉A' j)->Q v H') (fun c x=>∀H',Xf H0 H'->EC C E c x H')->t σ H Q
variable {t:TA}{p4 p5 mpos mapos:Pos}{c:String}{md kx:Str}
structure JMF (X:Cx)(C:String->Addr)(E:XK)(Γ Δ:List Nat)(j:Nat)(e:Expr)(t:TE)(f:FM):Prop where
 q:QE X e t
 o:MOkF X.K C E Γ Δ j t f
end
@[reducible] def Cx.blkC (X:Cx)(N2:List Str)(y:Str)(sc:Scope)(cl:List (Str×Addr))(C:Addr)(s0:Af)(H0:Hp)(fp:List Addr):Cx:=
 {X with N:=N2++[y],s₀:=s0,H₀:=H0,env:=GY sc cl C X.env,outer:=X.stack,ex:=fp,fn:=fun z=>z==y,pn:=[],xe:=fun _ _=>False}
structure BlkC (sc esc:Scope)(y:Str)(N N2:List Str):Prop where
 kind:sc.kind=.function
 cell:∀n acc,HF n sc.names acc=(y,n)::acc
 one:∀z∈sc.names,z.2=.cell->z.1=y
 nfree:∀z∈sc.names,z.2=.free->z.1≠y
 loc:∀z∈sc.names,z.2=.local->sc.names.lookup z.1=some .local
 free:∀z∈sc.names,z.2=.free->esc.names.lookup z.1=some .cell\/esc.names.lookup z.1=some .free
 out:∀z∈N2,sc.names.lookup z≠some .local/\z≠y
 nd:N.Nodup
 len:N2.length=N.length
 ren:∀p∈N.zip N2,p.2=p.1\/sc.names.lookup p.2=none
section
variable {g:TG}
variable {S:List (Nat×Bool)}
variable {gg:TG}{fi:FI}{fg:FB}
end
open Dl (FMT)
section
variable {S:List (Nat×Bool)}
theorem Xlv {t:TS}{f:FS}(hc:TOk K C E Γ Δ tc fc)(h1:Znw K C E Γ Δ Γ' Δ' t f)(h2:Znw K C E Γ Δ Γ' Δ' u g):Znw K C E Γ Δ Γ' Δ' (Xhb tc t u) (Dl.sIf fc f g):=fun H0 Hb H σ ρ A D I p =>
  hc H0 Hb H σ ρ A _ I (Xa.imp (Xa.bind p) (fun b q H1 g1=>by
    cases b with
    | true=>exact h1 H0 Hb H1 σ ρ A D (I.mono g1) q
    | false=>exact h2 H0 Hb H1 σ ρ A D (I.mono g1) q) fun c x q H' g'=>q H' (Xf.from0 I g'))
variable {a:Expr}{t:TA}{q3:Pos}
end
section
variable {S:List (Nat×Bool)}
theorem Zq.away {H0 Hb:Hp}{ρ:Xp}{A:Nat->List Addr}{W:List Addr}(I:Zq K C H0 Hb H Γ Δ σ ρ A)(hk:∀b o,b∉W->H b=some o->H' b=some o)(hb:∀a∈W,Hb a=DC)(hA:∀k,∀a∈A k,a∉W)(hm:∀a∈W,∀o,H a=some o->IsM o):Zq K C H0 Hb H' Γ Δ σ ρ A:=by
 have ext:Ext (fun c=>c∈W) H H':=fun c o h=>by by_cases e:c∈W;exact .inr ⟨e,hm c e o h⟩;exact .inl (hk c o e h)
 refine ⟨I.s0,fun c o h=>?_,I.len,fun i d h=>?_,I.nil,I.loc,I.top,I.deep⟩;exact hk c o (fun z=>by rw [hb c z] at h;cases h) (I.same c o h);obtain ⟨v,e,r⟩:=I.rep i d h;exact ⟨v,e,r.ext ext fun a ha z=>hA i a ha z⟩
variable {t:TA}{ff:FA}{z:Str}
variable {a:Expr}
end
section
variable {S:List (Nat×Bool)}
def spR (K:AO)(C:String->Addr)(n:Nat)(F:List D->R D):Sp:=fun vs H Q E=>∃ds B,ds.length=n/\RpA K C H ds vs B/\
 Xa (F ds) (fun d=>∀v H' Br,Xf H H'->Rp K C H' d v Br->(∀a∈Br,a∈B\/H a=none)->Q v H') (fun c x=>∀H',Xf H H'->EC C E c x H')
def SOkT (K:AO)(C:String->Addr)(E:XK)(t:TS)(f:FS):Prop:=∀(H0 Hb H:Hp) (σ:St) (ρ:Xp) (A:Nat->List Addr) (D:Ends),Zq K C H0 Hb H [] [] σ ρ A->
  Xa (f ρ) (fun fl=>match fl with
    | .ret d=>∀v H' Br,Xf H H'->Rp K C H' d v Br->(∀a∈Br,(∃j,a∈A j)\/H a=none)->D.rt v H'
    | _=>False) (fun c x=>∀H',Xf H H'->EC C E c x H')->t D σ H
theorem Zuy {N:Nat}(r:RpA K C H ds vs B):∃A,Zq K C H H H [] [] (vs.map some++Ab (N - vs.length) none) (ds.map some++Ab (N - ds.length) none) A/\∀j,∀a∈A j,a∈B:=by have hl:=r.len;obtain ⟨A,h1,h2,h3⟩:=Xbd r;refine ⟨A,⟨Xf.refl _,Xf.refl _,by simp [hl],fun i d h=>?_,fun i h=>?_,(fun _ h=>nomatch h),(fun _ h=>nomatch h),(fun _ h=>nomatch h)⟩,h3⟩;by_cases hi:i<ds.length;rw [AD (by simpa using hi),AM] at h;obtain ⟨d',hd,e⟩:=Ax.mp h;cases e;obtain ⟨v,q1,q2⟩:=h1 i d hd;refine ⟨v,?_,q2⟩;rw [AD (by simp [hl,hi]),AM,q1];rfl;rw [Bj (by simpa using hi)] at h;have hm:=AW h;rw [DN] at hm;cases hm.2;by_cases hi:i<ds.length;exact absurd (by rw [AD (by simpa using hi),AM,Ag hi];rfl) (h ds[i]);exact h2 i (by omega)
theorem Zvg {t:TA}(ha:AOk K C E Γ Δ m S t f)(hn:∀ρ ds,f ρ=.ok ds->ds.length=n):EOk K C E Γ Δ 0 S (Zim (spR K C n F) [] E t) (Dl.Yf F f):=fun H0 Hb H σ ρ A Q I p=>Zpp (ha H0 Hb H σ ρ A _ I (by
  have p':=p.bind;cases e:f ρ with
  | bad=>rw [e] at p';exact p'
  | err c x=>rw [e] at p';exact p'
  | ok ds =>
    rw [e] at p';intro vs H1 g1 r;obtain ⟨B,r1,r2,_⟩:=r;refine ⟨ds,B,hn ρ ds e,r1,Xa.imp p' (fun d q v H' Br g rr hB=>?_) fun c x q H' g'=>q H' (g1.trans g')⟩;exact q v H' (g1.trans g) ⟨Br,rr,fun a ha=>(hB a ha).elim (fun z=>r2 a z) fun z=>.inl (g1.free z),(fun z=>by omega),fun z=>by omega⟩))
end
structure JTs (X:Cx)(C:String->Addr)(E:XK)(ss:List Stmt)(t:TS)(f:FS):Prop where
 q:QSs X ss t
 o:SOkT X.K C E t f
 n:∀ρ ρ',f ρ≠.ok (.nx ρ')
section
variable {S:List (Nat×Bool)}{t:TA}
theorem Xfh (Df:Def X.prog X.w X.K X.mg X.base CX k x ps (spR K C n F))(hr:Zfo k X.A)(hg:Gl X x)(hx:Zfk CX X E)
  (ha:JA X C E Γ Δ m S (e::es) n t f) (hdb:(x==("__debug__":Str))=false:=by decide) (he:Ad (e::es) X.env=(false,A9 e X.env)::Ad es X.env:=by rfl) (hpl:(BG pos (Ad es X.env)).any (·.1)=false:=by rfl) (hK:X.K=K:=by rfl) :
  JE X C E Γ Δ 0 S (.Call (.Name x p) (e::es) [] pos) (Zim (spR K C n F) [] E t) (Dl.Yf F f):=by
 subst hK;exact ⟨Zjv Df hr hg hx ha.q hdb he hpl,Zvg ha.o ha.n⟩
end
open Dl (Pr kLt Xow)
def Xoe:R2:=fun x y H Q=>∃a o,y=.ref a/\Znx H a x o/\Q (.bl (!o.isSome)) H
theorem Zpe (hu:X.A.units+64<BC):OpR X (BU .NotIn) Xoe:=by intro pins s σ H x y v u Q I rx ry h;obtain ⟨a,o,rfl,g,q⟩:=h;cases (show u=AG a from ry);exact Xmn (by omega) I g rx fun s3 I3=>⟨.bl (!o.isSome),H,I3,rfl,q⟩
theorem Zsq:GOk K C Xoe Dl.Zfd:=by intro H x y d vx vy Bx By Q rx ry e q;unfold Dl.Zfd at e;split at e;rename_i ks ds;obtain ⟨k,hk,e⟩:=Ax.mp e;cases e;obtain ⟨a,xs,B,rfl,h1,h2,h3,_⟩:=ry;obtain ⟨b,rfl,hb⟩:=Zcf hk rx;refine ⟨a,_,rfl,Znx.t h1 hb,?_⟩;rw [<- Zdu,Zcs (by rw [h2,h3.len])];exact Out.flat q rpB;cases e
section
variable {E:Value->Af->Prop}
theorem Zni {od:Obj}{es:Array C3}(hit:s.heap.IsKeyIter it d i es.size ep)(hod:s.heap.get? d=some od)(hdd:od.data=.dict es ep)(hi:i<es.size)
  (q:∀h',h'.IsKeyIter it d (i+1) es.size ep->BH it s.heap h'->Q (some es[i].key) {s with heap:=h'}):Am (Aw prog w) A (Dq (.ref it)) Q E s:=by
 obtain ⟨o,ho,hc,hd⟩:=id hit;have T:=hit.typeIs;have hit':(s.heap.update it (Kg (·.setIfInBounds 1 (DV ((i:Int)+1))))).IsKeyIter it d (i+1) es.size ep:=⟨_,Dk _ ho (Hj (DY hd _)),(Ii ..).trans hc,by rw [DY hd];simp [DV]⟩;unfold Dq;refine Aa (Du (Bk (name:=BA "__next__") T B0 (Ba B0 T Gj (Aa (Ac (Aa (Aa ?_)))) (Gf _))))
 first | refine Aa (CG T (Ac (Aa (Cv ho hd ?_)))) | refine Aa (Dt T (Ac (Aa (Cv ho hd ?_))))
 simp only [show BI "dict_keyiterator"=false by decide,A7,if_false];change Am _ _ (ite ((AG d==Bw)=true) _ _) _ _ s;rw [if_neg fun z:(AG d==Bw)=true=>Au z];refine Aa (Ac (Aa (BL hod hdd ?_)));rw [if_neg (by simp)];refine Aa (Ac (Aa (Dv hod hdd ?_)));rw [if_neg (by simp)];refine Ac ?_;simp only [show ¬((i:Int)<0) from by omega,if_false,CW,C6 hi];refine Aa ?_
 first | refine Aa (CG T (Ac (Aa (E4 T ?_)))) | refine Aa (Dt T (Ac (Aa (E4 T ?_))))
 change Am _ _ (Iz (.ref it) 1 (DV ((i:Int)+1)) >>= _) _ _ s;refine Aa (Fa ho hd (by simp) (Aa (BJ (Aa (E4 (s:={s with heap:=s.heap.update it (Kg (·.setIfInBounds 1 (DV ((i:Int)+1))))}) hit'.typeIs ?_)))));change Am _ _ (BD es[i].key) _ _ _;exact Ac (Ac ⟨_,rfl,Ac (q _ hit' (CJ ..))⟩)
theorem Zkq {od:Obj}{es:Array C3}(hh:A.handled=none)(hit:s.heap.IsKeyIter it d i es.size ep)(hod:s.heap.get? d=some od)(hdd:od.data=.dict es ep)(hi:es.size<=i)
  (q:∀h',D8 it s.heap h'->Q none {s with heap:=h'}):Am (Aw prog w) A (Dq (.ref it)) Q E s:=by
 obtain ⟨o,ho,hc,hd⟩:=id hit;have T:=hit.typeIs;unfold Dq;refine Aa (Du (Bk (name:=BA "__next__") T B0 (Ba B0 T Gj (Aa (Ac (Aa (Aa ?_)))) (Gf _))))
 first | refine Aa (CG T (Ac (Aa (Cv ho hd ?_)))) | refine Aa (Dt T (Ac (Aa (Cv ho hd ?_))))
 simp only [show BI "dict_keyiterator"=false by decide,A7,if_false];change Am _ _ (ite ((AG d==Bw)=true) _ _) _ _ s;rw [if_neg fun z:(AG d==Bw)=true=>Au z];refine Aa (Ac (Aa (BL hod hdd ?_)));rw [if_neg (by simp)];refine Aa (Ac (Aa (Dv hod hdd ?_)));rw [if_neg (by simp)];refine Ac ?_;simp only [show ¬((i:Int)<0) from by omega,if_false,CW,GM hi];refine Aa ?_
 first | refine Aa (CG T (Ac ?_)) | refine Aa (Dt T (Ac ?_))
 change Am _ _ (Iz (.ref it) 0 .none >>= _) _ _ s;apply Aa;refine Fa ho hd (by simp) ?_;change Am _ _ (HS (.type "StopIteration") [] >>= _) _ _ _;refine Aa ?_;simp only [HS,K6];refine Aa (AZ (Aa (m:=DG _ _) (Gw (a:=Bw) (by first | rfl | (simp only [DG];rfl)) (AZ ?_ (by size_fits)))) (by size_fits));simp only [K5];apply Aa;refine Hl ?_;have h9:A.in1.handled=none:=hh;rw [h9];refine Aa (Ac (Iu ?_));exact Aa (EF (T:="StopIteration") (b:=true) ⟨_,Av _ rfl,rfl⟩ GX (Ac (q _ (((CJ ..).extBut.push _).push _))))
theorem Zmk {od:Obj}{es:Array C3}{Q:Value->Af->Prop}(hs:(d==B5)=false)(hod:s.heap.get? d=some od)(hx:od.ExactDict)(hdd:od.data=.dict es ep)
  (q:Q (.ref s.heap.objs.size) {s with heap:=s.heap.push {cls:=.type "dict_keyiterator",data:=.fields #[.ref d,.int 0 0,.int es.size 0,.int ep 0]}}):Am (Aw prog w) A (GS (.ref d)) Q E s:=by
 have T:s.TypeIs (.ref d) "dict":=⟨od,hod,hx.1⟩;refine FV T JZ (Ba JZ T F.entry_dict_iter ?_ (F.args_dict_iter_1 _));unfold D9.«dict.__iter__» K1;refine Aa (Aa (E3 T ?_));change Am _ _ (BD (AG d)) _ _ s;refine Ac ?_;change Am _ _ (Cm d >>= _) _ _ s;unfold Cm;rw [if_neg (by rw [hs];exact Au)];refine Aa (Ac (Aa (BL hod hdd (Aa (Dv hod hdd (Aa (AZ (Ac ⟨_,rfl,"dict_keyiterator",_,⟨_,Av _ rfl,rfl⟩,B0.lookup,?_⟩))))))));simpa [DV] using q
end
def ItDt (a:Addr)(o:Obj)(kvs:List (List Key×V)):It:=
 ⟨fun i H=>H a=some (.frz o (.dT kvs))/\i<kvs.length,fun i H x H'=>H'=H/\∃kv b,kvs[i]?=some kv/\x=.ref b/\H b=some (.tup (kv.1.map kV)),fun i H=>H a=some (.frz o (.dT kvs))/\kvs.length=i⟩
theorem Paired.at_ {α β:Type}{R:α->β->Prop}:∀{l:List α} {m:List β} {i:Nat} {p:α},Paired R l m->l[i]?=some p->∃q,m[i]?=some q/\R p q
 | _,_,_,_,.nil,e=>by simp at e
 | _,_,0,_,.cons (b:=q) r _,e=>by simp at e;subst e;exact ⟨q,rfl,r⟩
 | _,_,i+1,p,.cons _ t,e=>by obtain ⟨q,h1,h2⟩:=Paired.at_ (i:=i) (p:=p) t (by simpa using e);exact ⟨q,by simpa using h1,h2⟩
theorem Ztk (a it:Addr)(o:Obj)(kvs:List (List Key×V))(es:Array C3)(ep:Nat)(h2:o.data=.dict es ep)(hn:es.size=kvs.length) :
  Turn P w K tg (ItDt a o kvs) [it] it (fun i h=>h.IsKeyIter it a i es.size ep) where
 mem:=by simp
 obj:=fun i h st b hb=>by
  have e:b=it:=by simpa using hb
  subst e;obtain ⟨o,e,c,d⟩:=st;exact ⟨o,e,fun v z=>by rw [d] at z;cases z⟩
 keep:=fun i h h' st k=>st.at fun o e=>k it (by simp) o e
 item:=by
  intro X hP hw hK hc i pins s σ H E I hf st hg;subst hP hw hK;obtain ⟨f0,f1,f2,f3,f4,f5⟩:=hf it (by simp);obtain ⟨hfz,hi⟩:=hg;obtain ⟨ho,hob⟩:=I.hok a _ hfz;obtain ⟨_,_,xs,r,o',es',ep',e1,_,e3,e4,_⟩:=hob;rw [ho] at e1;cases e1;rw [h2] at e3;cases e3;have hk:kvs[i]?=some kvs[i]:=Ag hi;obtain ⟨q,hq1,hq2,hq3,_⟩:=Paired.at_ r hk;have hie:i<es.size:=by omega
  have ek:es[i].key=.ref q.2.1:=by
   have:es.toList[i]?=some (ET (CV (Yb X.prog X.w)) q):=by rw [e4,AM,hq1];rfl
   rw [Ag (by simpa using hie)] at this;have z:=AK this;rw [Hh] at z;rw [z];rfl
  refine Zni st ho h2 hie fun h' st' sb=>?_;have I1:Inv X pins σ H {s with heap:=h'}:=I.turned (t':=s.toks) (fun b o hb e=>(sb.2 b hb).trans e) f0 f1 f3 f4 f5;obtain ⟨o',e,c,d⟩:=id st';rw [ek];exact ⟨.ref q.2.1,rfl,Xji (s:={s with heap:=h'}) e c d (by decide) ⟨.ref q.2.1,H,I1,rfl,⟨rfl,kvs[i],q.2.1,hk,rfl,hq3⟩,st',fun b hb=>(hf b hb).1⟩⟩
 done:=by intro X hP hw hK hc i pins s σ H E I hf st hg;subst hP hw hK;obtain ⟨f0,f1,f2,f3,f4,f5⟩:=hf it (by simp);obtain ⟨hfz,hi⟩:=hg;have ho:=(I.hok a _ hfz).1;exact Zkq (I.ok.hd hc) st ho h2 (by omega) fun h' eb=>⟨rfl,I.turned (t':=s.toks) (fun b o hb e=>eb b o hb e) f0 f1 f3 f4 f5⟩
 self:=fun _ _ _ _ _ st h=>Iv st h
open Dl (D R FE FT FA FO FS FI FB FM FMT Fl) in
theorem Zzx {H:Hp}:∀{k:List Key},k.all Dl.kOk=true->RpA K C H (k.map Dl.kdD) (k.map kV) []
 | [],_=>RpA.nil
 | x::k,h=>by
  rw [JR,AY] at h;refine ⟨_,_,[],[],rfl,?_,Zzx h.2,rfl⟩;cases x with
  | inl i=>exact ⟨rfl,rfl⟩
  | inr z=>exact ⟨rfl,h.1,rfl⟩
section
variable {c:Expr}{tA:TT}{fA:Dl.FT}{ip rp:Pos}
end
end L2
namespace L2
open PySem
def UpP (a:Array Nat):Prop:=∀(i j x y:Nat),i<j->a[i]?=some x->a[j]?=some y->x<y
structure TabU (t:SetTable):Prop where
 no:t.dummies=#[]
 up:UpP t.place
end L2
namespace L2
open PySem PySem.Spec PyProof.Rows
open Dl (Xik Zyx)
variable {prog:AQ}{w:Bl}{A:Bh}{E:Value->Af->Prop}{s:Af}{a:Addr}{ks:List Int}{es:Array (Int×Value)}{X:Cx}{pins:List (Addr×Obj)}{e:Expr}{te:TE}{p:Pos}{K:AO}{C:String->Addr}{Γ Δ:List Nat}{m1 m:Nat}{S1:List (Nat×Bool)}
section
variable {it:Addr}{ep i:Nat}{t:SetTable}
end
open Dl (D R FE FT FA FO FS FI FB Fl)
section
variable {σ:St}{H:Hp}{p' pos pos':Pos}
variable {E:XK}
variable {S:List (Nat×Bool)}{fe:FE}{p2 apos cpos:Pos}
end
end L2
namespace L2
open PySem PyProof.Rows
variable {prog:AQ}{w:Bl}{A:Bh}{E:Value->Af->Prop}{s:Af}{κ:Fe}{P:AI->Prop}{r:AI->AI->Bool}{st:CO}{ps:AI->Int}{d0:AI}{a0 Z:List AI}{Rs:List (List AI)}
def SB (r:AI->AI->Bool)(ps:AI->Int)(x y:AI):Prop:=r y x=false/\(r x y=false->ps x<ps y)
def Tl (ps:AI->Int)(g:Nat->AI)(n m:Nat):Prop:=∀i j,i<j->n<=j->j<m->ps (g i)<ps (g j)
section
variable {lo nrem:Nat}
structure DnL (r:AI->AI->Bool)(ps:AI->Int)(g:Nat->AI)(x q m:Nat):Prop where
 fall:∀i j,i<j->j<x->i<x - (q+1)->SB r ps (g j) (g i)
 like:∀i j,x - (q+1)<=i->i<x->x - (q+1)<=j->j<x->Eqv r (g i) (g j)
 tail:Tl ps g (x - (q+1)) m
 q1:q+1<=x
structure Od (ps:AI->Int)(Rs:List (List AI))(Z:List AI):Prop where
 runs:Rs.Pairwise fun A B=>∀x∈A,∀y∈B,ps x<ps y
 rest:∀R∈Rs,∀x∈R,∀y∈Z,ps x<ps y
 tail:Z.Pairwise fun x y=>ps x<ps y
end
end L2
namespace L2
open PySem PySem.Spec PyProof.Rows
variable {prog:AQ}{w:Bl}{A:Bh}{E:Value->Af->Prop}{s:Af}{a c:Addr}{vs:List Value}{kz cs:List Int}{keys:Array Value}{P:PySem.Fin->Af->Prop}{X:Cx}{pins:List (Addr×Obj)}{σ:St}{H:Hp}{f g:FS}{tb:V->Hp->VK->Prop}{QQ:List Int->Hp->Prop}{N ps:List Str}{p lpos np pos kp2 cp apos cpos:Pos}{qual x:Str}{params:Fm}{body e iter tg:Expr}{sc:Scope}{cl:List (Str×Addr)}{js Γ Δ Γ' Δ' Γl Δl Γ1 Δ1:List Nat}{te:TE}{k m mb mr n i:Nat}{K:AO}{C:String->Addr}{Sb:List (Nat×Bool)}{fe:FE}{B:List Addr}{u:TS}{tc:TT}{fc:FT}{wi:TI}{fi:FI}{ds:List D}{s1 st:Stmt}{mg:Str->Option Value}{base:Bq}{fd:Ck}{ifs:List Expr}
def kp (x:AI):Int×Int:=(numOf x.1,numOf x.2)
section
variable {kS:Addr}{e e1:Nat}
variable {f:Addr}
variable {p:Str}{P:Addr}{kp:Pos}{tb:TE}
end
open Dl (D R FE FT FA FO FS FI FB Fl)
section
variable {E:XK}{m1 m2:Nat}{S:List (Nat×Bool)}
variable {p:Str}{P:Addr}{kp:Pos}{tb:TE}{fb:FE}
end
section
variable {E:XK}{S:List (Nat×Bool)}
def Xoo (H0:Hp)(A:Nat->List Addr):Prop:=∀j,∀a∈A j,H0 a=none
def Xtt (K:AO)(C:String->Addr)(E:XK)(Γl Δl Γ' Δ':List Nat)(H0 Hb:Hp)(D:Ends)(r:R Fl):Prop:=Xa r (fun fl=>match fl with
    | .nx ρ'=>∀σ' H' A',Zq K C H0 Hb H' Γ' Δ' σ' ρ' A'->Xoo H0 A'->D.nx σ' H'
    | .ret d=>∀v H' B,Xf Hb H'->Rp K C H' d v B->(∀a∈B,H0 a=none)->D.rt v H'
    | .brk ρ'=>∀σ' H' A',Zq K C H0 Hb H' Γl Δl σ' ρ' A'->Xoo H0 A'->D.bk σ' H'
    | .cnt ρ'=>∀σ' H' A',Zq K C H0 Hb H' Γl Δl σ' ρ' A'->Xoo H0 A'->D.ct σ' H')
  (fun c x=>∀H',Xf Hb H'->EC C E c x H')
def Zmu (K:AO)(C:String->Addr)(E:XK)(Γl Δl Γ Δ Γ' Δ':List Nat)(t:TS)(f:FS):Prop:=∀(H0 Hb H:Hp) (σ:St) (ρ:Xp) (A:Nat->List Addr) (D:Ends),Zq K C H0 Hb H Γ Δ σ ρ A->Xoo H0 A->Xtt K C E Γl Δl Γ' Δ' H0 Hb D (f ρ)->t D σ H
theorem Res.allN {H0 Hb H':Hp}{ρ:Xp}{A:Nat->List Addr}{d:D}{v:V}(I:Zq K C H0 Hb H Γ Δ σ ρ A)(N:Xoo H0 A)(h:∀a∈B,H a=none\/InS A S a):∀a∈B,H0 a=none:=fun a ha=>(h a ha).elim (fun z=>I.s0.free (I.same.free z)) fun z=>by obtain ⟨p,_,z⟩:=z.mem;exact N p.1 a z
theorem Xqi:Zmu K C E Γl Δl Γ Δ Γ Δ Zly Dl.sNx:=fun _ _ H σ _ A _ I N p=>p σ H A I N
theorem Xdz {t:TS}(h:Zmu K C E Γl Δl Γ Δ Γ1 Δ1 t f)(h1:∀i∈Γ',i∈Γ1)(h2:∀i∈Δ',i∈Δ1):Zmu K C E Γl Δl Γ Δ Γ' Δ' t f:=fun H0 Hb H σ ρ A D I N p =>
  h H0 Hb H σ ρ A D I N (Xa.imp p (fun fl q=>by
    cases fl with
    | nx ρ'=>exact fun σ' H' A' I' N'=>q σ' H' A' (I'.weak h1 h2) N'
    | ret d=>exact q
    | brk _=>exact q
    | cnt _=>exact q) fun _ _ q=>q)
theorem Xjf {t:TS}(h1:Zmu K C E Γl Δl Γ Δ Γ1 Δ1 t f)(h2:Zmu K C E Γl Δl Γ1 Δ1 Γ' Δ' u g):Zmu K C E Γl Δl Γ Δ Γ' Δ' (Xib t u) (Dl.Xk f g):=fun H0 Hb H σ ρ A D I N p =>
  h1 H0 Hb H σ ρ A _ I N (Xa.imp (Xa.bind p) (fun fl q=>by
    cases fl with
    | nx ρ'=>exact fun σ' H' A' I' N'=>h2 H0 Hb H' σ' ρ' A' D I' N' q
    | ret d=>exact q
    | brk ρ'=>exact q
    | cnt ρ'=>exact q) fun _ _ q=>q)
theorem Xgg (he:EOk K C E Γ Δ 2 [] te fe)(h1:∀j∈Γ',j=i\/j∈Γ)(h2:∀j∈Δ',j=i\/j∈Δ):Zmu K C E Γl Δl Γ Δ Γ' Δ' (Zgl te (Yw i)) (Dl.Xq i fe):=fun H0 Hb H σ ρ A D I N p =>
  he H0 Hb H σ ρ A _ I (Xa.imp (Xa.bind p) (fun d q v H1 g1 r=>by
    obtain ⟨B,r1,r2,r3,r4⟩:=r;have hn:∀a∈B,H a=none:=fun a ha=>(r2 a ha).elim id fun z=>z.none.elim;have nd:=r4 rfl;obtain ⟨A',I',hA'⟩:=(I.mono g1).put (Γ':=Γ') (Δ':=Δ') (i:=i) r1 (fun j hj e=>⟨(h1 j hj).elim (fun z=>absurd z e) id,fun a l e' ha=>I.ne (j:=j) (by rw [e'];exact .head _) (hn a ha)⟩)
      (fun _=>⟨fun a ha=>I.s0.free (I.same.free (hn a ha)),fun a l e=>by subst e;exact ⟨I.same.free (hn a (.head _)),(Ay.mp nd).1,fun j _ h=>I.ne h (hn a (.head _))⟩⟩)
      (fun j hj e=>⟨(h2 j hj).elim (fun z=>absurd z e) id,fun a ha hB=>I.ne ha (hn a hB)⟩)
      (fun _=>⟨nd,fun j _ a ha h=>I.ne h (hn a ha),fun a ha=>I.same.free (hn a ha)⟩)
    exact q _ H1 A' I' fun j a ha=>(hA' j a ha).elim (fun z=>I.s0.free (I.same.free (hn a z))) (N j a)) fun c x q H' g'=>q H' (I.same.trans g'))
theorem Xlz (he:EOk K C E Γ Δ m S te fe):Zmu K C E Γl Δl Γ Δ Γ' Δ' (Xhd te) (Dl.Zdo fe):=fun H0 Hb H σ ρ A D I N p =>
  he H0 Hb H σ ρ A _ I (Xa.imp (Xa.bind p) (fun d q v H1 g1 r=>by
    obtain ⟨B,r1,r2,_,_⟩:=r;exact q v H1 B (I.same.trans g1) r1 (Res.allN (d:=d) (v:=v) (H':=H1) I N r2)) fun c x q H' g'=>q H' (I.same.trans g'))
theorem Xti {t:TS}(hc:TOk K C E Γ Δ tc fc)(h1:Zmu K C E Γl Δl Γ Δ Γ' Δ' t f)(h2:Zmu K C E Γl Δl Γ Δ Γ' Δ' u g):Zmu K C E Γl Δl Γ Δ Γ' Δ' (Xhb tc t u) (Dl.sIf fc f g):=fun H0 Hb H σ ρ A D I N p =>
  hc H0 Hb H σ ρ A _ I (Xa.imp (Xa.bind p) (fun b q H1 g1=>by
    cases b with
    | true=>exact h1 H0 Hb H1 σ ρ A D (I.mono g1) N q
    | false=>exact h2 H0 Hb H1 σ ρ A D (I.mono g1) N q) fun c x q H' g'=>q H' (I.same.trans g'))
theorem Xjl (hi:i∈Γ)(he:EOk K C E Γ Δ m S te fe)(hS:∀p∈S,p.1≠i)(h1:∀j∈Γ',j∈Γ/\(j=i\/(j,false)∉S))(h2:∀j∈Δ',j≠i/\j∈Δ/\∀p∈S,p.1≠j) :
  Zmu K C E Γl Δl Γ Δ Γ' Δ' (Zga (tBM K "list" Zbf (Zge i) (Zbu te Ztt))) (Dl.Zlc i fe):=fun H0 Hb H σ ρ A D I N p=>by
 unfold Dl.Zlc at p;split at p;rename_i ds e;obtain ⟨a,xs,l,s1,h1',r1,hA,hl⟩:=Zku I e;refine ⟨.ref a,s1,.inl ⟨rfl,xs,SqL.of h1'⟩,he H0 Hb H σ ρ A _ I (Xa.imp (Xa.bind p) (fun d q v H1 g1 r=>?_) fun c x q H' g'=>q H' (I.same.trans g'))⟩;split at q;rename_i hz;obtain ⟨B,r2,r3,_⟩:=r;show Zbf (.ref a) [v] H1 fun _ H3=>D.nx σ H3;refine Xhp (g1 _ _ h1') (by rw [r1.len];exact Zcu hz) ?_;obtain ⟨tb,ta,tt⟩:=I.top i hi a l hA;have ha:a∈A i:=by rw [hA];exact .head _
 have w0:a∉l++B:=fun z=>(Ao.mp z).elim ta fun z=>(r3 a z).elim (fun w=>I.ne ha w) fun w=>by obtain ⟨p,hp,w⟩:=w.mem;exact tt p.1 (hS p hp) w
 have hB:=Res.allN (d:=d) (v:=v) (H':=H1) I N r3;have w1:∀b∈l++B,H0 b=none:=fun b hb=>(Ao.mp hb).elim (fun z=>N i b (by rw [hA];exact .tail _ z)) (hB b);have w2:∀j∈Γ',j≠i->j∈Γ/\∀b l',A j=b::l'->b∉l++B:=fun j hj e=>by obtain ⟨q1,q2⟩:=h1 j hj;refine ⟨q1,fun b l' e' z=>(Ao.mp z).elim (fun z=>(I.top j q1 b l' e').2.2 i (fun w=>e w.symm) (by rw [hA];exact .tail _ z)) fun z=>(r3 b z).elim (fun w=>I.ne (j:=j) (by rw [e'];exact .head _) w) ?_⟩;exact I.top_out q1 (q2.elim (fun z=>absurd z e) id) e'
 have w3:∀j∈Δ',j≠i->j∈Δ/\∀b∈A j,b∉l++B:=fun j hj e=>⟨(h2 j hj).2.1,fun b hb z=>(Ao.mp z).elim (fun z=>(I.deep j (h2 j hj).2.1).2.1 i (fun w=>e w.symm) b hb (by rw [hA];exact .tail _ z)) fun z=>(r3 b z).elim (fun w=>I.ne hb w) (I.deep_out (h2 j hj).2.1 (h2 j hj).2.2 hb)⟩;obtain ⟨A',I',hA'⟩:=(I.mono g1).writeA (Γ':=Γ') (Δ':=Δ') (d':=.lst (ds++[d])) hi hA hl s1 (fun _ q1 q2=>⟨a,_,_,rfl,q1,q2,rfl⟩) ((r1.same g1).app (RpA.one r2)) w1 w0 w2 w3 (fun hd=>absurd rfl (h2 i hd).1);exact q _ _ A' I' fun j b hb=>(hA' j b hb).elim (fun z=>(Al.mp z).elim (fun z=>by rw [z];exact N i a ha) (w1 b)) (N j b);exact q.elim;exact p.elim
theorem Xng {tb:TS}{fs:FS}(hi:IOk K C E Γ Δ S wi fi)(hs:Zmu K C E Γ1 Δ1 Γ1 Δ1 Γ1 Δ1 tb fs)(k1:i∉Γ1)(k2:i∉Δ1)(h1:∀i∈Γ1,i∈Γ)(h2:∀i∈Δ1,i∈Δ)(h3:∀p∈S,p.1∉Γ1/\p.1∉Δ1):Zmu K C E Γl Δl Γ Δ Γ1 Δ1 (Xho wi (Yw i) tb) (Dl.Zeb fi (Dl.Zt i) fs):=fun H0 Hb H σ ρ A D I N p=>by
 refine hi H0 Hb H σ ρ A _ I (Xa.imp (Xa.bind p) (fun ds q J H1 W g1 hW hlen hJ=>?_) fun c x q H' g'=>q H' (I.same.trans g'));have I1:=(I.mono g1).weak h1 h2;have hlst:∀a∈ownAt A Γ1 Δ1,∃o,H1 a=some o/\IsM o:=fun a ha=>by rcases Jw ha with ⟨i,_,l,e⟩ | ⟨i,_,e⟩;exact I1.is (j:=i) (by rw [e];exact .head _);exact I1.is e
 have hbn:∀a∈ownAt A Γ1 Δ1,Hb a=none:=fun a ha=>by rcases Jw ha with ⟨i,hi,l,e⟩ | ⟨i,hi,e⟩;exact (I1.top i hi a l e).1;exact (I1.deep i hi).2.2 a e
 have hout:∀a∈W,a∉ownAt A Γ1 Δ1:=fun a ha ho=>by rcases (hW a ha).2 with z | z;rcases Jw ho with ⟨i,hi,l,e⟩ | ⟨i,hi,e⟩;exact I.ne (j:=i) (by rw [e];exact .head _) z;exact I.ne e z;rcases Jw ho with ⟨i,hi,l,e⟩ | ⟨i,hi,e⟩;exact I1.top_out hi (fun h=>(h3 _ h).1 hi) e z;exact I1.deep_out hi (fun p hp e'=>(h3 p hp).2 (by rw [e'];exact hi)) e z
 let Hc:Hp:=fun b=>if b∈ownAt A Γ1 Δ1 then none else H1 b
 have c1:Xf Hc H1:=fun b o h=>by show H1 b=some o;have h:(if b∈ownAt A Γ1 Δ1 then none else H1 b)=some o:=h;split at h;cases h;exact h
 have c2:Xf Hb Hc:=fun b o h=>by show (if b∈ownAt A Γ1 Δ1 then none else H1 b)=some o;rw [if_neg fun ho=>by rw [hbn b ho] at h;cases h];exact I1.same b o h
 have c3:∀a,a∉ownAt A Γ1 Δ1->Hc a=H1 a:=fun a ha=>if_neg ha;have c4:∀a∈ownAt A Γ1 Δ1,Hc a=none:=fun a ha=>if_pos ha
 let Hd:Hp:=fun b=>match H1 b with
  | none=>none
  | some o=>@ite _ (b∈W\/¬IsM o) (Cf _) (some o) none
 have d1:∀a∈W,Hd a=H1 a:=fun a ha=>by
  show (match H1 a with | none=>none | some o=>@ite _ (a∈W\/¬IsM o) (Cf _) (some o) none)=H1 a;cases H1 a with
  | none=>rfl
  | some o=>exact if_pos (.inl ha)
 have d2:∀b o,H1 b=some o->¬IsM o->Hd b=some o:=fun b o h hn=>by show (match H1 b with | none=>none | some o=>@ite _ (b∈W\/¬IsM o) (Cf _) (some o) none)=some o;rw [h];exact if_pos (.inr hn)
 have d3:∀b o,Hd b=some o->H1 b=some o/\(b∈W\/¬IsM o):=fun b o h=>by
  have h:(match H1 b with | none=>none | some o=>@ite _ (b∈W\/¬IsM o) (Cf _) (some o) none)=some o:=h;cases e:H1 b with
  | none=>rw [e] at h;cases h
  | some o' =>rw [e] at h;have h:(@ite _ (b∈W\/¬IsM o') (Cf _) (some o') none)=some o:=h;by_cases z:b∈W\/¬IsM o';rw [if_pos z] at h;cases h;exact ⟨rfl,z⟩;rw [if_neg z] at h;cases h
 have d4:Xf Hd Hc:=fun b o h=>by obtain ⟨z1,z2⟩:=d3 b o h;refine (c3 b fun ho=>?_).trans z1;obtain ⟨o',e,hm⟩:=hlst b ho;rw [z1] at e;cases e;exact z2.elim (fun z=>hout b z ho) fun z=>z hm
 have I2:Zq K C H0 Hc H1 Γ1 Δ1 σ ρ A:=⟨I1.s0.trans c2,c1,I1.len,I1.rep,I1.nil,I1.loc,fun i hi a l e=>⟨c4 a (Zoo hi e),(I1.top i hi a l e).2⟩,fun i hi=>⟨(I1.deep i hi).1,(I1.deep i hi).2.1,fun a ha=>c4 a (Zke hi ha)⟩⟩;have back:∀{σ':St} {ρ':Xp} {H':Hp} {A':Nat->List Addr},Zq K C H0 Hc H' Γ1 Δ1 σ' ρ' A'->Zq K C H0 Hb H' Γ1 Δ1 σ' ρ' A':=fun I' =>
  ⟨I1.s0,c2.trans I'.same,I'.len,I'.rep,I'.nil,I'.loc,fun i hi a l e=>⟨c2.free (I'.top i hi a l e).1,(I'.top i hi a l e).2⟩,fun i hi=>⟨(I'.deep i hi).1,(I'.deep i hi).2.1,fun a ha=>c2.free ((I'.deep i hi).2.2 a ha)⟩⟩
 have go:Goes K C J ds Hd:=hJ Hd ⟨d1,d2⟩;refine Zob go (fun k σ' H'=>∃ρ' A',Zq K C H0 Hc H' Γ1 Δ1 σ' ρ' A'/\Xoo H0 A'/\Xtt K C E Γl Δl Γ1 Δ1 H0 Hb D (Dl.Zgz (Dl.Zt i) fs (ds.drop k) ρ')) ⟨ρ,A,I2,N,q⟩ (fun _ _ _ ⟨_,_,I',_⟩=>d4.trans I'.same) ?_ ?_;rintro k d x Bx σ' Ha H' hd ⟨ρ',A',Ia,Na,pq⟩ ga rx hBx;have I':=Ia.mono ga;rw [Zer _ _ _ hd] at pq;have pq':=Zby (Xa.bind pq);have hBW:∀a∈Bx,a∈W:=fun a ha=>by
  obtain ⟨o,e,hm⟩:=rx.isl a ha;cases e2:Hd a with
  | none=>exact absurd e2 (hBx a ha)
  | some o' =>have:=d4.trans I'.same a o' e2;rw [e] at this;cases this;exact (d3 a o e2).2.elim id fun z=>absurd hm z
 have hBc:∀a∈Bx,Hc a≠none:=fun a ha z=>by
  cases e2:Hd a with
  | none=>exact hBx a ha e2
  | some o'=>rw [d4 a o' e2] at z;cases z
 have hB0:∀a∈Bx,H0 a=none:=fun a ha=>((hW a (hBW a ha)).2).elim (fun z=>I.s0.free (I.same.free z)) fun z=>by obtain ⟨p,_,z⟩:=z.mem;exact N p.1 a z
 obtain ⟨A1,I1',hA1⟩:=I'.put (Γ':=Γ1) (Δ':=Δ1) (i:=i) rx (fun j hj e=>⟨hj,fun a l e' ha=>hBc a ha (I'.top j hj a l e').1⟩) (fun hj=>absurd hj k1) (fun j hj e=>⟨hj,fun a ha hb=>hBc a hb ((I'.deep j hj).2.2 a ha)⟩) (fun hj=>absurd hj k2);refine hs H0 Hc H' _ _ A1 _ I1' (fun j a ha=>(hA1 j a ha).elim (hB0 a) (Na j a)) (Xa.imp (Xa.bind pq') (fun fl pq=>?_) fun _ _ z=>?_);cases fl with
 | nx ρ2=>exact fun σ2 H2 A2 I2' N2=>⟨ρ2,A2,I2',N2,pq⟩
 | cnt ρ2=>exact fun σ2 H2 A2 I2' N2=>⟨ρ2,A2,I2',N2,pq⟩
 | brk ρ2=>exact fun σ2 H2 A2 I2' N2=>pq σ2 H2 A2 (back I2') N2
 | ret d=>exact fun v H2 B g rr hB=>pq v H2 B (c2.trans g) rr hB
 exact fun H2 g=>z H2 (c2.trans g);rintro σ' H' ⟨ρ',A',I',N',pq⟩;rw [Fd] at pq;exact pq σ' H' A' (back I') N'
theorem Xaj {N:Nat}{t:TS}{E:XK}{vs:List V}{Q:VK}(h:Zmu K C E [] [] [] [] Γ' Δ' t f)(r:RpA K C H ds vs B)
  (p:Xa (Dl.run N f ds) (fun d=>∀v H' Br,Xf H H'->Rp K C H' d v Br->(∀a∈Br,a∈B\/H a=none)->Q v H') (fun c x=>∀H',Xf H H'->EC C E c x H')) :
  t {nx:=fun _ H'=>Q .non H',rt:=Q} (vs.map some++Ab (N - vs.length) none) H:=by
 obtain ⟨A,I,hA⟩:=Zuy (N:=N) r;have s0:Xf (fun b=>if b∈B then none else H b) H:=fun b o h=>by have h:(if b∈B then none else H b)=some o:=h;split at h;cases h;exact h
 have fr:∀{a},(if a∈B then none else H a)=none->a∈B\/H a=none:=fun {a} h=>by split at h;exact .inl (by assumption);exact .inr h
 have I0:Zq K C (fun b=>if b∈B then none else H b) H H [] [] (vs.map some++Ab (N - vs.length) none) (ds.map some++Ab (N - ds.length) none) A:=⟨s0,I.same,I.len,I.rep,I.nil,(fun _ h=>nomatch h),I.top,I.deep⟩;refine h _ H H _ _ A _ I0 (fun j a ha=>if_pos (hA j a ha)) (Xa.imp (Xa.bind p) (fun fl q=>?_) fun _ _ q=>q);cases fl with
 | nx ρ'=>exact fun σ' H' A' I' _=>q .non H' [] I'.same ⟨rfl,rfl⟩ (fun _ h=>nomatch h)
 | ret d=>exact fun v H' Br g rr hB=>q v H' Br g rr fun a ha=>fr (hB a ha)
 | brk _=>exact q.elim
 | cnt _=>exact q.elim
end
structure JU (X:Cx)(C:String->Addr)(E:XK)(Γl Δl Γ Δ Γ' Δ':List Nat)(s:Stmt)(t:TS)(f:FS):Prop where
 q:QS X s t
 o:Zmu X.K C E Γl Δl Γ Δ Γ' Δ' t f
structure JUs (X:Cx)(C:String->Addr)(E:XK)(Γl Δl Γ Δ Γ' Δ':List Nat)(ss:List Stmt)(t:TS)(f:FS):Prop where
 q:QSs X ss t
 o:Zmu X.K C E Γl Δl Γ Δ Γ' Δ' t f
section
variable {E:XK}{S:List (Nat×Bool)}{c:Expr}{ss body other:List Stmt}{v:TS}{h:FS}{pos':Pos}
theorem Xjd:JUs X C E Γl Δl Γ Δ Γ Δ [] Zly Dl.sNx:=⟨Zpi,Xqi⟩
theorem Zlb (Γ1 Δ1:List Nat)(h1:JU X C E Γl Δl Γ Δ Γ1 Δ1 s1 u g)(h2:JUs X C E Γl Δl Γ1 Δ1 Γ' Δ' ss v h):JUs X C E Γl Δl Γ Δ Γ' Δ' (s1::ss) (Xib u v) (Dl.Xk g h):=⟨Zkt h1.q h2.q,Xjf h1.o h2.o⟩
theorem Zof (h1:JU X C E Γl Δl Γ Δ Γ' Δ' s1 u g):JUs X C E Γl Δl Γ Δ Γ' Δ' [s1] u g:=⟨Zka h1.q,h1.o⟩
theorem Xen (Γ1 Δ1:List Nat)(h:JUs X C E Γl Δl Γ Δ Γ1 Δ1 ss u g)(h1:∀i∈Γ',i∈Γ1:=by decide)(h2:∀i∈Δ',i∈Δ1:=by decide):JUs X C E Γl Δl Γ Δ Γ' Δ' ss u g:=⟨h.q,Xdz h.o h1 h2⟩
theorem Xsv (he:JE X C E Γ Δ m S e te fe):JU X C E Γl Δl Γ Δ Γ' Δ' (.Return (some e) pos) (Xhd te) (Dl.Zdo fe):=⟨Zyq he.q,Xlz he.o⟩
theorem cu_if {tA:TT}{fA:FT}(hc:JT X C E Γ Δ c tA fA)(ha:JUs X C E Γl Δl Γ Δ Γ' Δ' body u g)(hb:JUs X C E Γl Δl Γ Δ Γ' Δ' other v h):JU X C E Γl Δl Γ Δ Γ' Δ' (.If c body other pos) (Xhb tA u v) (Dl.sIf fA g h):=⟨Xny hc.q ha.q hb.q,Xti hc.o ha.o hb.o⟩
theorem Xhf (hN:X.N.Nodup)(hi:X.N[i]?=some x)(hx:Loc X.env.scope x)(he:JE X C E Γ Δ 2 [] e te fe)(hs:BO e (some (.Name x pos')) pos.line X.env=BD false:=by rfl)(hf:autoParam (X.fn x=true\/X.env.scope.names.lookup x=some .local) aT0._auto_1)
  (h1:∀j∈Γ',j=i\/j∈Γ:=by decide) (h2:∀j∈Δ',j=i\/j∈Δ:=by decide):JU X C E Γl Δl Γ Δ Γ' Δ' (.Assign [.Name x pos'] e pos) (Zgl te (Yw i)) (Dl.Xq i fe):=⟨Znp hN hi hx he.q hs hf,Xgg he.o h1 h2⟩
theorem Xrv (hi:i∈Γ:=by decide)(hN:X.N[i]?=some x:=by rfl)(hv:autoParam (Vis X.env.scope x) aT3._auto_1)(hd:(x==("__debug__":Str))=false:=by decide)(hcd:(x==("__classdict__":Str))=false:=by decide)
  (he:JE X C E Γ Δ m S e te fe) (hse:Ad [e] X.env=(false,A9 e X.env)::Ad [] X.env)
  (hbase:Cq (.Name x p) "append" X.env (A9 (.Name x p) X.env)=A9 (.Name x p) X.env:=by rfl)
  (hfew:((BG cpos (Ad [e] X.env)).all (fun x=>!x.1)&&(Ej cpos (De [] X.env)).all (fun x=>x.1.isSome)&&decide (([e]:List Expr).length+([]:List Ce).length+(if ([]:List Ce).isEmpty then 0 else 1)<30))=true:=by rfl)
  (hline:(apos.endLine==cpos.line)=true:=by rfl) (hplain:(BG cpos (Ad ([]:List Expr) X.env)).any (·.1)=false:=by rfl) (hsw:BO (.Call (.Attribute (.Name x p) "append" apos) [e] [] cpos) none pos.line X.env=BD false:=by rfl)
  (hS:∀p∈S,p.1≠i:=by decide) (h1:∀j∈Γ',j∈Γ/\(j=i\/(j,false)∉S):=by decide) (h2:∀j∈Δ',j≠i/\j∈Δ/\∀p∈S,p.1≠j:=by decide) :
  JU X C E Γl Δl Γ Δ Γ' Δ' (.Expr (.Call (.Attribute (.Name x p) "append" apos) [e] [] cpos) pos) (Zga (tBM X.K "list" Zbf (Zge i) (Zbu te Ztt))) (Dl.Zlc i fe):=
 ⟨Zhw (Xlt PySem.F.plainAttrs_list PySem.F.slot_list_append PySem.F.type_list_append Zen (qv i hN hv hd hcd) (Zdh he.q Zsf hse) hbase hfew hline hse hplain) hsw,Xjl hi he.o hS h1 h2⟩
theorem Xsc (Γ1 Δ1:List Nat)(hp:Gq (Aw X.prog X.w) X.A X.env X.xe)(hc:X.calm=true)(hi:JI X C E Γ Δ S (.Name x p) iter wi fi)(hN:X.N.Nodup)(hNi:X.N[i]?=some x)(hx:Loc X.env.scope x)(hb:JUs X C E Γ1 Δ1 Γ1 Δ1 Γ1 Δ1 body u g)(hs:∀x,Bf iter X.env x=BD x:=by intro _;rfl)
  (k1:i∉Γ1:=by decide) (k2:i∉Δ1:=by decide) (hf:autoParam (X.fn x=true\/X.env.scope.names.lookup x=some .local) aT0._auto_1) (h1:∀i∈Γ1,i∈Γ:=by decide) (h2:∀i∈Δ1,i∈Δ:=by decide) (h3:∀p∈S,p.1∉Γ1/\p.1∉Δ1:=by decide) :
  JU X C E Γl Δl Γ Δ Γ1 Δ1 (.For (.Name x p) iter body [] pos) (Xho wi (Yw i) u) (Dl.Zeb fi (Dl.Zt i) g):=⟨Zys hp hc hi.q (Zie hN hNi hx hf) hb.q hs,Xng hi.o hb.o k1 k2 h1 h2 h3⟩
end
theorem Fun.okU {P:AQ}{f:Addr}(F:Fun K x qual st f fd)(S:Xe N ps (Zk st))(hn:ps.length=n)
    (hbody:∀(cdv:Value) (A:Bh) (outer:List Env) (s:Af) (H:Hp) (E:XK),Zfo k (A.deeper (Ei qual (Zk st) s.heap.objs.size f cdv))->
      ∃t,JUs (Xbk CX0 P w K mg base N qual (Zk st) f cdv A outer s H E).nox C E0 [] [] [] [] Γ' Δ' (Jj st) t g):Zbe P w K mg base CX0 (k+1) f fd ps (spR K C n fun ds=>(Dl.run N.length g ds).calm):=
  F.okQ S (fun vs H Q E h=>by
    obtain ⟨ds,B,h1,h2,_⟩:=h;rw [h2.len,h1,hn]) fun cdv A outer s H vs Q E hr h=>by
    obtain ⟨ds,B,h1,r,p⟩:=h;obtain ⟨t,ht⟩:=hbody cdv A outer s H E hr;exact ⟨t,ht.q,Xaj (K:=K) ht.o r (Xa.imp (Zby p) (fun _ q=>q) fun _ _ z=>z.elim)⟩
section
variable {E:XK}{S:List (Nat×Bool)}{elt:Expr}{gg:TG}{fg:FB}
variable {p1 p2 p3:Pos}{y z:Str}{j l:Nat}
end
end L2
namespace L2
open PySem PyProof.Rows
variable {prog:AQ}{w:Bl}{A:Bh}{E:Value->Af->Prop}{s:Af}{κ:Fe}{P:PySem.Fin->Af->Prop}{r:AI->AI->Bool}{st:CO}{ps:AI->Int}{vs:List Value}{kz cs:List Int}{keys:Array Value}
section
variable {P:AI->Prop}
variable {a kS:Addr}{e e1:Nat}
end
end L2
namespace L2
open PySem PySem.Spec PyProof.Rows
variable {X:Cx}{pins:List (Addr×Obj)}{σ:St}{H:Hp}{s:Af}{tb:V->Hp->VK->Prop}{A:Bh}{E:Value->Af->Prop}{P:PySem.Fin->Af->Prop}{vs:List Value}{cs:List Int}{QQ:List Int->Hp->Prop}{N:List Str}{p qual:Str}{params:Fm}{body e:Expr}{sc:Scope}{cl:List (Str×Addr)}{js Γ Δ:List Nat}{c:Addr}{lpos np pos kp2 cp:Pos}{te:TE}{k m mb:Nat}{K:AO}{C:String->Addr}{Sb:List (Nat×Bool)}
section
variable {a f:Addr}
variable {P:Addr}{kp:Pos}{tb:TE}
end
open Dl (D R FE FT FA FO FS FI FB Fl)
section
variable {E:XK}{Γ' Δ':List Nat}{m1 m2:Nat}{S:List (Nat×Bool)}
variable {P:Addr}{kp:Pos}{tb:TE}{fe fb:FE}
end
end L2
namespace L2
open PySem PySem.SeqAt PyProof.Rows
open Dl (sLt Pr kLt Xow)
variable {prog:AQ}{w:Bl}{A:Bh}{E:Value->Af->Prop}{s:Af}
end L2
namespace L2
open PySem PySem.Spec PyProof.Rows
open Dl (D R FE FT FA FO FS FI FB FM FMT Fl Pr kLt Xow)
variable {X:Cx}{K:AO}{C:String->Addr}{H Hc:Hp}{prog P:AQ}{w:Bl}{A:Bh}{E Q:Value->Af->Prop}{s:Af}{z d l a it I:Addr}{i ep x1 m mr j m1 m2 n c:Nat}{od o:Obj}{es:Array C3}{u0 u1 v:Value}{elts vs:List Expr}{pos apos cpos tpos p p2 np:Pos}{tg b e kx:Expr}{Γ Δ Γ' Δ' Γl Δl Γ1 Δ1 Γk Δk:List Nat}{k:List Key}{ks:List (List Key)}{xs:Array (Int×Tok)}{ys:List V}{u:HO}{f fe fk fa:FE}{te tk tv ta tb:TE}{ds:List D}{x y:Str}{S1 S2:List (Nat×Bool)}{α:Type}{fb:FB}{ws:List Value}{g tt:TG}{gs:TGs}{wi:TI}{fi:FI}{G:List D->R (D×D)}{CX:CXT}{ps:List Str}{s1:Stmt}{ss body other:List Stmt}{fu:List D->Xp->R Xp}{env:Env}{items:Array Value}{fp wr:List Addr}{ns:List Int}
theorem Xki {Q:Option Value->Af->Prop}(hz:DM s.heap z d i es.size ep u0 u1)(ho:s.heap.get? d=some od)(hd:od.data=.dict es ep)(hi:i<es.size)
  (q:∀h',Hw h' z d (i+1) es.size ep es[i].key es[i].val s.heap.objs.size->h'.get? s.heap.objs.size=some {cls:=.type "tuple",data:=.seq #[es[i].key,es[i].val]}->(∀b o,b≠z->s.heap.get? b=some o->h'.get? b=some o)->Q (some (.ref s.heap.objs.size)) {s with heap:=h'}):Am (Aw prog w) A (Dq (.ref z)) Q E s:=by
 obtain ⟨hp,g,dr,tk,os⟩:=s;have T:EU ⟨hp,g,dr,tk,os⟩ (.ref z) "dict_itemiterator":=⟨_,hz,rfl⟩;have lz:z<hp.objs.size:=AJ hz;unfold Dq;refine Aa (Du (Bk (name:=BA "__next__") T BX (Ba BX T Ge (Aa (Ac (Aa (Aa ?_)))) (FR _))))
 first | refine Aa (Cu T (Ac (Aa (Cv hz rfl ?_)))) | refine Aa (Do T (Ac (Aa (Cv hz rfl ?_))))
 simp only [show BI "dict_itemiterator"=true by decide,if_true];change Am _ _ (ite ((AG d==Bw)=true) _ _) _ _ _;rw [if_neg fun y:(AG d==Bw)=true=>Au y];refine Aa (Ac (Aa (BL ho hd ?_)));rw [if_neg (by simp)];refine Aa (Ac (Aa (Dv ho hd ?_)));rw [if_neg (by simp)];refine Ac ?_;simp only [show ¬((i:Int)<0) from by omega,if_false,CW,C6 hi];refine Aa ?_
 first | refine Aa (Cu T (Ac (Aa (DF T ?_)))) | refine Aa (Do T (Ac (Aa (DF T ?_))))
 change Am _ _ (Iz (.ref z) 3 (DV ((i:Int)+1)) >>= _) _ _ _;refine Aa (Bg hz (by simp) fun k1 a1 b1=>?_);have a1:DM k1 z d (i+1) es.size ep u0 u1:=by unfold DM;rw [show ((i+1:Nat):Int)=(i:Int)+1 by omega];simpa [DV] using a1
 have b1:BH z hp k1:=b1;have T1:EU ⟨k1,g,dr,tk,os⟩ (.ref z) "dict_itemiterator":=⟨_,a1,rfl⟩;refine Aa (BJ (Aa (DF T1 (Aa (DF T1 ?_)))));change Am _ _ (Ec (.ref z) 6 es[i].key es[i].val) _ _ _;unfold Ec;refine Aa (GQ ?_);have n1:k1.objs.size=hp.objs.size:=b1.1;obtain ⟨k2,e2⟩:∃k2,k2=k1.push {cls:=.type "tuple",data:=.seq #[es[i].key,es[i].val]}:=⟨_,rfl⟩;have a2:DM k2 z d (i+1) es.size ep u0 u1:=by rw [e2];exact Ae _ a1
 have c2:k2.get? hp.objs.size=some {cls:=.type "tuple",data:=.seq #[es[i].key,es[i].val]}:=by rw [e2,<- n1];exact Av _ rfl
 have d2:∀b o,b≠z->hp.get? b=some o->k2.get? b=some o:=fun b o hb y=>by rw [e2];exact Ae _ (b1.extBut b o hb y)
 change Am _ _ (DZ (.ref z) >>= _) _ _ ⟨k1.push {cls:=.type "tuple",data:=.seq #[es[i].key,es[i].val]},g,dr,tk,os⟩;rw [<- e2,n1];clear e2 a1 b1 T1 n1;refine Aa ?_;unfold DZ;refine Aa (Bm a2 rfl (x:=.none) rfl (Ac ?_));simp only [if_true];refine Aa (Bm a2 rfl (x:=u0) rfl (Aa (Bm a2 rfl (x:=u1) rfl (Aa (Bg a2 (by simp) fun k3 a3 b3=>?_)))));have a3:DM k3 z d (i+1) es.size ep es[i].key u1:=a3;refine Aa (Bg a3 (by simp) fun k4 a4 b4=>?_);have a4:DM k4 z d (i+1) es.size ep es[i].key es[i].val:=a4;refine Aa (Bg a4 (by simp) fun k5 a5 b5=>?_);have a5:Hw k5 z d (i+1) es.size ep es[i].key es[i].val hp.objs.size:=a5;refine Aa (Bg a5 (by simp) fun k6 a6 b6=>?_);have a6:Hw k6 z d (i+1) es.size ep es[i].key es[i].val hp.objs.size:=a6;have b3:BH z k2 k3:=b3;have b4:BH z k3 k4:=b4;have b5:BH z k4 k5:=b5;have b6:BH z k5 k6:=b6;have all:∀b o,b≠z->k2.get? b=some o->k6.get? b=some o:=fun b o hb y=>b6.extBut b o hb (b5.extBut b o hb (b4.extBut b o hb (b3.extBut b o hb y)));exact Aa (DB (Ac (Ac ⟨_,rfl,Ac (q k6 a6 (all _ _ (Fc lz) c2) fun b o hb y=>all b o hb (d2 b o hb y))⟩)))
theorem Xrs {Q:Option Value->Af->Prop}(hh:A.handled=none)(hz:DM s.heap z d i es.size ep u0 u1)(ho:s.heap.get? d=some od)(hd:od.data=.dict es ep)(hi:es.size<=i)
  (q:∀h',D8 z s.heap h'->Q none {s with heap:=h'}):Am (Aw prog w) A (Dq (.ref z)) Q E s:=by
 have T:s.TypeIs (.ref z) "dict_itemiterator":=⟨_,hz,rfl⟩;unfold Dq;refine Aa (Du (Bk (name:=BA "__next__") T BX (Ba BX T Ge (Aa (Ac (Aa (Aa ?_)))) (FR _))))
 first | refine Aa (Cu T (Ac (Aa (Cv hz rfl ?_)))) | refine Aa (Do T (Ac (Aa (Cv hz rfl ?_))))
 simp only [show BI "dict_itemiterator"=true by decide,if_true];change Am _ _ (ite ((AG d==Bw)=true) _ _) _ _ s;rw [if_neg fun y:(AG d==Bw)=true=>Au y];refine Aa (Ac (Aa (BL ho hd ?_)));rw [if_neg (by simp)];refine Aa (Ac (Aa (Dv ho hd ?_)));rw [if_neg (by simp)];refine Ac ?_;simp only [show ¬((i:Int)<0) from by omega,if_false,CW,GM hi];refine Aa ?_
 first | refine Aa (Cu T (Ac ?_)) | refine Aa (Do T (Ac ?_))
 change Am _ _ (Iz (.ref z) 2 .none >>= _) _ _ s;apply Aa;refine Bg hz (by simp) fun k1 a1 b1=>?_;have b1:BH z s.heap k1:=b1;change Am _ _ (HS (.type "StopIteration") [] >>= _) _ _ _;refine Aa ?_;simp only [HS,K6];refine Aa (AZ (Aa (m:=DG _ _) (Gw (a:=Bw) (by first | rfl | (simp only [DG];rfl)) (AZ ?_ (by size_fits)))) (by size_fits));simp only [K5];apply Aa;refine Hl ?_;have h9:A.in1.handled=none:=hh;rw [h9];refine Aa (Ac (Iu ?_));exact Aa (EF (T:="StopIteration") (b:=true) ⟨_,Av _ rfl,rfl⟩ GX (Ac (q _ ((b1.extBut.push _).push _))))
theorem Xkq {v:Addr}(hv:s.heap.IsItemsView v d)(ho:s.heap.get? d=some od)(hd:od.data=.dict es ep)
  (q:Q (.ref s.heap.objs.size) {s with heap:=s.heap.push {cls:=.type "dict_itemiterator",data:=.fields #[.none,.bool false,.ref d,.int 0 0,.int es.size 0,.int ep 0,.none,.none]}}):Am (Aw prog w) A (GS (.ref v)) Q E s:=by
 obtain ⟨o1,h1,h2,h3⟩:=id hv;refine FV hv.typeIs Hz (Ba Hz hv.typeIs F.entry_dict_items_iter ?_ (F.args_dict_items_iter_1 _));unfold D9.«dict_items.__iter__»;refine Aa (Ac (Aa ?_));unfold Ir;refine Aa (Bm h1 h3 (x:=.ref d) rfl (Ac (Aa ?_)));unfold Iq;refine Aa (BL ho hd (Aa (Dv ho hd ?_)));simp only [show BI "dict_itemiterator"=true by decide,if_true];refine AZ (Ac ⟨_,rfl,"dict_itemiterator",_,⟨_,Av _ rfl,rfl⟩,BX.lookup,?_⟩) (by simp only [sizeOk,D0,AE,Ak,Bt,Fz,Ep];omega);simpa [DV,D0] using q
theorem Zgd:entryFor table "dict_itemiterator.__iter__"=some D9.«dict_keyiterator.__iter__»:=entryFor_alias (id':="dict_keyiterator.__iter__") (by kernel_rfl) rfl (by decide +kernel) (by kernel_rfl)
def ItIt (a:Addr)(o:Obj)(kvs:List (List Key×V)):It:=
 ⟨fun i H=>H a=some (.frz o (.dT kvs))/\i<kvs.length,fun i H x H'=>∃kv b p,kvs[i]?=some kv/\H b=some (.tup (kv.1.map kV))/\x=.ref p/\H p=none/\H'=upd H p (.tup [.ref b,kv.2]),fun i H=>H a=some (.frz o (.dT kvs))/\kvs.length<=i⟩
theorem Ztf (a it:Addr)(o:Obj)(kvs:List (List Key×V))(es:Array C3)(ep:Nat)(h2:o.data=.dict es ep)(hn:es.size=kvs.length) :
    Turn P w K (.Tuple elts x1 pos) (ItIt a o kvs) [it] it (fun i h=>∃u0 u1,DM h it a i es.size ep u0 u1) where
  mem:=by simp
  obj:=fun i h st b hb=>by
    have e:b=it:=by simpa using hb
    subst e;obtain ⟨u0,u1,st⟩:=st;exact ⟨_,st,fun v z=>by cases z⟩
  keep:=fun i h h' st k=>by obtain ⟨u0,u1,st⟩:=st;exact ⟨u0,u1,k it (by simp) _ st⟩
  item:=by
    intro X hP hw hK hc i pins s σ H E I hf st hg;subst hP hw hK;obtain ⟨hfz,hi⟩:=hg;obtain ⟨u0,u1,st⟩:=st;obtain ⟨ho,hob⟩:=I.hok a _ hfz;obtain ⟨_,_,xs,r,o',es',ep',e1,_,e3,e4,_⟩:=hob;rw [ho] at e1;cases e1;rw [h2] at e3;cases e3;have hk:kvs[i]?=some kvs[i]:=Ag hi;obtain ⟨q,hq1,hq2,hq3,hq4⟩:=Paired.at_ r hk;have hie:i<es.size:=by omega
    have ee:es[i]=ET (CV (Yb X.prog X.w)) q:=by
      have:es.toList[i]?=some (ET (CV (Yb X.prog X.w)) q):=by rw [e4,AM,hq1];rfl
      rw [Ag (by simpa using hie)] at this;have z:=AK this;rw [Hh] at z;exact z
    have ek:es[i].key=.ref q.2.1:=by rw [ee];rfl
    have ev:es[i].val=q.2.2:=by rw [ee];rfl
    refine Xki st ho h2 hie fun h' a1 a2 a3=>?_;rw [ek,ev] at a1 a2;refine ⟨_,rfl,wpAny_letOwnedTupleGo_items a1 fun h'' b1 b2=>?_⟩;have hne:s.heap.objs.size≠it:=fun z=>absurd (AJ st) (by rw [<- z];exact Bb _);have ht:=b2.extBut _ _ hne a2;have I2:=I.turnTup (t':=s.toks) (h':=h'') (ch:=[it]) (p:=s.heap.objs.size) (xs:=[.ref q.2.1,kvs[i].2]) (its:=[.ref q.2.1,q.2.2]) (fun c o hc z=>by
      have hc:c≠it:=fun y=>hc (by rw [y];exact .head _);exact b2.extBut _ _ hc (a3 c o hc z)) (fun c hc=>hf c hc) (As _) (by show 2<=Ap;decide) (Zkz rfl hq4) ⟨_,ht,rfl,_,rfl⟩
    refine ⟨.ref s.heap.objs.size,_,I2,rfl,⟨kvs[i],q.2.1,_,hk,hq3,rfl,I.hok.fresh (As _),rfl⟩,⟨_,_,b1⟩,fun c hc=>?_⟩;have hc':c=it:=by simpa using hc
    rw [Xc (by rw [hc'];exact hne.symm)];exact (hf c hc).1
  done:=by intro X hP hw hK hc i pins s σ H E I hf st hg;subst hP hw hK;obtain ⟨f0,f1,f2,f3,f4,f5⟩:=hf it (by simp);obtain ⟨hfz,hi⟩:=hg;obtain ⟨u0,u1,st⟩:=st;have ho:=(I.hok a _ hfz).1;exact Xrs (I.ok.hd hc) st ho h2 (by omega) fun h' eb=>⟨rfl,I.turned (t':=s.toks) (fun b o hb e=>eb b o hb e) f0 f1 f3 f4 f5⟩
  self:=fun _ _ _ _ _ st h=>by obtain ⟨u0,u1,st⟩:=st;refine FV (T:="dict_itemiterator") ⟨_,st,rfl⟩ PySem.F.slot_dict_itemiterator_iter (Ba PySem.F.slot_dict_itemiterator_iter ⟨_,st,rfl⟩ Zgd ?_ (PySem.F.args_dict_itemiterator_iter_1 _));show Am _ _ (ret (.ref it)) _ _ _;exact Ac ⟨_,rfl,"dict_itemiterator",_,⟨_,st,rfl⟩,PySem.F.slot_dict_itemiterator_next.lookup,h⟩
def Xlw (a:Addr)(o:Obj)(kvs:List (List Key×V)):It:=
 ⟨fun i H=>H a=some (.frz o (.dT kvs))/\i<kvs.length,fun i H x H'=>H'=H/\∃kv b,kvs[i]?=some kv/\x=.ref b/\H b=some (.tup (kv.1.map kV)),fun i H=>H a=some (.frz o (.dT kvs))/\kvs.length<=i⟩
theorem Zub (a it:Addr)(o:Obj)(kvs:List (List Key×V))(es:Array C3)(ep:Nat)(h2:o.data=.dict es ep)(hn:es.size=kvs.length):Turn P w K tg (Xlw a o kvs) [it] it (fun i h=>h.IsKeyIter it a i es.size ep):=
  let T:=Ztk (P:=P) (w:=w) (K:=K) (tg:=tg) a it o kvs es ep h2 hn
  ⟨T.mem,T.obj,T.keep,T.item,by
    intro X hP hw hK hc i pins s σ H E I hf st hg;subst hP hw hK;obtain ⟨f0,f1,f2,f3,f4,f5⟩:=hf it (by simp);obtain ⟨hfz,hi⟩:=hg;have ho:=(I.hok a _ hfz).1;exact Zkq (I.ok.hd hc) st ho h2 (by omega) fun h' eb=>⟨rfl,I.turned (t':=s.toks) (fun b o hb e=>eb b o hb e) f0 f1 f3 f4 f5⟩,T.self⟩
section
variable {l:Expr}{tl:TE}
def Zwa (tl:TE):TI:=fun σ H R=>tl σ H fun x H1=>∃a o kvs,x=.ref a/\H1 a=some (.frz o (.dT kvs))/\R (ItIt a o kvs) H1
def Zxe (tl:TE):TI:=fun σ H R=>tl σ H fun x H1=>∃a o kvs,x=.ref a/\H1 a=some (.frz o (.dT kvs))/\R (Xlw a o kvs) H1
theorem Xce (hl:PE X l tl):PI X tg l (Zxe tl):=by
 intro pins s σ H R I h;refine thn (hl pins s σ H _ I h) fun v s1 hz9=>?_;obtain ⟨x,H1,I1,r1,a,o,kvs,e,hq,q⟩:=hz9;subst e;cases r1;obtain ⟨ho,_,hd,xs,r,o',es,ep,ho',h1,h2,h3,_⟩:=I1.hok a _ hq;rw [ho] at ho';cases ho';have hn:es.size=kvs.length:=by rw [<- Bu,h3,Ah];exact (Paired.length r).symm
 refine Zmk hd ho h1 h2 ?_;refine ⟨s1.heap.objs.size,[s1.heap.objs.size],_,_,_,rfl,I1.kept (t':=s1.toks) fun b o e=>Ae _ e,Zub a _ o kvs es ep h2 hn,⟨_,Av _ rfl,rfl,rfl⟩,fun b hb=>?_,q⟩;have e:b=s1.heap.objs.size:=by simpa using hb
 subst e;exact I1.fpOk (As _) (I1.hok.fresh (As _))
structure M0 (X:Cx)(o:Expr)(md:Str)(apos cpos:Pos):Prop where
 base:Cq o md X.env (A9 o X.env)=A9 o X.env
 few:((BG cpos (Ad ([]:List Expr) X.env)).all (fun x=>!x.1)&&(Ej cpos (De [] X.env)).all (fun x=>x.1.isSome)&&decide (([]:List Expr).length+([]:List Ce).length+(if ([]:List Ce).isEmpty then 0 else 1)<30))=true
 line:(apos.endLine==cpos.line)=true
 trees:BG cpos (Ad ([]:List Expr) X.env)=[]
theorem Xgl (hl:PE X l tl)(m:M0 X l "items" apos cpos):PI X (.Tuple elts x1 tpos) (.Call (.Attribute l "items" apos) [] [] cpos) (Zwa tl):=by
 intro pins s σ H R I h;refine wpAny_Call_method m.base m.few m.line PySem.F.plainAttrs_dict PySem.F.slot_dict_items PySem.F.type_dict_items (thn (hl pins s σ H _ I h) fun u s1 hz9=>?_);obtain ⟨x,H1,I1,rx,a,o,kvs,ex,hq,q⟩:=hz9;subst ex;obtain rfl:u=AG a:=rx;obtain ⟨ho,_,hd,xs,r,o',es,ep,ho',h1,h2,h3,_⟩:=I1.hok a _ hq;rw [ho] at ho';cases ho';have hn:es.size=kvs.length:=by rw [<- Bu,h3,Ah];exact (Paired.length r).symm
 obtain ⟨t1,t2,_⟩:=Xov I1 (.inr ⟨kvs,.inr ⟨o,hq⟩⟩);refine ⟨t1,t2,?_⟩;rw [m.trees];refine GL rfl (PySem.evalArgs_none ?_);refine Ba PySem.F.slot_dict_items t1 PySem.F.entry_dict_items ?_ (PySem.F.args_dict_items_1 _);unfold D9.«dict.items» KY;refine Aa (Aa (E3 t1 ?_));change Am _ _ (BD a) _ _ s1;refine Ac ?_;change Am _ _ (Cm a >>= _) _ _ s1;unfold Cm;rw [if_neg (by rw [hd];exact Au)];refine Aa (Ac (Aa (AZ (Ac ⟨_,rfl,?_⟩))));have hv:(s1.heap.push {cls:=.type "dict_items",data:=.fields #[.ref a]}).IsItemsView s1.heap.objs.size a:=⟨_,Av _ rfl,rfl,rfl⟩;have I2:Inv X pins σ H1 {s1 with heap:=s1.heap.push {cls:=.type "dict_items",data:=.fields #[.ref a]}}:=I1.kept (t':=s1.toks) fun b o e=>Ae _ e;refine Xkq (s:={s1 with heap:=s1.heap.push {cls:=.type "dict_items",data:=.fields #[.ref a]}}) hv (Ae _ ho) h2 ?_;refine ⟨_,[_],_,_,_,rfl,I2.kept (t':=s1.toks) fun b o e=>Ae _ e,Ztf a _ o kvs es ep h2 hn,⟨_,_,Av _ rfl⟩,fun b hb=>?_,q⟩;have e:=Aj.mp hb;subst e;exact I2.fpOk (As _) (I2.hok.fresh (As _))
end
section
variable {E:XK}{S:List (Nat×Bool)}
theorem RpA.at1 {H:Hp}:∀{ds:List D} {vs:List V} {i:Nat} {d:D},RpA K C H ds vs []->ds[i]?=some d->∃v,vs[i]?=some v/\Rp K C H d v []
 | [],_,_,_,_,e=>by simp at e
 | x::ds,vs,i,d,r,e=>by
  obtain ⟨y,l,B,B',rfl,h1,h2,h3⟩:=r;have b:=Et.mp h3.symm;obtain ⟨rfl,rfl⟩:=b;cases i with
  | zero =>simp at e;subst e;exact ⟨y,rfl,h1⟩
  | succ i =>obtain ⟨v,q1,q2⟩:=RpA.at1 (i:=i) h2 (by simpa using e);exact ⟨v,by simpa using q1,q2⟩
theorem Xay {b:Addr}(hk:k.all Dl.kOk=true)(hb:H b=some (.tup (k.map kV))):Rp K C H (Dl.Zdn k) (.ref b) []:=⟨b,_,rfl,hb,Zzx hk⟩
theorem Zun {xs:List D}(h1:Hc a=some (.frz o (.dT (ks.zip ys))))(hl:ks.length=xs.length)(r:RpA K C Hc xs ys [])(hk:(ks.all fun k=>k.all Dl.kOk)=true):Goes K C (ItIt a o (ks.zip ys)) (A3 (fun k x=>.tup [Dl.Zdn k,x]) ks xs) Hc:=fun H2 g=>by
 have hy:=r.len;have hz:(ks.zip ys).length=ks.length:=by rw [ER];omega
 have hw:(A3 (fun k x=>D.tup [Dl.Zdn k,x]) ks xs).length=ks.length:=by rw [Cb];omega
 refine ⟨fun i hi=>⟨g _ _ h1,by omega⟩,fun i hi=>⟨g _ _ h1,by omega⟩,fun i x H3 hi y=>?_⟩;obtain ⟨kv,b,p,e1,e2,rfl,e4,rfl⟩:=y;rw [hw] at hi;have hx:i<xs.length:=by omega
 obtain ⟨v,v1,v2⟩:=r.at1 (Ag hx);have ek:kv=(ks[i],v):=by
  have:(ks.zip ys)[i]?=some (ks[i],v):=by rw [C7];exact ⟨Ag hi,v1⟩
  rw [this] at e1;exact (AK e1).symm
 subst ek;have hb:b≠p:=fun z=>by subst z;rw [e4] at e2;cases e2
 have sm:Xf H2 (upd H2 p (.tup [.ref b,v])):=sameNew e4 _;refine ⟨sm,.tup [Dl.Zdn ks[i],xs[i]],[],?_,⟨p,_,rfl,Xd,⟨_,_,[],[],rfl,Xay (Bp.mp hk _ (Cg hi)) (by rw [Xc hb];exact e2),⟨_,_,[],[],rfl,(v2.same g).same sm,RpA.nil,rfl⟩,rfl⟩⟩,fun _ z=>nomatch z⟩;rw [G8,Ag hi,Ag hx]
theorem Zua (h1:Hc a=some (.frz o (.dT (ks.zip ys))))(hl:ks.length=ys.length)(hk:(ks.all fun k=>k.all Dl.kOk)=true):Goes K C (Xlw a o (ks.zip ys)) (ks.map Dl.Zdn) Hc:=fun H2 g=>by
 have hz:(ks.zip ys).length=ks.length:=by rw [ER];omega
 refine ⟨fun i hi=>⟨g _ _ h1,by rw [Ah] at hi;omega⟩,fun i hi=>⟨g _ _ h1,by rw [Ah] at hi;omega⟩,fun i x H3 hi y=>?_⟩;obtain ⟨rfl,kv,b,e1,rfl,e2⟩:=y;rw [Ah] at hi;have ek:kv.1=ks[i]:=by
  have:(ks.zip ys)[i]?=some (ks[i],ys[i]'(by omega)):=by rw [C7];exact ⟨Ag hi,Ag _⟩
  rw [this] at e1;rw [<- AK e1]
 rw [ek] at e2;refine ⟨Xf.refl _,Dl.Zdn ks[i],[],by rw [AM,Ag hi];rfl,Xay (Bp.mp hk _ (Cg hi)) e2,fun _ z=>nomatch z⟩
theorem Zna (h:Agree [] H Hc)(e:H a=some (.frz o u)):Hc a=some (.frz o u):=h.2 a _ e fun z=>by cases z
theorem Xac {t:TE}(h:EOk K C E Γ Δ m S t f):IOk K C E Γ Δ [] (Zwa t) (Dl.Zhz f):=fun H0 Hb H σ ρ A Rr I p=>h H0 Hb H σ ρ A _ I (p.bind.imp (fun d q v H' g r=>by
  obtain ⟨B,r,r',_⟩:=r;cases d with
  | fdt ks ds =>obtain ⟨a,o,ys,rfl,e1,e2,e3,e4⟩:=r;simp only at q;split at q;rename_i hl;exact ⟨a,o,_,rfl,e1,q _ H' [] g (fun _ z=>nomatch z) (by rw [Cb];exact Az (EB _ _) hl.1) fun Hc h1=>Zun (Zna h1 e1) e2 (e3.agree h1 fun _ z=>nomatch z) hl.2⟩;exact q.elim
  | _=>exact q.elim) fun c x q H' g'=>q H' g')
theorem Zxq {t:TE}(h:EOk K C E Γ Δ m S t f):IOk K C E Γ Δ [] (Zxe t) (Dl.Zhc f):=fun H0 Hb H σ ρ A Rr I p=>h H0 Hb H σ ρ A _ I (p.bind.imp (fun d q v H' g r=>by
  obtain ⟨B,r,r',_⟩:=r;cases d with
  | fdt ks ds =>obtain ⟨a,o,ys,rfl,e1,e2,e3,e4⟩:=r;simp only at q;split at q;rename_i hl;exact ⟨a,o,_,rfl,e1,q _ H' [] g (fun _ z=>nomatch z) (by rw [Ah];exact hl.1) fun Hc h1=>Zua (Zna h1 e1) (by rw [e2,e3.len]) hl.2⟩;exact q.elim
  | _=>exact q.elim) fun c x q H' g'=>q H' g')
theorem Zjq (h:JE X C E Γ Δ m S e te fe)(hbase:Cq e "items" X.env (A9 e X.env)=A9 e X.env:=by rfl)
  (hfew:((BG cpos (Ad ([]:List Expr) X.env)).all (fun x=>!x.1)&&(Ej cpos (De [] X.env)).all (fun x=>x.1.isSome)&&decide (([]:List Expr).length+([]:List Ce).length+(if ([]:List Ce).isEmpty then 0 else 1)<30))=true:=by rfl)
  (hline:(apos.endLine==cpos.line)=true:=by rfl) (htr:BG cpos (Ad ([]:List Expr) X.env)=[]:=by rfl):JI X C E Γ Δ [] (.Tuple elts x1 tpos) (.Call (.Attribute e "items" apos) [] [] cpos) (Zwa te) (Dl.Zhz fe):=⟨⟨Xgl h.q.out ⟨hbase,hfew,hline,htr⟩⟩,Xac h.o⟩
theorem Zjx (h:JE X C E Γ Δ m S e te fe):JI X C E Γ Δ [] tg e (Zxe te) (Dl.Zhc fe):=⟨⟨Xce h.q.out⟩,Zxq h.o⟩
end
inductive LorT:HO->Prop where
 | lst {xs:List V}:LorT (.lst xs)
 | dtt {kvs:List (List Key×V)}:LorT (.dT kvs)
theorem LorT.isM (h:LorT u):IsM u:=by cases h;exact .lst;exact .dtt
def tFz (te:TE):TE:=fun σ H Q=>te σ H fun v H1=>∃a u,v=.ref a/\H1 a=some u/\LorT u/\∀o,Q v (upd H1 a (.frz o u))
theorem Xlu (h:PE X e te):PE X e (tFz te):=by
 intro pins s σ H Q I hq;refine thn (h pins s σ H _ I hq) fun v s1 hz=>?_;obtain ⟨x,H1,I1,r1,a,u,rfl,hu,lt,q⟩:=hz;obtain ⟨o,ho⟩:∃o,s1.heap.get? a=some o:=by
  have z:=I1.hok a u hu;cases lt with
  | lst=>obtain ⟨_,its,n,_,e⟩:=z;exact ⟨_,e⟩
  | dtt=>obtain ⟨_,_,_,_,o,_,_,e,_⟩:=z;exact ⟨o,e⟩
 exact ⟨.ref a,_,(I1.fz hu (by rw [hu];cases lt<;>trivial) (fun _ _ _=>by cases lt<;>exact ⟨(fun z=>nomatch z),(fun z=>nomatch z)⟩) ho).1,r1,q o⟩
section
variable {E:XK}{S:List (Nat×Bool)}
theorem Xra (hu:H a=some u)(lt:LorT u):Ext (fun c=>c=a) H (upd H a (.frz o u)):=fun b ob hb=>by by_cases e:b=a;subst e;rw [hu] at hb;cases hb;exact .inr ⟨rfl,lt.isM⟩;rw [Xc e];exact .inl hb
theorem RpA.fz {xs:List V}(hu:H a=some u)(lt:LorT u)(r:RpA K C H ds xs []):RpA K C (upd H a (.frz o u)) ds xs []:=r.ext (Xra hu lt) fun _ z=>nomatch z
theorem Zpb {H1:Hp}(hn:H a=none)(g:Xf H H1):Xf H (upd H1 a (.frz o u)):=fun b ob hb=>by rw [Xc fun z=>by subst z;rw [hn] at hb;cases hb];exact g b ob hb
theorem Xkx (h:EOk K C E Γ Δ 2 [] te fe):EOk K C E Γ Δ 2 [] (tFz te) (Dl.f1 Dl.Xhq fe):=fun H0 Hb H σ ρ A Q I p =>
  h H0 Hb H σ ρ A _ I (p.bind.imp (fun d q v H1 g r=>by
    obtain ⟨z,e,q⟩:=Zei q;obtain ⟨B,r1,r2,_⟩:=r;cases d with
    | lst ds =>
      have e:(if Dl.Zu ds=true then some (D.flst ds) else none)=some z:=e;split at e;rename_i hf;cases e;obtain ⟨a,xs,B',rfl,h1,h2,rfl⟩:=r1;have eB:=h2.flat hf;subst eB;have hn:H a=none:=(r2 a (.head _)).elim id fun z=>by obtain ⟨_,w,_⟩:=z;cases w
      exact ⟨a,_,rfl,h1,.lst,fun o=>q _ _ (Zpb hn g) (Res.flat ⟨a,o,xs,rfl,Xd,RpA.fz h1 .lst h2,rfl⟩)⟩;cases e
    | _=>cases e) fun c x q H' g'=>q H' g')
theorem Xjb (h:EOk K C E Γ Δ 2 [] te fe):EOk K C E Γ Δ 2 [] (tFz te) (Dl.f1 Dl.Xmr fe):=fun H0 Hb H σ ρ A Q I p =>
  h H0 Hb H σ ρ A _ I (p.bind.imp (fun d q v H1 g r=>by
    obtain ⟨z,e,q⟩:=Zei q;obtain ⟨B,r1,r2,_⟩:=r;cases d with
    | dtt ks ds =>
      have e:(if Dl.Zu ds=true then some (D.fdt ks ds) else none)=some z:=e;split at e;rename_i hf;cases e;obtain ⟨a,xs,B',rfl,h1,h0,h2,rfl⟩:=r1;have eB:=h2.flat hf;subst eB;have hn:H a=none:=(r2 a (.head _)).elim id fun z=>by obtain ⟨_,w,_⟩:=z;cases w
      exact ⟨a,_,rfl,h1,.dtt,fun o=>q _ _ (Zpb hn g) (Res.flat ⟨a,o,xs,rfl,Xd,h0,RpA.fz h1 .dtt h2,rfl⟩)⟩;cases e
    | _=>cases e) fun c x q H' g'=>q H' g')
theorem Zwf (hi:i∈Γ):SOk K C E mr Γl Δl Γ Δ Γ' Δ' (Xhd (tFz (Zge i))) (Dl.Zjc i):=fun H0 Hb H σ ρ A D I p=>by unfold Dl.Zjc at p;split at p;rename_i ks ds e;split at p;rename_i hf;obtain ⟨a,xs,l,s1,h1,h2,r1,hA,hl⟩:=Zgi I e;have el:=r1.flat hf;subst el;have hn:H0 a=none:=I.loc i hi a (by rw [hA];exact .head _);exact ⟨.ref a,s1,a,_,rfl,h1,.dtt,fun o=>p _ _ (Zpb hn (I.s0.trans I.same)) (Res.flat ⟨a,o,xs,rfl,Xd,h2,RpA.fz h1 .dtt r1,rfl⟩)⟩;exact p.elim;exact p.elim
theorem Zq.frozen {H0 Hb:Hp}{σ:St}{ρ:Xp}{A:Nat->List Addr}{ks:List (List (Int ⊕ Str))}(I:Zq K C H0 Hb H Γ Δ σ ρ A)(hj:j∈Γ)(e:ρ[j]?=some (some (.dtt ks ds)))(hf:Dl.Zu ds=true)(h1:∀k∈Γ',k∈Γ/\k≠j)(h2:∀k∈Δ',k∈Δ/\k≠j) :
    ∃a xs,σ[j]?=some (some (.ref a))/\H a=some (.dT (ks.zip xs))/\∀o,∃A',Zq K C H0 Hb (upd H a (.frz o (.dT (ks.zip xs)))) Γ' Δ' σ (ρ.set j DC) A'/\(∀k,k≠j->A' k=A k)/\Rp K C (upd H a (.frz o (.dT (ks.zip xs)))) (.fdt ks ds) (.ref a) []:=by
  obtain ⟨a,xs,l,s1,q1,q2,r1,hA,hl⟩:=Zgi I e;have el:=r1.flat hf;subst el;obtain ⟨t1,t2,t3⟩:=I.top j hj a [] hA;refine ⟨a,xs,s1,q1,fun o=>?_⟩;have I1:=(I.weak (Γ':=Γ') (Δ':=Δ') (fun k hk=>(h1 k hk).1) (fun k hk=>(h2 k hk).1)).dead (j:=j) (σ':=σ) rfl (fun _ _=>rfl) (fun z=>(h1 j z).2 rfl) (fun z=>(h2 j z).2 rfl);have I2:=I1.away (H':=upd H a (.frz o (.dT (ks.zip xs)))) (W:=[a]) (fun b ob hb h=>by rw [Xc fun z=>hb (by rw [z];exact .head _)];exact h) (fun c hc=>by rw [Aj.mp hc];exact t1) (fun k c hck hcm=>by
    rw [Aj.mp hcm] at hck;by_cases ek:k=j;rw [if_pos ek] at hck;cases hck
    · rw [if_neg ek] at hck;exact t3 k ek hck) (fun c hcm ob h=>by
    rw [Aj.mp hcm,q1] at h;cases h;exact .dtt)
  exact ⟨_,I2,fun k hk=>if_neg hk,a,o,xs,rfl,Xd,q2,RpA.fz q1 .dtt r1,rfl⟩
theorem Xbc (hj:j∈Γ:=by decide)(h1:∀k∈Γ',k≠j/\(k=i\/k∈Γ):=by decide)(h2:∀k∈Δ',k≠j/\(k=i\/k∈Δ):=by decide):SOk K C E mr Γl Δl Γ Δ Γ' Δ' (Zgl (tFz (Zge j)) (Yw i)) (Dl.Zjg i j):=fun H0 Hb H σ ρ A D I p=>by unfold Dl.Zjg at p;split at p;rename_i ks ds e;split at p;rename_i hf;obtain ⟨a,xs,s1,q1,z⟩:=I.frozen (Γ':=Γ.filter (·≠j)) (Δ':=Δ.filter (·≠j)) hj e hf.1 (fun k hk=>⟨(Cc.mp hk).1,by simpa using (Cc.mp hk).2⟩) (fun k hk=>⟨(Cc.mp hk).1,by simpa using (Cc.mp hk).2⟩);refine ⟨.ref a,s1,a,_,rfl,q1,.dtt,fun o=>?_⟩;obtain ⟨A',I',_,r⟩:=z o;obtain ⟨A4,I4,_⟩:=I'.put (Γ':=Γ') (Δ':=Δ') (i:=i) r (fun k hk e=>⟨Cc.mpr ⟨(h1 k hk).2.resolve_left e,by simpa using (h1 k hk).1⟩,fun _ _ _ h=>nomatch h⟩) (fun _=>⟨(fun _ h=>nomatch h),fun _ _ h=>nomatch h⟩) (fun k hk e=>⟨Cc.mpr ⟨(h2 k hk).2.resolve_left e,by simpa using (h2 k hk).1⟩,fun _ _ h=>nomatch h⟩) (fun _=>⟨A6,(fun _ _ _ h=>nomatch h),fun _ h=>nomatch h⟩);exact p _ _ A4 I4;exact p.elim;exact p.elim
theorem Zzq (hi:i∈Γ:=by decide)(hj:j∈Γ:=by decide)(h1:∀k∈Γ',k∈Γ/\k≠j:=by decide)(h2:∀k∈Δ',k∈Δ/\k≠j:=by decide)(hi':i∈Γ':=by decide) :
  SOk K C E mr Γl Δl Γ Δ Γ' Δ' (Zga (tBM K "list" Zbf (Zge i) (Zbu (tFz (Zge j)) Ztt))) (Dl.Zhk i j):=fun H0 Hb H σ ρ A D I p=>by
 unfold Dl.Zhk at p;split at p;rename_i ds0 ks ds e1 e2;split at p;rename_i hf;obtain ⟨f1,f2,hij,hz⟩:=hf;obtain ⟨b,ys,l,s1,h1',r1,hA,hl⟩:=Zku I e1;have el:=r1.flat f2;subst el;obtain ⟨a,xs,s2,q1,z⟩:=I.frozen hj e2 f1 h1 h2;have hab:b≠a:=fun y=>by subst y;rw [h1'] at q1;cases q1
 refine ⟨.ref b,s1,.inl ⟨rfl,ys,SqL.of h1'⟩,.ref a,s2,a,_,rfl,q1,.dtt,fun o=>?_⟩;obtain ⟨A',I',eA,r⟩:=z o;obtain ⟨A4,I4⟩:=I'.rewrite (Xf.refl _) hi' (a:=b) (l:=[]) ((eA i hij).trans hA) (by rw [DA];exact hl) s1 (es:=ds0++[.fdt ks ds]) (ys:=ys++[.ref a]) (B':=[]) (RpA.snoc0 r (RpA.fz q1 .dtt r1)) (fun _ h=>nomatch h) fun _=>A6;exact ⟨b,ys,.ref a,rfl,rfl,by rw [Xc hab];exact h1',by rw [r1.len];exact Zcu hz,p σ _ A4 I4⟩;exact p.elim;exact p.elim
variable {pos':Pos}
theorem Zrw (h:JE X C E Γ Δ 2 [] e te fe):JE X C E Γ Δ 2 [] e (tFz te) (Dl.f1 Dl.Xhq fe):=⟨⟨Xlu h.q.out⟩,Xkx h.o⟩
theorem Zsp (h:JE X C E Γ Δ 2 [] e te fe):JE X C E Γ Δ 2 [] e (tFz te) (Dl.f1 Dl.Xmr fe):=⟨⟨Xlu h.q.out⟩,Xjb h.o⟩
theorem Xmk (h:QE X e te):QE X e (tFz te):=⟨Xlu h.out⟩
theorem Xbz (hN:X.N.Nodup)(hi:X.N[i]?=some x)(hx:Loc X.env.scope x)(hj:j∈Γ:=by decide)(h1:∀k∈Γ',k≠j/\(k=i\/k∈Γ):=by decide)(h2:∀k∈Δ',k≠j/\(k=i\/k∈Δ):=by decide)
  (hN2:X.N[j]?=some y:=by rfl) (hv2:autoParam (Vis X.env.scope y) aT3._auto_1) (hd2:(y==("__debug__":Str))=false:=by decide) (hcd2:(y==("__classdict__":Str))=false:=by decide)
  (hs:BO (.Name y p2) (some (.Name x pos')) pos.line X.env=BD false:=by rfl) (hf:autoParam (X.fn x=true\/X.env.scope.names.lookup x=some .local) aT0._auto_1) :
  JS X C E mr Γl Δl Γ Δ Γ' Δ' (.Assign [.Name x pos'] (.Name y p2) pos) (Zgl (tFz (Zge j)) (Yw i)) (Dl.Zjg i j):=⟨Znp hN hi hx (Xmk (qv j hN2 hv2 hd2 hcd2)) hs hf,Xbc hj h1 h2⟩
theorem Zqv (hi:i∈Γ:=by decide)(hj:j∈Γ:=by decide)(h1:∀k∈Γ',k∈Γ/\k≠j:=by decide)(h2:∀k∈Δ',k∈Δ/\k≠j:=by decide)(hi':i∈Γ':=by decide)
  (hN:X.N[i]?=some x:=by rfl) (hv:autoParam (Vis X.env.scope x) aT3._auto_1) (hd:(x==("__debug__":Str))=false:=by decide) (hcd:(x==("__classdict__":Str))=false:=by decide)
  (hN2:X.N[j]?=some y:=by rfl) (hv2:autoParam (Vis X.env.scope y) aT3._auto_1) (hd2:(y==("__debug__":Str))=false:=by decide) (hcd2:(y==("__classdict__":Str))=false:=by decide)
  (hse:Ad [.Name y p2] X.env=(false,A9 (.Name y p2) X.env)::Ad [] X.env:=by rfl)
  (hbase:Cq (.Name x p) "append" X.env (A9 (.Name x p) X.env)=A9 (.Name x p) X.env:=by rfl)
  (hfew:((BG cpos (Ad [.Name y p2] X.env)).all (fun x=>!x.1)&&(Ej cpos (De [] X.env)).all (fun x=>x.1.isSome)&&decide (([.Name y p2]:List Expr).length+([]:List Ce).length+(if ([]:List Ce).isEmpty then 0 else 1)<30))=true:=by rfl)
  (hline:(apos.endLine==cpos.line)=true:=by rfl) (hplain:(BG cpos (Ad ([]:List Expr) X.env)).any (·.1)=false:=by rfl) (hsw:BO (.Call (.Attribute (.Name x p) "append" apos) [.Name y p2] [] cpos) none pos.line X.env=BD false:=by rfl) :
  JS X C E mr Γl Δl Γ Δ Γ' Δ' (.Expr (.Call (.Attribute (.Name x p) "append" apos) [.Name y p2] [] cpos) pos) (Zga (tBM X.K "list" Zbf (Zge i) (Zbu (tFz (Zge j)) Ztt))) (Dl.Zhk i j):=
 ⟨Zhw (Xlt PySem.F.plainAttrs_list PySem.F.slot_list_append PySem.F.type_list_append Zen (qv i hN hv hd hcd) (Zdh (Xmk (qv j hN2 hv2 hd2 hcd2)) Zsf hse) hbase hfew hline hse hplain) hsw,Zzq hi hj h1 h2 hi'⟩
theorem Xdy (hi:i∈Γ:=by decide)(hN:X.N[i]?=some x:=by rfl)(hv:autoParam (Vis X.env.scope x) aT3._auto_1)(hd:(x==("__debug__":Str))=false:=by decide)(hcd:(x==("__classdict__":Str))=false:=by decide) :
  JS X C E mr Γl Δl Γ Δ Γ' Δ' (.Return (some (.Name x p)) pos) (Xhd (tFz (Zge i))) (Dl.Zjc i):=⟨Zyq (Xmk (qv i hN hv hd hcd)),Zwf hi⟩
end
def Zxg (tk tv:TE):TE:=fun σ H Q=>∀p,H p=none->tk σ (upd H p (.dT [])) fun y H1=>tv σ H1 fun v H2=>∃(k:List Key) (b:Addr),y=.ref b/\H2 p=some (.dT [])/\H2 b=some (.tup (k.map kV))/\Q (.ref p) (upd H2 p (.dT [(k,v)]))
theorem Xgo {k v:Expr}(hu:X.A.units+1<BC)(hk:PE X k tk)(hv:PE X v tv):PE X (.Dict [some k] [v] pos) (Zxg tk tv):=by intro pins s σ H Q I q;have hn:=I.hok.fresh (As s.heap.objs.size);have I1:=I.laid (a:=s.heap.objs.size) (o:=.dT []) (h':=s.heap.push {cls:=.type "dict",data:=.dict #[]}) (t':=s.toks) (fun _ _ q=>Ae _ q) (As _) (Zrd s.heap I.big);rw [arm_eval_Dict,zip_pairTrees [some k] [v] X.env pos rfl rfl,dictDisplay_pairs _ (by simp [pairTrees]) (by rw [Kq _ _ _ _ rfl rfl];exact (by decide:(1:Nat)<17))];refine Aa (Fs (Aa ?_));unfold subDict;refine Aa (wpAny_alloc (Aa (BJ ?_)));rw [if_pos (by rw [Kq _ _ _ _ rfl rfl];exact (by decide:(1:Nat)<=15))];refine Aa (pairTrees_cons_walk (thn (hk pins _ σ _ _ I1 (q _ hn)) fun u s1 hz1=>?_));obtain ⟨y,H1,I2,ry,q2⟩:=hz1;refine thn (hv pins s1 σ H1 _ I2 q2) fun r s2 hz2=>pairTrees_nil_walk ?_;obtain ⟨w,H2,I3,rw',kk,b,ey,e1,e2,q3⟩:=hz2;subst ey;cases (show u=AG b from ry);obtain ⟨z,hd,xs,rel,dd⟩:=Xry I3.hok e1;cases rel;refine BJ ?_;simp only [FC,Gi];refine Aa (Aa (Aa (wpAny_dictSet_heap (hsz:=D4 _) (show X.A.units<BC by omega) (Ziu I3.hok e2) dd fun h' dd' hs=>Ac (Ac (Ac (Ac (Ac ?_)))))));obtain ⟨qo,es,ep,hq,h2,h3,h4,_,h5⟩:=dd';refine ⟨.ref s.heap.objs.size,_,Zpy (ob:=.dT [(kk,w)]) I3 (by rw [e1];exact DS) hs ⟨qo,hq⟩ ⟨by show 1<=Ap;decide,hd,_,.cons ⟨rfl,by rw [Xc (Xss e2 e1 (fun z=>nomatch z))];exact e2,rw'⟩ .nil,qo,es,ep,hq,h2,h3,h4,h5⟩,rfl,q3⟩
theorem Xeb {id:String}{Q:Array C3->Af->Prop}(ho:s.heap.get? d=some o)(hd:o.data=.dict es ep)(hk:∀e∈es.toList,∃b,e.key=.ref b/\s.TypeIs (.ref b) "tuple")(hh:∀e∈es.toList,(es.filter (·.hash==e.hash)).size<=1)(h:Q es s) :
  Am (Aw prog w) A (E2 id d) Q E s:=by
 unfold E2;refine Aa (BL ho hd (Aa ?_));rw [<- Array.forIn_toList];refine wpAny_forIn_list _ (fun rest _ s'=>s'=s/\∀e∈rest,e∈es.toList) _ ?_ ?_ _ _ ⟨rfl,fun _ z=>z⟩;rintro e rest u s' ⟨rfl,hr⟩;obtain ⟨b,eb,T⟩:=hk e (hr e (.head _));unfold KW;rw [eb];refine Aa (Aa (GD T PySem.F.slot_tuple_eq.lookup (Ac ?_)));rw [show ((some (Value.builtin "tuple.__eq__"):Option Value)==some (.builtin "object.__eq__"))=false by decide];simp only [IS,if_true];rw [if_neg (by have:=hh e (hr e (.head _));omega)];exact Ac ⟨rfl,fun z hz=>hr z (.tail _ hz)⟩;rintro u s' ⟨rfl,_⟩;exact Ac h
theorem Xfw {o:Addr}(hoS:(o==B5)=false)(ho:s.heap.get? o=some od)(hx:od.ExactDict)(hd:od.data=.dict es ep)(hz:es.size<=Ap)(hne:es.size≠0)(hk:∀e∈es.toList,∃b,e.key=.ref b/\s.TypeIs (.ref b) "tuple")(hh:∀e∈es.toList,(es.filter (·.hash==e.hash)).size<=1)
  (h:∀h' o' ep',h'.get? s.heap.objs.size=some o'->o'.ExactDict->o'.data=.dict es ep'->BH s.heap.objs.size (s.heap.push {cls:=.type "dict",data:=.dict #[]}) h'->Q (.ref s.heap.objs.size) {s with heap:=h'}) :
  Am (Aw prog w) A (call (.type "dict") [.ref o]) Q E s:=by
 refine callType_codes (Q₁:=fun obj s₁=>obj=.ref s.heap.objs.size/\s₁={s with heap:=s.heap.push {cls:=.type "dict",data:=.dict #[]}}) PySem.F.kt_called_dict (PySem.F.kt_typeCall_dict_1 _) PySem.F.entry_dict_init (kt_code_dict_new _ ⟨rfl,rfl⟩) ?_;rintro obj s1 ⟨rfl,rfl⟩;have T:EU {s with heap:=s.heap.push {cls:=.type "dict",data:=.dict #[]}} (.ref s.heap.objs.size) "dict":=⟨_,Av _ rfl,rfl⟩;have ho':(s.heap.push {cls:=.type "dict",data:=.dict #[]}).get? o=some od:=Ae _ ho;have T2:EU {s with heap:=s.heap.push {cls:=.type "dict",data:=.dict #[]}} (.ref o) "dict":=⟨od,ho',hx.1⟩;have hdo:s.heap.objs.size≠o:=fun e=>absurd (AJ ho) (by rw [e];exact Bb _);refine ⟨T,PySem.F.args_dict_init_2 _ _,?_⟩;unfold D9.«dict.__init__»;refine Aa ?_;unfold KR;refine Aa (E3 T ?_);change Am _ _ (BD (s.heap.objs.size,[AG o])) _ _ _;refine Ac ?_;change Am _ _ (Fq "dict.__init__" s.heap.objs.size (.ref o) [] .none) _ _ _;unfold Fq;refine Aa (wpAny_typeOf T2 ?_);rw [if_neg (by decide)];refine Aa ?_;unfold K0;refine Aa ?_;unfold KU;refine Aa (EF T2 isSubtype_dict_dict ?_);simp only [J1,A7,if_false];refine Aa (GD T2 PySem.F.slot_dict_iter.lookup (Ac ?_));simp only [beq_self_eq_true,if_true];refine Aa (Ac ?_);unfold KZ;rw [if_neg (by simpa using hdo)];unfold Cm;rw [if_neg (by rw [hoS];exact Au)];refine Aa (Ac (Aa (BL ho' hd ?_)));have few:(decide (es.size<=8)&&es.all fun e=>(keyPart e.key).isSome)=false:=by
  have h0:0<es.size:=by omega
  obtain ⟨b,eb,_⟩:=hk es[0] (by simp);have:(es.all fun e=>(keyPart e.key).isSome)=false:=by rw [Array.all_eq_false];exact ⟨0,h0,by rw [eb];exact Au⟩
  rw [this,Bool.and_false]
 simp only [few,IS,if_true];refine Aa (BL (s:={s with heap:=s.heap.push {cls:=.type "dict",data:=.dict #[]}}) (Av _ rfl) rfl ?_);rw [if_pos (by rfl)];refine Aa (Xeb ho' hd (fun e he=>?_) hh ?_);obtain ⟨b,eb,ob,hb,hc⟩:=hk e he;exact ⟨b,eb,ob,Ae _ hb,hc⟩;rw [if_pos (by simp;exact fun z=>hne (by rw [z];rfl))];refine Aa (wpAny_updateDictKeysTo (Av _ rfl) rfl ?_ (Nat.le_succ_of_le hz));refine Ac ?_;change Am _ _ (K2 s.heap.objs.size [] >>= _) _ _ _;refine Aa (Ac (Ac ⟨rfl,h _ _ 1 (Dk _ (Av _ rfl) (Obj.isFreed_of_dict (Hs rfl _))) (Kr ⟨rfl,rfl,rfl⟩ _) (Hs rfl _) (CJ ..)⟩))
section
variable {E:XK}{S:List (Nat×Bool)}
theorem Zyk {fv:FE}(hk:EOk K C E Γ Δ m1 S1 tk fk)(hv:EOk K C E Γ Δ m2 S2 tv fv):EOk K C E Γ Δ 2 [] (Zxg tk tv) (Dl.Zfm fk fv):=fun H0 Hb H σ ρ A Q I p q hq=>by
 have g0:=sameNew hq (.dT []);refine hk H0 Hb _ σ ρ A _ (I.mono g0) (Xa.imp (Xa.bind p) (fun y p y' H1 g1 ry=>?_) fun c x p H' g'=>p H' (g0.trans g'));refine hv H0 Hb H1 σ ρ A _ ((I.mono g0).mono g1) (Xa.imp (Xa.bind p) (fun v p v' H2 g2 rv=>?_) fun c x p H' g'=>p H' (g0.trans (g1.trans g')));obtain ⟨By,ry,_⟩:=ry;obtain ⟨Bv,rv,_⟩:=rv;split at p;rename_i k hk;split at p;rename_i hf;obtain ⟨b,rfl,hb⟩:=Zcf hk ry;have eB:=rv.flat hf;subst eB;have e1:H2 q=some (.dT []):=g2 _ _ (g1 _ _ Xd);have ex:Ext (fun c=>c=q) H2 (upd H2 q (.dT [(k,v')])):=fun c o hc=>by by_cases e:c=q;subst e;rw [e1] at hc;cases hc;exact .inr ⟨rfl,.dtt⟩;rw [Xc e];exact .inl hc
 refine ⟨k,b,rfl,e1,g2 _ _ hb,p _ _ (fun c o hc=>?_) (Res.new (B:=[q]) ⟨q,[v'],[],rfl,Xd,rfl,⟨_,_,[],[],rfl,rv.ext ex (fun _ z=>nomatch z),RpA.nil,rfl⟩,rfl⟩ (Ay.mpr ⟨(fun z=>nomatch z),A6⟩) fun a ha=>by rw [Aj.mp ha];exact hq)⟩;rw [Xc fun z=>by subst z;rw [hq] at hc;cases hc];exact g2 _ _ (g1 _ _ (g0 _ _ hc));exact p.elim;exact p.elim
end
def Zqt:List V->Hp->VK->Prop:=fun vs H Q=>∃(a:Addr) (o:Obj) (kvs:List (List Key×V)),vs=[.ref a]/\H a=some (.frz o (.dT kvs))/\kvs≠[]/\(∀kv∈kvs,kv.1.all Dl.smK=true)/\(kvs.map fun kv=>Dl.thK kv.1).Nodup/\∀p,H p=none->Q (.ref p) (upd H p (.dT kvs))
theorem Xgm {x:Key}(h:Dl.smK x=true):keyH w x=Dl.vlK x:=by
 cases x with
 | inr z=>cases h
 | inl i =>
  simp only [Dl.smK,AY,decide_eq_true_eq] at h;obtain ⟨h0,h1⟩:=h;obtain ⟨n,rfl⟩:=Eo h0;have h1:n<1000:=by omega
  show hashInt (n:Int)=(n:Int);have hr:rawHash (n:Int)=n:=by unfold rawHash;simp only [Ib];have e:(n:Int) % ((2 ^ 61 - 1:Nat):Int)=n:=Ip (by omega) (by omega);rw [e,if_neg (show ¬((n:Int)<0) by omega),if_neg (by simp)]
  unfold hashInt;rw [hr,if_neg (by simp)]
theorem Xkn (h:k.all Dl.smK=true):(CV (Yb P w)).hash k=Dl.thK k:=by show Da (CD (k.map (keyH w)))=Da (CD (k.map Dl.vlK));rw [BM fun x hx=>Xgm (Bp.mp h x hx)]
theorem Xnr {l:List α}{f:α->Int}(h:(l.map f).Nodup){e:α}(he:e∈l):(l.filter fun x=>f x==f e).length<=1:=by
 induction l with
 | nil=>cases he
 | cons a l ih =>
  rw [AV,Ay] at h;rw [Fx];by_cases z:f a=f e;rw [if_pos (by simpa using z)];have:(l.filter fun x=>f x==f e)=[]:=by rw [List.filter_eq_nil_iff];intro x hx y;exact h.1 (AB.mpr ⟨x,hx,by rw [z];simpa using y⟩)
  rw [this];exact As _;rw [if_neg (by simpa using z)];rcases Al.mp he with rfl | he;exact absurd rfl z;exact ih h.2 he
section
theorem Zjd:Jx X (.type "dict") Zqt:=by
 intro pins s σ H xs us Q I r h;obtain ⟨a,o,kvs,rfl,hq,hne,hsm,hnd,q⟩:=h;obtain ⟨u,rfl,rx⟩:=vals1 r;cases rx;obtain ⟨ho,z,hd,ys,rel,o',es,ep,ho',h1,h2,h3,h5⟩:=I.hok a _ hq;rw [ho] at ho';cases ho';have hl:es.size=kvs.length:=by rw [<- Bu,h3,Ah];exact (Paired.length rel).symm
 have hhs:es.toList.map (·.hash)=kvs.map fun kv=>Dl.thK kv.1:=by
  rw [h3,Be];have key:∀{l:List (List Key×V)} {m:List (List Key×Addr×Value)},KT H l m->(∀kv∈l,kv.1.all Dl.smK=true)->m.map ((fun e:C3=>e.hash)∘ET (CV (Yb X.prog X.w)))=l.map fun kv=>Dl.thK kv.1:=fun {l m} rr=>by
   induction rr with
   | nil=>exact fun _=>rfl
   | @cons p q ps qs hp _ ih =>intro hs;rw [AV,AV,ih fun kv hkv=>hs kv (.tail _ hkv)];congr 1;show (CV (Yb X.prog X.w)).hash q.1=_;rw [<- hp.1];exact Xkn (hs p (.head _))
  exact key rel hsm
 have hty:∀y∈ys,s.TypeIs (.ref y.2.1) "tuple":=fun y hy=>by
  have key:∀{l:List (List Key×V)} {m:List (List Key×Addr×Value)},KT H l m->∀y∈m,∃k:List Key,H y.2.1=some (.tup (k.map kV)):=fun {l m} rr=>by
   induction rr with
   | nil=>exact fun _ z=>nomatch z
   | cons hp _ ih =>intro y hy;rcases Al.mp hy with rfl | hy;exact ⟨_,hp.2.1⟩;exact ih y hy
  obtain ⟨k,hk⟩:=key rel y hy;obtain ⟨_,its,_,ob,b1,b2,_⟩:=I.hok _ _ hk;exact ⟨ob,b1,b2⟩
 refine Xfw hd ho h1 h2 (by omega) (by rw [hl];exact fun y=>hne (BW.mp y)) (fun e he=>?_) (fun e he=>?_) fun h' o' ep' g1 g2 g3 g4=>?_;rw [h3] at he;obtain ⟨y,hy,rfl⟩:=AB.mp he;exact ⟨y.2.1,rfl,hty y hy⟩;rw [<- Bu,Array.toList_filter];rw [<- hhs] at hnd;exact Xnr hnd he;have hn:=I.hok.fresh (As s.heap.objs.size);refine ⟨.ref s.heap.objs.size,_,I.laid (a:=s.heap.objs.size) (o:=.dT kvs) (t':=s.toks) (fun b ob hb=>?_) (As _) ⟨z,beq_eq_false_iff_ne.mpr (Ne.symm (Bn I.big)),ys,KT.keeps rel fun b l hb=>?_,o',es,ep',g1,g2,g3,h3,h5⟩,rfl,q _ hn⟩;exact (g4.2 b (Bn (AJ hb))).trans (Ae _ hb);rw [Xc fun y=>by subst y;rw [hn] at hb;cases hb];exact hb
theorem Zld:GAk K C Zqt Dl.Zst:=by
 intro H xs d vs Bx Q r e q
 match xs,e with
 | [x],e =>
  obtain ⟨v,l,B1,B2,rfl,r1,r2,_⟩:=r;obtain ⟨rfl,_⟩:=r2;cases x with
  | fdt ks ds =>
   have e:(if ks≠[]/\(ks.all fun k=>k.all Dl.smK)=true/\(ks.map Dl.thK).Nodup/\Dl.Zu ds=true then some (D.dtt ks ds) else none)=some d:=e;split at e;rename_i hh;cases e;obtain ⟨h1,h2,h3,h4⟩:=hh;obtain ⟨a,o,ys,rfl,e1,e2,e3,_⟩:=r1;have hl:ks.length=ys.length:=by rw [e2,e3.len]
   have hk:(ks.zip ys).map (·.1)=ks:=List.map_fst_zip (by omega);refine ⟨a,o,_,rfl,e1,?_,?_,?_,fun p hp=>?_⟩;intro z;rw [z] at hk;exact h1 hk.symm;intro kv hkv;have:kv.1∈ks:=by rw [<- hk];exact AB.mpr ⟨kv,hkv,rfl⟩
   exact Bp.mp h2 _ this;have:((ks.zip ys).map fun kv=>Dl.thK kv.1)=ks.map Dl.thK:=by
    conv=>rhs;rw [<- hk]
    rw [Be];rfl
   rw [this];exact h3;have g:=sameNew hp (.dT (ks.zip ys));refine q _ _ [p] g ⟨p,ys,[],rfl,Xd,e2,e3.same g,rfl⟩ (Ay.mpr ⟨(fun z=>nomatch z),A6⟩) fun b hb=>?_;rw [Aj.mp hb];exact hp;cases e
  | _=>cases e
variable {E:XK}{a:Expr}{fb:FE}
theorem Zgn (ha:JE X C E Γ Δ m1 S1 a ta fa)(hb:JE X C E Γ Δ m2 S2 b tb fb)(hu:X.A.units+64<BC):JE X C E Γ Δ 2 [] (.Dict [some a] [b] pos) (Zxg ta tb) (Dl.Zfm fa fb):=⟨⟨Xgo (by omega) ha.q.out hb.q.out⟩,Zyk ha.o hb.o⟩
end
def Zil (K:AO):List V->Hp->VK->Prop:=fun vs H Q=>∃a xs,vs=[.ref a]/\SqL K H a xs/\∀p,H p=none->Q (.ref p) (upd H p (.tup xs))
theorem Jr:Jx X (.type "tuple") (Zil X.K):=by intro pins s σ H xs us Q I r h;obtain ⟨a,ys,rfl,hq,q⟩:=h;obtain ⟨u,rfl,rx⟩:=vals1 r;cases rx;obtain ⟨its,rv,p,hz⟩:=I.list hq;have hl:=rv.length;refine call_tuple_list (hsz:=by rw [AE];omega) p.isList fun h' hk=>?_;have I2:Inv X pins σ H {s with heap:=h'}:=I.kept (t':=s.toks) hk;have hn:H h'.objs.size=none:=I2.hok.fresh (As _);exact ⟨.ref h'.objs.size,_,I2.laid (a:=h'.objs.size) (o:=.tup ys) (t':=s.toks) (fun b ob hb=>Ae _ hb) (As _) ⟨hz,its,rv,_,Av _ rfl,rfl,0,rfl⟩,rfl,q _ hn⟩
theorem Zaw:GAk K C (Zil K) Dl.Zda:=by
 intro H xs d vs Bx Q r e q
 match xs,e with
 | [.lst ds],e =>obtain ⟨v,l,B1,B2,rfl,r1,r2,_⟩:=r;obtain ⟨rfl,_⟩:=r2;have e:(if Dl.Zu ds=true then some (D.tup ds) else none)=some d:=e;split at e;rename_i hf;cases e;obtain ⟨a,ys,B,rfl,e1,e2,_⟩:=r1;have eB:=e2.flat hf;subst eB;refine ⟨a,ys,rfl,SqL.of e1,fun p hp=>?_⟩;have g:=sameNew hp (.tup ys);exact q _ _ [] g ⟨p,ys,rfl,Xd,e2.same g⟩ A6 fun _ z=>nomatch z;cases e
def Xuc (K:AO):R2:=fun x y H Q=>∃a b xs ys,x=.ref a/\y=.ref b/\H a=some (.tup xs)/\H b=some (.tup ys)/\xs.length+ys.length<=Ap/\∀p H',Xf H H'->H' p=some (.tup (xs++ys))->Q (.ref p) H'
theorem Xbo {t b:Addr}(ht:HM s.heap t #[])(hb:HM s.heap b ws.toArray)(h:Q (.ref b) s):Am (Aw prog w) A (B8 .Add (.ref t) (.ref b)) Q E s:=by obtain ⟨⟨c1,d1,e1,l1⟩,o1,hc1,n1,hd1⟩:=id ht;obtain ⟨⟨c2,d2,e2,l2⟩,o2,hc2,n2,hd2⟩:=id hb;simp only at hc1 hd1 hc2 hd2;subst hc1 hd1 hc2 hd2;exact HV ⟨_,o1,rfl⟩ ⟨_,o2,rfl⟩ Gm Ho PySem.F.slot_tuple_add PySem.F.entry_tuple_add (PySem.F.args_tuple_add_2 _ _) (tuple_addW0 t b #[] ws.toArray n1 n2 d1 d2 l1 l2 rfl) ⟨o1,o2,h⟩
theorem Zkx:OpR X (B8 .Add) (Xuc X.K):=by intro pins s σ H x y v u Q I rx ry h;obtain ⟨a,b,xs,ys,rfl,rfl,ha,hb,hz,q⟩:=h;cases rx;cases ry;obtain ⟨its,r1,p1,_⟩:=I.tuple (SqT.of ha);obtain ⟨its2,r2,p2,_⟩:=I.tuple (SqT.of hb);by_cases hx:xs=[];subst hx;have e0:its=[]:=r1.nil_iff.mpr rfl;subst e0;exact Xbo p1 p2 ⟨.ref b,H,I,rfl,q b H (Xf.refl _) hb⟩;refine HT.cat_tup p1 p2 (fun z=>hx (r1.nil_iff.mp z)) (fun z=>⟨.ref a,H,I,rfl,?_⟩) (fun z=>?_) (by rw [<- r1.length,<- r2.length];exact hz);have ey:=r2.nil_iff.mp z;subst ey;exact q a H (Xf.refl _) (by rw [Dg];exact ha);have hn:=I.hok.fresh (As s.heap.objs.size);refine ⟨.ref s.heap.objs.size,_,I.laid (t':=s.toks) (o:=.tup (xs++ys)) (fun b ob q=>Ae _ q) (As _) ?_,rfl,q _ _ (sameNew hn _) Xd⟩;exact ⟨by rw [Ak];exact hz,_,r1.append r2,KN _ _⟩
theorem Zgh:GOk K C (Xuc K) Dl.Zjo:=by
 intro H x y d vx vy Bx By Q rx ry e q;cases x with
 | tup ds =>
  cases y with
  | tup es =>have e:(if ds.length+es.length<=Dl.lim/\Dl.Zu ds=true/\Dl.Zu es=true then some (D.tup (ds++es)) else none)=some d:=e;split at e;rename_i hh;cases e;obtain ⟨a,xs,rfl,a1,a2⟩:=rx;obtain ⟨b,ys,rfl,b1,b2⟩:=ry;have ea:=a2.flat hh.2.1;have eb:=b2.flat hh.2.2;subst ea eb;refine ⟨a,b,xs,ys,rfl,rfl,a1,b1,by rw [a2.len,b2.len];exact Zbp hh.1,fun p H' g hp=>?_⟩;exact q _ H' [] g ⟨p,_,rfl,hp,(a2.same g).app (b2.same g)⟩ A6 fun _ z=>nomatch z;cases e
  | _=>cases e
 | _=>cases e
def Xoz:R2:=fun x y H Q=>∃l b xs zs,x=.ref l/\y=.ref b/\Rd H l (.lst xs)/\Rd H b (.lst zs)/\xs.length+zs.length<=Ap/\∀p,H p=none->Q (.ref p) (upd H p (.lst (xs++zs)))
theorem Zwm:OpR X (B8 .Add) Xoz:=by
 intro pins s σ H x y v u Q I rx ry h;obtain ⟨l,b,xs,zs,rfl,rfl,hH,hB,hz,q⟩:=h;cases rx;cases ry;obtain ⟨z,its,n,r,e⟩:=Xfa I.hok hH;obtain ⟨z2,its2,n2,r2,e2⟩:=Xfa I.hok hB;have hl:=r.length;have hl2:=r2.length;refine PySem.P.add_list e e2 ?_ (by rw [AE,AE];omega);have ea:its.toArray++its2.toArray=(its++its2).toArray:=by simp
 rw [ea];exact ⟨.ref _,_,I.lnew (t':=s.toks) (r.append r2) (by rw [Ak];omega),rfl,q _ I.fresh⟩
theorem Zsg:GOk K C Xoz Dl.Zva:=by
 intro H x y d vx vy Bx By Q rx ry e q;cases x with
 | flst ds =>
  cases y with
  | lst es =>have e:(if ds.length+es.length<=Dl.lim/\Dl.Zu es=true then some (D.lst (ds++es)) else none)=some d:=e;split at e;rename_i hh;cases e;obtain ⟨a,o,xs,rfl,a1,a2,_⟩:=rx;obtain ⟨b,ys,B,rfl,b1,b2,_⟩:=ry;have eb:=b2.flat hh.2;subst eb;refine ⟨a,b,xs,ys,rfl,rfl,.inr ⟨o,a1⟩,.inl b1,by rw [a2.len,b2.len];exact Zbp hh.1,fun p hp=>?_⟩;have g:=sameNew hp (.lst (xs++ys));refine q _ _ [p] g ⟨p,_,[],rfl,Xd,(a2.same g).app (b2.same g),rfl⟩ (Ay.mpr ⟨(fun z=>nomatch z),A6⟩) fun c hc=>?_;rw [Aj.mp hc];exact hp;cases e
  | _=>cases e
 | _=>cases e
def Xuo (K:AO)(ta:TE):TT:=fun σ H Q=>ta σ H fun x H'=>∃k,TruV K x H' k/\Q k H'
section
variable {E:XK}{S:List (Nat×Bool)}
theorem Xbt {t:TE}(h:EOk K C E Γ Δ m S t f):TOk K C E Γ Δ (Xuo K t) (Dl.Zui f):=fun H0 Hb H σ ρ A Q I p=>h H0 Hb H σ ρ A _ I (p.bind.imp (fun d q v H' g r=>by
  obtain ⟨B,r,_⟩:=r;cases d with
  | flst ds =>
    obtain ⟨a,o,xs,rfl,e1,e2,_⟩:=r;have hl:=e2.len;have hq:(!xs.isEmpty)=!ds.isEmpty:=by cases xs<;>cases ds<;>first | rfl | simp at hl
    refine ⟨!xs.isEmpty,?_,by rw [hq];exact q H' g⟩
    first
      | exact .inl ⟨xs,.inl (.inr ⟨o,e1⟩),rfl⟩
      | exact ⟨xs,.inl (.inr ⟨o,e1⟩),rfl⟩
      | exact .inl ⟨xs,.inl (.inr ⟨o,e1⟩),by cases xs<;>rfl⟩
  | _=>exact q.elim) fun c x q H' g'=>q H' g')
theorem Xkc (h:JE X C E Γ Δ m S e te fe)(he:∀whole,isTrue e X.env whole=(do let v <- whole;EO e.pos;Cs [v] (HP v)):=by intro _;rfl):JT X C E Γ Δ e (Xuo X.K te) (Dl.Zui fe):=⟨⟨Xdo h.q.out he⟩,Xbt h.o⟩
def Xsu (K:AO)(C:String->Addr)(Γ Δ:List Nat)(g:TG)(b:FB):Prop:=∀(H0 Hb H:Hp) (σ:St) (ρ:Xp) (A:Nat->List Addr) (d:D) (v:V) (B:List Addr) (Rr:St->Hp->Prop),Zq K C H0 Hb H Γ Δ σ ρ A->Rp K C H d v B->(∀a∈B,Hb a≠none)->
 Xa (b d ρ) (fun ρ'=>∀σ' A',σ'[0]?=σ[0]?->Zq K C H0 Hb H Γ Δ σ' ρ' A'->Rr σ' H) (fun _ _=>False)->g v σ H Rr
def Zvk (K:AO)(C:String->Addr)(Γ Δ:List Nat)(g:TGs)(b:List D->Xp->R Xp):Prop:=∀(H0 Hb H:Hp) (σ:St) (ρ:Xp) (A:Nat->List Addr) (d:List D) (v:List V) (B:List Addr) (Rr:St->Hp->Prop),Zq K C H0 Hb H Γ Δ σ ρ A->RpA K C H d v B->(∀a∈B,Hb a≠none)->
 Xa (b d ρ) (fun ρ'=>∀σ' A',σ'[0]?=σ[0]?->Zq K C H0 Hb H Γ Δ σ' ρ' A'->Rr σ' H) (fun _ _=>False)->g v σ H Rr
theorem Zzo (h0:i≠0:=by decide)(h1:i∉Γ:=by decide)(h2:i∉Δ:=by decide):Xsu K C Γ Δ (Yw i) (Dl.Zt i):=fun H0 Hb H σ ρ A d v B Rr I r hB p=>by obtain ⟨A',I',_⟩:=I.put (Γ':=Γ) (Δ':=Δ) (i:=i) r (fun j hj e=>⟨hj,fun a l e' ha=>hB a ha (I.top j hj a l e').1⟩) (fun hj=>absurd hj h1) (fun j hj e=>⟨hj,fun a ha hb=>hB a hb ((I.deep j hj).2.2 a ha)⟩) (fun hj=>absurd hj h2);exact p _ A' (BE h0) I'
theorem Xdk:Zvk K C Γ Δ Xbh Dl.Zeo:=fun H0 Hb H σ ρ A d v B Rr I r hB p=>by
 cases d with
 | nil=>exact ⟨r.1,p _ A rfl I⟩
 | cons _ _=>exact p.elim
theorem Zyh {b:FB}{bs:List D->Xp->R Xp}(h1:Xsu K C Γ Δ g b)(h2:Zvk K C Γ Δ gs bs):Zvk K C Γ Δ (Zih g gs) (Dl.Xw b bs):=fun H0 Hb H σ ρ A d v B Rr I r hB p=>by
 cases d with
 | nil=>exact p.elim
 | cons d ds =>obtain ⟨x,l,B1,B2,e1,e2,e3,e4⟩:=r;subst e1 e4;refine ⟨x,l,rfl,h1 H0 Hb H σ ρ A d x B1 _ I e2 (fun a ha=>hB a (AF _ ha)) (Xa.imp (Xa.bind p) (fun ρ1 q σ1 A1 hσ I1=>?_) fun _ _ z=>z)⟩;exact h2 H0 Hb H σ1 ρ1 A1 ds l B2 Rr I1 e3 (fun a ha=>hB a (Ar _ ha)) (Xa.imp q (fun ρ2 q σ2 A2 h=>q σ2 A2 (h.trans hσ)) fun _ _ z=>z)
theorem Xfu {bs:List D->Xp->R Xp}(hn:∀ds ρ ρ',bs ds ρ=.ok ρ'->ds.length=n)(h:Zvk K C Γ Δ gs bs):Xsu K C Γ Δ (Zew K n gs) (Dl.Zet bs):=fun H0 Hb H σ ρ A d v B Rr I r hB p=>by
 cases d with
 | tup ds =>
  obtain ⟨a,xs,rfl,e2,e3⟩:=r;have hl:xs.length=n:=by
   rw [e3.len];have p':Xa (bs ds ρ) (fun ρ'=>∀σ' A',σ'[0]?=σ[0]?->Zq K C H0 Hb H Γ Δ σ' ρ' A'->Rr σ' H) (fun _ _=>False):=p;cases e:bs ds ρ with
   | ok ρ'=>exact hn ds ρ ρ' e
   | err _ _=>rw [e] at p';exact p'.elim
   | bad=>rw [e] at p';exact p'.elim
  exact ⟨a,xs,rfl,SqT.of e2,hl,h H0 Hb H σ ρ A ds xs B Rr I e3 hB p⟩
 | _=>exact p.elim
theorem Xje:Znw K C E Γ Δ Γ Δ Zly Dl.sNx:=fun H0 Hb H σ ρ A D I p=>p σ H A rfl I
theorem Xdv {t u:TS}{f g:FS}(h1:Znw K C E Γ Δ Γ1 Δ1 t f)(h2:Znw K C E Γ1 Δ1 Γ' Δ' u g):Znw K C E Γ Δ Γ' Δ' (Xib t u) (Dl.Xk f g):=fun H0 Hb H σ ρ A D I p =>
  h1 H0 Hb H σ ρ A _ I (Xa.imp (Xa.bind p) (fun fl q=>by
    cases fl with
    | nx ρ1=>exact fun σ1 H1 A1 e1 I1=>h2 H0 Hb H1 σ1 ρ1 A1 D I1 (Xa.imp q (fun fl q=>by
        cases fl with
        | nx ρ2=>exact fun σ2 H2 A2 e2 I2=>q σ2 H2 A2 (e2.trans e1) I2
        | _=>exact q) fun _ _ z=>z)
    | _=>exact q) fun _ _ z=>z)
theorem Zxj {t:TS}{f:FS}(h:Znw K C E Γ Δ Γ1 Δ1 t f)(h1:∀i∈Γ',i∈Γ1)(h2:∀i∈Δ',i∈Δ1):Znw K C E Γ Δ Γ' Δ' t f:=fun H0 Hb H σ ρ A D I p =>
  h H0 Hb H σ ρ A D I (Xa.imp p (fun fl q=>by
    cases fl with
    | nx ρ1=>exact fun σ1 H1 A1 e1 I1=>q σ1 H1 A1 e1 (I1.weak h1 h2)
    | _=>exact q) fun _ _ z=>z)
theorem Xde {tb:TS}{fs:FS}(hi:IOk K C E Γ Δ S wi fi)(hb:Xsu K C Γl Δl g fb)(hs:Znw K C E Γl Δl Γl Δl tb fs)
    (h1:∀i∈Γl,i∈Γ:=by decide) (h2:∀i∈Δl,i∈Δ:=by decide) (h3:∀p∈S,p.1∉Γl/\p.1∉Δl:=by decide):Znw K C E Γ Δ Γl Δl (Xho wi g tb) (Dl.Zeb fi fb (Dl.Zpv fs)):=fun H0 Hb H σ ρ A D I p=>by
  refine hi H0 Hb H σ ρ A _ I (Xa.imp (Xa.bind p) (fun ds q J H1 W g1 hW hlen hJ=>?_) fun c x q H' g'=>q H' (Xf.from0 I g'));have I1:=(I.mono g1).weak h1 h2;have hlst:∀a∈ownAt A Γl Δl,∃o,H1 a=some o/\IsM o:=fun a ha=>by rcases Jw ha with ⟨i,_,l,e⟩ | ⟨i,_,e⟩;exact I1.is (j:=i) (by rw [e];exact .head _);exact I1.is e
  have hbn:∀a∈ownAt A Γl Δl,Hb a=none:=fun a ha=>by rcases Jw ha with ⟨i,hi,l,e⟩ | ⟨i,hi,e⟩;exact (I1.top i hi a l e).1;exact (I1.deep i hi).2.2 a e
  have hout:∀a∈W,a∉ownAt A Γl Δl:=fun a ha ho=>by rcases (hW a ha).2 with z | z;rcases Jw ho with ⟨i,hi,l,e⟩ | ⟨i,hi,e⟩;exact I.ne (j:=i) (by rw [e];exact .head _) z;exact I.ne e z;rcases Jw ho with ⟨i,hi,l,e⟩ | ⟨i,hi,e⟩;exact I1.top_out hi (fun h=>(h3 _ h).1 hi) e z;exact I1.deep_out hi (fun p hp e'=>(h3 p hp).2 (by rw [e'];exact hi)) e z
  let Hc:Hp:=fun b=>if b∈ownAt A Γl Δl then none else H1 b
  have c1:Xf Hc H1:=fun b o h=>by show H1 b=some o;have h:(if b∈ownAt A Γl Δl then none else H1 b)=some o:=h;split at h;cases h;exact h
  have c2:Xf Hb Hc:=fun b o h=>by show (if b∈ownAt A Γl Δl then none else H1 b)=some o;rw [if_neg fun ho=>by rw [hbn b ho] at h;cases h];exact I1.same b o h
  have c3:∀a,a∉ownAt A Γl Δl->Hc a=H1 a:=fun a ha=>if_neg ha;have c4:∀a∈ownAt A Γl Δl,Hc a=none:=fun a ha=>if_pos ha;have I2:Zq K C H0 Hc H1 Γl Δl σ ρ A:=⟨I1.s0.trans c2,c1,I1.len,I1.rep,I1.nil,I1.loc,fun i hi a l e=>⟨c4 a (Zoo hi e),(I1.top i hi a l e).2⟩,fun i hi=>⟨(I1.deep i hi).1,(I1.deep i hi).2.1,fun a ha=>c4 a (Zke hi ha)⟩⟩;have back:∀{σ':St} {ρ':Xp} {H':Hp} {A':Nat->List Addr},Zq K C H0 Hc H' Γl Δl σ' ρ' A'->Zq K C H0 Hb H' Γl Δl σ' ρ' A':=fun I' =>
    ⟨I1.s0,c2.trans I'.same,I'.len,I'.rep,I'.nil,I'.loc,fun i hi a l e=>⟨c2.free (I'.top i hi a l e).1,(I'.top i hi a l e).2⟩,fun i hi=>⟨(I'.deep i hi).1,(I'.deep i hi).2.1,fun a ha=>c2.free ((I'.deep i hi).2.2 a ha)⟩⟩
  have go:Goes K C J ds Hc:=hJ Hc ⟨fun a ha=>c3 a (hout a ha),fun b o h hn=>(c3 b fun ho=>by
    obtain ⟨xs,e,hm⟩:=hlst b ho;rw [e] at h;cases h;exact hn hm).trans h⟩
  refine Zob go (fun k σ' H'=>σ'[0]?=σ[0]?/\∃ρ' A',Zq K C H0 Hc H' Γl Δl σ' ρ' A'/\Xa (Dl.Zgz fb (Dl.Zpv fs) (ds.drop k) ρ') (fun fl=>match fl with
    | .nx ρ'=>∀σ' H' A',σ'[0]?=σ[0]?->Zq K C H0 Hb H' Γl Δl σ' ρ' A'->D.nx σ' H'
    | _=>False) (fun c x=>∀H',Xf H0 H'->EC C E c x H')) ⟨rfl,ρ,A,I2,q⟩ (fun _ _ _ ⟨_,_,_,I',_⟩=>I'.same) ?_ ?_
  rintro k d x Bx σ' Ha H' hd ⟨e0,ρ',A',Ia,pq⟩ ga rx hBx;have I':=Ia.mono ga;rw [Zer _ _ _ hd] at pq;have pq':=Zby (Xa.bind pq);refine hb H0 Hc H' σ' ρ' A' d x Bx _ I' rx hBx (Xa.imp pq' (fun ρ1 pq σ1 A1 e1 I1'=>?_) fun _ _ z=>z);refine hs H0 Hc H' σ1 ρ1 A1 _ I1' (Xa.imp (Xa.bind (Xa.bind pq)) (fun fl pq=>?_) fun _ _ z=>z);cases fl with
  | nx ρ2=>exact fun σ2 H2 A2 e2 I2'=>⟨e2.trans (e1.trans e0),ρ2,A2,I2',pq⟩
  | _=>exact pq
  rintro σ' H' ⟨e0,ρ',A',I',pq⟩;rw [Fd] at pq;exact pq σ' H' A' e0 (back I')
theorem Zyo (hi:i∈Γ:=by decide)(he:EOk K C E Γ Δ m1 S1 te fe)(hk:EOk K C E Γ Δ m2 S2 tk fk):Znw K C E Γ Δ Γ Δ (Zgl te (Zeu (Zge i) tk Zxh)) (Dl.Zin i fk fe):=fun H0 Hb H σ ρ A D I p=>by
 refine he H0 Hb H σ ρ A _ I (Xa.imp (Xa.bind p) (fun d q v H1 g1 r=>?_) fun c x q H' g'=>q H' (Xf.from0 I g'));have I1:=I.mono g1;split at q;rename_i ks ds e;obtain ⟨a,xs,l,s1,h1,h2,r1,hA,hl⟩:=Zgi I1 e;refine ⟨.ref a,s1,hk H0 Hb H1 σ ρ A _ I1 (Xa.imp (Xa.bind q) (fun z q w H2 g2 rz=>?_) fun c x q H' g'=>q H' (Xf.from0 I1 g'))⟩;obtain ⟨Bz,rz,_⟩:=rz;obtain ⟨B,rd,_⟩:=r;split at q;rename_i k hk;split at q;rename_i hf;obtain ⟨b,rfl,hb⟩:=Zcf hk rz;have zB:=rd.flat hf.1;subst zB;have hx:ks.length=xs.length:=by rw [h2,r1.len]
 have r2:=(r1.same g2).flat' hf.2.1;have rd2:=rd.same g2;have I2:=I1.mono g2;refine ⟨a,_,rfl,Xos.t (g2 _ _ h1) hb (Cz (by rw [ER];exact EB _ _) (Zcu hf.2.2)),?_⟩;unfold Dl.Xol at q;unfold putK;rw [Zcs hx];split at q;rename_i hh;rw [if_pos hh,Zkr hx];obtain ⟨A',I'⟩:=I2.writeO (Γ':=Γ) (Δ':=Δ) (o':=.dT (ks.zip (A3 (fun j x=>if j=k then v else x) ks xs))) (d':=.dtt ks (A3 (fun j x=>if j=k then d else x) ks ds)) hi hA hl s1 (fun H' q1 q2=>⟨a,_,_,rfl,q1,by rw [Cb,h2,GU],q2,rfl⟩) (RpA.replT rd2 r2 hf.2.1) (fun _ z=>nomatch z) (fun z=>nomatch z) (fun j hj _=>⟨hj,fun _ _ _ z=>nomatch z⟩) (fun j hj _=>⟨hj,fun _ _ z=>nomatch z⟩) (fun _=>⟨A6,(fun _ _ _ z=>nomatch z),(fun _ z=>nomatch z)⟩);exact q _ _ A' rfl I';rename_i hh;rw [if_neg hh,show ks.zip xs++[(k,v)]=(ks++[k]).zip (xs++[v]) by rw [FL hx];rfl];obtain ⟨A',I'⟩:=I2.writeO (Γ':=Γ) (Δ':=Δ) (o':=.dT ((ks++[k]).zip (xs++[v]))) (d':=.dtt (ks++[k]) (ds++[d])) hi hA hl s1 (fun H' q1 q2=>⟨a,_,_,rfl,q1,by simp [h2],q2,rfl⟩) (RpA.snoc0 rd2 r2) (fun _ z=>nomatch z) (fun z=>nomatch z) (fun j hj _=>⟨hj,fun _ _ _ z=>nomatch z⟩) (fun j hj _=>⟨hj,fun _ _ z=>nomatch z⟩) (fun _=>⟨A6,(fun _ _ _ z=>nomatch z),(fun _ z=>nomatch z)⟩);exact q _ _ A' rfl I';exact q.elim;exact q.elim;exact q.elim
theorem Zzj {t:TA}{fa:FA}(hi:i∈Δ)(ha:AOk K C E Γ Δ m S t fa)(hn:∀ρ ds,fa ρ=.ok ds->ds.length=n)(hS:∀p∈S,p.1≠i) :
  MOk K C E Γ Δ (Zim (spM K C n G) [] E (Zbu (Zge i) t)) (Dl.Zje i G fa):=fun H0 Hb H σ ρ A Q I p=>by
 unfold Dl.Zje at p;split at p;rename_i d0 e0;obtain ⟨v0,hs,r0⟩:=I.rep i _ e0;refine Zpp ⟨_,hs,?_⟩;refine ha H0 Hb H σ ρ A _ I ?_;cases e:fa ρ with
 | bad=>rw [e] at p;exact p
 | err c x=>rw [e] at p;exact fun H' g'=>p H' (Xf.from0 I g')
 | ok ys =>rw [e] at p;intro vs H1 g1 r2;obtain ⟨B2,r2,rB,_⟩:=r2;obtain ⟨d1,d2,d3⟩:=I.deep i hi;have I1:=I.mono g1;refine ⟨d0,ys,_,vs,A i,B2,rfl,hn ρ ys e,r0.same g1,d1,r2,fun b hb hz=>(rB b hb).elim (fun z=>I.ne hz z) (I.deep_out hi hS hz),Xa.imp (Xa.bind (r:=G (d0::ys)) p) (fun q pq v H' A1 Br hk r1 nd1 hA1 rr ndr hBr=>?_) fun c x q H' hk=>?_⟩;refine pq v H' _ Br (I1.deepTo hi (Ai.mp e0).1 hs hk r1 nd1 fun b hb=>(hA1 b hb).imp id fun z=>⟨I1.same.free z,fun j hj=>I1.ne hj z⟩) rr ndr fun b hb=>⟨(hBr b hb).1.elim (fun z=>d3 b z) fun z=>I1.same.free z,fun j=>?_⟩;by_cases e1:j=i;rw [if_pos e1];exact (hBr b hb).2;rw [if_neg e1];exact fun hj=>(hBr b hb).1.elim (fun z=>d2 j e1 b z hj) fun z=>I1.ne hj z;refine q H' fun b o h=>hk b o (fun z=>?_) (I1.same b o (I.s0 b o h));rw [I.s0.free (d3 b z)] at h;cases h
 exact p.elim
end
structure JPs (X:Cx)(C:String->Addr)(E:XK)(Γ Δ Γ' Δ':List Nat)(s:List Stmt)(t:TS)(f:FS):Prop where
 q:QSs X s t
 o:Znw X.K C E Γ Δ Γ' Δ' t f
structure JG0 (X:Cx)(C:String->Addr)(Γ Δ:List Nat)(e:Expr)(t:TG)(b:FB):Prop where
 q:QG X e t
 o:Xsu X.K C Γ Δ t b
structure JGs0 (X:Cx)(C:String->Addr)(Γ Δ:List Nat)(es:List Expr)(n:Nat)(t:TGs)(f:List D->Xp->R Xp):Prop where
 q:QGs X es t
 o:Zvk X.K C Γ Δ t f
 n:∀ds ρ ρ',f ds ρ=.ok ρ'->ds.length=n
section
variable {E:XK}{k:Nat}{S:List (Nat×Bool)}{a c iter:Expr}{es:List Expr}{t:TA}{fa:FA}{tm:TE}{fm:FM}{p1 q3:Pos}{u v:TS}{g h:FS}
theorem Zzv:JPs X C E Γ Δ Γ Δ [] Zly Dl.sNx:=⟨Zpi,Xje⟩
theorem Zog (h1:JP X C E Γ Δ Γ' Δ' s1 u g):JPs X C E Γ Δ Γ' Δ' [s1] u g:=⟨Zka h1.q,h1.o⟩
theorem Xcy (Γ1 Δ1:List Nat)(h1:JP X C E Γ Δ Γ1 Δ1 s1 u g)(h2:JPs X C E Γ1 Δ1 Γ' Δ' ss v h):JPs X C E Γ Δ Γ' Δ' (s1::ss) (Xib u v) (Dl.Xk g h):=⟨Zkt h1.q h2.q,Xdv h1.o h2.o⟩
theorem Xbx (Γ1 Δ1:List Nat)(h:JPs X C E Γ Δ Γ1 Δ1 ss u g)(h1:∀i∈Γ',i∈Γ1:=by decide)(h2:∀i∈Δ',i∈Δ1:=by decide):JPs X C E Γ Δ Γ' Δ' ss u g:=⟨h.q,Zxj h.o h1 h2⟩
theorem Zsw (h0:i≠0:=by decide)(h1:i∉Γ:=by decide)(h2:i∉Δ:=by decide)(hN:X.N.Nodup)(hi:X.N[i]?=some x)(hx:Loc X.env.scope x)(hf:autoParam (X.fn x=true\/X.env.scope.names.lookup x=some .local) aT0._auto_1):JG0 X C Γ Δ (.Name x pos) (Yw i) (Dl.Zt i):=⟨Zie hN hi hx hf,Zzo h0 h1 h2⟩
theorem Xdt:JGs0 X C Γ Δ [] 0 Xbh Dl.Zeo:=⟨Zkj,Xdk,Zqs⟩
theorem Znc {u:TGs}(h1:JG0 X C Γ Δ e tt fb)(h2:JGs0 X C Γ Δ es n u fu)(hs:(AR (e::es) X.env).map (·.2)=CM e X.env::(AR es X.env).map (·.2):=by rfl):JGs0 X C Γ Δ (e::es) (n+1) (Zih tt u) (Dl.Xw fb fu):=⟨Zgj h1.q h2.q hs,Zyh h1.o h2.o,Zjy h2.n⟩
theorem Xkm {k:Nat}{u:TGs}(hc:X.calm=true)(h:JGs0 X C Γ Δ es n u fu)(hn:(AR es X.env).length=n:=by rfl)(hst:(AR es X.env).findIdx? (·.1)=none:=by rfl):JG0 X C Γ Δ (.Tuple es k pos) (Zew X.K n u) (Dl.Zet fu):=⟨Zrl hc h.q hn hst,Xfu h.n h.o⟩
theorem Xrx {tA:TT}{fA:FT}(hc:JT X C E Γ Δ c tA fA)(ha:JPs X C E Γ Δ Γ' Δ' body u g)(hb:JPs X C E Γ Δ Γ' Δ' other v h):JP X C E Γ Δ Γ' Δ' (.If c body other pos) (Xhb tA u v) (Dl.sIf fA g h):=⟨Xny hc.q ha.q hb.q,Xlv hc.o ha.o hb.o⟩
theorem Xsr (Γl Δl:List Nat)(hp:Gq (Aw X.prog X.w) X.A X.env X.xe)(hc:X.calm=true)(hi:JI X C E Γ Δ S tg iter wi fi)(hg:JG0 X C Γl Δl tg tt fb)(hb:JPs X C E Γl Δl Γl Δl body u g)(hs:∀x,Bf iter X.env x=BD x:=by intro _;rfl)
  (h1:∀i∈Γl,i∈Γ:=by decide) (h2:∀i∈Δl,i∈Δ:=by decide) (h3:∀p∈S,p.1∉Γl/\p.1∉Δl:=by decide):JP X C E Γ Δ Γl Δl (.For tg iter body [] pos) (Xho wi tt u) (Dl.Zeb fi fb (Dl.Zpv g)):=⟨Zys hp hc hi.q hg.q hb.q hs,Xde hi.o hg.o hb.o h1 h2 h3⟩
theorem Xnz (hi:i∈Γ:=by decide)(hN:X.N[i]?=some x:=by rfl)(hv:autoParam (Vis X.env.scope x) aT3._auto_1)(hd:(x==("__debug__":Str))=false:=by decide)(hcd:(x==("__classdict__":Str))=false:=by decide)
    (he:JE X C E Γ Δ m1 S1 e te fe) (hk:JE X C E Γ Δ m2 S2 kx tk fk) (hs:Ex [.Subscript (.Name x p) kx p2] e pos.line X.env=BD false:=by rfl) (hw:Ey [.Subscript (.Name x p) kx p2] e X.env=BD none:=by rfl) (h1:(AR [.Subscript (.Name x p) kx p2] X.env).map (·.2)=[CM (.Subscript (.Name x p) kx p2) X.env]:=by rfl)
    (hq:∀v,CM (.Subscript (.Name x p) kx p2) X.env v=(do
      let ov <- Cs [v] (A9 (.Name x p) X.env)
      let iv <- Cs [v,ov] (A9 kx X.env)
      EO p2
      Cs [v,ov,iv] (GO ov iv v)
      J7 [v,ov,iv] []):=by intro _;rfl) (hu:X.A.units+64<BC) :
    JP X C E Γ Δ Γ Δ (.Assign [.Subscript (.Name x p) kx p2] e pos) (Zgl te (Zeu (Zge i) tk Zxh)) (Dl.Zin i fk fe):=⟨Zwr he.q (Xid (qv i hN hv hd hcd) hk.q (set_dict hu) hq) hs hw h1,Zyo hi he.o hk.o⟩
theorem Xeu (i:Nat)(Df:Def X.prog X.w X.K X.mg X.base CX k x ps (spM K C n G))(hr:Zfo k X.A)(hg:Gl X x)(hx:Zfk CX X E)(ha:JA X C E Γ Δ m2 S2 es n t fa)(hi:i∈Δ:=by decide)(hS:∀p∈S2,p.1≠i:=by decide)(hN:X.N[i]?=some y:=by rfl)
  (hv:autoParam (Vis X.env.scope y) aT3._auto_1) (hd:(y==("__debug__":Str))=false:=by decide) (hcd:(y==("__classdict__":Str))=false:=by decide) (hdb:(x==("__debug__":Str))=false:=by decide)
  (he:Ad (.Name y p2::es) X.env=(false,A9 (.Name y p2) X.env)::Ad es X.env:=by rfl) (hpl:(BG pos (Ad es X.env)).any (·.1)=false:=by rfl) (hK:X.K=K:=by rfl) :
  JM X C E Γ Δ (.Call (.Name x p) (.Name y p2::es) [] pos) (Zim (spM K C n G) [] E (Zbu (Zge i) t)) (Dl.Zje i G fa):=by
 subst hK;exact ⟨Zjv Df hr hg hx (Zdh (qv i hN hv hd hcd) ha.q he) hdb he hpl,Zzj hi ha.o ha.n hS⟩
theorem Xmi (h1:∀i∈Γl,i∈Γ:=by decide)(h2:∀i∈Δl,i∈Δ:=by decide):SOk K C E mr Γl Δl Γ Δ Γ' Δ' Xkv Dl.sCnt:=fun _ _ H σ _ A _ I p=>p σ H A (I.weak h1 h2)
theorem Xqm (h1:∀i∈Γl,i∈Γ:=by decide)(h2:∀i∈Δl,i∈Δ:=by decide):JS X C E mr Γl Δl Γ Δ Γ' Δ' (.Continue pos) Xkv Dl.sCnt:=⟨⟨Zok⟩,Xmi h1 h2⟩
end
theorem Zne {ks:List (Option Expr)}{es:List Expr}:Ad (.Dict ks vs pos::es) env=(false,A9 (.Dict ks vs pos) env)::Ad es env:=rfl
theorem Zuc {t:Addr}{x:Value}(hit:s.heap.IsTupleIter it t i)(ht:s.heap.IsTuple t items)(hx:items[i]?=some x)(hQ:∀h',h'.IsTupleIter it t (i+1)->BH it s.heap h'->Q x {s with heap:=h'}):Am (Aw prog w) A (AT (.ref it)) Q E s:=by obtain ⟨o,ho,hc,hd⟩:=id hit;obtain ⟨ol,hol,_,nl,hdl⟩:=ht;unfold AT;refine Aa (Bk (name:=BA "__next__") hit.typeIs C8 (Ba C8 hit.typeIs GB ?_ (Gv _)));show Am _ _ (HD (.ref it) 0 >>= _) _ _ s;refine Aa (Bm ho hd (x:=.ref t) rfl ?_);show Am _ _ (if (AG t==Bw)=true then _ else _) _ _ s;rw [if_neg (show ¬((AG t==Bw)=true) from Au)];show Am _ _ (HD (.ref it) 1 >>= _) _ _ s;refine Aa (Bm ho hd (x:=.int i 0) rfl ?_);show Am _ _ (Gk (.ref t) >>= _) _ _ s;refine Aa (BK hol hdl ?_);simp only [CW,hx];refine Aa (Fa ho hd (by simp) (Ac ⟨x,rfl,Ac (hQ _ ⟨_,Dk _ ho (Hj (DY hd _)),(Ii ..).trans hc,by rw [DY hd];simp [DV]⟩ (CJ ..))⟩))
theorem Zza {t:Addr}(hh:A.handled=none)(hit:s.heap.IsTupleIter it t i)(ht:s.heap.IsTuple t items)(hx:items[i]?=none)(hE:∀h' e,D8 it s.heap h'->(∃o,h'.get? e=some o/\o.cls=.type "StopIteration")->E (.ref e) {s with heap:=h'}):Am (Aw prog w) A (AT (.ref it)) Q E s:=by
 obtain ⟨o,ho,hc,hd⟩:=id hit;obtain ⟨ol,hol,_,nl,hdl⟩:=ht;unfold AT;refine Aa (Bk (name:=BA "__next__") hit.typeIs C8 (Ba C8 hit.typeIs GB ?_ (Gv _)));show Am _ _ (HD (.ref it) 0 >>= _) _ _ s;refine Aa (Bm ho hd (x:=.ref t) rfl ?_);show Am _ _ (if (AG t==Bw)=true then _ else _) _ _ s;rw [if_neg (show ¬((AG t==Bw)=true) from Au)];show Am _ _ (HD (.ref it) 1 >>= _) _ _ s;refine Aa (Bm ho hd (x:=.int i 0) rfl ?_);show Am _ _ (Gk (.ref t) >>= _) _ _ s;refine Aa (BK hol hdl ?_);simp only [CW,hx];refine Aa (EN (Aa (Fa ho hd (by simp) ?_)));show Am _ _ (HS (.type "StopIteration") [] >>= _) _ _ _;refine Aa ?_;simp only [HS,K6];refine Aa (AZ ?_ (by size_fits));refine Aa (m:=DG _ _) (Gw (a:=Bw) (by first | rfl | (simp only [DG];rfl)) ?_);refine AZ ?_ (by size_fits);simp only [K5];refine Aa (Hl ?_)
 first | rw [show A.in1.handled=none from hh] | rw [hh]
 exact Aa (Ac (Iu (hE _ _ (((CJ ..).extBut.push _).push _) ⟨_,Av _ rfl,rfl⟩)))
section
variable {a:Expr}
variable {E:XK}{S:List (Nat×Bool)}
end
section
variable {E:XK}{S:List (Nat×Bool)}{a:Expr}{fb:FE}
end
section
variable {R:JK->Af->Prop}{P:Nat->Value->Prop}{St:Nat->Bq->Prop}
theorem Zwq (W:Walks prog w A.in1 I fp wr n P St)(bt:Nat->Nat->Bool)(hcmp:CmpOf prog w A.in1 .Lt P bt)(S:Addr)(hSf:S∉fp)(kw:List (Str×Value)) :
  ∀(k j:Nat) (s:Af) (vb:Value) (c:Nat),n - (j+1)=k->j+1<=n->St (j+1) s.heap->P (C5 bt j) vb->s.heap.get? S=some {cls:=.type "list",dict:=none,data:=.seq #[vb,vb] c,slots:=#[]}->
  (∀v h' tk,P (C5 bt (n - 1)) v->(∀b o,b∉wr->b≠S->s.heap.get? b=some o->h'.get? b=some o)->R (.ok (.ret v)) {s with heap:=h',toks:=tk})->D6 (Aw prog w) A (.builtin "min.loop" ⟨[.ref I,.none,.ref S],kw⟩) R s:=by
 have hSw:S∉wr:=fun h=>hSf (W.sub _ h);have hname:(FY "min"++FY ".loop":String)="min.loop":=by decide
 intro k;induction k with
 | zero =>
  intro j s vb c hk hj hst hPb hS hR;have hin:j+1=n:=by omega
  refine GG PySem.F.entry_min_loop ?_;rw [EE PySem.F.plain_min_loop _];show Am _ A.in1 (Gk (.ref S) >>= _) _ _ s;refine Aa (BK hS rfl ?_);show Am _ A.in1 (Iy (Dq (.ref I)) _ >>= _) _ _ s;refine Aa (Ed (W.done s _ _ (hin▸hst) fun h' tk hk'=>?_));have hS':=hk' S _ hSw hS;show Am _ A.in1 (updateSeq S (fun _=>#[]) >>= _) _ _ _;exact Aa (GC hS' rfl (Aa (DB (Ac (hR vb _ tk (by rw [<- hin];exact hPb) fun b o hbw hbS e=>(Cj _ _ (Ne.symm hbS)).trans (hk' b o hbw e))))))
 | succ k ih =>
  intro j s vb c hk hj hst hPb hS hR;have hlt:j+1<n:=by omega
  refine GG PySem.F.entry_min_loop ?_;rw [EE PySem.F.plain_min_loop _];show Am _ A.in1 (Gk (.ref S) >>= _) _ _ s;refine Aa (BK hS rfl ?_);show Am _ A.in1 (Iy (Dq (.ref I)) _ >>= _) _ _ s;refine Aa (Ed (W.item (j+1) s _ _ hlt hst fun v h' tk hP hst' hk'=>?_));have hS':=hk' S _ hSw hS;show Am _ A.in1 (Iy (Cs [v,v] (richCompare .Lt v vb >>= _)) _ >>= _) _ _ _;refine Aa (Ed (BJ (Aa (hcmp (j+1) (C5 bt j) v vb _ _ _ hP hPb (Aa (BJ (DE (Aa (DB (Ac ?_))))))))));cases hb:bt (j+1) (C5 bt j) with
  | true =>simp only [if_true];refine Aa (GC hS' rfl (Aa (DB ?_)));rw [hname];refine Ac ⟨Fu PySem.F.plain_min_loop _,ih (j+1) _ v _ (by omega) hlt (W.frame _ _ _ hst' fun b hbf o e=>(Cj _ _ (fun h:S=b=>hSf (by rw [h];exact hbf))).trans e) (by simp only [C5,hb,if_true];exact hP) (Dk _ hS' rfl) fun v' h'' tk'' hP' hk''=>hR v' h'' tk'' hP' fun b o hbw hbS e=>hk'' b o hbw hbS ((Cj _ _ (Ne.symm hbS)).trans (hk' b o hbw e))⟩
  | false =>simp only [A7,if_false];refine Aa (DB ?_);rw [hname];exact Ac ⟨Fu PySem.F.plain_min_loop _,ih (j+1) _ vb c (by omega) hlt hst' (by simp only [C5,hb,A7,if_false];exact hPb) hS' fun v' h'' tk'' hP' hk''=>hR v' h'' tk'' hP' fun b o hbw hbS e=>hk'' b o hbw hbS (hk' b o hbw e)⟩
theorem Zuj (W:Walks prog w A.in1 I fp wr n P St)(bt:Nat->Nat->Bool)(hcmp:CmpOf prog w A.in1 .Lt P bt)(S:Addr)(hSf:S∉fp)(d:Value)(hst:St 0 s.heap)(hS:s.heap.get? S=some {cls:=.type "list",dict:=none,data:=.seq #[] c,slots:=#[]})
  (hR:∀v h' tk,(0<n->P (C5 bt (n - 1)) v)->(n=0->v=d)->(∀b o,b∉wr->b≠S->s.heap.get? b=some o->h'.get? b=some o)->R (.ok (.ret v)) {s with heap:=h',toks:=tk}):D6 (Aw prog w) A (.builtin "min.loop" ⟨[.ref I,.none,.ref S],[(BA "default",d)]⟩) R s:=by
 have hSw:S∉wr:=fun h=>hSf (W.sub _ h);have hname:(FY "min"++FY ".loop":String)="min.loop":=by decide
 refine GG PySem.F.entry_min_loop ?_;rw [EE PySem.F.plain_min_loop _];show Am _ A.in1 (Gk (.ref S) >>= _) _ _ s;refine Aa (BK hS rfl ?_);show Am _ A.in1 (Iy (Dq (.ref I)) _ >>= _) _ _ s;by_cases hn:n=0;subst hn;refine Aa (Ed (W.done s _ _ hst fun h' tk hk'=>?_));exact Aa (EN (Ac (hR d h' tk (fun z=>absurd z (Bb 0)) (fun _=>rfl) fun b o hb _ e=>hk' b o hb e)));have hn':0<n:=Nat.pos_of_ne_zero hn;refine Aa (Ed (W.item 0 s _ _ hn' hst fun v h' tk hP hst' hk'=>?_));have hS':=hk' S _ hSw hS;show Am _ A.in1 (updateSeq S (fun _=>#[v,v]) >>= _) _ _ _;refine Aa (GC hS' rfl ?_);rw [hname];exact Ac ⟨Fu PySem.F.plain_min_loop _,Zwq W bt hcmp S hSf _ _ 0 _ v _ rfl hn' (W.frame _ _ _ hst' fun b hbf o e=>(Cj _ _ (fun h:S=b=>hSf (by rw [h];exact hbf))).trans e) hP (Dk _ hS' rfl) fun v' h'' tk'' hP' hk''=>hR v' h'' tk'' (fun _=>hP') (fun z=>absurd z hn) fun b o hbw hbS e=>hk'' b o hbw hbS ((Cj _ _ (Ne.symm hbS)).trans (hk' b o hbw e))⟩
end
theorem Xev (a v:Value):argsOk "min" ⟨[a],[(BA "default",v)]⟩:=by unfold argsOk;kernel_rfl
theorem Zqx (hl:s.heap.IsTuple l items)(h:∀s₂:Af,s₂={s with heap:=s.heap.push {cls:=.type "tuple_iterator",data:=.fields #[.ref l,.int 0 0]}}->
      (s₂.heap.IsTupleIter s.heap.objs.size l 0/\s₂.heap.IsTuple l items)->(∀b∈[s.heap.objs.size,l],b<s₂.heap.objs.size)->l≠s.heap.objs.size->Q (.ref s.heap.objs.size) s₂):Am (Aw prog w) A (GS (.ref l)) Q E s:=by
  have hlt:l<s.heap.objs.size:=by obtain ⟨_,e,_⟩:=id hl;exact AJ e
  refine IV hl (h _ rfl ⟨⟨_,Av _ rfl,rfl,rfl⟩,hl.push _⟩ (fun b hb=>?_) (Bn hlt));show b<(s.heap.push _).objs.size;rw [GR];rcases Al.mp hb with rfl | hb;exact FG _;rw [Aj.mp hb];exact C0 hlt
theorem Xep (hh:A.handled=none)(hl:s.heap.IsTuple l (CU xs))(hne:0<xs.size)
  (h:∀v h' tk,(CU xs)[C5 (fun i j=>decide (EI xs i<EI xs j)) (xs.size - 1)]?=some v->(∀b o,s.heap.get? b=some o->h'.get? b=some o)->Q v {s with heap:=h',toks:=tk}):Am (Aw prog w) A (call (.builtin "min") [.ref l]) Q E s:=by
 refine call_min_walk (Zqx hl fun s₂ e st hfp hlI=>?_);subst e;refine ⟨_,_,_,_,_,_,_,rfl,G1 (A:=A.in1) hh _ l hlI (CU xs),st,hfp,by simpa [CU] using hne,IR (EI xs) (fun _ _=>IA),fun v h' tk hP hk=>h v h' tk (by simpa [CU] using hP) fun b o e=>hk b o (fun z=>absurd (Aj.mp z) (Bn (AJ e))) (Ae _ e)⟩
theorem Xcs {d:Value}(hh:A.handled=none)(hl:s.heap.IsTuple l (CU xs))
  (h:∀v h' tk,(0<xs.size->(CU xs)[C5 (fun i j=>decide (EI xs i<EI xs j)) (xs.size - 1)]?=some v)->(xs.size=0->v=d)->(∀b o,s.heap.get? b=some o->h'.get? b=some o)->Q v {s with heap:=h',toks:=tk}):Am (Aw prog w) A (call (.builtin "min") [.ref l] [(BA "default",d)]) Q E s:=by
 have hname:(FY "min"++FY ".loop":String)="min.loop":=by decide
 have hz:(CU xs).size=xs.size:=by simp [CU]
 refine kmk_tree PySem.F.kind_min PySem.F.plain_min PySem.F.entry_min (Xev _ _) ?_;show Am _ A.in1 (EJ "min" ["key","default"] 0 ⟨[],[(BA "default",d)]⟩ >>= _) _ _ s;refine Aa (Gw (show EJ "min" ["key","default"] 0 ⟨[],[(BA "default",d)]⟩=BD [none,some d] from rfl) (Aa (Ac (Aa (Zqx hl fun s₂ e st hfp hlI=>?_)))));refine Aa (AZ ?_);rw [hname];have hSf:s₂.heap.objs.size∉[s.heap.objs.size,l]:=fun hm=>Bb _ (hfp _ hm);refine Ac ⟨Fu PySem.F.plain_min_loop _,Zuj (G1 (A:=A.in1) hh _ l hlI (CU xs)) _ (IR (EI xs) (fun _ _=>IA)) s₂.heap.objs.size hSf d ((G1 (prog:=prog) (w:=w) (A:=A.in1) hh _ l hlI (CU xs)).frame _ _ _ st fun b _ o e=>Ae _ e) (Av _ rfl) fun v h' tk hP h0 hk=>?_⟩;subst e;exact h v h' tk (fun z=>by have:=hP (by rw [hz];exact z);simpa [CU] using this) (fun z=>h0 (by rw [hz];exact z)) fun b o e=>by have hb:=AJ e;exact hk b o (fun z=>absurd (Aj.mp z) (Bn hb)) (Bn (by show b<(s.heap.push _).objs.size;rw [GR];exact C0 hb)) (Ae _ (Ae _ e))
def Xku (K:AO):List V->Hp->VK->Prop:=fun xs H Q=>∃p ns,xs=[.ref p]/\SqT K H p (ns.map V.int)/\ns≠[]/\∀m,m∈ns->(∀n∈ns,m<=n)->Q (.int m) H
theorem Zqj (hn:numsOf (CU xs).toList=ns)(h0:0<ns.length)(hv:(CU xs)[C5 (fun i j=>decide (EI xs i<EI xs j)) (xs.size - 1)]?=some v):∃m tk,v=.int m tk/\m∈ns/\∀n∈ns,m<=n:=by
 rw [Fv] at hn;have hsz:xs.size=ns.length:=by rw [<- hn];simp
 have val:∀i (hi:i<ns.length),EI xs i=ns[i]:=fun i hi=>by
  have:i<xs.size:=by omega
  subst hn;simp [EI,this]
 obtain ⟨tk',rfl⟩:=IA hv;have hlt:C5 (fun i j=>decide (EI xs i<EI xs j)) (xs.size - 1)<ns.length:=by have:=Zye (fun i j=>decide (EI xs i<EI xs j)) (xs.size - 1);omega
 refine ⟨_,tk',rfl,by rw [val _ hlt];exact Cg hlt,fun n hn'=>?_⟩;obtain ⟨j,hj,e⟩:=EK.mp hn';have q1:=Zli (EI xs) (xs.size - 1) j (by omega);rw [val j hj,e] at q1;exact q1
theorem Zxk (hc:X.calm=true):Jx X (.builtin "min") (Xku X.K):=by
 intro pins s σ H xs us Q I r h;obtain ⟨p,ns,rfl,hq,hne,q⟩:=h;obtain ⟨u,rfl,rx⟩:=vals1 r;cases rx;obtain ⟨its,rv,pl,hz⟩:=I.tuple hq;have hi:EW its ns:=intsAre_of rv;obtain ⟨xs,hxs⟩:=hi.allInts.items;have hn:numsOf its.toArray.toList=ns:=by rw [show its.toArray.toList=its from rfl,hi.numsOf]
 rw [hxs] at pl hn;have h0:0<ns.length:=List.length_pos_iff.mpr hne;have hsz:xs.size=ns.length:=by rw [Fv] at hn;rw [<- hn];simp
 refine Xep (I.ok.hd hc) pl (by omega) fun v h' tk hv hk=>?_;obtain ⟨m,tk',rfl,m1,m2⟩:=Zqj hn h0 hv;exact ⟨.int m,H,I.kept hk,⟨tk',rfl⟩,q m m1 m2⟩
theorem Xci:GAk K C (Xku K) Dl.Zyg:=by intro H xs d vs B Q r e q;unfold Dl.Zyg at e;split at e;obtain ⟨ns,h1,h2⟩:=AX.mp e;split at h2;cases h2;rename_i hne;cases h2;obtain ⟨v,rfl,r1⟩:=r.one';obtain ⟨a,ys,rfl,e2,e3⟩:=r1;have h:=e3.ofInts h1;subst h;obtain ⟨s1,s2⟩:=Zlq hne;refine ⟨a,ns,rfl,SqT.of e2,hne,fun mm h1 h2=>?_⟩;rw [show mm=Dl.Zve ns from IP (h2 _ s1) (s2 mm h1)];exact Out.flat q rpI;cases e
def Xmv (K:AO)(ta td:TE):TE:=fun σ H Q=>Zbu ta Ztt σ H fun vs H1=>∃p ns,vs=[.ref p]/\SqT K H1 p (ns.map V.int)/\td σ H1 fun w H2=>SqT K H2 p (ns.map V.int)/\∃i,w=.int i/\(ns=[]->Q (.int i) H2)/\∀m,m∈ns->(∀n∈ns,m<=n)->Q (.int m) H2
section
variable {a:Expr}{td:TE}{kp:Pos}
theorem Xla (hc:X.calm=true)(hg:Gl X "min")(hm:X.mg "min"=none)(he:PE X e te)(hd:PE X a td)(hs:Ad [e] X.env=(false,A9 e X.env)::Ad [] X.env)(hs3:Ad ([]:List Expr) X.env=[]:=by rfl) :
  PE X (.Call (.Name "min" np) [e] [⟨some "default",a,kp⟩] pos) (Xmv X.K te td):=by
 intro pins s σ H Q I h;refine Ee (Zgv I hg hm boot_min ?_ (by decide) (by decide));refine callWith_kw (thn (Zgr he Zso hs pos pins s σ H _ I h) fun us s1 ⟨vs,H1,I1,r1,q1⟩=>?_) (by rw [hs,hs3];rfl) (by rw [hs,hs3];rfl) rfl rfl;obtain ⟨p,ns,rfl,hq,q⟩:=q1;obtain ⟨u,rfl,rx⟩:=vals1 r1;cases rx;refine kws_cons (thn (hd pins s1 σ H1 _ I1 q) fun w s2 ⟨wv,H2,I2,rw',q2⟩=>kws_nil ?_);obtain ⟨hq2,i,rfl,qe,qm⟩:=q2;obtain ⟨tk,rfl⟩:=rw';obtain ⟨its,rv,pl,hz⟩:=I2.tuple hq2;have hi:EW its ns:=intsAre_of rv;obtain ⟨xs,hxs⟩:=hi.allInts.items;have hn:numsOf its.toArray.toList=ns:=by rw [show its.toArray.toList=its from rfl,hi.numsOf]
 rw [hxs] at pl hn;have hsz:xs.size=ns.length:=by have hn':=hn;rw [Fv] at hn';rw [<- hn'];simp
 refine Xcs (I2.ok.hd hc) pl fun v h' tk' hv h0 hk=>?_;cases ns with
 | nil =>obtain rfl:=h0 (by rw [hsz];rfl);exact ⟨.int i,H2,I2.kept hk,⟨tk,rfl⟩,qe rfl⟩
 | cons n r =>obtain ⟨m,tk2,rfl,m1,m2⟩:=Zqj hn (EG _) (hv (by rw [hsz];exact EG _));exact ⟨.int m,H2,I2.kept hk,⟨tk2,rfl⟩,qm m m1 m2⟩
end
section
variable {E:XK}{S:List (Nat×Bool)}
theorem Xes {t u:TE}{f':FE}(h:EOk K C E Γ Δ m1 S1 t f)(h':EOk K C E Γ Δ m2 S2 u f'):EOk K C E Γ Δ 2 [] (Xmv K t u) (Dl.Zqg f f'):=fun H0 Hb H σ ρ A Q I p=>h H0 Hb H σ ρ A _ I (p.bind.imp (fun d q v H1 g1 r=>by
  obtain ⟨B,r,r',_⟩:=r;cases d with
  | tup xs =>
    simp only at q;split at q;rename_i l hl;obtain ⟨a,ys,rfl,e2,e3⟩:=r;have z:=e3.ofInts hl;subst z;refine ⟨a,l,rfl,SqT.of e2,h' H0 Hb H1 σ ρ A _ (I.mono g1) (q.bind.imp (fun d2 q w H2 g2 r2=>?_) fun c x q H' g'=>q H' (g1.trans g'))⟩;obtain ⟨B2,r2,_⟩:=r2;cases d2 with
    | int i =>
      obtain ⟨rfl,rfl⟩:=r2;refine ⟨SqT.of (g2 _ _ e2),i,rfl,fun z=>?_,fun mm h1 h2=>?_⟩;have q:Q _ _:=q (.int _) H2 (g1.trans g2) ⟨[],rpI,(fun _ z=>nomatch z),(fun z=>absurd z (by decide)),fun _=>A6⟩;rw [if_pos z] at q;exact q;have hne:l≠[]:=fun z=>by rw [z] at h1;cases h1
      obtain ⟨s1,s2⟩:=Zlq hne;have q:Q _ _:=q (.int _) H2 (g1.trans g2) ⟨[],rpI,(fun _ z=>nomatch z),(fun z=>absurd z (by decide)),fun _=>A6⟩;rw [if_neg hne] at q;rw [show mm=Dl.Zve l from IP (h2 _ s1) (s2 mm h1)];exact q
    | _=>exact q.elim
    exact q.elim
  | _=>exact q.elim) fun c x q H' g'=>q H' g')
variable {a:Expr}{kp:Pos}
theorem Xgd (K:AO)(hg:Gl X "min")(hm:X.mg "min"=none)(he:JE X C E Γ Δ m1 S1 e te fe)(ha:JE X C E Γ Δ m2 S2 a ta fa)(hs:Ad [e] X.env=(false,A9 e X.env)::Ad [] X.env)(hc:X.calm=true:=by rfl)(hK:X.K=K:=by rfl) :
  JE X C E Γ Δ 2 [] (.Call (.Name "min" np) [e] [⟨some "default",a,kp⟩] pos) (Xmv K te ta) (Dl.Zqg fe fa):=by
 subst hK;exact ⟨⟨Xla hc hg hm he.q.out ha.q.out hs⟩,Xes he.o ha.o⟩
end
end L2
namespace L2
open PySem PySem.SeqAt PyProof.Rows
open Dl (ilt Zbj)
variable {A:Bh}{s:Af}{p q:Int}{c d:List Int}{prog:AQ}{w:Bl}{E:Value->Af->Prop}
theorem Xkw (p:Int):ilt p p=false:=decide_eq_false (Int.lt_irrefl p)
theorem Xrh {t:Int}(h:ilt p q=true)(h2:ilt q t=true):ilt p t=true:=decide_eq_true (He (of_decide_eq_true h) (of_decide_eq_true h2))
theorem Xll (h:p≠q):ilt p q=true\/ilt q p=true:=(Int.lt_or_gt_of_ne h).imp (fun z=>decide_eq_true z) fun z=>decide_eq_true z
theorem Zrf:∀c:List Int,Zbj c c=false
 | []=>rfl
 | p::c=>by unfold Zbj;rw [if_pos rfl];exact Zrf c
theorem Zpm:∀{c d e:List Int},Zbj c d=true->Zbj d e=true->Zbj c e=true
 | [],[],_,h,_=>nomatch h
 | [],_::_,[],_,h=>nomatch h
 | [],_::_,_::_,_,_=>rfl
 | _::_,[],_,h,_=>nomatch h
 | _::_,_::_,[],_,h=>nomatch h
 | p::c,q::d,t::e,h,h2=>by unfold Zbj at *;by_cases e1:p=q;rw [if_pos e1] at h;subst e1;by_cases e2:p=t;rw [if_pos e2] at h2 ⊢;exact Zpm h h2;rw [if_neg e2] at h2 ⊢;exact h2;rw [if_neg e1] at h;by_cases e2:q=t;subst e2;rw [if_neg e1];exact h;rw [if_neg e2] at h2;have h3:=Xrh h h2;rw [if_neg (fun z=>by rw [z,Xkw] at h3;cases h3)];exact h3
theorem Zjk:∀{c d:List Int},c≠d->Zbj c d=true\/Zbj d c=true
 | [],[],h=>absurd rfl h
 | [],_::_,_=>.inl rfl
 | _::_,[],_=>.inr rfl
 | p::c,q::d,h=>by unfold Zbj;by_cases e:p=q;rw [if_pos e,if_pos e.symm];exact Zjk fun z=>h (by rw [e,z]);rw [if_neg e,if_neg (fun z=>e z.symm)];exact Xll e
theorem Zpx (h:Zbj c d=true):Zbj d c=false:=by
 cases e:Zbj d c with
 | false=>rfl
 | true=>rw [<- Zrf c,<- Zpm h e]
theorem Zwu {e:List Int}(h:Zbj d c=false)(h2:Zbj e d=false):Zbj e c=false:=by
 cases q:Zbj e c with
 | false=>rfl
 | true =>by_cases e1:c=d;subst e1;rw [h2] at q;cases q;rcases Zjk e1 with z | z;rw [<- h2,Zpm q z];rw [h] at z;cases z
theorem Xah (h:Zbj d c=false)(h2:Zbj c d=false):c=d:=by by_cases e:c=d;exact e;rcases Zjk e with z | z;rw [h2] at z;cases z;rw [h] at z;cases z
end L2
namespace L2
open PySem PySem.Spec PyProof.Rows
open Dl (D R FE FT FA FO FS FI FB Fl Zbj)
variable {l a it z i1 i2 l1 l2:Addr}{l':List (List Int)}{X:Cx}{K:AO}{C:String->Addr}{E Q:Value->Af->Prop}{Γ Δ Γ' Δ':List Nat}{m m1 m2 ep i k1 k2 x1:Nat}{S1 S2 S3:List (Nat×Bool)}{H:Hp}{e tg:Expr}{te ta tb:TE}{fe fa fb:FE}{pos p tpos:Pos}{b x y:Value}{o od:Obj}{kvs:List (List Key×V)}{k:List Key}{prog P:AQ}{w:Bl}{A:Bh}{es:Array C3}{T T1 T2:Bool}{h h':Bq}{s:Af}{items xs ys:Array Value}{pins:List (Addr×Obj)}{σ:St}{elts:List Expr}{B:List Addr}
theorem Zht (c:List Int):∀l,(Dl.Xok c l).Perm (c::l)
 | []=>Fo _
 | d::l=>by unfold Dl.Xok;split;exact Fo _;exact ((Zht c l).cons d).trans (Lo c d l)
theorem Zbw:∀l,(Dl.Jf l).Perm l
 | []=>Fo _
 | c::l=>(Zht c _).trans ((Zbw l).cons c)
theorem Xag (c:List Int):∀l,l.Pairwise (fun x y=>Zbj y x=false)->(Dl.Xok c l).Pairwise (fun x y=>Zbj y x=false)
 | [],_=>GJ _ _
 | d::l,h=>by obtain ⟨h1,h2⟩:=E7.mp h;unfold Dl.Xok;split;rename_i q;refine E7.mpr ⟨fun y hy=>?_,h⟩;rcases Al.mp hy with e | e;rw [e];exact Zpx q;exact Zwu (Zpx q) (h1 y e);rename_i q;refine E7.mpr ⟨fun y hy=>?_,Xag c l h2⟩;rcases Al.mp ((Zht c l).mem_iff.mp hy) with e | e;rw [e];exact Bool.eq_false_iff.mpr q;exact h1 y e
theorem Zno:∀l,(Dl.Jf l).Pairwise (fun x y=>Zbj y x=false)
 | []=>EA
 | c::l=>Xag c _ (Zno l)
theorem Zww {l:List (List Int)}(hp:l'.Perm l)(hu:l'.Pairwise (fun x y=>Zbj y x=false)):Dl.Jf l=l':=Lp (fun x y _ _ h1 h2=>Xah h1 h2) (Zno l) hu ((Zbw l).trans hp.symm)
section
variable {E:XK}{Γl Δl:List Nat}{m3 mr:Nat}{S:List (Nat×Bool)}
theorem Znx.tf {b:Addr}(e:H a=some (.frz o (.dT kvs)))(eb:H b=some (.tup (k.map kV))):Znx H a (.ref b) (Znz kvs k):=.inr ⟨kvs,k,b,.inr ⟨o,e⟩,rfl,eb,rfl⟩
theorem Zqp {k:List Key}:∀{ks:List (List Key)} {ds:List D} {xs:List V} {d:D},RpA K C H ds xs []->Dl.tAt ks ds k=some d->∃v,Znz (ks.zip xs) k=some v/\Rp K C H d v []
 | [],ds,xs,d,_,e=>by cases ds<;>cases e
 | j::ks,[],xs,d,_,e=>by cases e
 | j::ks,x::ds,xs,d,q,h=>by obtain ⟨y,l,B,B',e1,e2,e3,e4⟩:=q;obtain ⟨rfl,rfl⟩:=Et.mp e4.symm;subst e1;rw [Dl.tAt] at h;by_cases e:j=k;rw [if_pos e] at h;cases h;exact ⟨y,Zef e,e2⟩;rw [if_neg e] at h;rw [Ca,Zds e];exact Zqp e3 h
theorem Zxd:GOk K C Xoe Dl.Zrs:=by intro H x y d vx vy Bx By Q rx ry e q;unfold Dl.Zrs at e;split at e;rename_i ks ds;obtain ⟨k,hk,e⟩:=Ax.mp e;cases e;obtain ⟨a,o,ys,rfl,h1,h2,h3,_⟩:=ry;obtain ⟨b,rfl,hb⟩:=Zcf hk rx;refine ⟨a,_,rfl,Znx.tf h1 hb,?_⟩;rw [<- Zdu,Zcs (by rw [h2,h3.len])];exact Out.flat q rpB;cases e
theorem Xel:GOk K C rDin Dl.Xaq:=by intro H x y d vx vy Bx By Q rx ry e q;unfold Dl.Xaq at e;split at e;rename_i ks ds;obtain ⟨k,hk,e⟩:=Ax.mp e;cases e;obtain ⟨a,o,ys,rfl,h1,h2,h3,_⟩:=ry;obtain ⟨b,rfl,hb⟩:=Zcf hk rx;refine ⟨a,_,rfl,Znx.tf h1 hb,?_⟩;rw [<- Zdu,Zcs (by rw [h2,h3.len])];exact Out.flat q rpB;cases e
theorem Xex {td ty:TE}{fd fy:FE}(hd:EOk K C E Γ Δ m1 S1 td fd)(hy:EOk K C E Γ Δ m2 S2 ty fy):EOk K C E Γ Δ 2 [] (Zyw td ty) (Dl.f2 Dl.Xcx fd fy):=
  fun H0 Hb H σ ρ A Q I p=>hd H0 Hb H σ ρ A _ I (p.bind.imp (fun d q vd H1 g1 r1=>hy H0 Hb H1 σ ρ A _ (I.mono g1) (q.bind.imp (fun y q vy H2 g2 r2=>by
    obtain ⟨z,e,q2⟩:=Zei q;obtain ⟨Bd,r1,_⟩:=r1;obtain ⟨By,r2,_⟩:=r2;cases d with
    | fdt ks ds =>obtain ⟨k,hk,e⟩:=AX.mp (show ((Dl.Zny y).bind fun k=>Dl.tAt ks ds k)=some z from e);obtain ⟨a,o,ys,rfl,h1,h2,h3,_⟩:=r1;obtain ⟨b,rfl,hb⟩:=Zcf hk r2;obtain ⟨v,v1,v2⟩:=Zqp (h3.same g2) e;refine ⟨a,v,rfl,?_,q2 v H2 (g1.trans g2) (Res.flat v2)⟩;rw [<- v1];exact Znx.tf (g2 _ _ h1) hb
    | _=>cases e) fun c x q H' g'=>q H' (g1.trans g'))) fun c x q H' g'=>q H' g')
variable {a b:Expr}
theorem Xip (ha:JE X C E Γ Δ m1 S1 a ta fa)(hb:JE X C E Γ Δ m2 S2 b tb fb)(hu:X.A.units+64<BC)(hs:NoSl b:=by intro _ _;rfl):JE X C E Γ Δ 2 [] (.Subscript a b pos) (Zyw ta tb) (Dl.f2 Dl.Xcx fa fb):=⟨⟨Xbb (by omega) ha.q.out hb.q.out hs⟩,Xex ha.o hb.o⟩
end
def KeyP (es:Array C3):Nat->Value->Prop:=fun i v=>∃e,es[i]?=some e/\v=e.key
theorem Xae (hh:A.handled=none)(hne:a≠it)(hdd:od.data=.dict es ep) :
  Walks prog w A it [it,a] [it] es.size (KeyP es) (fun i h=>h.IsKeyIter it a i es.size ep/\h.get? a=some od) where
 sub:=fun b hb=>by simp at hb;simp [hb]
 frame:=fun _ _ _ st hk=>⟨st.1.at fun o e=>hk it (by simp) o e,hk a (by simp) _ st.2⟩
 item:=fun i s Q E hi st hQ=>Zni st.1 st.2 hdd hi fun h' x1 x2=>hQ _ h' s.toks ⟨es[i],C6 hi,rfl⟩ ⟨x1,(x2.2 a hne).trans st.2⟩ fun b o hb e=>(x2.2 b fun z=>hb (by simp [z])).trans e
 done:=fun s Q E st hQ=>Zkq hh st.1 st.2 hdd (As _) fun h' x=>hQ h' s.toks fun b o hb e=>x b o (fun z=>hb (by simp [z])) e
 self:=fun _ _ _ _ st hQ=>Iv st.1 hQ
theorem Xkr (hs:(a==B5)=false)(hx:od.ExactDict)(hdd:od.data=.dict es ep):PySem.W.KdlSrc prog w "dict" a a es.size (KeyP es) (fun h=>h.get? a=some od) where
 type:=fun s h=>⟨od,h,hx.1⟩
 there:=fun h e=>⟨AJ e,AJ e⟩
 keep:=fun h h' e k=>k a (.inl rfl) _ e
 notList:=by decide
 notTuple:=by decide
 hint:=fun A E s Q h q=>PySem.W.kdl_hint_dict ⟨od,h,hx.1⟩ q
 iter:=fun A s hh h=>⟨{cls:=.type "dict_keyiterator",data:=.fields #[.ref a,.int 0 0,.int es.size 0,.int ep 0]},_,fun E Q q=>Zmk hs h hx hdd q,Xae hh (Bn (AJ h)) hdd,⟨⟨_,Av _ rfl,rfl,rfl⟩,Ae _ h⟩⟩
def Zyu:List V->Hp->VK->Prop:=fun xs H Q=>∃(a:Addr) (o:Obj) (kvs:List (List Key×V)),xs=[.ref a]/\H a=some (.frz o (.dT kvs))/\kvs.length<=1000000/\
 ∀(bs:List Addr) (r:Addr),bs.length=kvs.length->(∀(i:Nat) (kv:List Key×V) (b:Addr),kvs[i]?=some kv->bs[i]?=some b->H b=some (.tup (kv.1.map kV)))->H r=none->Q (.ref r) (upd H r (.lst (bs.map V.ref)))
theorem Zuw (hc:X.calm=true):Jx X (.type "list") Zyu:=by
 intro pins s σ H xs us Q I r h;obtain ⟨a,o,kvs,rfl,hq,hlim,q⟩:=h;obtain ⟨u,rfl,rx⟩:=vals1 r;cases rx;obtain ⟨ho,z,hd,ys,rel,o',es,ep,ho',h1,h2,h3,h5⟩:=I.hok a _ hq;rw [ho] at ho';cases ho';have hl:es.size=kvs.length:=by rw [<- Bu,h3,Ah];exact (Paired.length rel).symm
 refine PySem.W.kdl_call (Xkr hd h1 h2) (I.ok.hd hc) ho (by rw [hl,Ep];omega) fun h' tk acc' c' hk hg hit=>?_;obtain ⟨hsz,hv⟩:=hit;have hall:∀(i:Nat) (v:Value),acc'.toList[i]?=some v->∃(b:Addr) (kv:List Key×V),v=.ref b/\kvs[i]?=some kv/\H b=some (.tup (kv.1.map kV)):=fun i v hi=>by
  obtain ⟨e,he,rfl⟩:=hv i v (by rw [DW] at hi;exact hi);have hie:i<es.size:=(Array.getElem?_eq_some_iff.mp he).1;have hik:i<kvs.length:=by omega
  obtain ⟨y,hy1,hy2,hy3,_⟩:=Paired.at_ rel (Ag hik);have:es.toList[i]?=some (ET (CV (Yb X.prog X.w)) y):=by rw [h3,AM,hy1];rfl
  rw [DW,he] at this;rw [AK this];exact ⟨y.2.1,kvs[i],rfl,Ag hik,hy3⟩
 have eo:acc'.toList=(acc'.toList.map adr).map AG:=by
  rw [Be]
  conv=>lhs;rw [<- Gp acc'.toList]
  refine BM fun v hv=>?_;obtain ⟨i,hi⟩:=List.mem_iff_getElem?.mp hv;obtain ⟨b,kv,rfl,_⟩:=hall i v hi;rfl
 have hlen:acc'.toList.length=kvs.length:=by rw [Bu,hsz,hl]
 refine ⟨.ref s.heap.objs.size,_,I.laid (t':=tk) (o:=.lst ((acc'.toList.map adr).map V.ref)) hk (As _) ⟨?_,acc'.toList,c',?_,?_⟩,rfl,q (acc'.toList.map adr) _ (by rw [Ah,hlen]) (fun i kv b e1 e2=>?_) I.fresh⟩;rw [Ah,Ah,hlen,Ep];omega;rw [eo];have:=Zgo (acc'.toList.map adr);rw [show (Ek adr (Ek AG (Ek adr acc'.toList)))=Ek adr acc'.toList by rw [Be,show (adr∘AG)=id from rfl,Gp]];exact this;simpa using hg;rw [AM] at e2;obtain ⟨v,h6,rfl⟩:=Ax.mp e2;obtain ⟨b,kv',rfl,h7,h8⟩:=hall i v h6;rw [e1] at h7;rw [AK h7];exact h8
theorem Zra {H:Hp}:∀{ks:List (List Key)} {bs:List Addr},bs.length=ks.length->(ks.all fun k=>k.all Dl.kOk)=true->(∀(i:Nat) (k:List Key) (b:Addr),ks[i]?=some k->bs[i]?=some b->H b=some (.tup (k.map kV)))->RpA K C H (ks.map Dl.Zdn) (bs.map V.ref) []
 | [],[],_,_,_=>RpA.nil
 | k::ks,b::bs,hl,hk,h=>by rw [JR,AY] at hk;exact ⟨_,_,[],[],rfl,Xay hk.1 (h 0 k b rfl rfl),Zra (BF hl) hk.2 (fun i k' b' h1 h2=>h (i+1) k' b' (by simpa using h1) (by simpa using h2)),rfl⟩
 | [],_::_,hl,_,_=>nomatch hl
 | _::_,[],hl,_,_=>nomatch hl
theorem Zze:GAk K C Zyu Dl.Zws:=by
  intro H xs d vs Bx Q r e q
  match xs,e with
  | [x],e =>
    obtain ⟨v,l,B1,B2,rfl,r1,r2,_⟩:=r;obtain ⟨rfl,_⟩:=r2;cases x with
    | fdt ks ds =>
      have e:(if ks.length<=Dl.lim/\(ks.all fun k=>k.all Dl.kOk)=true then some (D.lst (ks.map Dl.Zdn)) else none)=some d:=e;split at e
      · rename_i hh;cases e;obtain ⟨a,o,ys,rfl,e1,e2,e3,_⟩:=r1;have hl:ks.length=ys.length:=by rw [e2,e3.len]
        have hz:(ks.zip ys).length=ks.length:=by rw [ER];omega
        refine ⟨a,o,_,rfl,e1,by rw [hz];exact hh.1,fun bs p hb hbs hp=>?_⟩;have g2:=sameNew hp (.lst (bs.map V.ref));have hr:RpA K C (upd H p (.lst (bs.map V.ref))) (ks.map Dl.Zdn) (bs.map V.ref) []:=RpA.same g2 (Zra (by rw [hb,hz]) hh.2 fun i k b h1 h2=>by
          have hi:=(Ai.mp h1).1;exact hbs i (k,ys[i]'(by omega)) b (by rw [C7];exact ⟨h1,Ag _⟩) h2)
        exact q _ _ [p] g2 ⟨p,_,[],rfl,Xd,hr,rfl⟩ (Ay.mpr ⟨(fun z=>nomatch z),A6⟩) fun c hc=>by rw [Aj.mp hc];exact hp
      cases e
    | _=>cases e
  | [],e=>cases e
  | x::_::_,e=>cases x<;>cases e
def gIt (T:Bool)(h:Bq)(it l:Addr)(i:Nat):Prop:=match T with
 | true=>h.IsTupleIter it l i
 | false=>h.IsListIter it l i
def gSq (T:Bool)(h:Bq)(l:Addr)(xs:Array Value):Prop:=match T with
 | true=>h.IsTuple l xs
 | false=>h.IsList l xs
theorem gIt.at_ (x:gIt T h it l i)(k:∀o,h.get? it=some o->h'.get? it=some o):gIt T h' it l i:=by cases T;exact Heap.IsListIter.at x k;obtain ⟨o,e,r⟩:=x;exact ⟨o,k o e,r⟩
theorem gIt.obj (x:gIt T h it l i):∃o,h.get? it=some o/\∀v,o.data≠.cell v:=by cases T;obtain ⟨o,e,_,d⟩:=x;exact ⟨o,e,fun v z=>by rw [d] at z;cases z⟩;obtain ⟨o,e,_,d⟩:=x;exact ⟨o,e,fun v z=>by rw [d] at z;cases z⟩
theorem gIt.extBut {b:Addr}(x:gIt T h it l i)(hs:D8 b h h')(hab:it≠b):gIt T h' it l i:=x.at_ fun o e=>hs it o hab e
theorem gSq.extBut {T:Bool}{h h':Bq}{l b:Addr}{xs:Array Value}(x:gSq T h l xs)(hs:D8 b h h')(hab:l≠b):gSq T h' l xs:=by cases T;exact La x hs hab;exact KP x hs hab
theorem Zfa {t:Addr}(hit:gIt T s.heap it t i)(ht:gSq T s.heap t items)(hx:items[i]?=some x)(hQ:∀h',gIt T h' it t (i+1)->BH it s.heap h'->Q x {s with heap:=h'}):Am (Aw prog w) A (AT (.ref it)) Q E s:=by cases T;exact wpAny_nextOf_list_item hit ht hx hQ;exact Zuc hit ht hx hQ
theorem Zlm {t:Addr}(hh:A.handled=none)(hit:gIt T s.heap it t i)(ht:gSq T s.heap t items)(hx:items[i]?=none)(hE:∀h' e,D8 it s.heap h'->(∃o,h'.get? e=some o/\o.cls=.type "StopIteration")->E (.ref e) {s with heap:=h'}):Am (Aw prog w) A (AT (.ref it)) Q E s:=by cases T;exact wpAny_nextOf_list_end hh hit ht hx hE;exact Zza hh hit ht hx hE
theorem Zxy {TI TO:Addr}{a:Value}(D:G0 z TI TO i1 i2 l1 l2)(hz:Ew s.heap z TI TO .none)(hTI:Cr s.heap TI (.ref i1) (.ref i2))(hTO:Cr s.heap TO a b)
    (h1:gIt T1 s.heap i1 l1 k1) (h2:gIt T2 s.heap i2 l2 k2) (hl1:gSq T1 s.heap l1 xs) (hl2:gSq T2 s.heap l2 ys) (hx:xs[k1]?=some x) (hy:ys[k2]?=some y)
    (hQ:∀h',Ew h' z TI TO (DV s.heap.objs.size)->Cr h' TO x y->gIt T1 h' i1 l1 (k1+1)->gIt T2 h' i2 l2 (k2+1)->Cr h' s.heap.objs.size x y->h'.objs.size=s.heap.objs.size+1->
      (∀c o,c≠z->c≠TO->c≠i1->c≠i2->s.heap.get? c=some o->h'.get? c=some o)->Q (.ref s.heap.objs.size) {s with heap:=h'}):Am (Aw prog w) A (D9.«zip.__next__» ⟨[.ref z],[]⟩) (fun fin s'=>∃v,fin=.done (.ret v)/\Q v s') E s:=by
  show Am _ _ (HD (.ref z) 2 >>= _) _ _ _;refine Aa (Bm hz rfl (x:=.bool false) rfl ?_);show Am _ _ (HD (.ref z) 3 >>= _) _ _ _;refine Aa (Bm hz rfl (x:=.ref TI) rfl (Aa (BK hTI rfl ?_)));show Am _ _ (BP (.ref z) >>= _) _ _ _;refine Aa ?_;unfold BP;refine Aa (Bm hz rfl (x:=.none) rfl (Ac ?_));simp only [if_true];refine Aa (EN (Aa (Bm hz rfl (x:=.ref TO) rfl (Aa (Bg hz (by simp) fun h₁ hz₁ hs₁=>?_)))));replace hz₁:Ew h₁ z TI TO .ellipsis:=hz₁;refine Aa ?_;simp only [Ik,IG,FC,Gi];refine Aa (Aa (Ft ?_));show Am _ _ (AT (.ref i1) >>= _) _ _ _;refine Aa (Zfa (h1.extBut hs₁.extBut D.i1z) (hl1.extBut hs₁.extBut D.l1z) hx fun h₂ h1₂ hs₂=>Ac ?_);have hTO₂:Cr h₂ TO a b:=hs₂.extBut _ _ D.TOi1 (hs₁.extBut _ _ D.TOz hTO);refine Aa (BK hTO₂ rfl (Aa (E9 hTO₂ fun h₃ hTO₃ hs₃=>?_)));replace hTO₃:Cr h₃ TO x b:=hTO₃;refine Aa (DB (Ac ?_));refine Aa (Aa (Ft ?_));show Am _ _ (AT (.ref i2) >>= _) _ _ _;refine Aa (Zfa (((h2.extBut hs₁.extBut D.i2z).extBut hs₂.extBut D.i12.symm).extBut hs₃.extBut D.TOi2.symm) (((hl2.extBut hs₁.extBut D.l2z).extBut hs₂.extBut D.l2i1).extBut hs₃.extBut D.l2TO) hy fun h₄ h2₄ hs₄=>Ac ?_);have hTO₄:Cr h₄ TO x b:=hs₄.extBut _ _ D.TOi2 hTO₃;refine Aa (BK hTO₄ rfl (Aa (E9 hTO₄ fun h₅ hTO₅ hs₅=>?_)));replace hTO₅:Cr h₅ TO x y:=hTO₅;refine Aa (DB (Ac (Ac ?_)));refine Aa (BK hTO₅ rfl (Aa (GQ ?_)));have hsz:h₅.objs.size=s.heap.objs.size:=by rw [hs₅.1,hs₄.1,hs₃.1,hs₂.1,hs₁.1];done
  have hz₅:Ew h₅ z TI TO .ellipsis:=hs₅.extBut _ _ (Ne.symm D.TOz) (hs₄.extBut _ _ (Ne.symm D.i2z) (hs₃.extBut _ _ (Ne.symm D.TOz) (hs₂.extBut _ _ (Ne.symm D.i1z) hz₁)));have hk₅:∀c o,c≠z->c≠TO->c≠i1->c≠i2->s.heap.get? c=some o->h₅.get? c=some o:=fun c o c1 c2 c3 c4 e=>hs₅.extBut _ _ c2 (hs₄.extBut _ _ c4 (hs₃.extBut _ _ c2 (hs₂.extBut _ _ c3 (hs₁.extBut _ _ c1 e))));have h1₅:gIt T1 h₅ i1 l1 (k1+1):=((h1₂.extBut hs₃.extBut D.TOi1.symm).extBut hs₄.extBut D.i12).extBut hs₅.extBut D.TOi1.symm;have h2₅:gIt T2 h₅ i2 l2 (k2+1):=h2₄.extBut hs₅.extBut D.TOi2.symm;have hzlt:z<h₅.objs.size:=AJ (hz₅);show Am _ _ (DT (.ref z) (.ref h₅.objs.size) >>= _) _ _ _;refine Aa ?_;unfold DT;refine Aa (Bg (show Ew (h₅.push {cls:=.type "tuple",data:=.seq #[x,y]}) z TI TO .ellipsis from Ae _ hz₅) (by simp) fun h₇ hz₇ hs₇=>?_);replace hz₇:Ew h₇ z TI TO (DV h₅.objs.size):=hz₇;refine Bg hz₇ (by simp) fun h₈ hz₈ hs₈=>?_;replace hz₈:Ew h₈ z TI TO (DV h₅.objs.size):=hz₈;have up:∀c o,c≠z->h₅.get? c=some o->h₈.get? c=some o:=fun c o c1 e=>hs₈.extBut c o c1 (hs₇.extBut c o c1 (Ae _ e));have hT₈:Cr h₈ h₅.objs.size x y:=hs₈.extBut _ _ (Fc hzlt) (hs₇.extBut _ _ (Fc hzlt) (by exact Av _ rfl));have hz8:h₈.objs.size=h₅.objs.size+1:=hs₈.1.trans (hs₇.1.trans (EH ..));rw [hsz] at hz₈ hT₈ hz8;refine Ac ⟨_,rfl,?_⟩;show Q (.ref h₅.objs.size) _;rw [hsz];exact hQ h₈ hz₈ (up _ _ D.TOz hTO₅) (h1₅.at_ fun o e=>up _ o D.i1z e) (h2₅.at_ fun o e=>up _ o D.i2z e) hT₈ hz8 fun c o c1 c2 c3 c4 e=>up c o c1 (hk₅ c o c1 c2 c3 c4 e)
theorem Xct {TI TO:Addr}{a:Value}{Q:Fin->Af->Prop}(hh:A.handled=none)(D:G0 z TI TO i1 i2 l1 l2)(hz:Ew s.heap z TI TO .none)(hTI:Cr s.heap TI (.ref i1) (.ref i2))(hTO:Cr s.heap TO a b)
  (h1:gIt T1 s.heap i1 l1 k1) (h2:gIt T2 s.heap i2 l2 k2) (hl1:gSq T1 s.heap l1 xs) (hl2:gSq T2 s.heap l2 ys) (hend:xs[k1]?=none\/ys[k2]?=none)
  (hE:∀h' e,(∀c o,c≠z->c≠TO->c≠i1->c≠i2->s.heap.get? c=some o->h'.get? c=some o)->(∃o,h'.get? e=some o/\o.cls=.type "StopIteration")->E (.ref e) {s with heap:=h'}):Am (Aw prog w) A (D9.«zip.__next__» ⟨[.ref z],[]⟩) Q E s:=by
 show Am _ _ (HD (.ref z) 2 >>= _) _ _ _;refine Aa (Bm hz rfl (x:=.bool false) rfl ?_);show Am _ _ (HD (.ref z) 3 >>= _) _ _ _;refine Aa (Bm hz rfl (x:=.ref TI) rfl (Aa (BK hTI rfl ?_)));show Am _ _ (BP (.ref z) >>= _) _ _ _;refine Aa ?_;unfold BP;refine Aa (Bm hz rfl (x:=.none) rfl (Ac ?_));simp only [if_true];refine Aa (EN (Aa (Bm hz rfl (x:=.ref TO) rfl (Aa (Bg hz (by simp) fun h₁ hz₁ hs₁=>?_)))));replace hz₁:Ew h₁ z TI TO .ellipsis:=hz₁;refine Aa ?_;simp only [Ik,IG,FC,Gi];refine Aa (Aa (Ft ?_));show Am _ _ (AT (.ref i1) >>= _) _ _ _;cases hx:xs[k1]? with
 | none =>
  refine Aa (Zlm hh (h1.extBut hs₁.extBut D.i1z) (hl1.extBut hs₁.extBut D.l1z) hx fun h₂ e hs₂ he=>?_);obtain ⟨oe,hoe,hce⟩:=he;have hz₂:Ew h₂ z TI TO .ellipsis:=hs₂ _ _ (Ne.symm D.i1z) hz₁;have hez:e≠z:=fun x=>by subst x;rw [hz₂] at hoe;cases hoe;exact absurd hce (by simp)
  exact Bg hz₂ (by simp) fun h₃ _ hs₃=>hE h₃ e (fun c o c1 _ c3 _ x=>hs₃.extBut _ _ c1 (hs₂ _ _ c3 (hs₁.extBut _ _ c1 x))) ⟨oe,hs₃.extBut _ _ hez hoe,hce⟩
 | some x =>
  have hy:ys[k2]?=none:=hend.elim (fun h=>by rw [hx] at h;cases h) id;refine Aa (Zfa (h1.extBut hs₁.extBut D.i1z) (hl1.extBut hs₁.extBut D.l1z) hx fun h₂ h1₂ hs₂=>Ac ?_);have hTO₂:Cr h₂ TO a b:=hs₂.extBut _ _ D.TOi1 (hs₁.extBut _ _ D.TOz hTO);refine Aa (BK hTO₂ rfl (Aa (E9 hTO₂ fun h₃ hTO₃ hs₃=>?_)));refine Aa (DB (Ac ?_));refine Aa (Aa (Ft ?_));show Am _ _ (AT (.ref i2) >>= _) _ _ _;refine Aa (Zlm hh (((h2.extBut hs₁.extBut D.i2z).extBut hs₂.extBut D.i12.symm).extBut hs₃.extBut D.TOi2.symm) (((hl2.extBut hs₁.extBut D.l2z).extBut hs₂.extBut D.l2i1).extBut hs₃.extBut D.l2TO) hy fun h₄ e hs₄ he=>?_);obtain ⟨oe,hoe,hce⟩:=he;have hz₄:Ew h₄ z TI TO .ellipsis:=hs₄ _ _ (Ne.symm D.i2z) (hs₃.extBut _ _ (Ne.symm D.TOz) (hs₂.extBut _ _ (Ne.symm D.i1z) hz₁));have hez:e≠z:=fun x=>by subst x;rw [hz₄] at hoe;cases hoe;exact absurd hce (by simp)
  exact Bg hz₄ (by simp) fun h₅ _ hs₅=>hE h₅ e (fun c o c1 c2 c3 c4 x=>hs₅.extBut _ _ c1 (hs₄ _ _ c4 (hs₃.extBut _ _ c2 (hs₂.extBut _ _ c3 (hs₁.extBut _ _ c1 x))))) ⟨oe,hs₅.extBut _ _ hez hoe,hce⟩
theorem Zls {TI TO:Addr}{a:Value}{Q:Option Value->Af->Prop}(D:G0 z TI TO i1 i2 l1 l2)(hz:Ew s.heap z TI TO .none)(hTI:Cr s.heap TI (.ref i1) (.ref i2))(hTO:Cr s.heap TO a b)
    (h1:gIt T1 s.heap i1 l1 k1) (h2:gIt T2 s.heap i2 l2 k2) (hl1:gSq T1 s.heap l1 xs) (hl2:gSq T2 s.heap l2 ys) (hx:xs[k1]?=some x) (hy:ys[k2]?=some y)
    (hQ:∀h',Ew h' z TI TO (DV s.heap.objs.size)->Cr h' TO x y->gIt T1 h' i1 l1 (k1+1)->gIt T2 h' i2 l2 (k2+1)->Cr h' s.heap.objs.size x y->h'.objs.size=s.heap.objs.size+1->
      (∀c o,c≠z->c≠TO->c≠i1->c≠i2->s.heap.get? c=some o->h'.get? c=some o)->Q (some (.ref s.heap.objs.size)) {s with heap:=h'}):Am (Aw prog w) A (Dq (.ref z)) Q E s:=by
  have hT:s.TypeIs (.ref z) "zip":=⟨_,hz,rfl⟩;unfold Dq;exact Aa (Du (Bk (name:=BA "__next__") hT EM (Ba EM hT J0 (Zxy D hz hTI hTO h1 h2 hl1 hl2 hx hy fun h' a1 a2 a3 a4 a5 a6 a7=>Ac (hQ h' a1 a2 a3 a4 a5 a6 a7)) (IQ _))))
theorem Zor {TI TO:Addr}{a:Value}{Q:Option Value->Af->Prop}(hh:A.handled=none)(D:G0 z TI TO i1 i2 l1 l2)(hz:Ew s.heap z TI TO .none)(hTI:Cr s.heap TI (.ref i1) (.ref i2))(hTO:Cr s.heap TO a b)
  (h1:gIt T1 s.heap i1 l1 k1) (h2:gIt T2 s.heap i2 l2 k2) (hl1:gSq T1 s.heap l1 xs) (hl2:gSq T2 s.heap l2 ys) (hend:xs[k1]?=none\/ys[k2]?=none)
  (hQ:∀h',(∀c o,c≠z->c≠TO->c≠i1->c≠i2->s.heap.get? c=some o->h'.get? c=some o)->Q none {s with heap:=h'}):Am (Aw prog w) A (Dq (.ref z)) Q E s:=by
 have hT:s.TypeIs (.ref z) "zip":=⟨_,hz,rfl⟩;unfold Dq;refine Aa (Du (Bk (name:=BA "__next__") hT EM (Ba EM hT J0 (Xct hh D hz hTI hTO h1 h2 hl1 hl2 hend fun h' e hk he=>?_) (IQ _))));obtain ⟨o,ho,hc⟩:=he;exact Aa (EF (T:="StopIteration") (b:=true) ⟨o,ho,hc⟩ GX (Ac (hQ _ hk)))
def SqG (T:Bool)(K:AO)(H:Hp)(a:Addr)(xs:List V):Prop:=match T with
 | true=>SqT K H a xs
 | false=>SqL K H a xs
theorem Inv.seqG {xs:List V}(I:Inv X pins σ H s)(h:SqG T X.K H a xs):∃its:List Value,Yk xs its/\gSq T s.heap a its.toArray/\xs.length<=Ap:=by cases T;obtain ⟨its,r,p,z⟩:=I.list h;exact ⟨its,r,p.isList,z⟩;obtain ⟨its,r,p,z⟩:=I.tuple h;exact ⟨its,r,p,z⟩
theorem Inv.seqG_inj {xs ys:List V}(I:Inv X pins σ H s)(h:SqG T X.K H a xs)(h':SqG T X.K H a ys):xs=ys:=by cases T;exact I.list_inj h h';exact I.tuple_inj h h'
def ItzG (T1 T2:Bool)(K:AO)(a b:Addr):It:=
  ⟨fun i H=>∃xs ys x y,SqG T1 K H a xs/\SqG T2 K H b ys/\xs[i]?=some x/\ys[i]?=some y,
   fun i H v H'=>∃p,v=.ref p/\H p=none/\∀xs ys,SqG T1 K H a xs->SqG T2 K H b ys->∃x y,xs[i]?=some x/\ys[i]?=some y/\H'=upd H p (.tup [x,y]),
   fun i H=>∃xs ys,SqG T1 K H a xs/\SqG T2 K H b ys/\(xs.length<=i\/ys.length<=i)⟩
theorem Zyd {b TI TO:Addr}(Dd:G0 z TI TO i1 i2 a b) :
    Turn P w K (.Tuple elts x1 pos) (ItzG T1 T2 K a b) [z,TI,TO,i1,i2] z (fun i h=>Ew h z TI TO .none/\Cr h TI (.ref i1) (.ref i2)/\(∃u v,Cr h TO u v)/\gIt T1 h i1 a i/\gIt T2 h i2 b i) where
  mem:=by simp
  obj:=fun i h st c hc=>by obtain ⟨h1,h2,⟨u,v,h3⟩,h4,h5⟩:=st;obtain ⟨o4,e4,d4⟩:=h4.obj;obtain ⟨o5,e5,d5⟩:=h5.obj;simp only [Al,BY,or_false] at hc;rcases hc with rfl | rfl | rfl | rfl | rfl;exact ⟨_,h1,fun v z=>by cases z⟩;exact ⟨_,h2,fun v z=>by cases z⟩;exact ⟨_,h3,fun v z=>by cases z⟩;exact ⟨_,e4,d4⟩;exact ⟨_,e5,d5⟩
  keep:=fun i h h' st k=>by obtain ⟨h1,h2,⟨u,v,h3⟩,h4,h5⟩:=st;exact ⟨k z (by simp) _ h1,k TI (by simp) _ h2,⟨u,v,k TO (by simp) _ h3⟩,h4.at_ fun o e=>k i1 (by simp) o e,h5.at_ fun o e=>k i2 (by simp) o e⟩
  item:=by
    intro X hP hw hK hc i pins s σ H E I hf st hg;subst hP hw hK;obtain ⟨xs,ys,x,y,hq1,hq2,hx,hy⟩:=hg;obtain ⟨h1,h2,⟨u0,v0,h3⟩,h4,h5⟩:=st;obtain ⟨its1,rv1,p1,hz1⟩:=I.seqG hq1;obtain ⟨its2,rv2,p2,hz2⟩:=I.seqG hq2;obtain ⟨u,hu,ru⟩:=rv1.get hx;obtain ⟨v,hv,rv⟩:=rv2.get hy;refine Zls Dd h1 h2 h3 h4 h5 p1 p2 (x:=u) (y:=v) (by simpa using hu) (by simpa using hv) fun h' a1 a2 a3 a4 a5 a6 a7=>?_;refine ⟨_,rfl,wpAny_letOwnedTupleGo_zip a1 fun h'' b1 b2=>?_⟩;have hne:s.heap.objs.size≠z:=fun e=>absurd (AJ h1) (by rw [<- e];exact Bb _);have ht:Cr h'' s.heap.objs.size u v:=b2.extBut _ _ hne a5;have I2:=I.turnTup (t':=s.toks) (h':=h'') (ch:=[z,TO,i1,i2]) (p:=s.heap.objs.size) (xs:=[x,y]) (its:=[u,v]) (fun c o hc e=>by
        simp only [Al,BY,or_false,not_or] at hc;exact b2.extBut _ _ hc.1 (a7 c o hc.1 hc.2.1 hc.2.2.1 hc.2.2.2 e)) (fun c hc=>hf c (by
        simp only [Al,BY,or_false] at hc ⊢;rcases hc with h | h | h | h<;>simp [h])) (As _) (by show 2<=Ap;decide) (Zkz ru rv) ⟨_,ht,rfl,_,rfl⟩
    refine ⟨.ref s.heap.objs.size,_,I2,rfl,⟨_,rfl,I.hok.fresh (As _),fun xs' ys' e1 e2=>⟨x,y,by rw [I.seqG_inj e1 hq1];exact hx,by rw [I.seqG_inj e2 hq2];exact hy,rfl⟩⟩,⟨b1,?_,⟨u,v,b2.extBut _ _ Dd.TOz a2⟩,a3.extBut b2.extBut Dd.i1z,a4.extBut b2.extBut Dd.i2z⟩,fun c hc=>?_⟩;exact b2.extBut _ _ Dd.TIz (a7 _ _ Dd.TIz Dd.TITO Dd.TIi1 Dd.TIi2 h2);rw [Xc];exact (hf c hc).1;rintro rfl;have:∃o,s.heap.get? s.heap.objs.size=some o:=by simp only [Al,BY,or_false] at hc;rcases hc with e | e | e | e | e;exact ⟨_,by rw [e];exact h1⟩;exact ⟨_,by rw [e];exact h2⟩;exact ⟨_,by rw [e];exact h3⟩;obtain ⟨o,q,_⟩:=h4.obj;exact ⟨o,by rw [e];exact q⟩;obtain ⟨o,q,_⟩:=h5.obj;exact ⟨o,by rw [e];exact q⟩
    obtain ⟨o,q⟩:=this;exact absurd (AJ q) (Bb _)
  done:=by
    intro X hP hw hK hc i pins s σ H E I hf st hg;subst hP hw hK;obtain ⟨xs,ys,hq1,hq2,hl⟩:=hg;obtain ⟨h1,h2,⟨u0,v0,h3⟩,h4,h5⟩:=st;obtain ⟨its1,rv1,p1,hz1⟩:=I.seqG hq1;obtain ⟨its2,rv2,p2,hz2⟩:=I.seqG hq2;have l1:=rv1.length;have l2:=rv2.length;refine Zor (I.ok.hd hc) Dd h1 h2 h3 h4 h5 p1 p2 ?_ fun h' k=>⟨rfl,I.turneds (t':=s.toks) (ch:=[z,TO,i1,i2]) (fun c o hc e=>by
        simp only [Al,BY,or_false,not_or] at hc;exact k c o hc.1 hc.2.1 hc.2.2.1 hc.2.2.2 e) (fun c hc=>hf c (by
        simp only [Al,BY,or_false] at hc ⊢;rcases hc with h | h | h | h<;>simp [h]))⟩
    rcases hl with hl | hl;exact .inl (by simp;omega);exact .inr (by simp;omega)
  self:=fun _ _ _ _ _ st h=>Kl st.1 h
abbrev zI (T:Bool)(t:Addr):Obj:={cls:=.type (cond T "tuple_iterator" "list_iterator"),data:=.fields #[.ref t,.int 0 0]}
theorem gIt.mk (e:h.get? it=some (zI T l)):gIt T h it l 0:=by cases T<;>exact ⟨_,e,rfl,rfl⟩
abbrev zJ2 (T1 T2:Bool)(h:Bq)(a b:Addr):Bq:=(h.push (zI T1 a)).push (zI T2 b)
abbrev zJ4 (T1 T2:Bool)(h:Bq)(a b:Addr):Bq:=((zJ2 T1 T2 h a b).push {cls:=.type "tuple",data:=.seq #[.ref h.objs.size,.ref (h.push (zI T1 a)).objs.size]}).push {cls:=.type "tuple",data:=.seq #[.none,.none]}
abbrev zJ5 (T1 T2:Bool)(h:Bq)(a b:Addr):Bq:=(zJ4 T1 T2 h a b).push {cls:=.type "zip",data:=.fields #[.none,.bool false,.bool false,.ref (zJ2 T1 T2 h a b).objs.size,.ref ((zJ2 T1 T2 h a b).push {cls:=.type "tuple",data:=.seq #[.ref h.objs.size,.ref (h.push (zI T1 a)).objs.size]}).objs.size]}
theorem Zxr {t:Addr}(ht:gSq T s.heap t items)(hQ:Q (.ref s.heap.objs.size) {s with heap:=s.heap.push (zI T t)}):Am (Aw prog w) A (GS (.ref t)) Q E s:=by cases T;exact FW ht hQ;exact IV ht hQ
theorem Ztd (a b:Addr)(xs ys:Array Value):Meets (D9.«zip.__new__» ⟨[.type "zip",.ref a,.ref b],[]⟩) (fun _ R s=>gSq T1 s.heap a xs/\gSq T2 s.heap b ys/\R (.ok (.ret (.ref (zJ4 T1 T2 s.heap a b).objs.size))) {s with heap:=zJ5 T1 T2 s.heap a b}):=.of_wp fun prog w A R s h=>by
 obtain ⟨hp,g,d,tk,os⟩:=s;obtain ⟨hl1,hl2,h⟩:=h;have hsub:=sub_zip;have hL1:gSq T1 (JH ⟨hp,g,d,tk,os⟩) a xs:=hl1;have hL2:gSq T2 (JH ⟨hp.push (zI T1 a),g,d,tk,os⟩) b ys:=by cases T2;exact K9 hl2 _;exact KO hl2 _
 wp_walk using Zxr hL1,Zxr hL2
 exact ⟨_,rfl,h⟩
theorem Zwh (hl1:gSq T1 s.heap l1 xs)(hl2:gSq T2 s.heap l2 ys)
    (h:∀h',Ew h' (s.heap.objs.size+4) (s.heap.objs.size+2) (s.heap.objs.size+3) .none->Cr h' (s.heap.objs.size+2) (.ref s.heap.objs.size) (.ref (s.heap.objs.size+1))->Cr h' (s.heap.objs.size+3) .none .none->gIt T1 h' s.heap.objs.size l1 0->gIt T2 h' (s.heap.objs.size+1) l2 0->
      (∀c o,s.heap.get? c=some o->h'.get? c=some o)->Q (.ref (s.heap.objs.size+4)) {s with heap:=h'}):Am (Aw prog w) A (call (.type "zip") [.ref l1,.ref l2]) Q E s:=by
  refine callType_new F.called_zip (by decide) (F.typeCall_zip_2 _ _) (F.newCall_zip_2 _ _) (fun obj=>F.args_object_init_3 obj _ _) F.entry_zip_new (Ztd l1 l2 xs ys) ⟨hl1,hl2,?_⟩;have z1:(s.heap.push (zI T1 l1)).objs.size=s.heap.objs.size+1:=EH ..;have z2:(zJ2 T1 T2 s.heap l1 l2).objs.size=s.heap.objs.size+2:=by rw [EH,z1]
  have z3:((zJ2 T1 T2 s.heap l1 l2).push {cls:=.type "tuple",data:=.seq #[.ref s.heap.objs.size,.ref (s.heap.push (zI T1 l1)).objs.size]}).objs.size=s.heap.objs.size+3:=by rw [EH,z2]
  have z4:(zJ4 T1 T2 s.heap l1 l2).objs.size=s.heap.objs.size+4:=by rw [EH,z3]
  have g5:(zJ5 T1 T2 s.heap l1 l2).get? (zJ4 T1 T2 s.heap l1 l2).objs.size=some _:=Av _ rfl;have g4:(zJ5 T1 T2 s.heap l1 l2).get? ((zJ2 T1 T2 s.heap l1 l2).push {cls:=.type "tuple",data:=.seq #[.ref s.heap.objs.size,.ref (s.heap.push (zI T1 l1)).objs.size]}).objs.size=some _:=Ae _ (Av _ rfl);have g3:(zJ5 T1 T2 s.heap l1 l2).get? (zJ2 T1 T2 s.heap l1 l2).objs.size=some _:=Ae _ (Ae _ (Av _ rfl));have g2:(zJ5 T1 T2 s.heap l1 l2).get? (s.heap.push (zI T1 l1)).objs.size=some _:=Ae _ (Ae _ (Ae _ (Av _ rfl)));have g1:(zJ5 T1 T2 s.heap l1 l2).get? s.heap.objs.size=some _:=Ae _ (Ae _ (Ae _ (Ae _ (Av _ rfl))));show _/\_;rw [z2,z3,z4] at g5;rw [z1,z2] at g3;rw [z3] at g4;rw [z1] at g2;rw [z4];exact ⟨⟨_,g5,rfl⟩,h _ g5 g3 g4 (gIt.mk g1) (gIt.mk g2) fun c o x=>Ae _ (Ae _ (Ae _ (Ae _ (Ae _ x))))⟩
section
variable {a b:Expr}
def Xfb (T1 T2:Bool)(K:AO)(ta tb:TE):TI:=fun σ H R=>Zbu ta (Zbu tb Ztt) σ H fun vs H1=>∃p q,vs=[.ref p,.ref q]/\(∃xs,SqG T1 K H1 p xs)/\(∃ys,SqG T2 K H1 q ys)/\R (ItzG T1 T2 K p q) H1
theorem SqG.lt {p:Addr}{xs:List V}(I:Inv X pins σ H s)(h:SqG T X.K H p xs):p<s.heap.objs.size:=by obtain ⟨its,_,q,_⟩:=I.seqG h;cases T;obtain ⟨o,e,_⟩:=q;exact AJ e;obtain ⟨o,e,_⟩:=q;exact AJ e
theorem Zzw (hg:Gl X "zip")(hm:X.mg "zip"=none)(ha:PE X a ta)(hb:PE X b tb)(hs:Ad [a,b] X.env=(false,A9 a X.env)::Ad [b] X.env)(hs2:Ad [b] X.env=(false,A9 b X.env)::Ad [] X.env)(hs3:Ad ([]:List Expr) X.env=[]:=by rfl) :
  PI X (.Tuple elts x1 tpos) (.Call (.Name "zip" p) [a,b] [] pos) (Xfb T1 T2 X.K ta tb):=by
 intro pins s σ H R I h;refine Call_ (Zgv I hg hm boot_zip (BR (thn (Zgr ha (Zgr hb Zso hs2) hs pos pins s σ H _ I h) fun us s1 ⟨vs,H1,I1,r1,q1⟩=>?_) (by rw [hs,hs2]) (by rw [hs2,hs3];rfl)));obtain ⟨l1,l2,rfl,⟨xs,hq1⟩,⟨ys,hq2⟩,q⟩:=q1;obtain ⟨u,v,rfl,rx,ry⟩:=vals2 r1;cases rx;cases ry;obtain ⟨its1,rv1,p1,hz1⟩:=I1.seqG hq1;obtain ⟨its2,rv2,p2,hz2⟩:=I1.seqG hq2;have lt1:@LT.lt Nat _ l1 s1.heap.objs.size:=SqG.lt I1 hq1;have lt2:@LT.lt Nat _ l2 s1.heap.objs.size:=SqG.lt I1 hq2;refine Zwh p1 p2 fun h' z1 z2 z3 z4 z5 z7=>?_;refine Kl z1 ?_;have I2:Inv X pins σ H1 {s1 with heap:=h'}:=I1.kept (t':=s1.toks) z7;refine ⟨_,[s1.heap.objs.size+4,s1.heap.objs.size+2,s1.heap.objs.size+3,s1.heap.objs.size,s1.heap.objs.size+1],_,_,H1,rfl,I2,Zyd (a:=l1) (b:=l2) ?_,⟨z1,z2,⟨_,_,z3⟩,z4,z5⟩,fun c hc=>?_,q⟩;constructor<;>first | exact Bn (by omega) | exact Fc (by omega)
 have hc':s1.heap.objs.size<=c:=by simp only [Al,BY,or_false] at hc;rcases hc with rfl | rfl | rfl | rfl | rfl<;>first | exact As _ | exact Dj _ _
 exact I1.fpOk hc' (I1.hok.fresh hc')
end
section
variable {E:XK}{S:List (Nat×Bool)}
theorem Zwt {b:Addr}{ds es:List D}{vs ws:List V}{Hc:Hp}(r:RpA K C Hc ds vs [])(r':RpA K C Hc es ws [])(h:∀H2,Xf Hc H2->SqG T1 K H2 a vs/\SqG T2 K H2 b ws):Goes K C (ItzG T1 T2 K a b) (A3 (fun x y=>.tup [x,y]) ds es) Hc:=fun H2 g=>by
 obtain ⟨qa,qb⟩:=h H2 g;have hl:=r.len;have hl':=r'.len;have he:(A3 (fun x y=>D.tup [x,y]) ds es).length=min ds.length es.length:=by simp
 refine ⟨fun i hi=>⟨vs,ws,vs[i]'(by omega),ws[i]'(by omega),qa,qb,Ag (by omega),Ag (by omega)⟩,fun i hi=>⟨vs,ws,qa,qb,by omega⟩,fun i x H3 hi y=>?_⟩;obtain ⟨p,rfl,hp,yy⟩:=y;obtain ⟨x,y,hx,hy,rfl⟩:=yy vs ws qa qb;have hi1:i<ds.length:=by omega
 have hi2:i<es.length:=by omega
 obtain ⟨x',e1,q2⟩:=r.at1 (Ag hi1);obtain ⟨y',e2,p2⟩:=r'.at1 (Ag hi2);obtain rfl:=AK (hx.symm.trans e1);obtain rfl:=AK (hy.symm.trans e2);have sm:=sameNew hp (.tup [x,y]);refine ⟨sm,.tup [ds[i],es[i]],[],by rw [G8,Ag hi1,Ag hi2],⟨p,[x,y],rfl,Xd,RpA.two (A:=[]) (B:=[]) ((q2.same g).same sm) ((p2.same g).same sm)⟩,fun _ z=>nomatch z⟩
def Xly:Bool->D->Option (List D)
 | true,.tup xs=>some xs
 | false,.lst xs=>some xs
 | _,_=>none
theorem Rp.seqG {d:D}{xs:List D}{v:V}(e:Xly T d=some xs)(hf:Dl.Zu xs=true)(r:Rp K C H d v B):∃a vs,v=.ref a/\RpA K C H xs vs []/\(∀c∈B,∃o,H c=some o/\IsM o)/\∀H2,(∀o,H a=some o->a∈B\/¬IsM o->H2 a=some o)->SqG T K H2 a vs:=by
 cases T;cases d with
 | lst ys =>cases e;obtain ⟨a,vs,B',rfl,h1,h2,rfl⟩:=r;have b:=h2.flat hf;subst b;exact ⟨a,vs,rfl,h2,fun c hc=>by rw [Aj.mp hc];exact ⟨_,h1,.lst⟩,fun H2 k=>SqL.of (k _ h1 (.inl (.head _)))⟩
 | _=>cases e
 cases d with
 | tup ys =>cases e;obtain ⟨a,vs,rfl,h1,h2⟩:=r;have b:=h2.flat hf;subst b;exact ⟨a,vs,rfl,h2,(fun _ z=>nomatch z),fun H2 k=>SqT.of (k _ h1 (.inr fun z=>by cases z))⟩
 | _=>cases e
theorem Zrt {t u:TE}{f f':FE}{j:FI}(hj:∀ρ,j ρ=(f ρ).bind fun x=>(f' ρ).bind fun y=>match Xly T1 x,Xly T2 y with
    | some xs,some ys=>if xs.length<=Dl.lim/\Dl.Zu xs=true/\Dl.Zu ys=true then .ok (A3 (fun x y=>.tup [x,y]) xs ys) else .bad
    | _,_=>.bad) (h:EOk K C E Γ Δ m1 S1 t f) (h':EOk K C E Γ Δ m2 S2 u f'):IOk K C E Γ Δ (S1++S2) (Xfb T1 T2 K t u) j:=fun H0 Hb H σ ρ A Rr I p=>by
  rw [hj] at p;exact h H0 Hb H σ ρ A _ I (p.bind.imp (fun d q v H1 g1 r=>h' H0 Hb H1 σ ρ A _ (I.mono g1) (q.bind.imp (fun e q w H2 g2 r2=>by
    obtain ⟨B,r,r',_⟩:=r;obtain ⟨B2,r2,r2',_⟩:=r2;split at q;rename_i xs ys ex ey;split at q;rename_i hl;obtain ⟨a,vs,rfl,e3,m1,e2⟩:=Rp.seqG ex hl.2.1 r;obtain ⟨b,ws,rfl,f3,m2,f2⟩:=Rp.seqG ey hl.2.2 r2;refine ⟨a,b,rfl,⟨vs,e2 H2 fun o z _=>g2 _ _ z⟩,⟨ws,f2 H2 fun o z _=>z⟩,q _ H2 (B++B2) (g1.trans g2) (fun c hc=>?_) (by rw [Cb];exact Az (EB _ _) hl.1) fun Hc h1=>Zwt ((e3.same g2).agree h1 fun _ z=>nomatch z) (f3.agree h1 fun _ z=>nomatch z) fun H3 g3=>⟨e2 H3 fun o z hm=>g3 _ _ (hm.elim (fun hb=>(h1.1 a (AF _ hb)).trans (g2 _ _ z)) fun nm=>h1.2 a _ (g2 _ _ z) nm),f2 H3 fun o z hm=>g3 _ _ (hm.elim (fun hb=>(h1.1 b (Ar _ hb)).trans z) fun nm=>h1.2 b _ z nm)⟩⟩;rcases Ao.mp hc with z | z;obtain ⟨o,ho,hm⟩:=m1 c z;exact ⟨⟨o,g2 _ _ ho,hm⟩,(r' c z).imp id (·.left)⟩;exact ⟨m2 c z,(r2' c z).imp (fun q=>g1.free q) (·.right)⟩;exact q.elim
    · exact q.elim) fun c x q H' g'=>q H' (g1.trans g'))) fun c x q H' g'=>q H' g')
variable {a b:Expr}
theorem Zvr (hg:Gl X "zip")(hm:X.mg "zip"=none)(ha:JE X C E Γ Δ m1 S1 a ta fa)(hb:JE X C E Γ Δ m2 S2 b tb fb)(hs:Ad [a,b] X.env=(false,A9 a X.env)::Ad [b] X.env)(hs2:Ad [b] X.env=(false,A9 b X.env)::Ad [] X.env) :
    JI X C E Γ Δ (S1++S2) (.Tuple elts x1 tpos) (.Call (.Name "zip" p) [a,b] [] pos) (Xfb true true X.K ta tb) (Dl.Zlg fa fb):=⟨⟨Zzw hg hm ha.q.out hb.q.out hs hs2⟩,Zrt (fun ρ=>by
  show R.bind _ _=R.bind _ _;congr 1;funext x;congr 1;funext y;cases x<;>first | rfl | (cases y<;>rfl)) ha.o hb.o⟩
theorem Xjp (hg:Gl X "zip")(hm:X.mg "zip"=none)(ha:JE X C E Γ Δ m1 S1 a ta fa)(hb:JE X C E Γ Δ m2 S2 b tb fb)(hs:Ad [a,b] X.env=(false,A9 a X.env)::Ad [b] X.env)(hs2:Ad [b] X.env=(false,A9 b X.env)::Ad [] X.env) :
    JI X C E Γ Δ (S1++S2) (.Tuple elts x1 tpos) (.Call (.Name "zip" p) [a,b] [] pos) (Xfb false true X.K ta tb) (Dl.Zss fa fb):=⟨⟨Zzw hg hm ha.q.out hb.q.out hs hs2⟩,Zrt (fun ρ=>by
  show R.bind _ _=R.bind _ _;congr 1;funext x;congr 1;funext y;cases x<;>first | rfl | (cases y<;>rfl)) ha.o hb.o⟩
end
end L2
namespace L2
open PySem PyProof.Rows
variable {prog:AQ}{w:Bl}{A:Bh}{E:Value->Af->Prop}{s:Af}{κ:Fe}{P:AI->Prop}{r:AI->AI->Bool}{st st':CO}{d0:AI}{a:Array AI}{n:Nat}{Q:Unit->CO->Prop}
def Zox (r:AI->AI->Bool)(d0:AI)(st st':CO):Prop:=(AA st').Perm (AA st)/\DH st'=none/\CY st'=#[(0,(AA st).size,0)]/\Zoa r (gx d0 0 (AA st')) (AA st).size
theorem SC.oneN (hp:CY st=#[])(c:SC κ 0 st st')(u:Zoa r (gx d0 0 (AA st')) (AA st).size):Zox r d0 st (setPending st' ((CY st').push (0,(AA st).size,0))):=⟨c.m,c.f,by show (CY st').push _=_;rw [c.p,hp];rfl,u⟩
theorem upN (e:a.size=n)(h:Zoa r (gx d0 0 a) n):Up r a.toList:=by
 refine List.pairwise_iff_getElem.mpr fun i j hi hj hij=>?_;have g:∀k,(hk:k<a.toList.length)->gx d0 0 a k=a.toList[k]:=fun k hk=>by unfold gx;rw [FU,<- DW,Ag hk];rfl
 rw [<- g i hi,<- g j hj];exact h i j (Gb hij) (by rw [<- e,<- Bu];exact hj)
theorem Zvx (d0:AI)(K:Ask prog w A s κ P r)(hP:∀x∈(AA st).toList,P x)(hk:CA st=κ)(hf:DH st=none)(hp:CY st=#[])(h2:1<=(AA st).size)(h64:(AA st).size<64)
  (h:∀st',(AA st').toList.Perm (AA st).toList->DH st'=none->Up r (AA st').toList->Q () st'):wpS (Aw prog w) A E s sortRuns' Q st:=by
 rw [sortRuns'_eq];refine A8 (GN ?_);dsimp only;obtain ⟨n,hn⟩:∃n,n=(AA st).size:=⟨_,rfl⟩;have hmr:minRun' n n 0=n:=by
  obtain ⟨f,hf⟩:∃f,n=f+1:=⟨n - 1,by omega⟩;have z:minRun' (f+1) n 0=n:=by rw [minRun'_succ,if_pos (by omega)];rfl
  rwa [<- hf] at z
 rw [<- hn] at h2 h64 ⊢;rw [hmr];refine A8 (E8 (D5 (I:=fun x c st'=>(x=0/\c=(none,0)/\st'=st)\/(1<=x/\c=(none,n)/\Zox r d0 st st')) (Q:=fun c st'=>c=(none,n)/\Zox r d0 st st') ?step ?fin (.inl ⟨rfl,rfl,rfl⟩)) ?post)
 case fin =>
  rintro c st' (⟨hx,_,_⟩ | ⟨_,hc,hD⟩)
  ·omega
  ·exact ⟨hc,hD⟩
 case step =>
  rintro x c st' _ hx (⟨rfl,rfl,rfl⟩ | ⟨hx1,rfl,hD⟩)
  ·dsimp only;rw [if_neg (by omega)];simp only [Ks,GU,FU];refine A8 (Zxm (lo:=0) (nrem:=n) d0 K hP hk hf (by omega) h2 fun m st2 c2 m1 m2 s2=>?_);dsimp only;by_cases hlt:m<n
   ·rw [if_pos hlt];refine A8 (K3 (EN ⟨rfl,A8 (Xoa (lo:=0) (nrem:=n) d0 K hP (by omega) c2 (As n) m2 h2 s2 fun st3 c3 s3=>?_)⟩));simp only [J1,A7,if_false];refine A8 (GN ?_);rw [show (CY st3).back?=none by rw [c3.p,hp];rfl];dsimp only;refine A8 (IU (BB (.inr ⟨by omega,rfl,?_⟩)));have:=c3.oneN hp (hn▸s3);rw [<- hn] at this;exact this
   ·rw [if_neg hlt];have hm:m=n:=by omega
    subst hm;refine A8 (GN ?_);rw [show (CY st2).back?=none by rw [c2.p,hp];rfl];dsimp only;refine A8 (IU (BB (.inr ⟨by omega,rfl,?_⟩)));have:=c2.oneN hp (hn▸s2);rw [<- hn] at this;exact this
  ·dsimp only;rw [if_pos (As _)];exact BB ⟨rfl,hD⟩
 case post =>
  rintro c st' ⟨rfl,h3,h4,h5,h6⟩;dsimp only;refine A8 (E8 (D5 (I:=fun _ c st''=>st''=st'/\c=(none,())) (Q:=fun c st''=>st''=st'/\c=(none,())) ?_ (fun _ _ hh=>hh) ⟨rfl,rfl⟩) ?_)
  ·rintro x c st'' _ _ ⟨rfl,rfl⟩;refine A8 (GN ?_);rw [if_pos (by rw [h5];exact As 1)];exact BB ⟨rfl,rfl⟩
  ·rintro c st'' ⟨rfl,rfl⟩;exact BB (h _ (Array.perm_iff_toList_perm.mp h3) h4 (upN h3.size_eq h6))
end L2
namespace L2
open PySem PySem.SeqAt PyProof.Rows
open Dl (ilt Zbj)
variable {prog:AQ}{w:Bl}{A:Bh}{E:Value->Af->Prop}{s:Af}
end L2
namespace L2
open PySem PySem.Spec PyProof.Rows
open Dl (D R FE FT FA FO FS FI FB Fl Zbj)
variable {X:Cx}{K:AO}{C:String->Addr}{E:XK}{Γ Δ:List Nat}{m m1 m2:Nat}{S1 S2 S3:List (Nat×Bool)}{e:Expr}{T:List Addr}{c:Addr}
section
variable {Γl Δl:List Nat}{m3 mr:Nat}{S:List (Nat×Bool)}{H:Hp}
end
section
variable {Γ' Δ':List Nat}{S:List (Nat×Bool)}{te:TE}{fe:FE}{pos p:Pos}
end
end L2
namespace L2
open PySem PySem.SeqAt PyProof.Rows
open Dl (ilt Zbj)
variable {h:Bq}{a l:Addr}{o:Obj}{us vs:List Value}{n:Nat}{v u:Value}{prog:AQ}{w:Bl}{A:Bh}{E Q:Value->Af->Prop}{s:Af}{M:Model}{P:Fin->Af->Prop}
def tnI:Value->Int
 | .int y _=>y
 | _=>0
def tnO (o:Obj):List Int:=match o.data with
 | .seq its _=>its.toList.map tnI
 | _=>[]
def Zcz (h:Bq):Value->List Int
 | .ref a=>((h.get? a).map tnO).getD []
 | _=>[]
def Zti (h:Bq)(v:Value):Prop:=∃(a:Addr) (o:Obj) (us:List Value) (n:Nat),v=.ref a/\h.get? a=some o/\o.cls=.type "tuple"/\o.data=.seq us.toArray n/\∀u∈us,∃i t,u=.int i t
theorem Zfc (h1:h.get? a=some o)(h2:o.data=.seq us.toArray n):Zcz h (.ref a)=us.map tnI:=by show ((h.get? a).map tnO).getD []=_;rw [h1];show tnO o=_;unfold tnO;rw [h2]
theorem Zti.keeps {h':Bq}(i:Zti h v)(k:∀b o,h.get? b=some o->h'.get? b=some o):Zti h' v/\Zcz h' v=Zcz h v:=by obtain ⟨a,o,us,n,rfl,h1,h2,h3,h4⟩:=i;exact ⟨⟨a,o,us,n,rfl,k _ _ h1,h2,h3,h4⟩,(Zfc (k _ _ h1) h3).trans (Zfc h1 h3).symm⟩
def tnF (h:Bq)(v:Value):Value:=match v with
 | .ref a=>(((h.get? a).bind fun o=>match o.data with | .seq its _=>its[0]? | _=>none)).getD .none
 | _=>.none
theorem Xgr (h1:h.get? a=some o)(h2:o.data=.seq (u::us).toArray n):tnF h (.ref a)=u:=by show (((h.get? a).bind fun o=>match o.data with | .seq its _=>its[0]? | _=>none)).getD .none=_;rw [h1];show ((match o.data with | .seq its _=>its[0]? | _=>none):Option Value).getD .none=_;rw [h2];rfl
theorem Zti.first (i:Zti h v)(hn:Zcz h v≠[]):∃(a:Addr) (o:Obj) (x:Int) (t:Tok) (us:List Value) (n:Nat),v=.ref a/\h.get? a=some o/\o.cls=.type "tuple"/\o.data=.seq (.int x t::us).toArray n:=by
 obtain ⟨a,o,us,n,rfl,h1,h2,h3,h4⟩:=i;rw [Zfc h1 h3] at hn
 match us,hn,h3,h4 with
 | [],hn,_,_=>exact absurd rfl hn
 | u::us,_,h3,h4 =>obtain ⟨x,t,rfl⟩:=h4 u (.head _);exact ⟨a,o,x,t,us,n,rfl,h1,h2,h3⟩
theorem Zvv {h:Bq}:∀{vs:List Value},(∀v∈vs,Zti h v)->(∀v∈vs,Zcz h v≠[])->PySem.W.KatTups h vs (vs.map (tnF h))
 | [],_,_=>PySem.W.KatTups.nil
 | v::vs,hv,hn=>by obtain ⟨a,o,x,t,us,n,rfl,h1,h2,h3⟩:=(hv v (.head _)).first (hn v (.head _));refine PySem.W.KatTups.cons h1 h2 h3 ?_ (Zvv (fun v hv'=>hv v (.tail _ hv')) fun v hv'=>hn v (.tail _ hv'));rw [Xgr h1 h3];rfl
theorem Xdg (hv:∀v∈vs,Zti h v)(hn:∀v∈vs,Zcz h v≠[]):∀v∈vs.map (tnF h),PySem.W.Looks M h (typeOf v) (.type "int"):=fun f hf=>by obtain ⟨v,hm,rfl⟩:=AB.mp hf;obtain ⟨a,o,x,t,us,n,rfl,h1,h2,h3⟩:=(hv v hm).first (hn v hm);rw [Xgr h1 h3];exact .now
theorem Xhk {Q:Bool->Af->Prop}:∀{us vs:List Value} {i:Nat},(∀u∈us,∃i t,u=Dp i t)->(∀u∈vs,∃i t,u=Dp i t)->Q (Zbj (us.map tnI) (vs.map tnI)) s->PySem.W.KatLex prog w A true (decide (us.length<vs.length)) Q (us.zip vs) i s
 | [],[],i,_,_,q=>J9 q
 | [],_::_,i,_,_,q=>J9 q
 | _::_,[],i,_,_,q=>J9 q
 | u::us,v::vs,i,hu,hv,q=>by
  obtain ⟨x,t,rfl⟩:=hu u (.head _);obtain ⟨y,t',rfl⟩:=hv v (.head _);rw [AV,AV] at q;unfold Zbj at q;have q:Q (if x=y then Zbj (us.map tnI) (vs.map tnI) else ilt x y) s:=q;rw [show (decide ((Dp x t::us).length<(Dp y t'::vs).length))=decide (us.length<vs.length) by simp];refine PySem.W.kat_cons (Kn ?_);by_cases e:x=y;rw [if_pos e] at q;rw [show (x==y)=true from by simpa using e];exact PySem.W.kat_yes (Xhk (fun u h=>hu u (.tail _ h)) (fun u h=>hv u (.tail _ h)) q);rw [if_neg e] at q;rw [show (x==y)=false from by simpa using e];refine PySem.W.kat_no ?_;cases i with
  | zero=>exact oneLt_int q
  | succ i=>exact PySem.W.kat_one _ _ (PySem.P.lt_int q)
theorem Xka:Ask prog w A s (J5 true) (fun x=>Zti s.heap x.1) (fun x y=>Zbj (Zcz s.heap x.1) (Zcz s.heap y.1)) where
 run:=fun {x y Q E} hx hy _ q=>by obtain ⟨a,o,us,n,e1,h1,h2,h3,h4⟩:=hx;obtain ⟨a',o',us',n',e1',h1',h2',h3',h4'⟩:=hy;rw [e1,e1'] at q ⊢;rw [Zfc h1 h3,Zfc h1' h3'] at q;exact PySem.W.kat_lt h1 h3 h1' h3' (Xhk h4 h4' q)
 tr:=fun _ _ _ h1 h2=>Zwu h1 h2
 as:=fun _ _ h=>Zpx h
theorem Xjc (ho:s.heap.get? a=some (Co "list" vs.toArray n))(hI:∀s':Af,(∀b o,b≠a->s.heap.get? b=some o->s'.heap.get? b=some o)->∀v∈vs,Zti s'.heap v/\Zcz s'.heap v=Zcz s.heap v)(hm:vs.length<=Ap)(h64:vs.length<=63)(hne:vs.length<2\/∀v∈vs,Zcz s.heap v≠[])
    (h:∀out:Array Value,out.toList.Perm vs->(out.toList.map (Zcz s.heap)).Pairwise (fun c d=>Zbj d c=false)->P (.done (.ret .none)) {s with heap:=sortedHeap s.heap a vs out}) :
    Am (Aw prog w) A (D9.«list.sort» ⟨[.ref a],[]⟩) P E s:=by
  have hlt:=AJ ho;obtain ⟨e0,h1⟩:∃e0,(s.heap.update a (B9 fun _=>#[])).get? a=some (Co "list" #[] e0):=⟨_,get?_update_seq ho (fun _=>#[])⟩;have h6:(((s.heap.update a (B9 fun _=>#[])).push (Co "tuple" vs.toArray 0)).push (Co "list" #[] 0)).get? a=some (Co "list" #[] e0):=by rw [Ig _ _ _ (Bn (by rw [GR,Fy];exact C0 hlt)),Ig _ _ _ (Bn (by rw [Fy];exact hlt))];exact h1
  have keep:∀b o,b≠a->s.heap.get? b=some o->(((s.heap.update a (B9 fun _=>#[])).push (Co "tuple" vs.toArray 0)).push (Co "list" #[] 0)).get? b=some o:=fun b o hb q=>by refine Ae _ (Ae _ ?_);rw [Hy _ _ _ _ hb];exact q
  have hI6:=hI {s with heap:=((s.heap.update a (B9 fun _=>#[])).push (Co "tuple" vs.toArray 0)).push (Co "list" #[] 0)} keep;rw [list_sort_plain];refine Aa (listItems_at ho rfl (Aa (Ld ho rfl (Aa (seqEpoch_at h1 rfl (Aa (GQ (Aa (Lb (BJ ?_))) (by simpa using hm)))))
    (by simpa using hm))))
  have fin:∀(st':CO),(AA st').toList.Perm (vs.map fun v=>(v,v))->DH st'=none->((AA st').toList.map fun x=>Zcz s.heap x.1).Pairwise (fun c d=>Zbj d c=false)->
      Am (Aw prog w) A (do
        let touched:=(<- seqEpoch a) != e0
        KQ (.ref a) fun _=>(AA st').map (·.2)
        if let some e:=DH st' then rule "list.sort.comparison-raised";throw e
        if touched then rule "list.sort.modified";raiseError "ValueError" "list modified during sort"
        ret .none) P E {s with heap:=((s.heap.update a (B9 fun _=>#[])).push (Co "tuple" vs.toArray 0)).push (Co "list" #[] 0)}:=fun st' hp hf hs=>by
    have same:∀x∈(AA st').toList,x.1=x.2:=fun x hx=>by obtain ⟨v,_,rfl⟩:=AB.mp (hp.mem_iff.mp hx);rfl
    refine Aa (seqEpoch_at h6 rfl (Aa (Ld h6 rfl ?_ (hsz2:=by
      refine Az (Kx (Array.size_map ..)) ?_;rw [<- Bu,hp.length_eq,Ah];omega))))
    rw [hf];simp only [bne_self_eq_false,A7,if_false];refine Ac (h _ ?_ ?_);rw [Ih];have:=hp.map (·.2);rw [Be,show ((fun x:AI=>x.2)∘fun v:Value=>(v,v))=id from rfl,Gp] at this;exact this;rw [Ih,Be];rw [BM (g:=fun x=>Zcz s.heap x.1) (fun x hx=>by show Zcz s.heap x.2=_;rw [same x hx])];exact hs
  by_cases h2:vs.toArray.size<2;simp only [if_pos h2];refine Aa (Ac ?_);rw [StateT.run_pure];refine Aa (Ac ?_);refine fin (Ke general' (vs.toArray.zip vs.toArray) #[] 7 none) (by show (vs.toArray.zip vs.toArray).toList.Perm _;rw [Zbs]) rfl ?_;show ((vs.toArray.zip vs.toArray).toList.map fun x=>Zcz s.heap x.1).Pairwise _;rw [Zbs]
  match vs,h2 with
  | [],_=>exact EA
  | [v],_=>exact GJ _ _
  | _::_::_,h2=>exact absurd h2 (by simp)
  simp only [if_neg h2];have h2':2<=vs.length:=by rw [AE] at h2;omega
  have hne6:=fun v hv=>show Zcz _ v≠[] by rw [(hI6 v hv).2];exact (hne.resolve_left (by omega)) v hv
  refine Aa (PySem.W.kat_kind (T:=.type "int") (Zvv (fun v hv=>(hI6 v hv).1) hne6) (by rw [Ah];omega) (Xdg (fun v hv=>(hI6 v hv).1) hne6) (by decide) ?_);have ek:J5 ((Hq "int") != Hq "tuple")=J5 true:=rfl;rw [ek];have hne:∃x,x∈vs:=⟨vs[0],Cg (by omega)⟩;obtain ⟨v0,hv0⟩:=hne;refine Aa (B3 (Zvx (st:=Ke (J5 true) (vs.toArray.zip vs.toArray) #[] 7 none) (Q:=fun _ st'=>(AA st').toList.Perm (vs.map fun v=>(v,v))/\DH st'=none/\((AA st').toList.map fun x=>Zcz s.heap x.1).Pairwise (fun c d=>Zbj d c=false)) (v0,v0) Xka ?_ rfl rfl rfl ?_ ?_ fun st' q1 q2 q3=>⟨?_,q2,?_⟩) ?_ fun _ _ e=>e);intro x hx;have hx:x∈(vs.toArray.zip vs.toArray).toList:=hx;rw [Zbs] at hx;obtain ⟨v,hv,rfl⟩:=AB.mp hx;exact (hI6 v hv).1;show 1<=(vs.toArray.zip vs.toArray).size;rw [<- Bu,Zbs,Ah];omega;show (vs.toArray.zip vs.toArray).size<64;rw [<- Bu,Zbs,Ah];omega;have q1:(AA st').toList.Perm (vs.toArray.zip vs.toArray).toList:=q1;rw [Zbs] at q1;exact q1;have q1:(AA st').toList.Perm (vs.toArray.zip vs.toArray).toList:=q1;rw [Zbs] at q1;refine D7.mpr (CP (fun {x y} hx hy z=>?_) q3);obtain ⟨v,hv,rfl⟩:=AB.mp (q1.mem_iff.mp hx);obtain ⟨v',hv',rfl⟩:=AB.mp (q1.mem_iff.mp hy);have e1:=(hI6 v hv).2;have e2:=(hI6 v' hv').2;show Zbj (Zcz s.heap v') (Zcz s.heap v)=false;rw [<- e1,<- e2];exact z;rintro ⟨⟨⟩,st'⟩ s' ⟨rfl,q1,q2,q3⟩;exact fin st' q1 q2 q3
theorem Xab (hl:s.heap.IsList l vs.toArray)(hI:∀v∈vs,Zti s.heap v)(hm:vs.length<=Ap)(h64:vs.length<=63)(hne:vs.length<2\/∀v∈vs,Zcz s.heap v≠[])
  (h:∀out:Array Value,out.toList.Perm vs->(out.toList.map (Zcz s.heap)).Pairwise (fun c d=>Zbj d c=false)->Q (.ref (s.heap.objs.size+1)) {s with heap:=sortedAll s.heap vs out}) :
  Am (Aw prog w) A (call (.builtin "sorted") [.ref l]) Q E s:=by
 have hz:((s.heap.push (Co "list" #[] 0)).update s.heap.objs.size (B9 (·++vs.toArray))).objs.size=s.heap.objs.size+1:=by rw [Fy,GR]
 have hL:=Av ((s.heap.push (Co "list" #[] 0)).update s.heap.objs.size (B9 (·++vs.toArray))) (o:=Co "list" vs.toArray 0) rfl;rw [hz] at hL;have keep:∀b o,s.heap.get? b=some o->(((s.heap.push (Co "list" #[] 0)).update s.heap.objs.size (B9 (·++vs.toArray))).push (Co "list" vs.toArray 0)).get? b=some o:=fun b o q=>by refine Ae _ ?_;rw [Hy _ _ _ _ (Bn (AJ q))];exact Ae _ q
 refine Calls.call_function_entry kind_sorted plain_sorted entry_sorted (args_sorted1 _) ?_;unfold D9.«sorted»;refine Aa (m:=checkCount "sorted" 1 1 _) (Ac (Aa (collect_list hl (Aa (Lb ?_ (by simpa using hm))) hm)));simp only [hz];have hI0:∀v∈vs,Zti (((s.heap.push (Co "list" #[] 0)).update s.heap.objs.size (B9 (·++vs.toArray))).push (Co "list" vs.toArray 0)) v/\Zcz (((s.heap.push (Co "list" #[] 0)).update s.heap.objs.size (B9 (·++vs.toArray))).push (Co "list" vs.toArray 0)) v=Zcz s.heap v:=fun v hv=>(hI v hv).keeps keep;have old:∀b o,s.heap.get? b=some o->b≠s.heap.objs.size+1:=fun b o q=>Bn (C0 (AJ q));refine Aa (BJ (Ba slot_list_sort ⟨_,hL,rfl⟩ entry_list_sort (Xjc hL (fun s' k v hv=>?_) hm h64 (hne.imp id fun q v hv=>by rw [(hI0 v hv).2];exact q v hv) fun out q1 q2=>⟨_,rfl,?_⟩) (args_list_sort _)));have:=(hI v hv).keeps (h':=s'.heap) fun b o q=>k b o (old b o q) (keep b o q);exact ⟨this.1,this.2.trans (hI0 v hv).2.symm⟩;refine Ac ⟨_,rfl,h out q1 ?_⟩;rw [BM (g:=Zcz (((s.heap.push (Co "list" #[] 0)).update s.heap.objs.size (B9 (·++vs.toArray))).push (Co "list" vs.toArray 0))) (fun v hv=>((hI0 v (q1.mem_iff.mp hv)).2).symm)];exact q2
end L2
namespace L2
open PySem PySem.Spec PyProof.Rows
open Dl (D R FE FT FA FO FS FI FB Fl Zbj)
variable {pins:List (Addr×Obj)}{H:Hp}{s:Af}{a:Addr}{c:List Int}{K:AO}{C:String->Addr}{B:List Addr}
def Zol (K:AO):List V->Hp->VK->Prop:=fun vs H Q=>∃(a:Addr) (L:List (Addr×List Int)),vs=[.ref a]/\SqL K H a (L.map fun x=>V.ref x.1)/\(∀x∈L,H x.1=some (.tup (x.2.map V.int)))/\L.length<=63/\(L.length<2\/∀x∈L,x.2≠[])/\
 ∀(L':List (Addr×List Int)) (r:Addr),L'.Perm L->(L'.map (·.2)).Pairwise (fun x y=>Zbj y x=false)->H r=none->Q (.ref r) (upd H r (.lst (L'.map fun x=>V.ref x.1)))
section
variable {X:Cx}
theorem Xbg:∀{c:List Int} {its:List Value},Yk (c.map V.int) its->(∀u∈its,∃i t,u=Dp i t)/\its.map tnI=c
 | [],its,r=>by cases r;exact Lm (fun _ h=>nomatch h) rfl
 | i::c,its,r=>by
  cases r with
  | cons r1 r2 =>obtain ⟨t,rfl⟩:=r1;obtain ⟨h1,h2⟩:=Xbg r2;exact ⟨AN.mpr ⟨⟨_,_,rfl⟩,h1⟩,by rw [AV,h2];rfl⟩
theorem Xof {σ:St}(I:Inv X pins σ H s)(h:H a=some (.tup (c.map V.int))):Zti s.heap (.ref a)/\Zcz s.heap (.ref a)=c:=by obtain ⟨its,rv,⟨o,h1,h2,n,h3⟩,_⟩:=I.tuple (SqT.of h);obtain ⟨h4,h5⟩:=Xbg rv;exact ⟨⟨a,o,its,n,rfl,h1,h2,h3,h4⟩,(Zfc h1 h3).trans h5⟩
theorem Zom (hu:X.A.units+64<BC):Jx X (.builtin "sorted") (Zol X.K):=by
  intro pins s σ H xs us Q I r h;obtain ⟨a,L,rfl,hq,hL,hl,hne,q⟩:=h;obtain ⟨u,rfl,rx⟩:=vals1 r;cases rx;obtain ⟨its,rv,p,hz⟩:=I.list hq;have rv':Yk ((L.map (·.1)).map V.ref) its:=by rw [Be];exact rv
  have ei:=Zns rv';have hI:∀v∈its,Zti s.heap v:=fun v hv=>by rw [ei,Be] at hv;obtain ⟨x,hx,rfl⟩:=AB.mp hv;exact (Xof I (hL x hx)).1
  have hlen:its.length<=Ap:=by rw [ei,Ah,Ah,Ep];omega
  have hlI:its.length=L.length:=by rw [ei,Ah,Ah]
  refine Xab p.isList hI hlen (by omega) (hne.imp (fun z=>by omega) fun z v hv=>by
    rw [ei,Be] at hv;obtain ⟨x,hx,rfl⟩:=AB.mp hv;show Zcz s.heap (.ref x.1)≠[];rw [(Xof I (hL x hx)).2];exact z x hx) fun out q1 q2=>?_
  obtain ⟨e,he⟩:=sortedAll_at s.heap its out;have hn:H (s.heap.objs.size+1)=none:=I.hok.fresh (Hu _);have eo:out.toList=(out.toList.map adr).map AG:=by
    rw [Be]
    conv=>lhs;rw [<- Gp out.toList]
    refine BM fun v hv=>?_;have:=q1.mem_iff.mp hv;rw [ei] at this;obtain ⟨b,_,rfl⟩:=AB.mp this;rfl
  have pb:(out.toList.map adr).Perm (L.map (·.1)):=by have:=q1.map adr;rw [ei,Be,show (adr∘AG)=id from rfl,Gp] at this;exact this
  have cut:∀x∈L,Zcz s.heap (.ref x.1)=x.2:=fun x hx=>(Xof I (hL x hx)).2;have eL:L=(L.map (·.1)).map fun b=>(b,Zcz s.heap (.ref b)):=by
    rw [Be]
    conv=>lhs;rw [<- Gp L]
    refine BM fun x hx=>?_;show x=(x.1,Zcz s.heap (.ref x.1));rw [cut x hx]
  have pL:((out.toList.map adr).map fun b=>(b,Zcz s.heap (.ref b))).Perm L:=by
    conv=>rhs;rw [eL]
    exact pb.map _
  have hs:(((out.toList.map adr).map fun b=>(b,Zcz s.heap (.ref b))).map (·.2)).Pairwise (fun x y=>Zbj y x=false):=by rw [eo,Be] at q2;rw [Be];exact q2
  have hv:Yk ((((out.toList.map adr).map fun b=>(b,Zcz s.heap (.ref b))).map fun x=>V.ref x.1)) out.toList:=by rw [Be,eo];have:=Zgo (out.toList.map adr);rw [show (Ek adr (Ek AG (Ek adr out.toList)))=Ek adr out.toList by rw [Be,show (adr∘AG)=id from rfl,Gp]];exact this
  have hv2:=hv.length;have I2:=I.laid (t':=s.toks) (o:=.lst ((((out.toList.map adr).map fun b=>(b,Zcz s.heap (.ref b))).map fun x=>V.ref x.1))) (h':=sortedAll s.heap its out) (fun b o q=>sortedAll_old q) (Hu _) ⟨by rw [Ah,pL.length_eq];exact Az hl (by decide),out.toList,e,hv,by simpa [Co] using he⟩;exact ⟨.ref (s.heap.objs.size+1),_,I2,rfl,q _ _ pL hs hn⟩
theorem Zng:∀{ds:List D} {cs:List (List Int)},Dl.Zfl ds=some cs->ds=cs.map Dl.itD
 | [],cs,e=>by cases e;rfl
 | d::ds,cs,e=>by
  obtain ⟨c,e1,e⟩:=AX.mp (show ((Dl.Xft d).bind fun c=>(Dl.Zfl ds).bind fun cs=>some (c::cs))=some cs from e);obtain ⟨ps,e2,e⟩:=AX.mp e;cases e;rw [Zng e2];cases d with
  | tup xs =>rw [show D.tup xs=Dl.itD c from congrArg D.tup (Xaa e1)];rfl
  | _=>cases e1
theorem Xfr (c:List Int):Dl.flat (Dl.itD c)=true:=by
 show Dl.Zu (c.map D.int)=true
 induction c with
 | nil=>rfl
 | cons i c ih=>show (true&&Dl.Zu _)=true;rw [ih];rfl
theorem Xqy {v:V}(r:Rp K C H (Dl.itD c) v B):∃b,v=.ref b/\H b=some (.tup (c.map V.int))/\Rp K C H (Dl.itD c) (.ref b) []:=by have e:=r.flat (Xfr c);subst e;obtain ⟨b,vs,rfl,h1,h2⟩:=id r;refine ⟨b,rfl,?_,r⟩;rw [h1,(RpA.noInts h2).1]
theorem Zvq:∀{cs:List (List Int)} {ys:List V} {B:List Addr},RpA K C H (cs.map Dl.itD) ys B->∃L:List (Addr×List Int),ys=L.map (fun x=>V.ref x.1)/\cs=L.map (·.2)/\∀x∈L,H x.1=some (.tup (x.2.map V.int))/\Rp K C H (Dl.itD x.2) (.ref x.1) []
 | [],ys,B,r=>⟨[],r.1,rfl,fun _ h=>nomatch h⟩
 | c::cs,ys,B,r=>by obtain ⟨x,l,B1,B2,rfl,h1,h2,_⟩:=r;obtain ⟨b,rfl,q1,q2⟩:=Xqy h1;obtain ⟨L,rfl,rfl,hL⟩:=Zvq h2;exact ⟨(b,c)::L,rfl,rfl,AN.mpr ⟨⟨q1,q2⟩,hL⟩⟩
theorem Zrz:∀{L:List (Addr×List Int)},(∀x∈L,Rp K C H (Dl.itD x.2) (.ref x.1) [])->RpA K C H ((L.map (·.2)).map Dl.itD) (L.map fun x=>V.ref x.1) []
 | [],_=>RpA.nil
 | x::L,h=>⟨_,_,[],[],rfl,h x (.head _),Zrz fun y hy=>h y (.tail _ hy),rfl⟩
theorem Ztv:GAk K C (Zol K) Dl.Zpd:=by
 intro H xs d vs Bx Q r e q
 match xs,e with
 | [.lst ds],e =>obtain ⟨cs,h1,h2⟩:=AX.mp (show ((Dl.Zfl ds).bind fun cs=>if cs.length<=63/\(cs.length<=1\/(cs.all fun c=>!c.isEmpty)=true) then some (D.lst ((Dl.Jf cs).map Dl.itD)) else none)=some d from e);split at h2;rename_i hh;cases h2;obtain ⟨v,l,B1,B2,rfl,r1,r2,_⟩:=r;obtain ⟨rfl,_⟩:=r2;obtain ⟨a,ys,B',rfl,e2,e3,_⟩:=r1;rw [Zng h1] at e3;obtain ⟨L,rfl,rfl,hL⟩:=Zvq e3;rw [Ah] at hh;refine ⟨a,L,rfl,SqL.of e2,fun x hx=>(hL x hx).1,hh.1,hh.2.imp Nat.lt_succ_of_le fun z x hx e=>?_,fun L' r pL hs hr=>?_⟩;have:=Bp.mp z x.2 (AB.mpr ⟨x,hx,rfl⟩);rw [e] at this;cases this;have es:Dl.Jf (L.map (·.2))=L'.map (·.2):=Zww (pL.map _) hs;have g2:=sameNew hr (.lst (L'.map fun x=>V.ref x.1));rw [es] at q;refine q _ _ [r] g2 ⟨r,_,[],rfl,Xd,(Zrz fun x hx=>(hL x (pL.mem_iff.mp hx)).2).same g2,rfl⟩ (Ay.mpr ⟨(fun z=>nomatch z),A6⟩) fun a ha=>?_;rw [Aj.mp ha];exact hr;cases h2
end
end L2
namespace Dl
open PySem
variable {i j lo v m fl:Int}{n k N:Nat}{α β:Type}{xs ds T:List D}{x d z:D}{ns ms os ws ys l:List Int}{a e:FE}{b:FB}{s:FS}{P:Int->Prop}{Rr:R Fl->Prop}{ρ ρ':Env}{c:FT}{r:R Fl}{g:D->Option Int->Option Int->Option D}{F:List D->R D}{it:FI}{p:Prop}{hi:Option Int}{nm:Str}
def Zqz:FS:=
  (Xk (sIf (cOr (cE (f2 gLt (fV 1) (fC (.int 0)))) (cOr (cE (f2 gGt (fV 2) (fA Zbh (Ze (fV 0) Zy)))) (cE (f2 gGt (fV 1) (fV 2))))) Zhu sNx)
    (Zdo (fA Xqx (Ze (fSl gSl (fV 0) (Zel (fV 1)) (Zel (fV 2))) Zy))))
def Zcr (ds:List D):R D:=(run 3 Zqz ds).calm
def Zfb:FS:=
 (Xiv 1 Zue (f2 Yp (fV 2) (fC (.int 1))))
def Xfx:FS:=
  (Xk (Xq 1 (fC (.int 1)))
    (Xk (Zeb (Zff (fV 0)) (Zt 2) Zfb)
    (Zdo (fV 1))))
def Zdq (ds:List D):R D:=(run 3 Xfx ds).calm
def Zem:FS:=
 (Xq 2 (f2 Zfz (f2 Yp (f2 Yp (f2 Zab (fV 2) (fC (.int 48271))) (f2 Zfz (fV 3) (fC (.int 1000003)))) (fC (.int 1))) (fC (.int 2147483647))))
def Zpo:FS:=
  (Xk (sIf (cE (f2 gLt (fV 1) (fA Zbh (Ze (fV 0) Zy)))) (Zdo (f1 Yr (f2 gIx (fV 0) (fV 1)))) sNx)
    (Xk (Xq 2 (fC (.int 5)))
    (Xk (Zeb (Zff (fSl gSl (fV 0) Zgx (Zel (fC (.int 63))))) (Zt 3) Zem)
    (Zdo (f2 Zfz (f2 Yp (fV 2) (f2 Zab (fC (.int 7919)) (fV 1))) (fC (.int 1000003)))))))
def Jh (ds:List D):R D:=(run 4 Zpo ds).calm
def Zut:FS:=
  (Xk (Xq 2 (f2 Zfz (f2 Ziq (f2 Yp (f2 Yp (f2 Zfz (fV 0) (fC (.int 2147483629))) (f2 Zab (fC (.int 1013)) (fV 1))) (fC (.int 7919))) (fC (.int 3))) (fC (.int 2147483647))))
    (Xk (Xq 3 (f2 Zfz (f2 Yp (f2 Yp (f2 Zab (fV 2) (fC (.int 40699))) (f2 Zab (f2 Zab (fC (.int 3793)) (fV 1)) (fV 1))) (fC (.int 11))) (fC (.int 2147483399))))
    (Zdo (f2 Xhx (fV 3) (fC (.int 101))))))
def Zaj (ds:List D):R D:=(run 4 Zut ds).calm
def Zbz:FS:=
 (Zlc 1 (f2 Yp (f2 gIx (fV 1) (f1 Xhh (fC (.int 1)))) (fV 2)))
def Zhs:FS:=
  (Xk (Xq 1 (fA Yz (Ze (fC (.int 0)) Zy)))
    (Xk (Zeb (Zff (fV 0)) (Zt 2) Zbz)
    (Zdo (fV 1))))
def Ji (ds:List D):R D:=(run 3 Zhs ds).calm
def Zop:FS:=
  (Xk (Xq 3 (f2 Yp (fV 2) (f2 gIx (fV 1) (fC (.int 1)))))
    (Xk (sIf (cOr (cE (f2 gLt (fV 2) (fC (.int 0)))) (cE (f2 gGe (fV 3) (fA Zbh (Ze (fV 0) Zy))))) (Zdo (fC (.bl false))) sNx)
    (Zdo (f2 gLe (f2 Zeu (f2 gIx (fV 0) (fV 3)) (f2 gIx (fV 0) (fV 2))) (f2 gIx (fV 1) (fC (.int 3)))))))
def Zaq (ds:List D):R D:=(run 4 Zop ds).calm
def Zjz:FS:=
 (Zdo (fA Yz (Ze (Zdb 3 1 (Zff (fV 0)) (Zt 3) Ziy (fA Zij (Ze (fV 3) Zy))) (Ze (fA Zij (Ze (fV 1) Zy)) (Ze (fA Zij (Ze (fV 2) Zy)) Zy)))))
def Jb (ds:List D):R D:=(run 3 Zjz ds).calm
def Xpv:FS:=
  (Xk (Xq 3 (f2 Yp (fV 2) (f2 gIx (fV 1) (fC (.int 1)))))
    (Xk (sIf (cOr (cE (f2 gLt (fV 2) (fC (.int 0)))) (cE (f2 gGt (fV 3) (fA Zbh (Ze (fV 0) Zy))))) (Zdo (fC (.bl false))) sNx)
    (Zdo (f2 gLe (Yf Zcr (Ze (fV 0) (Ze (fV 2) (Ze (fV 3) Zy)))) (f2 gIx (fV 1) (fC (.int 3)))))))
def Zle (ds:List D):R D:=(run 4 Xpv ds).calm
def Zce:FS:=
  (Xk (sIf (cE (fA gAny (Ze (Zdb 2 1 (Zff (fV 0)) (Zt 2) Ziy (f2 gGt (fA Zbh (Ze (fV 2) Zy)) (fC (.int 40)))) Zy))) Zhu sNx)
    (sIf (cE (f2 gGt (Yf Zdq (Ze (fV 1) Zy)) (fC (.int 120)))) Zhu sNx))
def Jp (ds:List D):R D:=(run 2 Zce ds).calm
def Zfs:FS:=
  (sIf (cE (f2 gLt (fV 3) (f2 Ziq (fC (.int 10)) (fC (.int 18))))) (Zlc 5 (f2 Zfz (Yf Zaj (Ze (fV 3) (Ze (fV 6) Zy))) (f2 gIx (fV 2) (fV 6)))) (sIf (cE (f2 gGt (fV 4) (fC (.int 0)))) (Xk (Zlc 5 (f2 Zfz (fV 4) (f2 gIx (fV 2) (fV 6))))
    (Xq 4 (f2 Xhx (fV 4) (f2 gIx (fV 2) (fV 6))))) (Xk (Xq 7 (Yf Jh (Ze (fV 0) (Ze (f2 Zfz (f2 Yp (f2 Yp (fV 1) (fC (.int 1))) (fV 6)) (fC (.int 63))) Zy))))
    (Zlc 5 (f2 Zfz (Yf Zaj (Ze (fV 7) (Ze (fV 6) Zy))) (f2 gIx (fV 2) (fV 6)))))))
def Ztl:FS:=
  (Xk (Xq 3 (Yf Jh (Ze (fV 0) (Ze (fV 1) Zy))))
    (Xk (Xq 4 (f1 Yr (fV 3)))
    (Xk (Xq 5 (fA Yz Zy))
    (Xk (Zeb (Zfy (Ze (fA Zbh (Ze (fV 2) Zy)) Zy)) (Zt 6) Zfs)
    (Zdo (fV 5))))))
def Xj (ds:List D):R D:=(run 8 Ztl ds).calm
def Zbc:FS:=
  (Xk (Xq 9 (f2 Yp (f2 Zab (fC (.int 3)) (fV 8)) (fC (.int 6))))
    (Xk (Xq 10 (f1 Yr (f2 gIx (fA Yz (Ze (fC (.int 1)) (Ze (fC (.int 2)) (Ze (fC (.int 3)) (Ze (fC (.int 4)) (Ze (fC (.int 5)) (Ze (fC (.int 6)) (Ze (fC (.int 2)) (Ze (fC (.int 3)) (Ze (fC (.int 11)) (Ze (fC (.int 40)) (Ze (f2 gIx (fA Yz (Ze (fC (.int 150)) (Ze (fC (.int 200)) Zy))) (f2 Zfz (fV 8) (fC (.int 2)))) Zy)))))))))))) (f2 gIx (fV 4) (fV 9)))))
    (Xk (Xq 11 (f2 Yp (fC (.int 1)) (f2 gIx (fV 4) (f2 Yp (fV 9) (fC (.int 1))))))
    (Xk (sIf (cE (f2 gEq (f2 gIx (fV 4) (fC (.int 3))) (fC (.int 1)))) (Xq 11 (f2 Yp (f2 Zab (fC (.int 3)) (fV 10)) (f2 Zfz (f2 gIx (fV 4) (f2 Yp (fV 9) (fC (.int 1)))) (fC (.int 4))))) sNx)
    (Xk (sIf (cE (f2 gEq (f2 gIx (fV 4) (fC (.int 3))) (fC (.int 2)))) (Xq 11 (f2 Yp (fC (.int 1)) (f2 Zfz (f2 gIx (fV 4) (f2 Yp (fV 9) (fC (.int 1)))) (fC (.int 3))))) sNx)
    (Xk (sIf (cE (f2 gEq (f2 gIx (fV 4) (fC (.int 3))) (fC (.int 3)))) (Xq 11 (f1 Yr (fV 10))) sNx)
    (Xk (Xq 12 (fA Xoj (Ze (f2 Zab (f2 gIx (fA Yz (Ze (fC (.int 0)) (Ze (fC (.int 0)) (Ze (fC (.int 1)) (Ze (fC (.int 2)) (Ze (fC (.int 3)) (Ze (fC (.int 12)) Zy))))))) (f2 gIx (fV 4) (f2 Yp (fV 9) (fC (.int 2))))) (fV 5)) (Ze (f2 Zeu (f2 Ziq (fC (.int 10)) (fC (.int 18))) (fC (.int 1))) Zy))))
    (Xk (Xq 13 (f1 Yr (f2 gIx (fV 3) (f2 Zfz (f2 Yp (f2 gIx (fV 4) (fC (.int 4))) (f2 Zab (f2 Yp (f2 Zab (fC (.int 2)) (f2 gIx (fV 4) (fC (.int 5)))) (fC (.int 1))) (fV 8))) (fC (.int 16))))))
    (Zlc 7 (fA Zew (Ze (f1 Yr (fV 13)) (Ze (f1 Yr (fV 10)) (Ze (fA Xoj (Ze (f2 Zab (fV 11) (fV 6)) (Ze (f2 Ziq (fC (.int 10)) (fC (.int 18))) Zy))) (Ze (f1 Yr (fV 12)) Zy))))))))))))))
def Znd:FS:=
  (Xk (Xq 3 (fA Yz (Ze (fC (.str ("a":Str))) (Ze (fC (.str ("ab":Str))) (Ze (fC (.str ("abc":Str))) (Ze (fC (.str ("b":Str))) (Ze (fC (.str ("ba":Str))) (Ze (fC (.str ("z":Str))) (Ze (fC (.str ("zzzzzzzz":Str))) (Ze (fC (.str ("roll":Str))) (Ze (fC (.str ("cut":Str))) (Ze (fC (.str ("by":Str))) Zy))))))))))))
    (Xk (Xq 3 (f2 Yp (fV 3) (fA Yz (Ze (fC (.str ("aab":Str))) (Ze (fC (.str ("zz":Str))) (Ze (fC (.str ("kind":Str))) (Ze (fC (.str ("qsvw":Str))) (Ze (fC (.str ("fghjmp":Str))) (Ze (fC (.str ("x":Str))) Zy)))))))))
    (Xk (Xq 4 (Yf Xj (Ze (fV 0) (Ze (fV 1) (Ze (f2 Yp (fA Yz (Ze (f2 Yp (fV 2) (fC (.int 1))) (Ze (fC (.int 4)) (Ze (fC (.int 4)) (Ze (fC (.int 4)) (Ze (fC (.int 16)) (Ze (fC (.int 4)) Zy))))))) (f2 Zab (fA Yz (Ze (fC (.int 11)) (Ze (fC (.int 40)) (Ze (fC (.int 6)) Zy)))) (fV 2))) Zy)))))
    (Xk (Xq 5 (f1 Yr (f2 gIx (fA Yz (Ze (fC (.int 1)) (Ze (fC (.int 1)) (Ze (fC (.int 7)) (Ze (f2 Ziq (fC (.int 10)) (fC (.int 17))) Zy))))) (f2 gIx (fV 4) (fC (.int 1))))))
    (Xk (Xq 6 (f1 Yr (f2 gIx (fA Yz (Ze (fC (.int 1)) (Ze (fC (.int 1)) (Ze (f2 Ziq (fC (.int 10)) (fC (.int 6))) (Ze (f2 Zab (fC (.int 25)) (f2 Ziq (fC (.int 10)) (fC (.int 15)))) Zy))))) (f2 gIx (fV 4) (fC (.int 2))))))
    (Xk (Xq 7 (fA Yz Zy))
    (Xk (Zeb (Zfy (Ze (f2 gIx (fV 4) (fC (.int 0))) Zy)) (Zt 8) Zbc)
    (Zdo (fV 7)))))))))
def Jq (ds:List D):R D:=(run 14 Znd ds).calm
def Zpq:FS:=
 (Zdo (f1 Yr (f2 gIx (fA Yz (Ze (fC (.int 1)) (Ze (fC (.int 1)) (Ze (fC (.int 7)) (Ze (f2 Ziq (fC (.int 10)) (fC (.int 17))) Zy))))) (f2 gIx (Yf Xj (Ze (fV 0) (Ze (fV 1) (Ze (fA Yz (Ze (f2 Yp (fV 2) (fC (.int 1))) (Ze (fC (.int 4)) Zy))) Zy)))) (fC (.int 1))))))
def Zat (ds:List D):R D:=(run 3 Zpq ds).calm
def Zek:FS:=
  (Xk (Xq 8 (f2 Yp (f2 Zab (fC (.int 2)) (fV 7)) (fC (.int 3))))
    (Xk (Xq 9 (fC (.int 0)))
    (Xk (sIf (cE (f2 gLt (f2 gIx (fV 4) (fV 8)) (f2 gIx (fA Yz (Ze (fC (.int 0)) (Ze (fC (.int 1)) (Ze (fC (.int 3)) (Ze (fC (.int 6)) Zy))))) (f2 gIx (fV 4) (fC (.int 1)))))) (Xq 9 (f1 Yr (f2 gIx (fA Yz (Ze (fV 3) (Ze (fV 3) (Ze (f2 Zab (fC (.int 2)) (fV 3)) (Ze (f2 Zab (fC (.int 3)) (fV 3)) (Ze (fV 5) Zy)))))) (f2 gIx (fV 4) (f2 Yp (fV 8) (fC (.int 1))))))) sNx)
    (Zlc 6 (f1 Yr (fV 9))))))
def Zqc:FS:=
  (Xk (Xq 4 (Yf Xj (Ze (fV 0) (Ze (fV 1) (Ze (f2 Yp (fA Yz (Ze (f2 Yp (fV 2) (fC (.int 1))) (Ze (fC (.int 4)) (Ze (fC (.int 3)) Zy)))) (f2 Zab (fA Yz (Ze (fC (.int 8)) (Ze (fC (.int 5)) Zy))) (fV 2))) Zy)))))
    (Xk (Xq 5 (f2 Zab (fC (.int 9)) (fV 3)))
    (Xk (sIf (cE (f2 gEq (f2 gIx (fV 4) (fC (.int 2))) (fC (.int 0)))) (Xq 5 (f2 Ziq (fC (.int 10)) (fC (.int 18)))) sNx)
    (Xk (Xq 6 (fA Yz Zy))
    (Xk (Zeb (Zfy (Ze (f2 gIx (fV 4) (fC (.int 0))) Zy)) (Zt 7) Zek)
    (Zdo (fV 6)))))))
def Jg (ds:List D):R D:=(run 10 Zqc ds).calm
@[simp] theorem ev_fC (d:D)(ρ:Env):fC d ρ=.ok d:=(rfl)
@[simp] theorem ev_f1 (g:D->Option D)(a:FE)(ρ:Env):f1 g a ρ=(a ρ).bind fun x=>oR (g x):=(rfl)
@[simp] theorem ev_f2 (g:D->D->Option D)(a b:FE)(ρ:Env):f2 g a b ρ=(a ρ).bind fun x=>(b ρ).bind fun y=>oR (g x y):=(rfl)
@[simp] theorem ev_aNil (ρ:Env):Zy ρ=.ok []:=(rfl)
@[simp] theorem Xdc (a:FE)(r:FA)(ρ:Env):Ze a r ρ=(a ρ).bind fun x=>(r ρ).bind fun xs=>.ok (x::xs):=(rfl)
@[simp] theorem ev_fA (g:List D->Option D)(a:FA)(ρ:Env):fA g a ρ=(a ρ).bind fun xs=>oR (g xs):=(rfl)
@[simp] theorem Xca (F:List D->R D)(a:FA)(ρ:Env):Yf F a ρ=(a ρ).bind F:=(rfl)
@[simp] theorem ev_fV0 (d:D)(ρ:Env):fV 0 (some d::ρ)=.ok d:=(rfl)
@[simp] theorem ev_fVs (i:Nat)(o:Option D)(ρ:Env):fV (i+1) (o::ρ)=fV i ρ:=by simp [fV]
@[simp] theorem ev_cE (a:FE)(ρ:Env):cE a ρ=(a ρ).bind fun d=>match d with | .bl b=>.ok b | _=>.bad:=(rfl)
@[simp] theorem ev_cNot (a:FT)(ρ:Env):cNot a ρ=(a ρ).bind fun b=>.ok (!b):=(rfl)
@[simp] theorem Zvy (a b:FT)(ρ:Env):Xht a b ρ=(a ρ).bind fun x=>if x then b ρ else .ok false:=(rfl)
@[simp] theorem Xhw (a b:FT)(ρ:Env):cOr a b ρ=(a ρ).bind fun x=>if x then .ok true else b ρ:=(rfl)
@[simp] theorem ev_cYes (ρ:Env):Ziy ρ=.ok true:=(rfl)
@[simp] theorem ev_fAnd (a b:FE)(ρ:Env):fAnd a b ρ=(a ρ).bind fun x=>match x with | .bl true=>b ρ | .bl false=>.ok (.bl false) | _=>.bad:=(rfl)
@[simp] theorem ev_fOr (a b:FE)(ρ:Env):fOr a b ρ=(a ρ).bind fun x=>match x with | .bl true=>.ok (.bl true) | .bl false=>b ρ | _=>.bad:=(rfl)
@[simp] theorem Xtu (c:FT)(a b:FE)(ρ:Env):fIf c a b ρ=(c ρ).bind fun x=>if x then a ρ else b ρ:=(rfl)
@[simp] theorem Xth (g g':D->D->Option D)(a b c:FE)(ρ:Env):Xtp g g' a b c ρ=(a ρ).bind fun x=>(b ρ).bind fun y=>(oR (g x y)).bind fun z=>match z with | .bl true=>(c ρ).bind fun w=>oR (g' y w) | .bl false=>.ok (.bl false) | _=>.bad:=(rfl)
@[simp] theorem Xtm (g:D->Option Int->Option Int->Option D)(a:FE)(l h:FO)(ρ:Env):fSl g a l h ρ=(a ρ).bind fun x=>(l ρ).bind fun lo=>(h ρ).bind fun hi=>oR (g x lo hi):=(rfl)
@[simp] theorem ev_oNone (ρ:Env):Zgx ρ=.ok none:=(rfl)
@[simp] theorem Xcz (a:FE)(ρ:Env):Zel a ρ=(a ρ).bind fun d=>match d with | .int i=>.ok (some i) | _=>.bad:=(rfl)
@[simp] theorem Xcl (a:FE)(ρ:Env):Zff a ρ=(a ρ).bind fun d=>match d with | .lst xs=>if xs.length<=lim then .ok xs else .bad | .scr ns=>if ns.length<=lim then .ok (ns.map D.int) else .bad | _=>.bad:=(rfl)
@[simp] theorem ev_jTup (a:FE)(ρ:Env):jTup a ρ=(a ρ).bind fun d=>match d with | .tup xs=>if xs.length<=lim then .ok xs else .bad | _=>.bad:=(rfl)
@[simp] theorem Xdb (a:FA)(ρ:Env):Zfy a ρ=(a ρ).bind fun ds=>match ds with | [.int j]=>if -1000000000<=j/\j<=1000000 then .ok (Zgb 0 j.toNat) else .bad | _=>.bad:=(rfl)
def Zjh (ds:List D):R (List D):=match ds with
 | [.int i,.int j]=>if -1000000000<=i/\i<=1000000000/\-1000000000<=j/\j<=1000000000/\(j - i).toNat<=lim then .ok (Zgb i (j - i).toNat) else .bad
 | _=>.bad
@[simp] theorem Xei (a:FA)(ρ:Env):Zte a ρ=(a ρ).bind Zjh:=(rfl)
theorem Znf (hn:n=(j - i).toNat)(h1:-1000000<=i)(h2:i<=1000000)(h3:-1000000<=j)(h4:j<=1000000)(h5:n<=1000000):Zjh [.int i,.int j]=.ok (Zgb i n):=by subst hn;unfold Zjh;simp only [];rw [if_pos ⟨by omega,by omega,by omega,by omega,h5⟩]
@[simp] theorem Xby (n k:Nat)(it:FI)(b:FB)(c:FT)(e:FE)(ρ:Env):Zdb n k it b c e ρ=if ρ.length=n then (it ρ).bind fun xs=>(Zbk k b c e ρ xs).calm.bind fun ys=>.ok (.lst ys) else .bad:=(rfl)
@[simp] theorem ev_sNx (ρ:Env):sNx ρ=.ok (.nx ρ):=(rfl)
@[simp] theorem Xsx (ρ:Env):Zhu ρ=.bad:=(rfl)
@[simp] theorem Zpj (a b:FS)(ρ:Env):Xk a b ρ=(a ρ).bind fun fl=>match fl with | .nx ρ'=>b ρ' | fl=>.ok fl:=(rfl)
@[simp] theorem Xms (i:Nat)(e:FE)(ρ:Env):Xq i e ρ=(e ρ).bind fun d=>.ok (.nx (ρ.set i (some d))):=(rfl)
@[simp] theorem Xnj (e:FE)(ρ:Env):Zdo e ρ=(e ρ).bind fun d=>.ok (.ret d):=(rfl)
@[simp] theorem Xhe (c:FT)(a b:FS)(ρ:Env):sIf c a b ρ=(c ρ).bind fun x=>if x then a ρ else b ρ:=(rfl)
@[simp] theorem Xko (i:Nat)(e:FE)(ρ:Env):Zlc i e ρ=(fV i ρ).bind fun v=>match v with | .lst xs=>(e ρ).bind fun d=>if xs.length<lim then .ok (.nx (ρ.set i (some (.lst (xs++[d]))))) else .bad | _=>.bad:=by unfold Zlc fV;split;rename_i xs e;simp [e];rename_i h;split;rename_i d e;cases d<;>simp;rename_i xs;exact absurd e (h xs);rfl
@[simp] theorem Xtg (c:String)(f:FA)(ρ:Env):Xqw c f ρ=(f ρ).bind fun _=>.err c none:=(rfl)
@[simp] theorem ev_sAug (i:Nat)(g:D->D->Option D)(e:FE)(ρ:Env):Xiv i g e ρ=(fV i ρ).bind fun x=>(e ρ).bind fun y=>(oR (g x y)).bind fun z=>.ok (.nx (ρ.set i (some z))):=by unfold Xiv fV;split;rename_i x e;simp;rfl
@[simp] theorem Xmq (it:FI)(b:FB)(s:FS)(ρ:Env):Zeb it b s ρ=(it ρ).bind fun xs=>Zgz b s xs ρ:=(rfl)
@[simp] theorem Xrq (n:Nat)(c:FT)(s:FS)(ρ:Env):Xta n c s ρ=Zrk c s n ρ:=(rfl)
@[simp] theorem ev_sAsg (e:FE)(b:FB)(ρ:Env):Xom e b ρ=(e ρ).bind fun d=>(b d ρ).calm.bind fun ρ'=>.ok (.nx ρ'):=(rfl)
@[simp] theorem ev_bName (i:Nat)(d:D)(ρ:Env):Zt i d ρ=.ok (ρ.set i (some d)):=(rfl)
@[simp] theorem ev_bNil (ρ:Env):Zeo [] ρ=.ok ρ:=(rfl)
@[simp] theorem ev_bCons (b:FB)(r:List D->Env->R Env)(d:D)(ds:List D)(ρ:Env):Xw b r (d::ds) ρ=(b d ρ).bind fun ρ'=>r ds ρ':=(rfl)
@[simp] theorem ev_bTup (r:List D->Env->R Env)(ds:List D)(ρ:Env):Zet r (.tup ds) ρ=r ds ρ:=(rfl)
@[simp] theorem ev_run (N:Nat)(b:FS)(ds:List D):run N b ds=(b (ds.map some++Ab (N - ds.length) none)).bind fun fl=>match fl with | .nx _=>.ok .non | .ret d=>.ok d | _=>.bad:=(rfl)
@[simp] theorem forD_nil (b:FB)(s:FS)(ρ:Env):Zgz b s [] ρ=.ok (.nx ρ):=(rfl)
theorem Zmv (b:FB)(s:FS)(x:D)(xs:List D)(ρ:Env):Zgz b s (x::xs) ρ=(b x ρ).calm.bind fun ρ1=>(s ρ1).bind fun fl=>match fl with | .nx ρ2=>Zgz b s xs ρ2 | .cnt ρ2=>Zgz b s xs ρ2 | .brk ρ2=>.ok (.nx ρ2) | .ret d=>.ok (.ret d):=rfl
@[simp] theorem add_ii (i j:Int):Yp (.int i) (.int j)=some (.int (i+j)):=rfl
@[simp] theorem sub_ii (i j:Int):Zeu (.int i) (.int j)=some (.int (i - j)):=rfl
@[simp] theorem lt_ii (i j:Int):gLt (.int i) (.int j)=some (.bl (decide (i<j))):=rfl
@[simp] theorem le_ii (i j:Int):gLe (.int i) (.int j)=some (.bl (decide (i<=j))):=rfl
@[simp] theorem gt_ii (i j:Int):gGt (.int i) (.int j)=some (.bl (decide (j<i))):=rfl
@[simp] theorem ge_ii (i j:Int):gGe (.int i) (.int j)=some (.bl (decide (j<=i))):=rfl
@[simp] theorem neg_i (i:Int):Xhh (.int i)=some (.int (-i)):=rfl
@[simp] theorem Zip (i j:Int):gEq (.int i) (.int j)=some (.bl (decide (i=j))):=show some (D.bl (i==j))=_ from congrArg (fun b=>some (D.bl b)) (by by_cases h:i=j<;>simp [h])
@[simp] theorem eq_bb (i j:Bool):gEq (.bl i) (.bl j)=some (.bl (i==j)):=rfl
theorem Xhl (h:(-(2 ^ 64)<i/\i<2 ^ 64)\/(-(2 ^ 64)<j/\j<2 ^ 64)):Zab (.int i) (.int j)=some (.int (i*j)):=by
 have:(short i||short j)=true:=by simp [short];exact h
 simp [Zab,this]
theorem Zay (h:0<j):Zfz (.int i) (.int j)=some (.int (i % j)):=by simp [Zfz,h]
theorem div_ii (h:0<j)(h2:j<2 ^ 200):Xhx (.int i) (.int j)=some (.int (i / j)):=by simp only [Xhx];rw [if_pos ⟨h,h2⟩]
theorem Zlu (h:0<=j)(h2:j<=1000000)(h3:i.natAbs<2 ^ 64):Ziq (.int i) (.int j)=some (.int (i ^ j.toNat)):=by simp only [Ziq];rw [if_pos ⟨h,h2,h3⟩]
@[simp] theorem pow10_6:Ziq (.int 10) (.int 6)=some (.int 1000000):=by rw [Zlu (by omega) (by omega) (by decide)];rfl
@[simp] theorem Xek:Ziq (.int 10) (.int 15)=some (.int 1000000000000000):=by rw [Zlu (by omega) (by omega) (by decide)];rfl
@[simp] theorem Zsx:Ziq (.int 10) (.int 17)=some (.int 100000000000000000):=by rw [Zlu (by omega) (by omega) (by decide)];rfl
@[simp] theorem Zgg:Ziq (.int 10) (.int 18)=some (.int 1000000000000000000):=by rw [Zlu (by omega) (by omega) (by decide)];rfl
@[simp] theorem flat_i (i:Int):flat (.int i)=true:=rfl
@[simp] theorem flat_b (i:Bool):flat (.bl i)=true:=rfl
@[simp] theorem flat_s (i:Str):flat (.str i)=true:=rfl
@[simp] theorem flat_n:flat .non=true:=rfl
@[simp] theorem flat_t (xs:List D):flat (.tup xs)=Zu xs:=rfl
@[simp] theorem flatA_n:Zu []=true:=rfl
@[simp] theorem flatA_c (x:D)(xs:List D):Zu (x::xs)=(flat x&&Zu xs):=rfl
theorem Zhf {α:Type}{f:α->D}(h:∀a,flat (f a)=true):∀xs:List α,Zu (xs.map f)=true
 | []=>rfl
 | x::xs=>by simp [h x,Zhf h xs]
@[simp] theorem Zfj (ns:List Int):Zu (ns.map D.int)=true:=Zhf (fun _=>rfl) ns
@[simp] theorem gFlat_i (i:Int):Yr (.int i)=some (.int i):=rfl
@[simp] theorem gFlat_b (i:Bool):Yr (.bl i)=some (.bl i):=rfl
@[simp] theorem gFlat_s (i:Str):Yr (.str i)=some (.str i):=rfl
@[simp] theorem gFlat_n:Yr .non=some .non:=rfl
@[simp] theorem ints_map (ns:List Int):intsOf (ns.map D.int)=some ns:=by
 induction ns with
 | nil=>rfl
 | cons n ns ih=>simp [intsOf,ih]
@[simp] theorem len_l (xs:List D):Zbh [.lst xs]=some (.int xs.length):=(rfl)
@[simp] theorem len_t (xs:List D):Zbh [.tup xs]=some (.int xs.length):=(rfl)
@[simp] theorem len_scr (xs:List Int):Zbh [.scr xs]=some (.int xs.length):=(rfl)
@[simp] theorem sum_ints (ns:List Int):Xqx [.lst (ns.map D.int)]=some (.int ns.sum):=by simp [Xqx]
@[simp] theorem Xhy (i j:Int):Xoj [.int i,.int j]=some (.int (min i j)):=by simp only [Xoj];congr 2;by_cases h:j<i;rw [if_pos h];omega;rw [if_neg h];omega
theorem Zpg {xs:List α}{x:α}(e:i=(k:Int))(h:xs[k]?=some x):atD xs i=some x:=by subst e;have hk:=(Ai.mp h).1;unfold atD ixD;rw [if_pos (by omega),if_pos (by omega)];simpa using h
theorem Xdp (xs:List α)(x:α):atD (xs++[x]) (-1)=some x:=by
 unfold atD ixD;rw [if_neg (by omega),if_pos (by simp;omega)];simp only [Option.bind_some];have:(-1+(((xs++[x]).length:Nat):Int)).toNat=xs.length:=by simp;omega
 rw [this];simp
theorem Xle (e:i=(k:Int))(h:xs[k]?=some x):gIx (.lst xs) (.int i)=some x:=Zpg e h
theorem ix_t (e:i=(k:Int))(h:xs[k]?=some x):gIx (.tup xs) (.int i)=some x:=Zpg e h
@[simp] theorem ixL_l (xs:List D)(y:D):gIxL (.lst xs) y=gIx (.lst xs) y:=(rfl)
@[simp] theorem listV_l (xs:List D):Xpb [.lst xs]=some (.lst xs):=(rfl)
@[simp] theorem Xjg (xs:List D)(x:D):gIx (.lst (xs++[x])) (.int (-1))=some x:=Xdp xs x
theorem Zcl (e:i=(k:Int))(h:k<ns.length):gIx (.lst (ns.map D.int)) (.int i)=some (.int (ns.getD k 0)):=Xle e (by simp [h,B7])
theorem Xkz (f:α->β)(xs:List α)(lo hi:Option Int):cut (xs.map f) lo hi=(cut xs lo hi).map f:=by unfold cut;rw [Ah,Ga,GV]
theorem Xty {xs:List α}{a b:Int}(h0:0<=a)(h1:a<=b)(h2:b<=xs.length):cut xs (some a) (some b)=(xs.drop a.toNat).take (b.toNat - a.toNat):=by unfold cut Zpt;simp only [];rw [if_neg (by omega),if_neg (by omega),ED (by omega),ED (by omega)]
theorem Xgs {xs:List α}{b:Int}(h0:0<=b):cut xs none (some b)=xs.take b.toNat:=by unfold cut Zpt;simp only [];rw [if_neg (by omega),List.drop_zero,Ks];by_cases h:b.toNat<=xs.length;rw [ED h];rw [IE (by omega),Dx (As _),Dx (by omega)]
theorem Xge {xs:List α}{a:Int}(h0:0<=a):cut xs (some a) none=xs.drop a.toNat:=by unfold cut Zpt;simp only [];rw [if_neg (by omega)];by_cases h:a.toNat<=xs.length;rw [ED h,Dx (by simp)];rw [IE (by omega),Es (As _),Es (by omega)];simp
@[simp] theorem sl_ints (ns:List Int)(lo hi:Option Int):gSl (.lst (ns.map D.int)) lo hi=some (.lst ((cut ns lo hi).map D.int)):=by simp [gSl,Xkz]
@[simp] theorem sl_scr (ns:List Int)(lo hi:Option Int):gSl (.scr ns) lo hi=some (.lst ((cut ns lo hi).map D.int)):=(rfl)
@[simp] theorem gLst_0:Yz []=some (.lst []):=rfl
@[simp] theorem gLst_1 (a:D):Yz [a]=some (.lst [a]):=rfl
@[simp] theorem gLst_2 (a b:D):Yz [a,b]=some (.lst [a,b]):=rfl
@[simp] theorem gLst_3 (a b c:D):Yz [a,b,c]=some (.lst [a,b,c]):=rfl
@[simp] theorem gLst_4 (a0 a1 a2 a3:D):Yz [a0,a1,a2,a3]=some (.lst [a0,a1,a2,a3]):=rfl
@[simp] theorem gLst_5 (a0 a1 a2 a3 a4:D):Yz [a0,a1,a2,a3,a4]=some (.lst [a0,a1,a2,a3,a4]):=rfl
@[simp] theorem gLst_6 (a0 a1 a2 a3 a4 a5:D):Yz [a0,a1,a2,a3,a4,a5]=some (.lst [a0,a1,a2,a3,a4,a5]):=rfl
@[simp] theorem gLst_10 (a0 a1 a2 a3 a4 a5 a6 a7 a8 a9:D):Yz [a0,a1,a2,a3,a4,a5,a6,a7,a8,a9]=some (.lst [a0,a1,a2,a3,a4,a5,a6,a7,a8,a9]):=rfl
@[simp] theorem gLst_11 (a0 a1 a2 a3 a4 a5 a6 a7 a8 a9 a10:D):Yz [a0,a1,a2,a3,a4,a5,a6,a7,a8,a9,a10]=some (.lst [a0,a1,a2,a3,a4,a5,a6,a7,a8,a9,a10]):=rfl
@[simp] theorem gTup_2 (a b:D):Zew [a,b]=some (.tup [a,b]):=rfl
@[simp] theorem gTup_3 (a b c:D):Zew [a,b,c]=some (.tup [a,b,c]):=rfl
@[simp] theorem gTup_4 (a b c d:D):Zew [a,b,c,d]=some (.tup [a,b,c,d]):=rfl
@[simp] theorem Zcg (a:α)(f:α->R β):((R.ok a).calm).bind f=f a:=(rfl)
theorem Zdy {P:Nat->Env->Prop}(h0:P 0 ρ)
  (hs:∀i x ρ,xs[i]?=some x->P i ρ->∃ρ1,b x ρ=.ok ρ1/\((∃ρ2,(s ρ1=.ok (.nx ρ2)\/s ρ1=.ok (.cnt ρ2))/\P (i+1) ρ2)\/(∃d,s ρ1=.ok (.ret d)/\Rr (.ok (.ret d)))\/∃ρ2,s ρ1=.ok (.brk ρ2)/\Rr (.ok (.nx ρ2))))
  (hd:∀ρ,P xs.length ρ->Rr (.ok (.nx ρ))):Rr (Zgz b s xs ρ):=by
 have key:∀n i ρ,n+i=xs.length->P i ρ->Rr (Zgz b s (xs.drop i) ρ):=by
  intro n
  induction n with
  | zero =>
   intro i ρ hn p;rw [Es (by omega)];have e:i=xs.length:=by omega
   subst e;exact hd ρ p
  | succ n ih =>
   intro i ρ hn p;have hi:i<xs.length:=by omega
   rw [D3 hi,Zmv];obtain ⟨ρ1,e1,h⟩:=hs i xs[i] ρ (Ag hi) p;rw [e1,Zcg];rcases h with ⟨ρ2,e2 | e2,p2⟩ | ⟨d,e2,p2⟩ | ⟨ρ2,e2,p2⟩;rw [e2];exact ih (i+1) ρ2 (by omega) p2;rw [e2];exact ih (i+1) ρ2 (by omega) p2;rw [e2];exact p2;rw [e2];exact p2
 have:=key xs.length 0 ρ (by omega) h0;simpa using this
theorem Xig (st:Nat->Env)(h0:st 0=ρ)(hs:∀i x,xs[i]?=some x->∃ρ1,b x (st i)=.ok ρ1/\s ρ1=.ok (.nx (st (i+1)))):Zgz b s xs ρ=.ok (.nx (st xs.length)):=by refine Zdy (P:=fun i ρ=>ρ=st i) (Rr:=fun r=>r=.ok (.nx (st xs.length))) h0.symm (fun i x ρ hx e=>?_) (fun ρ e=>by rw [e]);subst e;obtain ⟨ρ1,e1,e2⟩:=hs i x hx;exact ⟨ρ1,e1,.inl ⟨_,.inl e2,rfl⟩⟩
theorem Xdx {i:Nat}(h:i<n):(Zgb lo n)[i]?=some (.int (lo+i)):=by simp [Zgb,h]
theorem Zpa {i:Nat}(h:(Zgb lo n)[i]?=some x):i<n/\x=.int (lo+i):=by
 have hi:=(Ai.mp h).1;have hn:i<n:=by simpa [Zgb] using hi
 rw [Xdx hn] at h;exact ⟨hn,(AK h).symm⟩
@[simp] theorem Zbq (lo:Int)(n:Nat):(Zgb lo n).length=n:=by simp [Zgb]
theorem Zzd {enc:α->D}{ρ1:α->Env}{p:α->Bool}{v:α->D}{xs:List α}(h:∀x∈xs,b (enc x) (ρ++Ab k none)=.ok (ρ1 x)/\c (ρ1 x)=.ok (p x)/\(p x=true->e (ρ1 x)=.ok (v x))):Zbk k b c e ρ (xs.map enc)=.ok ((xs.filter p).map v):=by
 induction xs with
 | nil=>rfl
 | cons x xs ih =>
  obtain ⟨h0,h1,h2⟩:=h x (.head _);have ih:=ih fun y hy=>h y (.tail _ hy);rw [AV];unfold Zbk;rw [h0,Zcg,h1];cases hp:p x with
  | false=>simp [ih,hp]
  | true=>simp [ih,hp,h2 hp]
theorem comp1 {enc:α->D}{p:α->Bool}{v:α->D}{xs:List α}(hn:ρ.length=n)(h:∀x∈xs,c (ρ++[some (enc x)])=.ok (p x)/\(p x=true->e (ρ++[some (enc x)])=.ok (v x))):Zbk 1 (Zt n) c e ρ (xs.map enc)=.ok ((xs.filter p).map v):=
  Zzd (ρ1:=fun x=>ρ++[some (enc x)]) fun x hx=>⟨by
    show R.ok ((ρ++[none]).set n (some (enc x)))=_;rw [<- hn,Di _ _ (As _),FZ];rfl,h x hx⟩
theorem Xhv {enc:α->D}{v:α->D}{xs:List α}(hn:ρ.length=n)(h:∀x∈xs,e (ρ++[some (enc x)])=.ok (v x)):Zbk 1 (Zt n) Ziy e ρ (xs.map enc)=.ok (xs.map v):=by have:=comp1 (p:=fun _=>true) (c:=Ziy) hn (xs:=xs) (enc:=enc) (e:=e) (v:=v) fun x hx=>⟨rfl,fun _=>h x hx⟩;rw [this,Hv.mpr fun _ _=>rfl]
theorem comp2 {f g:α->D}{p:α->Bool}{v:α->D}{xs:List α}(hn:ρ.length=n)(h:∀x∈xs,c (ρ++[some (f x),some (g x)])=.ok (p x)/\(p x=true->e (ρ++[some (f x),some (g x)])=.ok (v x))) :
    Zbk 2 (Zet (Xw (Zt n) (Xw (Zt (n+1)) Zeo))) c e ρ (xs.map fun x=>.tup [f x,g x])=.ok ((xs.filter p).map v):=
  Zzd (enc:=fun x=>D.tup [f x,g x]) (ρ1:=fun x=>ρ++[some (f x),some (g x)]) fun x hx=>⟨by
    show R.ok (((ρ++[none,none]).set n (some (f x))).set (n+1) (some (g x)))=_;rw [<- hn,Di _ _ (As _),FZ,Di _ _ (by omega)];simp,h x hx⟩
theorem Xhn {f g:α->D}{v:α->D}{xs:List α}(hn:ρ.length=n)(h:∀x∈xs,e (ρ++[some (f x),some (g x)])=.ok (v x)) :
  Zbk 2 (Zet (Xw (Zt n) (Xw (Zt (n+1)) Zeo))) Ziy e ρ (xs.map fun x=>.tup [f x,g x])=.ok (xs.map v):=by
 have:=comp2 (p:=fun _=>true) (c:=Ziy) hn (xs:=xs) (f:=f) (g:=g) (e:=e) (v:=v) fun x hx=>⟨rfl,fun _=>h x hx⟩;rw [this,Hv.mpr fun _ _=>rfl]
theorem Zx {i:Nat}(h:e ρ=.ok d):Xq i e ρ=.ok (.nx (ρ.set i (some d))):=by rw [Xms,h];rfl
theorem Zn {a b:FS}(h:a ρ=.ok (.nx ρ'))(h2:b ρ'=r):Xk a b ρ=r:=by rw [Zpj,h];exact h2
theorem Zfw {g:D->Option D}(ha:a ρ=.ok x)(h:g x=some z):f1 g a ρ=.ok z:=by rw [ev_f1,ha];show oR (g x)=_;rw [h];rfl
theorem Zm {g:D->D->Option D}{b:FE}{y:D}(ha:a ρ=.ok x)(hb:b ρ=.ok y)(h:g x y=some z):f2 g a b ρ=.ok z:=by rw [ev_f2,ha,hb];show oR (g x y)=_;rw [h];rfl
theorem Jd {g:List D->Option D}{a:FA}(ha:a ρ=.ok xs)(h:g xs=some z):fA g a ρ=.ok z:=by rw [ev_fA,ha];show oR (g xs)=_;rw [h];rfl
theorem Zd {r:FA}(ha:a ρ=.ok x)(hr:r ρ=.ok xs):Ze a r ρ=.ok (x::xs):=by rw [Xdc,ha,hr];rfl
theorem Xs {a:FA}(ha:a ρ=.ok xs)(h:F xs=.ok d):Yf F a ρ=.ok d:=by rw [Xca,ha];exact h
theorem Yt {b:Bool}(h:a ρ=.ok (.bl b)):cE a ρ=.ok b:=by rw [ev_cE,h];rfl
theorem Jt {a b:FS}(hc:c ρ=.ok true)(h:a ρ=r):sIf c a b ρ=r:=by rw [Xhe,hc];exact h
theorem Ys {a b:FS}(hc:c ρ=.ok false)(h:b ρ=r):sIf c a b ρ=r:=by rw [Xhe,hc];exact h
theorem Znl {i:Nat}(hv:fV i ρ=.ok (.lst xs))(h:e ρ=.ok d)(hl:xs.length<lim):Zlc i e ρ=.ok (.nx (ρ.set i (some (.lst (xs++[d]))))):=by rw [Xko,hv,h];exact if_pos hl
theorem Zaf (h:e ρ=.ok d):Zdo e ρ=.ok (.ret d):=by rw [Xnj,h];rfl
theorem Zpf {a:FA}(h:a ρ=.ok [.int j])(h1:-1000000000<=j/\j<=1000000):Zfy a ρ=.ok (Zgb 0 j.toNat):=by rw [Xdb,h];exact if_pos h1
theorem Zbi (h:it ρ=.ok xs)(h2:Zgz b s xs ρ=r):Zeb it b s ρ=r:=by rw [Xmq,h];exact h2
theorem Jy {q:FS}(h:q (ds.map some++Ab (N - ds.length) none)=.ok (.ret d)):(run N q ds).calm=.ok d:=by unfold run;rw [h];rfl
theorem Zpz {a b:Int}(h0:0<=a)(h1:a<=1000000):Zab (.int a) (.int b)=some (.int (a*b)):=Xhl (.inl ⟨by omega,by omega⟩)
theorem Zlf {a b:FS}(h:a ρ=.ok (.ret d)):Xk a b ρ=.ok (.ret d):=by rw [Zpj,h];rfl
theorem mulR {a b:Int}(h0:0<=b)(h1:b<=1000000):Zab (.int a) (.int b)=some (.int (a*b)):=Xhl (.inr ⟨by omega,by omega⟩)
theorem Zfe (h:a ρ=.ok (.lst xs))(hl:xs.length<=lim):Zff a ρ=.ok xs:=by rw [Xcl,h];exact if_pos hl
theorem r_aug {i:Nat}{g:D->D->Option D}{v:D}(hv:fV i ρ=.ok v)(he:e ρ=.ok d)(h:g v d=some z):Xiv i g e ρ=.ok (.nx (ρ.set i (some z))):=by simp [hv,he,h]
theorem Zjj {a b:FT}{r:R Bool}(h:a ρ=.ok true)(h2:b ρ=r):Xht a b ρ=r:=by rw [Zvy,h];exact h2
theorem Zyl {a b:FT}(h:a ρ=.ok false):Xht a b ρ=.ok false:=by rw [Zvy,h];rfl
theorem Znu [Decidable p](h:p):some (D.bl (decide p))=some (D.bl true):=congrArg (fun b=>some (D.bl b)) (decide_eq_true h)
theorem Znv [Decidable p](h:¬p):some (D.bl (decide p))=some (D.bl false):=congrArg (fun b=>some (D.bl b)) (decide_eq_false h)
theorem Zhl {a b:FT}{r:R Bool}(h:a ρ=.ok false)(h2:b ρ=r):cOr a b ρ=r:=by rw [Xhw,h];exact h2
theorem r_asg (h:e ρ=.ok d)(hb:b d ρ=.ok ρ'):Xom e b ρ=.ok (.nx ρ'):=by unfold Xom;rw [h];show (b d ρ).calm.bind _=_;rw [hb];rfl
theorem r_sl {l h:FO}{lo:Option Int}(ha:a ρ=.ok x)(hl:l ρ=.ok lo)(hh:h ρ=.ok hi)(hg:g x lo hi=some z):fSl g a l h ρ=.ok z:=by rw [Xtm,ha];show (l ρ).bind _=_;rw [hl];show (h ρ).bind _=_;rw [hh];show oR (g x lo hi)=_;rw [hg];rfl
theorem Xgu {a:FA}(h:a ρ=.ok ds)(h1:Zjh ds=.ok xs):Zte a ρ=.ok xs:=by rw [Xei,h];exact h1
theorem Zlr {ys:List D}(hn:ρ.length=n)(h:it ρ=.ok xs)(h1:Zbk k b c e ρ xs=.ok ys):Zdb n k it b c e ρ=.ok (.lst ys):=by rw [Xby,if_pos hn,h];show (Zbk k b c e ρ xs).calm.bind _=_;rw [h1];rfl
theorem Zsu {a b:FT}(h:a ρ=.ok true):cOr a b ρ=.ok true:=by rw [Xhw,h];rfl
theorem Zzk (h:a ρ=.ok (.int i)):Zel a ρ=.ok (some i):=by rw [Xcz,h];rfl
set_option genInjectivity true in
structure Kd where
 name:Str
 w:Int
 wo:Int
 al:Int
def kD (k:Kd):D:=.tup [.str k.name,.int k.w,.int k.wo,.int k.al]
def iD (ns:List Int):D:=.lst (ns.map D.int)
def tD (ks:List Kd):D:=.lst (ks.map kD)
def pD (p:Int×Str):D:=.tup [.int p.1,.str p.2]
@[simp] theorem flat_kD (k:Kd):flat (kD k)=true:=rfl
@[simp] theorem flat_pD (k:Int×Str):flat (pD k)=true:=rfl
@[simp] theorem gFlat_kD (k:Kd):Yr (kD k)=some (kD k):=rfl
@[simp] theorem gFlat_pD (k:Int×Str):Yr (pD k)=some (pD k):=rfl
@[simp] theorem flatA_kD (ks:List Kd):Zu (ks.map kD)=true:=Zhf (fun _=>rfl) ks
@[simp] theorem kD_0 (k:Kd):gIx (kD k) (.int 0)=some (.str k.name):=ix_t (k:=0) rfl rfl
@[simp] theorem Xgq (k:Kd):gIx (kD k) (.int 1)=some (.int k.w):=ix_t (k:=1) rfl rfl
@[simp] theorem kD_3 (k:Kd):gIx (kD k) (.int 3)=some (.int k.al):=ix_t (k:=3) rfl rfl
def pre (ns:List Int)(i:Nat):Int:=(ns.take i).sum
theorem Xoc (ns:List Int)(a b:Nat)(h:a<=b):((ns.drop a).take (b - a)).sum=pre ns b - pre ns a:=by
 unfold pre;have e:ns.take b=ns.take a++(ns.drop a).take (b - a):=by have:=List.take_add (l:=ns) (i:=a) (j:=b - a);rw [show a+(b - a)=b by omega] at this;exact this
 rw [e,Dz];omega
theorem Xer {i:Nat}{x:Int}(h:ns[i]?=some x):pre ns (i+1)=pre ns i+x:=by unfold pre;rw [List.take_add_one,h,Dz];simp
def good (ns:List Int)(k:Kd)(p:Int):Bool:=decide (0<=p/\p+k.w<=ns.length/\pre ns (p+k.w).toNat - pre ns p.toNat<=k.al)
theorem Zwo {b e:Int}(h0:0<=b)(h1:b<=e)(h2:e<=ns.length):Zcr [iD ns,.int b,.int e]=.ok (.int (pre ns e.toNat - pre ns b.toNat)):=by
 have a1:¬b<0:=by omega
 have a2:¬(ns.length:Int)<e:=by omega
 have a3:¬e<b:=by omega
 simp [-Ga,-GV,Zcr,Zqz,iD,a1,a2,a3,Xty h0 h1 h2,Xoc _ _ _ (show b.toNat<=e.toNat by omega)]
theorem Xaz (ns:List Int)(k:Kd)(p:Int)(hw:1<=k.w):Zle [iD ns,kD k,.int p]=.ok (.bl (good ns k p)):=by
 have l1:Zbh [iD ns]=some (.int ns.length):=by simp [iD]
 by_cases h0:p<0;have e:good ns k p=false:=decide_eq_false (by omega);rw [e];exact Jy (Zn (Zx (Zm rfl (Zm rfl rfl (Xgq k)) rfl)) (Zlf (Jt (Zsu (Yt (Zm rfl rfl (Znu h0)))) (Zaf rfl))));by_cases h1:(ns.length:Int)<p+k.w;have e:good ns k p=false:=decide_eq_false (by omega);rw [e];exact Jy (Zn (Zx (Zm rfl (Zm rfl rfl (Xgq k)) rfl)) (Zlf (Jt (Zhl (Yt (Zm rfl rfl (Znv h0))) (Yt (Zm rfl (Jd (Zd rfl rfl) l1) (Znu h1)))) (Zaf rfl))));have hs:=Zwo (ns:=ns) (b:=p) (e:=p+k.w) (by omega) (by omega) (by omega);have e:good ns k p=decide (pre ns (p+k.w).toNat - pre ns p.toNat<=k.al):=by unfold good;apply decide_eq_decide.mpr;constructor;exact fun z=>z.2.2;exact fun z=>⟨by omega,by omega,z⟩
 rw [e];exact Jy (Zn (Zx (Zm rfl (Zm rfl rfl (Xgq k)) rfl)) (Zn (Ys (Zhl (Yt (Zm rfl rfl (Znv h0))) (Yt (Zm rfl (Jd (Zd rfl rfl) l1) (Znv h1)))) rfl) (Zaf (Zm (Xs (Zd rfl (Zd rfl (Zd rfl rfl))) hs) (Zm rfl rfl (kD_3 k)) rfl))))
def Je (ns:List Int):List Int:=(A5 (ns.length+1)).map (pre ns)
theorem Zsl (ns:List Int):(Je ns).length=ns.length+1:=by simp [Je]
theorem Xnn (ns:List Int)(h:k<=ns.length):(Je ns).getD k 0=pre ns k:=by
 unfold Je;have h':k<ns.length+1:=by omega
 simp [B7,h']
theorem Xjv (ns:List Int)(h:ns.length<=1000):Ji [iD ns]=.ok (iD (Je ns)):=by
  have hl:ns.length<=lim:=by show _<=1000000;omega
  have hf:=Xig (b:=Zt 2) (s:=Zbz) (xs:=ns.map D.int) (ρ:=[some (iD ns),some (.lst [.int 0]),none])
    (fun i=>[some (iD ns),some (.lst (((A5 i).map (pre ns)).map D.int++[.int (pre ns i)])),match i with | 0=>none | i+1=>some (.int (ns.getD i 0))]) rfl (fun i x hx=>by
      rw [AM] at hx;obtain ⟨y,hy,rfl⟩:=Ax.mp hx;have hi:=(Ai.mp hy).1;refine ⟨_,rfl,?_⟩;have hlen:i+1<1000000:=by omega
      simp [-Be,Zbz,hlen,Xer hy,FN,hy])
  simp only [Ah] at hf;simp [Ji,Zhs,iD,hl] at hf ⊢;simp [hf,Je,FN]
theorem Zxt (ns:List Int)(k:Kd)(p:Int)(hw:1<=k.w):Zaq [iD (Je ns),kD k,.int p]=.ok (.bl (good ns k p)):=by
 have hsl:=Zsl ns;have l1:Zbh [iD (Je ns)]=some (.int (Je ns).length):=by simp [iD]
 by_cases h0:p<0;have e:good ns k p=false:=decide_eq_false (by omega);rw [e];exact Jy (Zn (Zx (Zm rfl (Zm rfl rfl (Xgq k)) rfl)) (Zlf (Jt (Zsu (Yt (Zm rfl rfl (Znu h0)))) (Zaf rfl))));by_cases h1:((Je ns).length:Int)<=p+k.w;have e:good ns k p=false:=decide_eq_false (by omega);rw [e];exact Jy (Zn (Zx (Zm rfl (Zm rfl rfl (Xgq k)) rfl)) (Zlf (Jt (Zhl (Yt (Zm rfl rfl (Znv h0))) (Yt (Zm rfl (Jd (Zd rfl rfl) l1) (Znu h1)))) (Zaf rfl))));have e:good ns k p=decide (pre ns (p+k.w).toNat - pre ns p.toNat<=k.al):=by unfold good;apply decide_eq_decide.mpr;constructor;exact fun z=>z.2.2;exact fun z=>⟨by omega,by omega,z⟩
 have i1:=Zcl (ns:=Je ns) (i:=p+k.w) (k:=(p+k.w).toNat) (by omega) (by omega);have i2:=Zcl (ns:=Je ns) (i:=p) (k:=p.toNat) (by omega) (by omega);rw [Xnn ns (by omega)] at i1 i2;rw [e];exact Jy (Zn (Zx (Zm rfl (Zm rfl rfl (Xgq k)) rfl)) (Zn (Ys (Zhl (Yt (Zm rfl rfl (Znv h0))) (Yt (Zm rfl (Jd (Zd rfl rfl) l1) (Znv h1)))) rfl) (Zaf (Zm (Zm (Zm rfl rfl i1) (Zm rfl rfl i2) rfl) (Zm rfl rfl (kD_3 k)) rfl))))
theorem Xav (ns:List Int)(hn:ns.length<=63)(h0:0<=i)(h1:i<1000000):∃n:Int,Jh [.scr ns,.int i]=.ok (.int n):=by
 have c:(cE (f2 gLt (fV 1) (fA Zbh (Ze (fV 0) Zy)))) [some (.scr ns),some (.int i),none,none]=.ok (decide (i<ns.length)):=Yt (Zm rfl (Jd (Zd rfl rfl) rfl) rfl);by_cases h:i<ns.length;have hi:i.toNat<ns.length:=(DP h0).mpr h;have e:gIx (.scr ns) (.int i)=some (.int (ns.getD i.toNat 0)):=congrArg (Option.map D.int) (Zpg (k:=i.toNat) (B4 h0).symm (by simp [B7,hi]));exact ⟨_,Jy (Zlf (Jt (c.trans (congrArg Dl.R.ok (decide_eq_true h))) (Zaf (Zfw (Zm rfl rfl e) rfl))))⟩;have key:∃seed:Int,∃o,Zgz (Zt 3) Zem ((ns.take 63).map D.int) [some (.scr ns),some (.int i),some (.int 5),none]=.ok (.nx [some (.scr ns),some (.int i),some (.int seed),o]):=by refine Zdy (P:=fun _ ρ=>∃seed:Int,∃o,ρ=[some (.scr ns),some (.int i),some (.int seed),o]) (Rr:=fun r=>∃seed:Int,∃o,r=.ok (.nx [some (.scr ns),some (.int i),some (.int seed),o])) ⟨5,none,rfl⟩ ?_ ?_;rintro j x ρ hx ⟨seed,o,rfl⟩;rw [AM] at hx;obtain ⟨y,hy,rfl⟩:=Ax.mp hx;exact ⟨_,rfl,.inl ⟨_,.inl (Zx (Zm (Zm (Zm (Zm rfl rfl (mulR (by decide) (by decide))) (Zm rfl rfl (Zay (by decide))) rfl) rfl rfl) rfl (Zay (by decide)))),_,_,rfl⟩⟩;rintro ρ ⟨seed,o,rfl⟩;exact ⟨seed,o,rfl⟩
 obtain ⟨seed,o,e⟩:=key;have hc:cut ns none (some 63)=ns.take 63:=Xgs (by decide);have hl:(Zff (fSl gSl (fV 0) Zgx (Zel (fC (.int 63))))) [some (.scr ns),some (.int i),some (.int 5),none]=.ok ((ns.take 63).map D.int):=by
  have hm:min 63 ns.length<=lim:=by show _<=1000000;omega
  simp [-Ga,hc,hm]
 exact ⟨_,Jy (Zn (Ys (c.trans (congrArg Dl.R.ok (decide_eq_false h))) rfl) (Zn (Zx rfl) (Zn (Zbi hl e) (Zaf (Zm (Zm rfl (Zm rfl rfl (Zpz (by decide) (by decide))) rfl) rfl (Zay (by decide)))))))⟩
theorem Xgv (c:Int){k:Int}(h0:0<=k)(h1:k<1000000):∃n:Int,Zaj [.int c,.int k]=.ok (.int n):=by have n0:0<=c % 2147483629+1013*k+7919:=Gu (Gu (CI _ (by decide)) (EQ (by decide) h0)) (by decide);have n1:c % 2147483629+1013*k+7919<2147483629+1013*1000000+7919:=Int.add_lt_add_right (Int.add_lt_add_of_lt_of_le (CB _ (by decide)) (BV (DR h1) (by decide))) _;have b:(c % 2147483629+1013*k+7919).natAbs<2 ^ 64:=BQ.mp (by rw [Int.natAbs_of_nonneg n0];exact He n1 (by decide));have e1:=Zlu (i:=c % 2147483629+1013*k+7919) (j:=3) (by decide) (by decide) b;exact ⟨_,Jy (Zn (Zx (Zm (Zm (Zm (Zm (Zm rfl rfl (Zay (by decide))) (Zm rfl rfl (Zpz (by decide) (by decide))) rfl) rfl rfl) rfl e1) rfl (Zay (by decide)))) (Zn (Zx (Zm (Zm (Zm (Zm rfl rfl (mulR (by decide) (by decide))) (Zm (Zm rfl rfl (Zpz (by decide) (by decide))) rfl (mulR h0 (DR h1))) rfl) rfl rfl) rfl (Zay (by decide)))) (Zaf (Zm rfl rfl (div_ii (by decide) (by decide))))))⟩
structure Row (ms os:List Int):Prop where
 len:os.length=ms.length
 at_:∀k,k<ms.length->0<=os.getD k 0/\os.getD k 0<ms.getD k 0
theorem Row.nil (ms:List Int):Row (ms.take 0) []:=⟨by simp,fun k hk=>by simp at hk⟩
theorem Row.all (h:Row (ms.take ms.length) os):Row ms os:=by rw [List.take_length] at h;exact h
theorem Row.push (h:Row (ms.take k) os)(hk:k<ms.length)(h0:0<=v)(h1:v<ms.getD k 0):Row (ms.take (k+1)) (os++[v]):=by
 have hl:=h.len;rw [CH] at hl;have hm:min k ms.length=k:=by omega
 have hm':min (k+1) ms.length=k+1:=by omega
 refine ⟨by rw [Ak,CH,hm',G7];omega,fun j hj=>?_⟩;rw [CH,hm'] at hj;by_cases e:j=k;subst e;have e1:(os++[v]).getD j 0=v:=by
  have:os.length=j:=by omega
  simp [B7,<- this]
 have e2:(ms.take (j+1)).getD j 0=ms.getD j 0:=by simp [B7,HK]
 rw [e1,e2];exact ⟨h0,h1⟩;have hj':j<k:=by omega
 have q:=h.at_ j (by rw [CH];omega);have e1:(os++[v]).getD j 0=os.getD j 0:=by
  have:j<os.length:=by omega
  simp [B7,AD this]
 have e2:(ms.take (k+1)).getD j 0=(ms.take k).getD j 0:=by
  have h1:j<k+1:=by omega
  simp [B7,HK,hj',h1]
 rw [e1,e2];exact q
theorem Zaz {i:Nat}(h:∀w∈ws,P w)(hi:i<ws.length):P (ws.getD i 0):=by
 have e:ws.getD i 0=ws[i]:=by simp [B7,hi]
 rw [e];exact h _ (Cg hi)
theorem Xis (ns:List Int)(hn:ns.length<=63)(h0:0<=i)(h1:i<1000)(ms:List Int)(hm:ms.length<=2000)(hms:∀m∈ms,0<m/\m<2 ^ 200):∃os,Xj [.scr ns,.int i,iD ms]=.ok (iD os)/\Row ms os:=by
 obtain ⟨c,hc⟩:=Xav ns hn h0 (show i<1000000 by omega);have key:=Zdy (b:=Zt 6) (s:=Zfs) (xs:=Zgb 0 ms.length) (ρ:=[some (.scr ns),some (.int i),some (iD ms),some (.int c),some (.int c),some (.lst []),none,none])
  (P:=fun k ρ=>∃(l:Int) (os:List Int) (o6 o7:Option D),Row (ms.take k) os/\ρ=[some (.scr ns),some (.int i),some (iD ms),some (.int c),some (.int l),some (iD os),o6,o7])
  (Rr:=fun r=>∃(l:Int) (os:List Int) (o6 o7:Option D),Row ms os/\r=.ok (.nx [some (.scr ns),some (.int i),some (iD ms),some (.int c),some (.int l),some (iD os),o6,o7]))
  ⟨c,[],none,none,Row.nil ms,rfl⟩ ?_ ?_
 obtain ⟨l,os,o6,o7,hr,e⟩:=key;refine ⟨os,?_,hr⟩;have b1:-1000000000<=(ms.length:Int)/\(ms.length:Int)<=1000000:=by omega
 have gl:Zbh [iD ms]=some (.int ms.length):=by simp [iD]
 exact Jy (Zn (Zx (Xs (Zd rfl (Zd rfl rfl)) hc)) (Zn (Zx (Zfw rfl rfl)) (Zn (Zx rfl) (Zn (Zbi (Zpf (Zd (Jd (Zd rfl rfl) gl) rfl) b1) e) (Zaf rfl)))));rintro k x ρ hx ⟨l,os,o6,o7,hr,rfl⟩;obtain ⟨hk,rfl⟩:=Zpa hx;rw [Fp];have hol:os.length=k:=by have:=hr.len;rw [CH] at this;omega
 have hlim:(os.map D.int).length<lim:=by rw [Ah];show _<1000000;omega
 have c1:∀o5:Option D,(cE (f2 gLt (fV 3) (f2 Ziq (fC (.int 10)) (fC (.int 18))))) [some (.scr ns),some (.int i),some (iD ms),some (.int c),some (.int l),o5,some (.int k),o7]=.ok (decide (c<1000000000000000000)):=fun _=>Yt (Zm rfl (Zm rfl rfl Zgg) rfl);have ap:∀v:Int,iD (os++[v])=.lst (os.map D.int++[.int v]):=fun v=>congrArg D.lst AU;have hmk:=Zaz hms hk;have ix:=Zcl (ns:=ms) (i:=(k:Int)) (k:=k) rfl hk;have md:∀z:Int,Zfz (.int z) (.int (ms.getD k 0))=some (.int (z % ms.getD k 0)):=fun z=>Zay hmk.1;have nn:∀z:Int,0<=z % ms.getD k 0/\z % ms.getD k 0<ms.getD k 0:=fun z=>⟨CI _ (Kz hmk.1),CB _ hmk.1⟩;have k0:0<=(k:Int)/\(k:Int)<1000000:=by omega
 obtain ⟨x1,hx1⟩:=Xgv c k0.1 k0.2;obtain ⟨c2,hc2⟩:=Xav ns hn (i:=(i+1+k) % 63) (CI _ (by decide)) (He (CB _ (by decide)) (by decide));obtain ⟨x2,hx2⟩:=Xgv c2 k0.1 k0.2;refine ⟨_,rfl,.inl ?_⟩;by_cases a1:c<1000000000000000000;refine ⟨[some (.scr ns),some (.int i),some (iD ms),some (.int c),some (.int l),some (iD (os++[x1 % ms.getD k 0])),some (.int k),o7],.inl ?_,l,_,_,o7,hr.push hk (nn x1).1 (nn x1).2,rfl⟩;rw [ap];exact Jt ((c1 _).trans (congrArg Dl.R.ok (decide_eq_true a1))) (Znl rfl (Zm (Xs (Zd rfl (Zd rfl rfl)) hx1) (Zm rfl rfl ix) (md x1)) hlim);by_cases a2:0<l;refine ⟨[some (.scr ns),some (.int i),some (iD ms),some (.int c),some (.int (l / ms.getD k 0)),some (iD (os++[l % ms.getD k 0])),some (.int k),o7],.inl ?_,_,_,_,o7,hr.push hk (nn l).1 (nn l).2,rfl⟩;rw [ap];exact Ys ((c1 _).trans (congrArg Dl.R.ok (decide_eq_false a1))) (Jt (Yt (Zm rfl rfl (congrArg (fun b=>some (D.bl b)) (decide_eq_true a2)))) (Zn (Znl rfl (Zm rfl (Zm rfl rfl ix) (md l)) hlim) (Zx (Zm rfl (Zm rfl rfl ix) (div_ii hmk.1 hmk.2)))));refine ⟨[some (.scr ns),some (.int i),some (iD ms),some (.int c),some (.int l),some (iD (os++[x2 % ms.getD k 0])),some (.int k),some (.int c2)],.inl ?_,l,_,_,_,hr.push hk (nn x2).1 (nn x2).2,rfl⟩;rw [ap];exact Ys ((c1 _).trans (congrArg Dl.R.ok (decide_eq_false a1))) (Ys (Yt (Zm rfl rfl (congrArg (fun b=>some (D.bl b)) (decide_eq_false a2)))) (Zn (Zx (Xs (Zd rfl (Zd (Zm (Zm (Zm rfl rfl rfl) rfl rfl) rfl (Zay (by decide))) rfl)) hc2)) (Znl rfl (Zm (Xs (Zd rfl (Zd rfl rfl)) hx2) (Zm rfl rfl ix) (md x2)) hlim)));rintro ρ ⟨l,os,o6,o7,hr,rfl⟩;rw [Zbq] at hr;exact ⟨l,os,o6,o7,hr.all,rfl⟩
theorem Zjb (ns:List Int)(hn:ns.length<=63)(h0:0<=i)(h1:i<1000)(ms:List Int)(hm:ms.length<=1000)(hms:∀m∈ms,0<m/\m<2 ^ 200):∃os,Xj [.scr ns,.int i,iD ms]=.ok (iD os)/\Row ms os:=Xis ns hn h0 h1 ms (Az hm (by decide)) hms
theorem Zfv (ws:List Int)(h0:0<=i)(h1:i<ws.length):gIx (.lst (ws.map D.int)) (.int i)=some (.int (ws.getD i.toNat 0)):=Zcl (by omega) (by omega)
theorem Zhp (l:List Int):∀n:Nat,(Ab n l).flatten.length=n*l.length
 | 0=>by simp
 | n+1=>by rw [Bc,BN,Ak,Zhp l n,G3,G6]
theorem Xih (l:List Int)(n:Nat):(Ab n (l.map D.int)).flatten=(Ab n l).flatten.map D.int:=by rw [List.map_flatten,List.map_replicate]
theorem Zki (h0:0<=m)(h1:m<=200)(hl:ws.length<=1000):Zab (.lst (ws.map D.int)) (.int m)=some (iD (Ab m.toNat ws).flatten):=by
  simp only [Zab];rw [if_pos ⟨by omega,by
    rw [Ah];show ws.length*m.toNat<=1000000;have:ws.length*m.toNat<=1000*200:=JQ hl (by omega);omega,by omega,Zfj ws⟩,Xih]
  rfl
theorem Zkc {xs:List Int}(h:xs.length+ys.length<=1000000):Yp (iD xs) (iD ys)=some (iD (xs++ys)):=by show (if (xs.map D.int).length+(ys.map D.int).length<=lim/\Zu (xs.map D.int)/\Zu (ys.map D.int) then some (D.lst (xs.map D.int++ys.map D.int)) else none)=_;rw [if_pos ⟨by rw [Ah,Ah];exact h,Zfj _,Zfj _⟩,<- AU];rfl
theorem Zqq (x y:Int):∀(n k:Nat),k<n->(Ab n [x,y]).flatten.getD (2*k) 0=x/\(Ab n [x,y]).flatten.getD (2*k+1) 0=y
 | 0,k,h=>by omega
 | n+1,0,_=>by simp [Bc,BN,B7]
 | n+1,k+1,h=>by
  have q:=Zqq x y n k (by omega);have e1:2*(k+1)=2*k+2:=by omega
  rw [Bc,BN,e1];exact q
theorem Zrp (x y z:Int):∀(n k:Nat),k<n->(Ab n [x,y,z]).flatten.getD (3*k) 0=x/\(Ab n [x,y,z]).flatten.getD (3*k+1) 0=y/\(Ab n [x,y,z]).flatten.getD (3*k+2) 0=z
 | 0,k,h=>by omega
 | n+1,0,_=>by simp [Bc,BN,B7]
 | n+1,k+1,h=>by
  have q:=Zrp x y z n k (by omega);have e1:3*(k+1)=3*k+3:=by omega
  rw [Bc,BN,e1];exact q
theorem Xas {z:Int}(h:z∈(Ab n l).flatten):z∈l:=by
 obtain ⟨l',hl,hz⟩:=List.mem_flatten.mp h
 rwa [(DN.mp hl).2] at hz
def Zbd:List Str:=["a","ab","abc","b","ba","z","zzzzzzzz","roll","cut","by","aab","zz","kind","qsvw","fghjmp","x"]
theorem Xck:∀j:Nat,j<16->∀k:Nat,k<16->Zbd.getD j ""=Zbd.getD k ""->j=k:=by decide +kernel
def nameAt (s4 s5:Int)(k:Nat):Str:=Zbd.getD ((s4+(2*s5+1)*(k:Int)) % 16).toNat ""
theorem Xey:∀t:Nat,t<4->∀j:Nat,j<8->∀k:Nat,k<8->((2*(t:Int)+1)*j - (2*(t:Int)+1)*k) % 16=0->j=k:=by decide +kernel
theorem Zud {s4 s5:Int}(h0:0<=s5)(h1:s5<4){j:Nat}(hj:j<8)(hk:k<8)(e:nameAt s4 s5 j=nameAt s4 s5 k):j=k:=by have lt:∀x:Int,(x % 16).toNat<16:=fun x=>(DP (CI x (by decide))).mpr (CB x (by decide));have q:=congrArg Int.ofNat (Xck _ (lt _) _ (lt _) e);have q1:(s4+(2*s5+1)*(j:Int)) % 16=(s4+(2*s5+1)*(k:Int)) % 16:=(B4 (CI _ (by decide))).symm.trans (q.trans (B4 (CI _ (by decide))));have q2:=Int.emod_eq_emod_iff_emod_sub_eq_zero.mp q1;rw [Int.add_sub_add_left] at q2;obtain ⟨t,rfl⟩:=Eo h0;exact Xey t (BQ.mp h1) j hj k hk q2
theorem Ztq (s4 s5:Int)(k:Nat):nameAt s4 s5 k∈Zbd:=by
 unfold nameAt;have h:((s4+(2*s5+1)*(k:Int)) % 16).toNat<Zbd.length:=by show _<16;omega
 have e:Zbd.getD ((s4+(2*s5+1)*(k:Int)) % 16).toNat ""=Zbd[((s4+(2*s5+1)*(k:Int)) % 16).toNat]:=by simp [B7,h]
 rw [e];exact Cg h
structure Zrm (k:Kd):Prop where
 nm:k.name∈Zbd
 w1:1<=k.w
 w2:k.w<=200
 o1:1<=k.wo
 o2:k.wo<=1000000000000000000
 a1:0<=k.al
 a2:k.al<1000000000000000000
structure Xtq (ks:List Kd):Prop where
 ok:∀k∈ks,Zrm k
 nd:(ks.map (·.name)).Nodup
theorem Xmy (h0:0<=i)(h1:i<16):gIx (.lst (Zbd.map D.str)) (.int i)=some (.str (Zbd.getD i.toNat "")):=Xle (k:=i.toNat) (by omega) (by
  have h:i.toNat<Zbd.length:=by show _<16;omega
  simp [B7,h])
theorem Zpk (h:∀m∈ms,0<m/\m<=1000000):∀m∈ms,0<m/\m<2 ^ 200:=fun m hm=>⟨(h m hm).1,Ic (h m hm).2 (by decide)⟩
theorem four {x:Int}(h:0<=x/\x<4):x=0\/x=1\/x=2\/x=3:=by
 obtain ⟨n,rfl⟩:=Eo h.1
 match n,BQ.mp h.2 with
 | 0,_=>exact .inl rfl
 | 1,_=>exact .inr (.inl rfl)
 | 2,_=>exact .inr (.inr (.inl rfl))
 | 3,_=>exact .inr (.inr (.inr rfl))
theorem Zmp {x:Int}(hm:0<m):0<=x % m/\x % m<m:=⟨CI _ (Kz hm),CB _ hm⟩
theorem Xda {d0 d1 d2 o9 o10 o11 o12 o13:Option D}{O:D}{gn bw wd am x3 x4 x5 x6 x7 x8:Int}
    (j0:gIx O (.int (3*(k:Int)+6))=some (.int x6)) (j1:gIx O (.int (3*(k:Int)+6+1))=some (.int x7)) (j2:gIx O (.int (3*(k:Int)+6+2))=some (.int x8))
    (j3:gIx O (.int 3)=some (.int x3)) (j4:gIx O (.int 4)=some (.int x4)) (j5:gIx O (.int 5)=some (.int x5))
    (ib:gIx (.lst [.int 150,.int 200]) (.int ((k:Int) % 2))=some (.int bw))
    (iw:gIx (.lst [.int 1,.int 2,.int 3,.int 4,.int 5,.int 6,.int 2,.int 3,.int 11,.int 40,.int bw]) (.int x6)=some (.int wd))
    (ia:gIx (.lst [.int 0,.int 0,.int 1,.int 2,.int 3,.int 12]) (.int x8)=some (.int am))
    (iN:gIx (.lst (Zbd.map D.str)) (.int ((x4+(2*x5+1)*(k:Int)) % 16))=some (.str nm))
    (w1:1<=wd/\wd<=200) (c7:0<=x7/\x7<40) (c3:0<=x3/\x3<4) (c5:0<=x5/\x5<4) (m1:0<=am/\am<=12) (sl:T.length<lim) :
    ∃wo:Int,(1<=wo/\wo<=1000)/\Zbc [d0,d1,d2,some (.lst (Zbd.map D.str)),some O,some (.int fl),some (.int gn),some (.lst T),some (.int k),o9,o10,o11,o12,o13] =
      .ok (.nx [d0,d1,d2,some (.lst (Zbd.map D.str)),some O,some (.int fl),some (.int gn),some (.lst (T++[.tup [.str nm,.int wd,.int (min (wo*gn) 1000000000000000000),.int (min (am*fl) 999999999999999999)]])),some (.int k),some (.int (3*(k:Int)+6)),some (.int wd),some (.int wo),some (.int (min (am*fl) 999999999999999999)),some (.str nm)]):=by
  obtain ⟨wo,hb,mid⟩:∃wo:Int,(1<=wo/\wo<=1000)/\∀Q:FS,(Xk (sIf (cE (f2 gEq (f2 gIx (fV 4) (fC (.int 3))) (fC (.int 1)))) (Xq 11 (f2 Yp (f2 Zab (fC (.int 3)) (fV 10)) (f2 Zfz (f2 gIx (fV 4) (f2 Yp (fV 9) (fC (.int 1)))) (fC (.int 4))))) sNx)
    (Xk (sIf (cE (f2 gEq (f2 gIx (fV 4) (fC (.int 3))) (fC (.int 2)))) (Xq 11 (f2 Yp (fC (.int 1)) (f2 Zfz (f2 gIx (fV 4) (f2 Yp (fV 9) (fC (.int 1)))) (fC (.int 3))))) sNx)
    (Xk (sIf (cE (f2 gEq (f2 gIx (fV 4) (fC (.int 3))) (fC (.int 3)))) (Xq 11 (f1 Yr (fV 10))) sNx) Q))) [d0,d1,d2,some (.lst (Zbd.map D.str)),some O,some (.int fl),some (.int gn),some (.lst T),some (.int k),some (.int (3*(k:Int)+6)),some (.int wd),some (.int (1+x7)),o12,o13] =
      Q [d0,d1,d2,some (.lst (Zbd.map D.str)),some O,some (.int fl),some (.int gn),some (.lst T),some (.int k),some (.int (3*(k:Int)+6)),some (.int wd),some (.int wo),o12,o13]:=by
    rcases four c3 with rfl | rfl | rfl | rfl;exact ⟨1+x7,⟨Gs c7.1,AL (HN (DR c7.2) 1) (by decide)⟩,fun Q=>Zn (Ys (Yt (Zm (Zm rfl rfl j3) rfl rfl)) rfl) (Zn (Ys (Yt (Zm (Zm rfl rfl j3) rfl rfl)) rfl) (Zn (Ys (Yt (Zm (Zm rfl rfl j3) rfl rfl)) rfl) rfl))⟩;exact ⟨3*wd+x7 % 4,⟨AL (show (1:Int)<=3*1+0 by decide) (JY (BV w1.1 (by decide)) (Zmp (by decide)).1),AL (JY (BV w1.2 (by decide)) (DR (Zmp (by decide)).2)) (by decide)⟩,fun Q=>Zn (Jt (Yt (Zm (Zm rfl rfl j3) rfl rfl)) (Zx (Zm (Zm rfl rfl (Zpz (by decide) (by decide))) (Zm (Zm rfl (Zm rfl rfl rfl) j1) rfl (Zay (by decide))) rfl))) (Zn (Ys (Yt (Zm (Zm rfl rfl j3) rfl rfl)) rfl) (Zn (Ys (Yt (Zm (Zm rfl rfl j3) rfl rfl)) rfl) rfl))⟩;exact ⟨1+x7 % 3,⟨Gs (Zmp (by decide)).1,AL (HN (DR (Zmp (by decide)).2) 1) (by decide)⟩,fun Q=>Zn (Ys (Yt (Zm (Zm rfl rfl j3) rfl rfl)) rfl) (Zn (Jt (Yt (Zm (Zm rfl rfl j3) rfl rfl)) (Zx (Zm rfl (Zm (Zm rfl (Zm rfl rfl rfl) j1) rfl (Zay (by decide))) rfl))) (Zn (Ys (Yt (Zm (Zm rfl rfl j3) rfl rfl)) rfl) rfl))⟩;exact ⟨wd,⟨w1.1,AL w1.2 (by decide)⟩,fun Q=>Zn (Ys (Yt (Zm (Zm rfl rfl j3) rfl rfl)) rfl) (Zn (Ys (Yt (Zm (Zm rfl rfl j3) rfl rfl)) rfl) (Zn (Jt (Yt (Zm (Zm rfl rfl j3) rfl rfl)) (Zx (Zfw rfl rfl))) rfl))⟩
  exact ⟨wo,hb,Zn (Zx (Zm (Zm rfl rfl (Zpz (by decide) (by decide))) rfl rfl)) (Zn (Zx (Zfw (Zm (Jd (Zd rfl (Zd rfl (Zd rfl (Zd rfl (Zd rfl (Zd rfl (Zd rfl (Zd rfl (Zd rfl (Zd rfl (Zd (Zm rfl (Zm rfl rfl (Zay (by decide))) ib) rfl))))))))))) rfl) (Zm rfl rfl j0) iw) rfl)) (Zn (Zx (Zm rfl (Zm rfl (Zm rfl rfl rfl) j1) rfl)) ((mid _).trans
    (Zn (Zx (Jd (Zd (Zm (Zm rfl (Zm rfl (Zm rfl rfl rfl) j2) ia) rfl (Zpz m1.1 (AL m1.2 (by decide)))) (Zd (Zm (Zm rfl rfl Zgg) rfl (show Zeu (.int 1000000000000000000) (.int 1)=some (.int 999999999999999999) from rfl)) rfl)) (Xhy _ _)))
    (Zn (Zx (Zfw (Zm rfl (Zm (Zm (Zm rfl rfl j4) (Zm (Zm (Zm rfl (Zm rfl rfl j5) (Zpz (by decide) (by decide))) rfl rfl) rfl (Zpz (Gu (EQ (by decide) c5.1) (by decide)) (AL (Hx (BV (DR c5.2) (by decide)) 1) (by decide)))) rfl) rfl (Zay (by decide))) iN) rfl))
    (Znl rfl (Jd (Zd (Zfw rfl rfl) (Zd (Zfw rfl rfl) (Zd (Jd (Zd (Zm rfl rfl (Zpz (AL (by decide) hb.1) (AL hb.2 (by decide)))) (Zd (Zm rfl rfl Zgg) rfl)) (Xhy _ _)) (Zd (Zfw rfl rfl) rfl)))) rfl) sl))))))⟩
theorem under {x:Int}(h:k<x.toNat)(hx:x<m+1):k<m.toNat:=by omega
theorem Xfg {b:Int}(h:∀z∈l,P z)(hb:P b):∀z∈l++[b],P z:=Er.mpr ⟨h,fun _ hz=>Aj.mp hz▸hb⟩
theorem Xqn {j m:Nat}(h:k<m)(hj:j<3):3*k+(j+6)<6+m*3:=by omega
theorem Xet (ns:List Int)(hn:ns.length<=63)(h0:0<=i)(h1:i<1000)(m0:0<=m)(m1:m<=8):∃ks,Jq [.scr ns,.int i,.int m]=.ok (tD ks)/\(ks.length:Int)<=m/\Xtq ks:=by
  have m8:m.toNat<=8:=Ky.mpr m1;have m24:6+m.toNat*3<=30:=Nat.add_le_add_left (Nat.mul_le_mul_right 3 m8) 6;have ms_eq:Yp (iD [m+1,4,4,4,16,4]) (iD (Ab m.toNat [11,40,6]).flatten)=some (iD ([m+1,4,4,4,16,4]++(Ab m.toNat [11,40,6]).flatten)):=Zkc (by
    rw [Zhp];exact Az m24 (by decide))
  have mr:=Zki (ws:=[11,40,6]) m0 (AL m1 (by decide)) (by decide);have hml:([m+1,4,4,4,16,4]++(Ab m.toNat [(11:Int),40,6]).flatten).length=6+m.toNat*3:=by rw [Ak,Zhp];rfl
  obtain ⟨os,hos,R⟩:=Zjb ns hn h0 h1 ([m+1,4,4,4,16,4]++(Ab m.toNat [11,40,6]).flatten) (by rw [hml];exact Az m24 (by decide)) (Zpk (Er.mpr ⟨AN.mpr ⟨⟨Int.lt_add_one_of_le m0,AL (Hx m1 1) (by decide)⟩,by decide⟩,fun z hz=>(by decide:∀z∈[(11:Int),40,6],0<z/\z<=1000000) z (Xas hz)⟩));have hol:os.length=6+m.toNat*3:=by rw [R.len,hml]
  have hlt:∀{j:Nat},j<6->j<([m+1,4,4,4,16,4]++(Ab m.toNat [(11:Int),40,6]).flatten).length:=fun h=>by rw [hml];exact AC h (Dj _ _)
  have hlo:∀{j:Nat},j<6->j<os.length:=fun h=>by rw [hol];exact AC h (Dj _ _)
  have tri:∀k j:Nat,k<m.toNat->j<3->3*k+(j+6)<6+m.toNat*3:=fun _ _ h hj=>Xqn h hj;have a0:0<=os.getD 0 0/\os.getD 0 0<m+1:=R.at_ 0 (hlt (by decide));have a1:0<=os.getD 1 0/\os.getD 1 0<4:=R.at_ 1 (hlt (by decide));have a2:0<=os.getD 2 0/\os.getD 2 0<4:=R.at_ 2 (hlt (by decide));have a3:0<=os.getD 3 0/\os.getD 3 0<4:=R.at_ 3 (hlt (by decide));have a4:0<=os.getD 4 0/\os.getD 4 0<16:=R.at_ 4 (hlt (by decide));have a5:0<=os.getD 5 0/\os.getD 5 0<4:=R.at_ 5 (hlt (by decide));have b3:∀k:Nat,k<m.toNat->(0<=os.getD (3*k+6) 0/\os.getD (3*k+6) 0<11)/\(0<=os.getD (3*k+7) 0/\os.getD (3*k+7) 0<40)/\(0<=os.getD (3*k+8) 0/\os.getD (3*k+8) 0<6):=fun k hk=>by obtain ⟨g1,g2,g3⟩:=Zrp 11 40 6 m.toNat k hk;have e:∀j:Nat,([m+1,4,4,4,16,4]++(Ab m.toNat [(11:Int),40,6]).flatten).getD (j+6) 0=(Ab m.toNat [(11:Int),40,6]).flatten.getD j 0:=fun j=>rfl;have r1:=R.at_ (3*k+6) (by rw [hml];exact tri k 0 hk (by decide));have r2:=R.at_ (3*k+7) (by rw [hml];exact tri k 1 hk (by decide));have r3:=R.at_ (3*k+8) (by rw [hml];exact tri k 2 hk (by decide));rw [e (3*k),g1] at r1;rw [show 3*k+7=(3*k+1)+6 from rfl,e (3*k+1),g2] at r2;rw [show 3*k+8=(3*k+2)+6 from rfl,e (3*k+2),g3] at r3;exact ⟨r1,r2,r3⟩
  have ix:∀k:Nat,k<os.length->∀j:Int,j=(k:Int)->gIx (.lst (os.map D.int)) (.int j)=some (.int (os.getD k 0)):=fun k hk j e=>Zcl e hk;obtain ⟨fl,hfl⟩:∃fl,fl=([1,1,7,100000000000000000]:List Int).getD (os.getD 1 0).toNat 0:=⟨_,rfl⟩;obtain ⟨gn,hgn⟩:∃gn,gn=([1,1,1000000,25000000000000000]:List Int).getD (os.getD 2 0).toNat 0:=⟨_,rfl⟩;have fl1:1<=fl/\fl<=100000000000000000:=by rw [hfl];exact Zaz (P:=fun z=>1<=z/\z<=100000000000000000) (by decide) (show _<4 from (DP a1.1).mpr a1.2)
  have gn1:1<=gn/\gn<=25000000000000000:=by rw [hgn];exact Zaz (P:=fun z=>1<=z/\z<=25000000000000000) (by decide) (show _<4 from (DP a2.1).mpr a2.2)
  have i1:gIx (.lst [.int 1,.int 1,.int 7,.int 100000000000000000]) (.int (os.getD 1 0))=some (.int fl):=by rw [hfl];exact Zfv [1,1,7,100000000000000000] a1.1 a1.2
  have i2:gIx (.lst [.int 1,.int 1,.int 1000000,.int 25000000000000000]) (.int (os.getD 2 0))=some (.int gn):=by rw [hgn];exact Zfv [1,1,1000000,25000000000000000] a2.1 a2.2
  have key:=Zdy (b:=Zt 8) (s:=Zbc) (xs:=Zgb 0 (os.getD 0 0).toNat) (ρ:=[some (.scr ns),some (.int i),some (.int m),some (.lst (Zbd.map D.str)),some (iD os),some (.int fl),some (.int gn),some (.lst []),none,none,none,none,none,none])
    (P:=fun k ρ=>∃(ks:List Kd) (o8 o9 o10 o11 o12 o13:Option D),ks.length=k/\(∀x∈ks,Zrm x)/\ks.map (·.name)=(A5 k).map (nameAt (os.getD 4 0) (os.getD 5 0))/\ρ=[some (.scr ns),some (.int i),some (.int m),some (.lst (Zbd.map D.str)),some (iD os),some (.int fl),some (.int gn),some (tD ks),o8,o9,o10,o11,o12,o13])
    (Rr:=fun r=>∃(ks:List Kd) (o8 o9 o10 o11 o12 o13:Option D),ks.length=(os.getD 0 0).toNat/\(∀x∈ks,Zrm x)/\ks.map (·.name)=(A5 ks.length).map (nameAt (os.getD 4 0) (os.getD 5 0))/\r=.ok (.nx [some (.scr ns),some (.int i),some (.int m),some (.lst (Zbd.map D.str)),some (iD os),some (.int fl),some (.int gn),some (tD ks),o8,o9,o10,o11,o12,o13]))
    ⟨[],none,none,none,none,none,none,rfl,(fun _ h=>nomatch h),rfl,rfl⟩ ?_ ?_
  · obtain ⟨ks,o8,o9,o10,o11,o12,o13,kl,kok,knm,e⟩:=key;have k8:ks.length<=8:=by rw [kl];exact Ky.mpr (AL (Fh.mp a0.2) m1)
    refine ⟨ks,?_,by rw [kl,B4 a0.1];exact Fh.mp a0.2,kok,?_⟩
    · have b1:-1000000000<=os.getD 0 0/\os.getD 0 0<=1000000:=⟨AL (by decide) a0.1,AL (Fh.mp a0.2) (AL m1 (by decide))⟩;have hp:Yp (.lst [.str ("a":Str),.str ("ab":Str),.str ("abc":Str),.str ("b":Str),.str ("ba":Str),.str ("z":Str),.str ("zzzzzzzz":Str),.str ("roll":Str),.str ("cut":Str),.str ("by":Str)]) (.lst [.str ("aab":Str),.str ("zz":Str),.str ("kind":Str),.str ("qsvw":Str),.str ("fghjmp":Str),.str ("x":Str)])=some (.lst (Zbd.map D.str)):=rfl;have mr':Zab (.lst [.int 11,.int 40,.int 6]) (.int m)=_:=mr;have ms':Yp (.lst [.int (m+1),.int 4,.int 4,.int 4,.int 16,.int 4]) (iD (Ab m.toNat [11,40,6]).flatten)=_:=ms_eq;generalize iD ([m+1,4,4,4,16,4]++(Ab m.toNat [11,40,6]).flatten)=Mv at hos ms';generalize iD (Ab m.toNat [11,40,6]).flatten=Mw at mr' ms';exact Jy (Zn (Zx rfl) (Zn (Zx (Zm rfl rfl hp)) (Zn (Zx (Xs (Zd rfl (Zd rfl (Zd (Zm (Jd (Zd (Zm rfl rfl rfl) rfl) rfl) (Zm rfl rfl mr') ms') rfl))) hos))
        (Zn (Zx (Zfw (Zm (Jd (Zd rfl (Zd rfl (Zd rfl (Zd (Zm rfl rfl Zsx) rfl)))) rfl) (Zm rfl rfl (ix 1 (hlo (by decide)) 1 rfl)) i1) rfl))
        (Zn (Zx (Zfw (Zm (Jd (Zd rfl (Zd rfl (Zd (Zm rfl rfl (show Ziq (.int 10) (.int 6)=some (.int 1000000) by simp)) (Zd (Zm rfl (Zm rfl rfl Xek) (show Zab (.int 25) (.int 1000000000000000)=some (.int 25000000000000000) from Zpz (by decide) (by decide))) rfl)))) rfl) (Zm rfl rfl (ix 2 (hlo (by decide)) 2 rfl)) i2) rfl))
        (Zn (Zx rfl) (Zn (Zbi (Zpf (Zd (Zm rfl rfl (ix 0 (hlo (by decide)) 0 rfl)) rfl) b1) e) (Zaf rfl))))))))
    rw [knm,Gh,D7];refine CP ?_ (Gh.mp List.nodup_range);intro i j hi hj hij e;have hi:=Bs.mp hi;have hj:=Bs.mp hj;exact hij (Zud a5.1 a5.2 (AC hi (Az k8 (by decide))) (AC hj (Az k8 (by decide))) e)
  rintro k x ρ hx ⟨ks,o8,o9,o10,o11,o12,o13,kl,kok,knm,rfl⟩;obtain ⟨hk,rfl⟩:=Zpa hx;rw [Fp];have hkm:k<m.toNat:=under hk a0.2;obtain ⟨c1,c2,c3⟩:=b3 k hkm;have j0:=ix (3*k+6) (by rw [hol];exact tri k 0 hkm (by decide)) (3*k+6) rfl;have j1:=ix (3*k+7) (by rw [hol];exact tri k 1 hkm (by decide)) (3*k+6+1) (GK _ 6 1);have j2:=ix (3*k+8) (by rw [hol];exact tri k 2 hkm (by decide)) (3*k+6+2) (GK _ 6 2);have j3:=ix 3 (hlo (by decide)) 3 rfl;have j4:=ix 4 (hlo (by decide)) 4 rfl;have j5:=ix 5 (hlo (by decide)) 5 rfl;obtain ⟨bw,hbw⟩:∃bw,bw=([150,200]:List Int).getD ((k:Int) % 2).toNat 0:=⟨_,rfl⟩;have k2:0<=(k:Int) % 2/\(k:Int) % 2<2:=⟨CI _ (by decide),CB _ (by decide)⟩;have bw1:1<=bw/\bw<=200:=by rw [hbw];exact Zaz (P:=fun z=>1<=z/\z<=200) (by decide) (show _<2 from (DP k2.1).mpr k2.2)
  have ib:gIx (.lst [.int 150,.int 200]) (.int ((k:Int) % 2))=some (.int bw):=by rw [hbw];exact Zfv [150,200] k2.1 k2.2
  obtain ⟨wd,hwd⟩:∃wd,wd=([1,2,3,4,5,6,2,3,11,40,bw]:List Int).getD (os.getD (3*k+6) 0).toNat 0:=⟨_,rfl⟩;have wd1:1<=wd/\wd<=200:=by rw [hwd];exact Zaz (P:=fun z=>1<=z/\z<=200) (Xfg (l:=[1,2,3,4,5,6,2,3,11,40]) (by decide) bw1) (show _<11 from (DP c1.1).mpr c1.2)
  have iw:gIx (.lst [.int 1,.int 2,.int 3,.int 4,.int 5,.int 6,.int 2,.int 3,.int 11,.int 40,.int bw]) (.int (os.getD (3*k+6) 0))=some (.int wd):=by rw [hwd];exact Zfv [1,2,3,4,5,6,2,3,11,40,bw] c1.1 c1.2
  obtain ⟨am,ham⟩:∃am,am=([0,0,1,2,3,12]:List Int).getD (os.getD (3*k+8) 0).toNat 0:=⟨_,rfl⟩;have am1:0<=am/\am<=12:=by rw [ham];exact Zaz (P:=fun z=>0<=z/\z<=12) (by decide) (show _<6 from (DP c3.1).mpr c3.2)
  have ia:gIx (.lst [.int 0,.int 0,.int 1,.int 2,.int 3,.int 12]) (.int (os.getD (3*k+8) 0))=some (.int am):=by rw [ham];exact Zfv [0,0,1,2,3,12] c3.1 c3.2
  have iN:=Xmy (i:=(os.getD 4 0+(2*os.getD 5 0+1)*(k:Int)) % 16) (CI _ (by decide)) (CB _ (by decide));have sl:(ks.map kD).length<lim:=by rw [Ah,kl];exact AC hkm (Az m8 (by decide))
  obtain ⟨wo,wo1,turn⟩:=Xda (d0:=some (.scr ns)) (d1:=some (.int i)) (d2:=some (.int m)) (o9:=o9) (o10:=o10) (o11:=o11) (o12:=o12) (o13:=o13) (fl:=fl) (gn:=gn) j0 j1 j2 j3 j4 j5 ib iw ia iN wd1 c2 a3 a5 am1 sl;have pr:0<=am*fl:=EQ am1.1 (AL (by decide) fl1.1);have wg:1<=wo*gn:=JV wo1.1 gn1.1 (by decide) (AL (by decide) wo1.1);have kd:Zrm ⟨nameAt (os.getD 4 0) (os.getD 5 0) k,wd,min (wo*gn) 1000000000000000000,min (am*fl) 999999999999999999⟩:=⟨Ztq _ _ _,wd1.1,wd1.2,Ie.mpr ⟨wg,by decide⟩,IH _ _,Ie.mpr ⟨pr,by decide⟩,Ic (IH _ _) (by decide)⟩;refine ⟨_,rfl,.inl ⟨[some (.scr ns),some (.int i),some (.int m),some (.lst (Zbd.map D.str)),some (iD os),some (.int fl),some (.int gn),some (tD (ks++[⟨nameAt (os.getD 4 0) (os.getD 5 0) k,wd,min (wo*gn) 1000000000000000000,min (am*fl) 999999999999999999⟩])),some (.int k),some (.int (3*k+6)),some (.int wd),some (.int wo),some (.int (min (am*fl) 999999999999999999)),some (.str (nameAt (os.getD 4 0) (os.getD 5 0) k))],.inl ?_,_,_,_,_,_,_,_,?_,?_,?_,rfl⟩⟩;rw [show tD (ks++[⟨nameAt (os.getD 4 0) (os.getD 5 0) k,wd,min (wo*gn) 1000000000000000000,min (am*fl) 999999999999999999⟩])=.lst (ks.map kD++[.tup [.str (nameAt (os.getD 4 0) (os.getD 5 0) k),.int wd,.int (min (wo*gn) 1000000000000000000),.int (min (am*fl) 999999999999999999)]]) from congrArg D.lst AU];exact turn;rw [Ak,kl];rfl;intro x hx;rcases Ao.mp hx with h | h;exact kok x h;rw [Aj.mp h];exact kd;rw [AU,knm,FN,AU];rfl;rintro ρ ⟨ks,o8,o9,o10,o11,o12,o13,kl,kok,knm,rfl⟩;rw [Zbq] at kl;exact ⟨ks,o8,o9,o10,o11,o12,o13,kl,kok,by rw [kl];rw [Zbq] at knm;exact knm,rfl⟩
theorem Xjk (ns:List Int)(hn:ns.length<=63)(h0:0<=i)(h1:i<1000)(m0:0<=m)(m1:m<=1000):∃fl:Int,Zat [.scr ns,.int i,.int m]=.ok (.int fl)/\1<=fl/\fl<=100000000000000000:=by
 obtain ⟨os,hos,R⟩:=Zjb ns hn h0 h1 [m+1,4] (by decide:2<=1000) (Zpk (AN.mpr ⟨⟨by omega,by omega⟩,by decide⟩));have hol:os.length=2:=R.len;have a1:0<=os.getD 1 0/\os.getD 1 0<4:=R.at_ 1 (by decide:1<2);obtain ⟨fl,hfl⟩:∃fl,fl=([1,1,7,100000000000000000]:List Int).getD (os.getD 1 0).toNat 0:=⟨_,rfl⟩;have fl1:1<=fl/\fl<=100000000000000000:=by rw [hfl];exact Zaz (P:=fun z=>1<=z/\z<=100000000000000000) (by decide) (show _<4 from (DP a1.1).mpr a1.2)
 have i1:gIx (.lst [.int 1,.int 1,.int 7,.int 100000000000000000]) (.int (os.getD 1 0))=some (.int fl):=by rw [hfl];exact Zfv [1,1,7,100000000000000000] a1.1 a1.2
 have i0:=Zcl (ns:=os) (i:=1) (k:=1) rfl (by rw [hol];decide);exact ⟨fl,Jy (Zaf (Zfw (Zm (Jd (Zd rfl (Zd rfl (Zd rfl (Zd (Zm rfl rfl Zsx) rfl)))) rfl) (Zm (Xs (Zd rfl (Zd rfl (Zd (Jd (Zd (Zm rfl rfl rfl) rfl) rfl) rfl))) hos) rfl i0) i1) rfl)),fl1⟩
theorem Xnq (ns:List Int)(hn:ns.length<=63)(h0:0<=i)(h1:i<1000)(m0:0<=m)(m1:m<=200)(f0:1<=fl)(f1:fl<=100000000000000000):∃ws,Jg [.scr ns,.int i,.int m,.int fl]=.ok (iD ws)/\(ws.length:Int)<=m/\∀w∈ws,0<=w/\w<=1000000000000000000:=by
  have ms_eq:Yp (iD [m+1,4,3]) (iD (Ab m.toNat [8,5]).flatten)=some (iD ([m+1,4,3]++(Ab m.toNat [8,5]).flatten)):=Zkc (by
    rw [Zhp];show 3+m.toNat*2<=1000000;omega)
  have mr:=Zki (ws:=[8,5]) m0 (show m<=200 by omega) (by decide);have hml:([m+1,4,3]++(Ab m.toNat [(8:Int),5]).flatten).length=3+m.toNat*2:=by rw [Ak,Zhp];rfl
  obtain ⟨os,hos,R⟩:=Zjb ns hn h0 h1 ([m+1,4,3]++(Ab m.toNat [8,5]).flatten) (by omega) (Zpk (Er.mpr ⟨AN.mpr ⟨⟨by omega,by omega⟩,by decide⟩,fun z hz=>(by decide:∀z∈[(8:Int),5],0<z/\z<=1000000) z (Xas hz)⟩));have hol:os.length=3+m.toNat*2:=by rw [R.len,hml]
  have hlt:∀{j:Nat},j<3->j<([m+1,4,3]++(Ab m.toNat [(8:Int),5]).flatten).length:=fun h=>by rw [hml];exact AC h (Dj _ _)
  have hlo:∀{j:Nat},j<3->j<os.length:=fun h=>by rw [hol];exact AC h (Dj _ _)
  have tri:∀k j:Nat,k<m.toNat->j<2->2*k+(j+3)<3+m.toNat*2:=fun k j h hj=>by omega
  have a0:0<=os.getD 0 0/\os.getD 0 0<m+1:=R.at_ 0 (hlt (by decide));have a1:0<=os.getD 1 0/\os.getD 1 0<4:=R.at_ 1 (hlt (by decide));have a2:0<=os.getD 2 0/\os.getD 2 0<3:=R.at_ 2 (hlt (by decide));have b2:∀k:Nat,k<m.toNat->(0<=os.getD (2*k+3) 0/\os.getD (2*k+3) 0<8)/\(0<=os.getD (2*k+4) 0/\os.getD (2*k+4) 0<5):=fun k hk=>by obtain ⟨g1,g2⟩:=Zqq 8 5 m.toNat k hk;have e:∀j:Nat,([m+1,4,3]++(Ab m.toNat [(8:Int),5]).flatten).getD (j+3) 0=(Ab m.toNat [(8:Int),5]).flatten.getD j 0:=fun j=>rfl;have r1:=R.at_ (2*k+3) (by rw [hml];exact tri k 0 hk (by decide));have r2:=R.at_ (2*k+4) (by rw [hml];exact tri k 1 hk (by decide));rw [e (2*k),g1] at r1;rw [show 2*k+4=(2*k+1)+3 from rfl,e (2*k+1),g2] at r2;exact ⟨r1,r2⟩
  have ix:∀k:Nat,k<os.length->∀j:Int,j=(k:Int)->gIx (.lst (os.map D.int)) (.int j)=some (.int (os.getD k 0)):=fun k hk j e=>Zcl e hk;obtain ⟨gr,hgr,gr1⟩:∃gr:Int,gr=(if os.getD 2 0=0 then 1000000000000000000 else 9*fl)/\0<=gr/\gr<=1000000000000000000:=by refine ⟨_,rfl,?_⟩;split;exact ⟨by decide,by decide⟩;exact ⟨EQ (by decide) (AL (by decide) f0),AL (BV f1 (by decide)) (by decide)⟩
  obtain ⟨th,hth⟩:∃th,th=([0,1,3,6]:List Int).getD (os.getD 1 0).toNat 0:=⟨_,rfl⟩;have ith:gIx (.lst [.int 0,.int 1,.int 3,.int 6]) (.int (os.getD 1 0))=some (.int th):=by rw [hth];exact Zfv [0,1,3,6] a1.1 a1.2
  have key:=Zdy (b:=Zt 7) (s:=Zek) (xs:=Zgb 0 (os.getD 0 0).toNat) (ρ:=[some (.scr ns),some (.int i),some (.int m),some (.int fl),some (iD os),some (.int gr),some (.lst []),none,none,none])
    (P:=fun k ρ=>∃(ws:List Int) (o7 o8 o9:Option D),ws.length=k/\(∀x∈ws,0<=x/\x<=1000000000000000000)/\ρ=[some (.scr ns),some (.int i),some (.int m),some (.int fl),some (iD os),some (.int gr),some (iD ws),o7,o8,o9])
    (Rr:=fun r=>∃(ws:List Int) (o7 o8 o9:Option D),ws.length=(os.getD 0 0).toNat/\(∀x∈ws,0<=x/\x<=1000000000000000000)/\r=.ok (.nx [some (.scr ns),some (.int i),some (.int m),some (.int fl),some (iD os),some (.int gr),some (iD ws),o7,o8,o9]))
    ⟨[],none,none,none,rfl,(fun _ h=>nomatch h),rfl⟩ ?_ ?_
  obtain ⟨ws,o7,o8,o9,wl,wok,e⟩:=key;refine ⟨ws,?_,by omega,wok⟩;have b1:-1000000000<=os.getD 0 0/\os.getD 0 0<=1000000:=by omega
  have mr':Zab (.lst [.int 8,.int 5]) (.int m)=_:=mr;have ms':Yp (.lst [.int (m+1),.int 4,.int 3]) (iD (Ab m.toNat [8,5]).flatten)=_:=ms_eq;generalize iD ([m+1,4,3]++(Ab m.toNat [8,5]).flatten)=Mv at hos ms';generalize iD (Ab m.toNat [8,5]).flatten=Mw at mr' ms';have t1:Zab (.int 9) (.int fl)=some (.int (9*fl)):=Zpz (by decide) (by decide);have body:∀Q r,Q [some (.scr ns),some (.int i),some (.int m),some (.int fl),some (iD os),some (.int gr),none,none,none,none]=r->(Xk (Xq 5 (f2 Zab (fC (.int 9)) (fV 3))) (Xk (sIf (cE (f2 gEq (f2 gIx (fV 4) (fC (.int 2))) (fC (.int 0)))) (Xq 5 (f2 Ziq (fC (.int 10)) (fC (.int 18)))) sNx) Q)) [some (.scr ns),some (.int i),some (.int m),some (.int fl),some (iD os),none,none,none,none,none]=r:=fun Q r h=>by have c:∀z:Option D,(cE (f2 gEq (f2 gIx (fV 4) (fC (.int 2))) (fC (.int 0)))) [some (.scr ns),some (.int i),some (.int m),some (.int fl),some (iD os),z,none,none,none,none]=.ok (os.getD 2 0==0):=fun z=>Yt (Zm (Zm rfl rfl (ix 2 (hlo (by decide)) 2 rfl)) rfl rfl);by_cases d:os.getD 2 0=0;rw [if_pos d] at hgr;exact Zn (Zx (Zm rfl rfl t1)) (Zn (Jt ((c _).trans (by rw [d];rfl)) (Zx (Zm rfl rfl Zgg))) (by rw [hgr] at h;exact h));rw [if_neg d] at hgr;exact Zn (Zx (Zm rfl rfl t1)) (Zn (Ys ((c _).trans (congrArg Dl.R.ok (beq_false_of_ne d))) rfl) (by rw [hgr] at h;exact h))
  exact Jy (Zn (Zx (Xs (Zd rfl (Zd rfl (Zd (Zm (Jd (Zd (Zm rfl rfl rfl) rfl) rfl) (Zm rfl rfl mr') ms') rfl))) hos)) (body _ _ (Zn (Zx rfl) (Zn (Zbi (Zpf (Zd (Zm rfl rfl (ix 0 (hlo (by decide)) 0 rfl)) rfl) b1) e) (Zaf rfl)))));rintro k x ρ hx ⟨ws,o7,o8,o9,wl,wok,rfl⟩;obtain ⟨hk,rfl⟩:=Zpa hx;rw [Fp];have hkm:k<m.toNat:=under hk a0.2;obtain ⟨c1,c2⟩:=b2 k hkm;have j0:=ix (2*k+3) (by rw [hol];exact tri k 0 hkm (by decide)) (2*k+3) rfl;have j1:=ix (2*k+4) (by rw [hol];exact tri k 1 hkm (by decide)) (2*k+3+1) (GK _ 3 1);have jj:=ix 1 (hlo (by decide)) 1 rfl;have sl:ws.length<lim:=by show _<1000000;omega
  obtain ⟨wt,hwt⟩:∃wt,wt=([fl,fl,2*fl,3*fl,gr]:List Int).getD (os.getD (2*k+4) 0).toNat 0:=⟨_,rfl⟩;have wt1:0<=wt/\wt<=1000000000000000000:=by rw [hwt];have g:∀n:Int,1<=n->n<=3->0<=n*fl/\n*fl<=1000000000000000000:=fun n n0 n1=>⟨EQ (AL (by decide) n0) (AL (by decide) f0),AL (JV n1 f1 (AL (by decide) f0) (by decide)) (by decide)⟩;have g1:0<=fl/\fl<=1000000000000000000:=⟨AL (by decide) f0,AL f1 (by decide)⟩;exact Zaz (P:=fun z=>0<=z/\z<=1000000000000000000) (AN.mpr ⟨g1,AN.mpr ⟨g1,AN.mpr ⟨g 2 (by decide) (by decide),AN.mpr ⟨g 3 (by decide) (by decide),AN.mpr ⟨gr1,fun _ h=>nomatch h⟩⟩⟩⟩⟩) (show _<5 from (DP c2.1).mpr c2.2)
  have iw:gIx (.lst [.int fl,.int fl,.int (2*fl),.int (3*fl),.int gr]) (.int (os.getD (2*k+4) 0))=some (.int wt):=by rw [hwt];exact Zfv [fl,fl,2*fl,3*fl,gr] c2.1 c2.2
  have t1:Zab (.int 2) (.int fl)=some (.int (2*fl)):=Zpz (by decide) (by decide);have t2:Zab (.int 3) (.int fl)=some (.int (3*fl)):=Zpz (by decide) (by decide);have t3:Zab (.int 2) (.int (k:Int))=some (.int (2*k)):=Zpz (by decide) (by decide);have c:(cE (f2 gLt (f2 gIx (fV 4) (fV 8)) (f2 gIx (fA Yz (Ze (fC (.int 0)) (Ze (fC (.int 1)) (Ze (fC (.int 3)) (Ze (fC (.int 6)) Zy))))) (f2 gIx (fV 4) (fC (.int 1)))))) [some (.scr ns),some (.int i),some (.int m),some (.int fl),some (iD os),some (.int gr),some (iD ws),some (.int k),some (.int (2*k+3)),some (.int 0)]=.ok (decide (os.getD (2*k+3) 0<th)):=Yt (Zm (Zm rfl rfl j0) (Zm rfl (Zm rfl rfl jj) ith) (by simp));have sl':(ws.map D.int).length<lim:=by rw [Ah];exact sl
  have all:∀z:Int,0<=z/\z<=1000000000000000000->∀x∈ws++[z],0<=x/\x<=1000000000000000000:=fun z hz x hx=>by rcases Ao.mp hx with h | h;exact wok x h;rw [Aj.mp h];exact hz
  refine ⟨_,rfl,.inl ?_⟩;by_cases d:os.getD (2*k+3) 0<th;refine ⟨[some (.scr ns),some (.int i),some (.int m),some (.int fl),some (iD os),some (.int gr),some (iD (ws++[wt])),some (.int k),some (.int (2*k+3)),some (.int wt)],.inl ?_,_,_,_,_,by rw [Ak,wl];rfl,all wt wt1,rfl⟩;rw [show iD (ws++[wt])=.lst (ws.map D.int++[.int wt]) from congrArg D.lst AU];exact Zn (Zx (Zm (Zm rfl rfl t3) rfl rfl)) (Zn (Zx rfl) (Zn (Jt (c.trans (congrArg Dl.R.ok (decide_eq_true d))) (Zx (Zfw (Zm (Jd (Zd rfl (Zd rfl (Zd (Zm rfl rfl t1) (Zd (Zm rfl rfl t2) rfl)))) rfl) (Zm rfl (Zm rfl rfl rfl) j1) iw) rfl))) (Znl rfl (Zfw rfl rfl) sl')));refine ⟨[some (.scr ns),some (.int i),some (.int m),some (.int fl),some (iD os),some (.int gr),some (iD (ws++[0])),some (.int k),some (.int (2*k+3)),some (.int 0)],.inl ?_,_,_,_,_,by rw [Ak,wl];rfl,all 0 ⟨by decide,by decide⟩,rfl⟩;rw [show iD (ws++[0])=.lst (ws.map D.int++[.int 0]) from congrArg D.lst AU];exact Zn (Zx (Zm (Zm rfl rfl t3) rfl rfl)) (Zn (Zx rfl) (Zn (Ys (c.trans (congrArg Dl.R.ok (decide_eq_false d))) rfl) (Znl rfl (Zfw rfl rfl) sl')));rintro ρ ⟨ws,o7,o8,o9,wl,wok,rfl⟩;rw [Zbq] at wl;exact ⟨ws,o7,o8,o9,wl,wok,rfl⟩
end Dl
namespace Dl
def S:Nat->(Nat->Int)->Int
 | 0,_=>0
 | n+1,f=>S n f+f n
def pth (e:Nat->Nat->Int)(a:Nat):Nat->List Int
 | 0=>[1]
 | d+1=>pth e a d++[S (d+1) fun i=>e (a+i) (a+d+1)*(pth e a d).getD i 0]
def W (e:Nat->Nat->Int)(a d:Nat):Int:=(pth e a d).getD d 0
end Dl
namespace Dl
open PySem
variable {ns ws r:List Int}{ks:List Kd}{α:Type}{n m e j x i u N lm:Nat}{k b l c o os:List Nat}{ρ ρ':Env}{a:FE}{cs ca cr cl cc:List (List Nat)}{ps ps':List (Int×Str)}{rs ss:List (List Int)}{pl pl':List (List (Int×Str))}{S':List Nat->Prop}{W':List Nat->D->Prop}{xs ds xa xr Rs xl xc:List D}{v d d':D}{s:FS}{ys:List (List Int×List Nat)}{q:List (Int ⊕ Str)}{G:List D->R (D×D)}{p:R (D×Env)}{d0 d1 d4:Option D}{Pr':List Nat->List Nat->Prop}
def Xjh (ns:List Int)(ks:List Kd)(cs:List Int):Int:=cs.getD (cs.length - 1) 0+((ks.filter fun k=>good ns k ((cs.length:Int) - k.w)).map fun k=>cs.getD ((cs.length:Int) - k.w).toNat 0).sum
def cnts (ns:List Int)(ks:List Kd):Nat->List Int
 | 0=>[1]
 | j+1=>cnts ns ks j++[Xjh ns ks (cnts ns ks j)]
def cnt (ns:List Int)(ks:List Kd)(j:Nat):Int:=(cnts ns ks j).getD j 0
abbrev Cut:=List (Int×Str)×Int
def addK (ns:List Int)(rows:List (List Cut))(e:Nat)(k:Kd):List Cut:=if good ns k ((e:Int) - k.w)=true then (rows.getD ((e:Int) - k.w).toNat []).map fun c=>(c.1++[((e:Int) - k.w,k.name)],c.2+k.wo) else []
def rowOf (ns:List Int)(ks:List Kd)(rows:List (List Cut)):List Cut:=rows.getD (rows.length - 1) []++(ks.map (addK ns rows rows.length)).flatten
def Xqd (ns:List Int)(ks:List Kd):Nat->List (List Cut)
 | 0=>[[([],0)]]
 | j+1=>Xqd ns ks j++[rowOf ns ks (Xqd ns ks j)]
def hStep (ns:List Int)(ks:List Kd)(ts:List Int):Int:=maxL (ts.getD (ts.length - 1) 0::(ks.filter fun k=>good ns k ((ts.length:Int) - k.w)).map fun k=>ts.getD ((ts.length:Int) - k.w).toNat 0+k.wo)
def hts (ns:List Int)(ks:List Kd):Nat->List Int
 | 0=>[0]
 | j+1=>hts ns ks j++[hStep ns ks (hts ns ks j)]
def ht (ns:List Int)(ks:List Kd)(j:Nat):Int:=(hts ns ks j).getD j 0
theorem eq_str (a b:Str):gEq (.str a) (.str b)=some (.bl (a==b)):=rfl
theorem eq_int (a b:Int):gEq (.int a) (.int b)=some (.bl (a==b)):=rfl
inductive Way (ns:List Int)(ks:List Kd):Nat->Nat->Int->Prop where
 | nil (a:Nat):Way ns ks a a 0
 | skip {a b:Nat} {w:Int}:Way ns ks a b w->b+1<=ns.length->Way ns ks a (b+1) w
 | piece {a b:Nat} {w:Int} {k:Kd}:Way ns ks a b w->k∈ks->good ns k (b:Int)=true->Way ns ks a (b+k.w.toNat) (w+k.wo)
def V {α:Type}:R α->(α->Prop)->Prop
 | .ok a,Q=>Q a
 | .err _ _,_=>False
 | .bad,_=>False
@[simp] theorem V_ok (a:α)(Q:α->Prop):V (.ok a) Q=Q a:=(rfl)
def turn (b:FB)(s:FS)(x:D)(ρ:Env):R Fl:=(b x ρ).calm.bind s
def Tn (P:Env->Prop)(Q:Fl->Prop):Fl->Prop
 | .nx ρ=>P ρ
 | .cnt ρ=>P ρ
 | .brk ρ=>Q (.nx ρ)
 | .ret d=>Q (.ret d)
@[simp] theorem Tn_nx (P:Env->Prop)(Q:Fl->Prop)(ρ:Env):Tn P Q (.nx ρ)=P ρ:=(rfl)
@[simp] theorem Tn_cnt (P:Env->Prop)(Q:Fl->Prop)(ρ:Env):Tn P Q (.cnt ρ)=P ρ:=(rfl)
@[simp] theorem Tn_brk (P:Env->Prop)(Q:Fl->Prop)(ρ:Env):Tn P Q (.brk ρ)=Q (.nx ρ):=(rfl)
@[simp] theorem Tn_ret (P:Env->Prop)(Q:Fl->Prop)(d:D):Tn P Q (.ret d)=Q (.ret d):=(rfl)
@[simp] theorem Xre (i:Nat)(s:FS)(x:D)(ρ:Env):turn (Zt i) s x ρ=s (ρ.set i (some x)):=(rfl)
@[simp] theorem ev_fJoin (a b:FE)(ρ:Env):fJoin a b ρ=(a ρ).bind fun x=>match x with | .str s=>(b ρ).bind fun y=>oR (Xqk (.str s) y) | _=>.bad:=(rfl)
@[simp] theorem calm_bad :(R.bad:R α).calm=.bad:=(rfl)
@[simp] theorem gLst_7 (a0 a1 a2 a3 a4 a5 a6:D):Yz [a0,a1,a2,a3,a4,a5,a6]=some (.lst [a0,a1,a2,a3,a4,a5,a6]):=rfl
@[simp] theorem gLst_8 (a0 a1 a2 a3 a4 a5 a6 a7:D):Yz [a0,a1,a2,a3,a4,a5,a6,a7]=some (.lst [a0,a1,a2,a3,a4,a5,a6,a7]):=rfl
@[simp] theorem gLst_9 (a0 a1 a2 a3 a4 a5 a6 a7 a8:D):Yz [a0,a1,a2,a3,a4,a5,a6,a7,a8]=some (.lst [a0,a1,a2,a3,a4,a5,a6,a7,a8]):=rfl
theorem add_str {x y:Str}(h:plain n x=true)(g:plain m y=true)(e:n+m<=1000):Yp (.str x) (.str y)=some (.str (x++y)):=by unfold Yp;simp only [];unfold plain at h g;rw [AY] at h g;have:=of_decide_eq_true h.1;have:=of_decide_eq_true g.1;rw [if_pos (by show _<=1000000;omega)]
@[simp] theorem Xsi (i j:Nat)(g:D->D->Option D)(a:FE)(ρ:Env):Xsn i j g a ρ=(a ρ).bind fun x=>Xsk i j g x ρ:=(rfl)
@[simp] theorem ev_sDrop (e:FE)(ρ:Env):Zvb e ρ=(e ρ).bind fun _=>.ok (.nx ρ):=(rfl)
@[simp] theorem Xpk (a b:FE)(ρ:Env):Xpj a b ρ=(a ρ).bind fun x=>match x with | .lst ds=>(b ρ).bind fun y=>oR (Xhu (.lst ds) y) | _=>.bad:=(rfl)
theorem Zxv (f:α->D)(xs:List α):Zkl (xs.map f)=xs.zipIdx.map fun x=>.tup [.int (x.2:Int),f x.1]:=by unfold Zkl;rw [List.mapIdx_eq_zipIdx_map,List.zipIdx_map,Be];rfl
def rsD (rs:List (List Int)):D:=.lst (rs.map iD)
theorem Zxw (ws:List Int):Zij [iD ws]=some (iD ws):=by simp [Zij,iD]
theorem Xnk (ks:List Kd):Zij [tD ks]=some (tD ks):=by simp [Zij,tD]
theorem Zrr (ks:List Kd):Zbh [tD ks]=some (.int ks.length):=by simp [tD]
theorem Zzh (rs:List (List Int)):Zbh [rsD rs]=some (.int rs.length):=by simp [rsD]
theorem Xee {k:Nat}(h:k<ws.length):gIx (iD ws) (.int (k:Int))=some (.int (ws.getD k 0)):=Zcl rfl h
def few (need:Int):List Int->Int->Int->Int
 | [],n,t=>if need<=t then n else n+1
 | x::r,n,t=>if need<=t then n else few need r (n+1) (t+x)
def eL:Nat->List Int->List D
 | _,[]=>[]
 | k,w::r=>.tup [.int (k:Int),.int w]::eL (k+1) r
def rg (k n:Nat):List D:=(List.range' k n).map fun (j:Nat)=>D.int (0+(j:Int))
theorem Zkf {e:FE}(h:e ρ=.ok (iD ws)):fA Zbh (Ze e Zy) ρ=.ok (.int ws.length):=Jd (Zd h rfl) (by simp [iD,Zbh])
def Zpl (acc h:Nat):Nat:=((((acc+h*14029467366897019727) % 18446744073709551616*2147483648) % 18446744073709551616+(acc+h*14029467366897019727) % 18446744073709551616 / 8589934592)*11400714785074694791) % 18446744073709551616
inductive Tr where
 | no:Tr
 | one:Nat->Tr
 | two:Tr->Tr->Tr
def Ztw:Nat->Nat->Nat->Nat->Option Tr
 | 0,_,_,_=>none
 | f+1,d,a,b=>match C4 a d,C4 b d with
  | true,false=>some (.two (.one b) (.one a))
  | false,true=>some (.two (.one a) (.one b))
  | true,true=>(Ztw f (d+1) a b).map fun t=>.two .no t
  | false,false=>(Ztw f (d+1) a b).map fun t=>.two t .no
def Ztg (k:Nat):Nat->Tr->Option Tr
 | _,.no=>some (.one k)
 | d,.one a=>Ztw 64 d a k
 | d,.two l r=>match C4 k d with
  | true=>(Ztg k (d+1) r).map fun t=>.two l t
  | false=>(Ztg k (d+1) l).map fun t=>.two t r
def Zcy (k:Nat):Nat->Tr->Bool
 | _,.no=>false
 | _,.one a=>a==k
 | d,.two l r=>match C4 k d with
  | true=>Zcy k (d+1) r
  | false=>Zcy k (d+1) l
theorem Zla:∀{f d a b:Nat} {t:Tr},Ztw f d a b=some t->a≠b/\Zcy a d t=true/\Zcy b d t=true
 | 0,_,_,_,_,h=>by cases h
 | f+1,d,a,b,t,h=>by unfold Ztw at h;cases ea:C4 a d<;>cases eb:C4 b d<;>rw [ea,eb] at h<;>simp only at h;obtain ⟨t',h1,rfl⟩:=Ax.mp h;obtain ⟨q1,q2,q3⟩:=Zla h1;exact ⟨q1,by unfold Zcy;rw [ea];exact q2,by unfold Zcy;rw [eb];exact q3⟩;cases h;exact ⟨(fun z=>by rw [z,eb] at ea;cases ea),by unfold Zcy;rw [ea];simp [Zcy],by unfold Zcy;rw [eb];simp [Zcy]⟩;cases h;exact ⟨(fun z=>by rw [z,eb] at ea;cases ea),by unfold Zcy;rw [ea];simp [Zcy],by unfold Zcy;rw [eb];simp [Zcy]⟩;obtain ⟨t',h1,rfl⟩:=Ax.mp h;obtain ⟨q1,q2,q3⟩:=Zla h1;exact ⟨q1,by unfold Zcy;rw [ea];exact q2,by unfold Zcy;rw [eb];exact q3⟩
theorem Zow {k:Nat}:∀{t t':Tr} {d:Nat},Ztg k d t=some t'->Zcy k d t=false/\Zcy k d t'=true/\∀x,Zcy x d t=true->Zcy x d t'=true
  | .no,t',d,h=>by cases h;exact ⟨rfl,by simp [Zcy],fun x z=>by cases z⟩
  | .one a,t',d,h=>by
    obtain ⟨q1,q2,q3⟩:=Zla (show Ztw 64 d a k=some t' from h);exact ⟨by simpa [Zcy] using q1,q3,fun x z=>by
      have:a=x:=by simpa [Zcy] using z
      rw [<- this];exact q2⟩
  | .two l r,t',d,h=>by unfold Ztg at h;cases e:C4 k d<;>rw [e] at h<;>simp only at h;obtain ⟨t1,h1,rfl⟩:=Ax.mp h;obtain ⟨q1,q2,q3⟩:=Zow h1;refine ⟨by unfold Zcy;rw [e];exact q1,by unfold Zcy;rw [e];exact q2,fun x z=>?_⟩;unfold Zcy at z ⊢;cases ex:C4 x d<;>rw [ex] at z<;>simp only at z ⊢;exact q3 x z;exact z;obtain ⟨t1,h1,rfl⟩:=Ax.mp h;obtain ⟨q1,q2,q3⟩:=Zow h1;refine ⟨by unfold Zcy;rw [e];exact q1,by unfold Zcy;rw [e];exact q2,fun x z=>?_⟩;unfold Zcy at z ⊢;cases ex:C4 x d<;>rw [ex] at z<;>simp only at z ⊢;exact z;exact q3 x z
def Zaa:List Nat->Tr->Option Tr
 | [],t=>some t
 | k::r,t=>(Ztg k 0 t).bind (Zaa r)
theorem Zcx:∀(a b:List Nat) (t:Tr),Zaa (a++b) t=(Zaa a t).bind (Zaa b)
 | [],b,t=>rfl
 | k::r,b,t=>by
  show (Ztg k 0 t).bind (Zaa (r++b))=((Ztg k 0 t).bind (Zaa r)).bind (Zaa b);cases Ztg k 0 t with
  | none=>rfl
  | some t'=>exact Zcx r b t'
theorem Zmz:∀{a:List Nat} {t t':Tr},Zaa a t=some t'->a.Nodup/\(∀x∈a,Zcy x 0 t=false)/\(∀x,Zcy x 0 t=true->Zcy x 0 t'=true)
 | [],t,t',h=>by cases h;exact ⟨A6,(fun _ z=>nomatch z),fun _ z=>z⟩
 | k::r,t,t',h=>by
  obtain ⟨t1,h1,h2⟩:=AX.mp (show (Ztg k 0 t).bind (Zaa r)=some t' from h);obtain ⟨q1,q2,q3⟩:=Zow h1;obtain ⟨p1,p2,p3⟩:=Zmz h2;refine ⟨Ay.mpr ⟨(fun z=>by rw [p2 k z] at q2;cases q2),p1⟩,fun x hx=>?_,fun x z=>p3 x (q3 x z)⟩;rcases Al.mp hx with rfl | z;exact q1;cases e:Zcy x 0 t with
  | false=>rfl
  | true=>rw [<- p2 x z,q3 x e]
def Zdx:Nat->Nat->List (List Nat)
 | 0,_=>[[]]
 | n+1,p=>(Zdx n p).map (0::·)++((if Ez (p*2) 120 then (Zdx n (p*2)).map (1::·) else [])++((if Ez (p*3) 120 then (Zdx n (p*3)).map (2::·) else [])++(if Ez (p*4) 120 then (Zdx n (p*4)).map (3::·) else [])))
def goT:Nat->Nat->Nat->Tr->Option Tr
 | 0,_,acc,t=>Ztg acc 0 t
 | n+1,p,acc,t =>
  (goT n p (Zpl acc 0) t).bind fun t =>
  (if Ez (p*2) 120 then goT n (p*2) (Zpl acc 1) t else some t).bind fun t =>
  (if Ez (p*3) 120 then goT n (p*3) (Zpl acc 2) t else some t).bind fun t =>
  (if Ez (p*4) 120 then goT n (p*4) (Zpl acc 3) t else some t)
theorem Zzr:∀(n p acc:Nat) (t:Tr),goT n p acc t=Zaa ((Zdx n p).map fun c=>c.foldl Zpl acc) t
 | 0,p,acc,t=>by show Ztg acc 0 t=(Ztg acc 0 t).bind (Zaa []);cases Ztg acc 0 t<;>rfl
 | n+1,p,acc,t=>by
  have one:∀(q h:Nat) (t:Tr),(if Ez q 120 then goT n q (Zpl acc h) t else some t)=Zaa ((if Ez q 120 then (Zdx n q).map (h::·) else []).map fun c=>c.foldl Zpl acc) t:=fun q h t=>by split;rw [Zzr,Be];rfl;rfl
  have z:goT n p (Zpl acc 0) t=Zaa (((Zdx n p).map (0::·)).map fun c=>c.foldl Zpl acc) t:=by rw [Zzr,Be];rfl
  unfold goT Zdx;rw [AU,Zcx,AU,AU,z];congr 1;funext t1;rw [Zcx,one];congr 1;funext t2;rw [Zcx,one];congr 1;funext t3;exact one _ _ _
theorem Zhe:∀{n p:Nat} {c:List Nat},c.length=n->(∀x∈c,x<=3)->(c.map (·+1)).foldl (·*·) p<=120->1<=p->c∈Zdx n p
 | 0,p,c,hl,_,_,_=>by rw [BW.mp hl];exact .head _
 | n+1,p,[],hl,_,_,_=>by cases hl
 | n+1,p,x::c,hl,hx,hp,h1=>by
  have up:∀(l:List Nat) (q:Nat),(∀y∈l,1<=y)->q<=l.foldl (·*·) q:=fun l=>by
   induction l with
   | nil=>exact fun q _=>As q
   | cons y l ih=>exact fun q hy=>Az (Ds q (hy y (.head _))) (ih (q*y) fun z hz=>hy z (.tail _ hz))
  have hp':(c.map (·+1)).foldl (·*·) (p*(x+1))<=120:=hp;have hq:p*(x+1)<=120:=Az (up _ _ fun y hy=>by obtain ⟨z,_,rfl⟩:=AB.mp hy;exact EG z) hp';have ih:=Zhe (n:=n) (p:=p*(x+1)) (c:=c) (by simpa using hl) (fun y hy=>hx y (.tail _ hy)) hp' (KL h1 (EG x));have hb:Ez (p*(x+1)) 120=true:=Nat.ble_eq.mpr hq;have h3:=hx x (.head _);unfold Zdx
  match x,h3 with
  | 0,_=>exact AF _ (AB.mpr ⟨c,by simpa using ih,rfl⟩)
  | 1,_=>exact Ar _ (AF _ (by rw [if_pos hb];exact AB.mpr ⟨c,ih,rfl⟩))
  | 2,_=>exact Ar _ (Ar _ (AF _ (by rw [if_pos hb];exact AB.mpr ⟨c,ih,rfl⟩)))
  | 3,_=>exact Ar _ (Ar _ (Ar _ (by rw [if_pos hb];exact AB.mpr ⟨c,ih,rfl⟩)))
theorem Xhs {α β:Type}{f:α->β}:∀{l:List α},(l.map f).Nodup->∀a∈l,∀b∈l,f a=f b->a=b
 | [],_,_,ha,_,_,_=>nomatch ha
 | x::l,h,a,ha,b,hb,e=>by obtain ⟨h1,h2⟩:=Ay.mp (show (f x::l.map f).Nodup from h);rcases Al.mp ha with ea | ha'<;>rcases Al.mp hb with eb | hb';rw [ea,eb];rw [ea] at e;exact absurd (AB.mpr ⟨b,hb',e.symm⟩) h1;rw [eb] at e;exact absurd (AB.mpr ⟨a,ha',e⟩) h1;exact Xhs h2 a ha' b hb' e
def Xon (c:List Nat):Nat:=c.foldl Zpl 2870177450012600261
def Xqc (n acc:Nat):Int:=
 let a:=(acc+(n ^^^ (2870177450012600261 ^^^ 3527539))) % 18446744073709551616
 if a==18446744073709551615 then 1546275796 else if a<9223372036854775808 then a else (a:Int) - 18446744073709551616
theorem Xke (a x:Nat):Zpl a x<18446744073709551616:=mod_lt _ (by decide)
theorem Zkh:∀(c:List Nat) (a:Nat),a<18446744073709551616->c.foldl Zpl a<18446744073709551616
 | [],_,h=>h
 | x::c,a,_=>Zkh c (Zpl a x) (Xke a x)
theorem Zsb:∀(c:List Nat) (a:Nat),(∀x∈c,x<1000)->(c.map fun x:Nat=>(x:Int)).foldl (fun acc h =>
    let acc:=(acc+(h % ((2 ^ 64:Nat):Int)).toNat*14029467366897019727) % (2 ^ 64)
    let acc:=(acc*2 ^ 31) % (2 ^ 64)+acc / 2 ^ 33
    (acc*11400714785074694791) % (2 ^ 64)) a=c.foldl Zpl a
  | [],_,_=>rfl
  | x::c,a,h=>by
    have hx:((x:Int) % ((2 ^ 64:Nat):Int)).toNat=x:=by have:=h x (.head _);rw [Ip (HZ x) (by norm_cast;omega)];rfl
    rw [AV,DL,DL,<- Zsb c (Zpl a x) fun y hy=>h y (.tail _ hy)];simp only [hx];rfl
theorem Zzm (c:List Nat)(h:∀x∈c,x<1000):thK (c.map fun x:Nat=>(.inl (x:Int):Int ⊕ Str))=Da (Xqc c.length (Xon c)):=by
 have e:(c.map fun x:Nat=>(EZ (x:Int):Int ⊕ Str)).map vlK=c.map fun x:Nat=>(x:Int):=by rw [Be];rfl
 unfold thK;rw [e];unfold CD;have f:=Zsb c 2870177450012600261 h;simp only [Ah] at f ⊢;rw [f];rfl
theorem Xmf {a b:Nat}(ha:a<18446744073709551616)(hb:b<18446744073709551616)(na:(a+(n ^^^ (2870177450012600261 ^^^ 3527539))) % 18446744073709551616≠18446744073709551615)(nb:(b+(n ^^^ (2870177450012600261 ^^^ 3527539))) % 18446744073709551616≠18446744073709551615)
  (h:Da (Xqc n a)=Da (Xqc n b)):a=b:=by
 have red:∀{x:Nat},x<18446744073709551616->x≠18446744073709551615->Da (if x==18446744073709551615 then 1546275796 else if x<9223372036854775808 then (x:Int) else (x:Int) - 18446744073709551616)=if x<9223372036854775808 then (x:Int) else (x:Int) - 18446744073709551616:=fun {x} h1 h2=>by rw [if_neg (by simpa using h2)];unfold Da;split;rename_i hx;rw [if_pos (by simp<;>omega),if_neg (by simp<;>omega)];rename_i hx;rw [if_pos (by simp<;>omega),if_neg (by simp<;>omega)]
 have e1:Da (Xqc n a)=_:=red (mod_lt _ (by decide)) na;have e2:Da (Xqc n b)=_:=red (mod_lt _ (by decide)) nb;rw [e1,e2] at h;generalize (n ^^^ (2870177450012600261 ^^^ 3527539))=k at na nb h;have h':(a+k) % 18446744073709551616=(b+k) % 18446744073709551616:=by split at h<;>split at h<;>omega
 omega
def Xkh (n:Nat):Nat:=(18446744073709551615+18446744073709551616 - (n ^^^ (2870177450012600261 ^^^ 3527539))) % 18446744073709551616
def Xeg (n:Nat):Bool:=(goT n 1 2870177450012600261 (.one (Xkh n))).isSome
def rowT (n:Nat):List (List Nat):=(A5 120).map fun k=>k::Ab n 0
def Xpt (n:Nat):Bool:=(Zaa ((rowT n).map Xon) (.one (Xkh (n+1)))).isSome
theorem Xtl (hn:n<=8){a:Nat}(h:(a+(n ^^^ (2870177450012600261 ^^^ 3527539))) % 18446744073709551616=18446744073709551615)(ha:a<18446744073709551616):a=Xkh n:=by have hk:n ^^^ (2870177450012600261 ^^^ 3527539)<18446744073709551616:=Nat.xor_lt_two_pow (n:=64) (by omega) (by decide);unfold Xkh;generalize (n ^^^ (2870177450012600261 ^^^ 3527539))=k at h hk;omega
theorem Xbe {l:List (List Nat)}{t:Tr}(hn:n<=8)(h:Zaa (l.map Xon) (.one (Xkh n))=some t)(hl:∀c∈l,c.length=n/\∀x∈c,x<1000):∀a∈l,∀b∈l,thK (a.map fun x:Nat=>(.inl (x:Int):Int ⊕ Str))=thK (b.map fun x:Nat=>(.inl (x:Int):Int ⊕ Str))->a=b:=fun a ha b hb e=>by
 obtain ⟨q1,q2,_⟩:=Zmz h;have nb:∀c∈l,(Xon c+(n ^^^ (2870177450012600261 ^^^ 3527539))) % 18446744073709551616≠18446744073709551615:=fun c hc z=>by have:=q2 (Xon c) (AB.mpr ⟨c,hc,rfl⟩);rw [Xtl hn z (Zkh c _ (by decide))] at this;simp [Zcy] at this
 rw [Zzm a (hl a ha).2,Zzm b (hl b hb).2,(hl a ha).1,(hl b hb).1] at e;exact Xhs q1 a ha b hb (Xmf (Zkh a _ (by decide)) (Zkh b _ (by decide)) (nb a ha) (nb b hb) e)
set_option maxRecDepth 1000000 in
theorem Xtn:∀n,n<=7->Xeg n=true:=fun n hn=>by
 have:(A5 8).all Xeg=true:=by decide +kernel
 exact Bp.mp this n (Bs.mpr (by omega))
set_option maxRecDepth 1000000 in
theorem Xri:∀n,n<=7->Xpt n=true:=fun n hn=>by
 have:(A5 8).all Xpt=true:=by decide +kernel
 exact Bp.mp this n (Bs.mpr (by omega))
set_option maxRecDepth 1000000 in
theorem un_8:Xeg 8=true:=by decide +kernel
theorem Zmf:∀{n p:Nat} {c:List Nat},c∈Zdx n p->c.length=n/\∀x∈c,x<1000
 | 0,p,c,h=>by rw [Aj.mp h];exact ⟨rfl,fun _ z=>nomatch z⟩
 | n+1,p,c,h=>by
  have one:∀{q k:Nat},k<1000->c∈(Zdx n q).map (k::·)->c.length=n+1/\∀x∈c,x<1000:=fun {q k} hk hc=>by obtain ⟨d,hd,rfl⟩:=AB.mp hc;obtain ⟨q1,q2⟩:=Zmf hd;exact ⟨by rw [Bt,q1],fun x hx=>(Al.mp hx).elim (fun z=>by rw [z];exact hk) (q2 x)⟩
  unfold Zdx at h;rcases Ao.mp h with h | h;exact one (by decide) h;rcases Ao.mp h with h | h;split at h;exact one (by decide) h;cases h;rcases Ao.mp h with h | h;split at h;exact one (by decide) h;cases h;split at h;exact one (by decide) h;cases h
theorem Xez (hn:n<=8){a:List Nat}(la:a.length=n)(lb:b.length=n)(sa:∀x∈a,x<=3)(sb:∀x∈b,x<=3)(pa:(a.map (·+1)).foldl (·*·) 1<=120)(pb:(b.map (·+1)).foldl (·*·) 1<=120)
  (e:thK (a.map fun x:Nat=>(.inl (x:Int):Int ⊕ Str))=thK (b.map fun x:Nat=>(.inl (x:Int):Int ⊕ Str))):a=b:=by
 have h:Xeg n=true:=by by_cases z:n<=7;exact Xtn n z;rw [show n=8 by omega];exact un_8
 obtain ⟨t,ht⟩:=D2.mp (show (goT n 1 2870177450012600261 (.one (Xkh n))).isSome=true from h);rw [Zzr] at ht;exact Xbe (l:=Zdx n 1) hn ht (fun c hc=>Zmf hc) a (Zhe la sa pa (As 1)) b (Zhe lb sb pb (As 1)) e
theorem Xec {k:Nat}(hn:n<=7)(hj:j<120)(hk:k<120)(e:thK ((j::Ab n 0).map fun x:Nat=>(.inl (x:Int):Int ⊕ Str))=thK ((k::Ab n 0).map fun x:Nat=>(.inl (x:Int):Int ⊕ Str))):j=k:=by
  obtain ⟨t,ht⟩:=D2.mp (show (Zaa ((rowT n).map Xon) (.one (Xkh (n+1)))).isSome=true from Xri n hn);have:=Xbe (l:=rowT n) (n:=n+1) (by omega) ht (fun c hc=>by
    obtain ⟨i,hi,rfl⟩:=AB.mp hc;refine ⟨by rw [Bt,BS],fun x hx=>?_⟩;rcases Al.mp hx with z | z;rw [z];exact GW (Bs.mp hi) (by decide)
    · rw [(DN.mp z).2];decide) (j::Ab n 0) (AB.mpr ⟨j,Bs.mpr hj,rfl⟩) (k::Ab n 0) (AB.mpr ⟨k,Bs.mpr hk,rfl⟩) e
  exact (FH this).1
def kyN (c:List Nat):List (Int ⊕ Str):=c.map fun x:Nat=>(.inl (x:Int):Int ⊕ Str)
theorem Zpr {a:List Nat}(h:kyN a=kyN b):a=b:=by refine (List.map_inj_right (f:=fun x:Nat=>(.inl (x:Int):Int ⊕ Str)) (fun x y e=>?_)).mp h;exact Ki.mp (IL e)
theorem Xte (h:∀x∈c,x<1000):(kyN c).all smK=true:=by refine Bp.mpr fun k hk=>?_;obtain ⟨x,hx,rfl⟩:=AB.mp hk;have:=h x hx;show (decide (0<=(x:Int))&&decide ((x:Int)<1000))=true;rw [decide_eq_true (HZ x),decide_eq_true (by omega)];rfl
theorem Zus (hn:n<=8)(nd:cs.Nodup)(h:∀c∈cs,c.length=n/\(∀x∈c,x<=3)/\(c.map (·+1)).foldl (·*·) 1<=120):((cs.map kyN).map thK).Nodup:=by rw [Be];refine D7.mpr (CP (fun {a b} ha hb hab e=>hab ?_) nd);obtain ⟨a1,a2,a3⟩:=h a ha;obtain ⟨b1,b2,b3⟩:=h b hb;exact Xez hn a1 b1 a2 b2 a3 b3 e
def RowOk (n:Nat)(c:List Nat):Prop:=∃k,k<120/\c=k::Ab n 0
theorem Zoh (hn:n<=7)(nd:cs.Nodup)(h:∀c∈cs,RowOk n c):((cs.map kyN).map thK).Nodup:=by rw [Be];refine D7.mpr (CP (fun {a b} ha hb hab e=>hab ?_) nd);obtain ⟨j,hj,rfl⟩:=h a ha;obtain ⟨k,hk,rfl⟩:=h b hb;rw [Xec hn hj hk e]
def tyN (c:List Nat):D:=.tup (c.map fun x:Nat=>.int (x:Int))
theorem Zko (c:List Nat):Zdn (kyN c)=tyN c:=by unfold Zdn kyN tyN;rw [Be];rfl
theorem Zsd:∀c:List Nat,Ztm (c.map fun x:Nat=>.int (x:Int))=some (kyN c)
 | []=>rfl
 | x::c=>by have:=Zsd c;simp only [AV,Ztm,keyD,this,kyN];rfl
theorem Zbb (c:List Nat):Zny (tyN c)=some (kyN c):=Zsd c
theorem Zrn :Zwp (cs.map kyN) (kyN c)=decide (c∈cs):=by rw [Dm,decide_eq_true_iff];unfold Zwp;rw [Em];constructor;rintro ⟨k,hk,e⟩;obtain ⟨d,hd,rfl⟩:=AB.mp hk;rw [<- Zpr (of_decide_eq_true e)];exact hd;exact fun h=>⟨kyN c,AB.mpr ⟨c,h,rfl⟩,decide_eq_true rfl⟩
def LeC (c o:List Nat):Prop:=c.length=o.length/\∀i,c.getD i 0<=o.getD i 0
def Zfu (c:List Nat)(i:Nat):List Nat:=c.set i (c.getD i 0+1)
def sbC (l c:List Nat):List Nat:=A3 (fun a b=>a - b) l c
def adC (l c:List Nat):List Nat:=A3 (fun a b=>a+b) l c
def Xl:List Nat->Nat
 | []=>1
 | x::r=>(x+1)*Xl r
theorem LeC.refl (c:List Nat):LeC c c:=⟨rfl,fun _=>As _⟩
theorem LeC.trans {a b c:List Nat}(h:LeC a b)(g:LeC b c):LeC a c:=⟨h.1.trans g.1,fun i=>Az (h.2 i) (g.2 i)⟩
theorem LeC.cons {y:Nat}{a:List Nat}:LeC (x::a) (y::b)↔x<=y/\LeC a b:=by
 constructor;intro h;exact ⟨h.2 0,BF h.1,fun i=>h.2 (i+1)⟩;intro h;refine ⟨congrArg Ln h.2.1,fun i=>?_⟩;cases i with
 | zero=>exact h.1
 | succ i=>exact h.2.2 i
theorem Xar (h:l.length<=i):l.getD i 0=0:=by rw [AS,G9 h];rfl
theorem Zri {a:List Nat}(hl:a.length=b.length)(h:∀i,a.getD i 0=b.getD i 0):a=b:=by refine List.ext_getElem hl fun i h1 h2=>?_;have:=h i;rw [AS,AS,Ag h1,Ag h2] at this;exact this
theorem Zsy (c:List Nat)(i:Nat):(Zfu c i).length=c.length:=DA
theorem Zzc (hi:i<c.length)(j:Nat):(Zfu c i).getD j 0=c.getD j 0+if j=i then 1 else 0:=by unfold Zfu;rw [AS,List.getElem?_set];by_cases e:j=i;subst e;rw [if_pos rfl,if_pos hi,if_pos rfl];rfl;rw [if_neg (fun z=>e z.symm),if_neg e,<- AS];rfl
theorem Zqo (h:c.length=l.length):(sbC l c).length=l.length:=by unfold sbC;rw [Cb];omega
theorem Zyt (h:c.length=l.length):(adC l c).length=l.length:=by unfold adC;rw [Cb];omega
theorem Zhx:∀{l c:List Nat},c.length=l.length->∀i,(sbC l c).getD i 0=l.getD i 0 - c.getD i 0
 | [],[],_,i=>rfl
 | x::l,y::c,h,0=>rfl
 | x::l,y::c,h,i+1=>Zhx (l:=l) (c:=c) (BF h) i
 | [],_::_,h,_=>nomatch h
 | _::_,[],h,_=>nomatch h
theorem Zjs:∀{l c:List Nat},c.length=l.length->∀i,(adC l c).getD i 0=l.getD i 0+c.getD i 0
 | [],[],_,i=>rfl
 | x::l,y::c,h,0=>rfl
 | x::l,y::c,h,i+1=>Zjs (l:=l) (c:=c) (BF h) i
 | [],_::_,h,_=>nomatch h
 | _::_,[],h,_=>nomatch h
def boxC:List Nat->List (List Nat)
 | []=>[[]]
 | x::r=>(A5 (x+1)).flatMap fun y=>(boxC r).map (y::·)
theorem Zry:∀{o c:List Nat},LeC c o->c∈boxC o
 | [],[],_=>.head _
 | x::o,y::c,h=>by obtain ⟨h1,h2⟩:=LeC.cons.mp h;exact DD.mpr ⟨y,Bs.mpr (by omega),AB.mpr ⟨c,Zry h2,rfl⟩⟩
 | [],_::_,h=>nomatch h.1
 | _::_,[],h=>nomatch h.1
theorem Znq {α β:Type}{f:α->List β}{n:Nat}:∀(l:List α),(∀x∈l,(f x).length=n)->(l.flatMap f).length=l.length*n
 | [],_=>(Nat.zero_mul n).symm
 | x::l,h=>by rw [List.flatMap_cons,Ak,h x (.head _),Znq l fun y hy=>h y (.tail _ hy),Bt,G3,G6]
theorem Zrg:∀o:List Nat,(boxC o).length=Xl o
 | []=>rfl
 | x::o=>by show ((A5 (x+1)).flatMap _).length=(x+1)*Xl o;rw [Znq (n:=Xl o) _ fun y _=>by rw [Ah,Zrg o],CK]
theorem Xic {α:Type}[DecidableEq α]:∀{a b:List α},a.Nodup->(∀x∈a,x∈b)->a.length<=b.length
 | [],_,_,_=>D4 _
 | x::a,b,nd,h=>by have hx:=h x (.head _);have hn:=Ay.mp nd;have ih:=Xic (a:=a) (b:=b.erase x) hn.2 fun y hy=>(List.mem_erase_of_ne (a:=y) (b:=x) fun z=>hn.1 (by rw [<- z];exact hy)).mpr (h y (.tail _ hy));have p:0<b.length:=GP hx;rw [List.length_erase_of_mem hx] at ih;rw [Bt];omega
theorem Xad (nd:cs.Nodup)(h:∀c∈cs,LeC c o):cs.length<=Xl o:=by rw [<- Zrg];exact Xic nd fun c hc=>Zry (h c hc)
theorem Zcp:∀o:List Nat,1<=Xl o
 | []=>As _
 | x::o=>by show 1<=(x+1)*Xl o;exact KL (EG x) (Zcp o)
theorem Zro:∀{o:List Nat} {x:Nat},x∈o->x+1<=Xl o
 | y::o,x,h=>by show x+1<=(y+1)*Xl o;rcases Al.mp h with e | e;rw [e];exact Ds _ (Zcp o);exact Az (Zro e) (G4 _ (EG y))
inductive Ct (ns:List Int)(ks:List Kd):Nat->List Nat->List (Int×Str)->Prop
 | zero:Ct ns ks 0 (Ab ks.length 0) []
 | skip {e:Nat} {c:List Nat} {ps:List (Int×Str)}:Ct ns ks e c ps->Ct ns ks (e+1) c ps
 | cut {b i:Nat} {c:List Nat} {ps:List (Int×Str)} {k:Kd}:Ct ns ks b c ps->ks[i]?=some k->good ns k (b:Int)=true->Ct ns ks (b+k.w.toNat) (Zfu c i) (ps++[((b:Int),k.name)])
theorem Ct.len (h:Ct ns ks e c ps):c.length=ks.length:=by
 induction h with
 | zero=>exact BS
 | skip _ ih=>exact ih
 | cut _ _ _ ih=>rw [Zsy,ih]
theorem Ct.few (h:Ct ns ks e c ps)(hw:∀k∈ks,1<=k.w):ps.length<=e:=by
 induction h with
 | zero=>exact As _
 | skip _ ih=>omega
 | cut _ hk _ ih =>have:=hw _ (AW hk);rw [Ak];show _+1<=_;omega
theorem Zbg:∀n:Nat,(Ab n 0).sum=0
 | 0=>rfl
 | n+1=>by rw [Bc,CS,Zbg n]
theorem Xhc:∀{c:List Nat} {i:Nat},i<c.length->(Zfu c i).sum=c.sum+1
 | x::c,0,_=>by show ((x+1)::c).sum=_;rw [CS,CS];omega
 | x::c,i+1,h=>by show (x::Zfu c i).sum=_;rw [CS,CS,Xhc (Nat.lt_of_succ_lt_succ h)];omega
theorem Ct.sum {ns:List Int}{ks:List Kd}{e:Nat}{c:List Nat}{ps:List (Int×Str)}(h:Ct ns ks e c ps):c.sum=ps.length:=by
 induction h with
 | zero=>exact Zbg _
 | skip _ ih=>exact ih
 | cut h hk _ ih =>have:=(Ai.mp hk).1;rw [Xhc (by rw [h.len];exact this),ih,Ak];rfl
theorem Ct.none (ns:List Int)(ks:List Kd):∀e:Nat,Ct ns ks e (Ab ks.length 0) []
 | 0=>.zero
 | e+1=>.skip (Ct.none ns ks e)
theorem Ct.inv (h:Ct ns ks (e+1) c ps)(hw:∀k∈ks,1<=k.w):Ct ns ks e c ps\/∃(i:Nat) (k:Kd) (b:Nat) (c':List Nat) (ps':List (Int×Str)),ks[i]?=some k/\(b:Int)=(e:Int)+1 - k.w/\good ns k (b:Int)=true/\Ct ns ks b c' ps'/\c=Zfu c' i:=by
 generalize hE:e+1=E at h;cases h with
 | zero=>cases hE
 | skip h =>cases BF hE;exact .inl h
 | cut h hk hg =>have:=hw _ (AW hk);exact .inr ⟨_,_,_,_,_,hk,by omega,hg,h,rfl⟩
def KS (ns:List Int)(ks:List Kd)(os:List Nat)(e:Nat)(c:List Nat):Prop:=LeC c os/\∃ps,Ct ns ks e c ps
def StS (ns:List Int)(ks:List Kd)(os:List Nat)(e i:Nat)(c:List Nat):Prop:=KS ns ks os e c\/∃(i':Nat) (k:Kd) (b:Nat) (c':List Nat),i'<i/\ks[i']?=some k/\(b:Int)=(e:Int)+1 - k.w/\good ns k (b:Int)=true/\KS ns ks os b c'/\c'.getD i' 0<os.getD i' 0/\c=Zfu c' i'
theorem LeC.up (h:LeC c os)(hi:c.getD i 0<os.getD i 0):LeC (Zfu c i) os:=by
 have hl:i<c.length:=Nat.lt_of_not_le fun z=>by rw [Xar (l:=os) (by rw [<- h.1];exact z)] at hi;exact IM _ hi
 refine ⟨by rw [Zsy];exact h.1,fun j=>?_⟩;rw [Zzc hl];split;rename_i e;rw [e];exact hi;exact h.2 j
theorem LeC.un (h:LeC (Zfu c i) os)(hi:i<c.length):LeC c os/\c.getD i 0<os.getD i 0:=by
 have g:∀j,c.getD j 0+(if j=i then 1 else 0)<=os.getD j 0:=fun j=>by rw [<- Zzc hi];exact h.2 j
 refine ⟨⟨by rw [<- Zsy c i];exact h.1,fun j=>Az (Dj _ _) (g j)⟩,?_⟩;have:=g i;rw [if_pos rfl] at this;exact this
theorem StS.all (hw:∀k∈ks,1<=k.w):StS ns ks os e ks.length c↔KS ns ks os (e+1) c:=by
 constructor;rintro (⟨h,ps,g⟩ | ⟨i',k,b,c',h1,h2,h3,h4,⟨h5,ps,h6⟩,h7,rfl⟩);exact ⟨h,ps,.skip g⟩;refine ⟨h5.up h7,ps++[((b:Int),k.name)],?_⟩;have:=Ct.cut h6 h2 h4;have w:=hw _ (AW h2);have e:b+k.w.toNat=e+1:=by omega
 rw [e] at this;exact this;rintro ⟨h,ps,g⟩;rcases g.inv hw with g | ⟨i,k,b,c',ps',h2,h3,h4,h5,rfl⟩;exact .inl ⟨h,ps,g⟩;have hi:=(Ai.mp h2).1;obtain ⟨u1,u2⟩:=h.un (by rw [h5.len];exact hi);exact .inr ⟨i,k,b,c',hi,h2,h3,h4,⟨u1,ps',h5⟩,u2,rfl⟩
inductive Pln (ks:List Kd)(os:List Nat):List (List Int)->List Nat->Nat->List (List (Int×Str))->Prop
 | nil:Pln ks os [] os 0 []
 | snoc {rs:List (List Int)} {l:List Nat} {u:Nat} {pl:List (List (Int×Str))} {r:List Int} {c:List Nat} {ps:List (Int×Str)}:Pln ks os rs l u pl->Ct r ks r.length c ps->LeC c l->Pln ks os (rs++[r]) (sbC l c) (u+if ps=[] then 0 else 1) (pl++[ps])
theorem Xii (h:c.length=l.length):LeC (sbC l c) l:=⟨Zqo h,fun i=>by rw [Zhx h];omega⟩
theorem Pln.le (h:Pln ks os rs l u pl):LeC l os:=by
 induction h with
 | nil=>exact LeC.refl _
 | snoc _ _ hl ih=>exact (Xii hl.1).trans ih
theorem Pln.plen (h:Pln ks os rs l u pl):pl.length=rs.length:=by
 induction h with
 | nil=>rfl
 | snoc _ _ _ ih=>rw [Ak,Ak,ih];rfl
theorem Pln.inv (h:Pln ks os (rs++[r]) l u pl):∃l' u' pl' c ps,Pln ks os rs l' u' pl'/\Ct r ks r.length c ps/\LeC c l'/\l=sbC l' c/\u=u'+if ps=[] then 0 else 1:=by
 generalize hE:rs++[r]=E at h;cases h with
 | nil=>exact absurd (congrArg EL hE) (by rw [Ak];exact ID _)
 | snoc h1 h2 h3 =>obtain ⟨e1,e2⟩:=List.append_inj' hE rfl;obtain ⟨e2,-⟩:=FH e2;subst e1 e2;exact ⟨_,_,_,_,_,h1,h2,h3,rfl,rfl⟩
def Xmm (ks:List Kd)(rs:List (List Int))(xs:List (List Int×List Nat)):Prop:=xs.map (·.1)=rs/\∀p∈xs,∃ps,Ct p.1 ks p.1.length p.2 ps
def Zrb (os:List Nat)(xs:List (List Int×List Nat))(l:List Nat):Prop:=l.length=os.length/\∀i,l.getD i 0+(xs.map fun p=>p.2.getD i 0).sum=os.getD i 0
def Yy (xs:List (List Int×List Nat)):Nat:=(xs.map fun p=>if p.2.sum=0 then 0 else 1).sum
theorem Pln.cuts (h:Pln ks os rs l u pl):∃xs,Xmm ks rs xs/\Zrb os xs l/\u=Yy xs:=by
 induction h with
 | nil=>exact ⟨[],⟨rfl,fun _ z=>nomatch z⟩,⟨rfl,fun _=>rfl⟩,rfl⟩
 | @snoc rs l u pl r c ps h1 h2 h3 ih =>obtain ⟨xs,⟨e1,e2⟩,⟨e3,e4⟩,e5⟩:=ih;refine ⟨xs++[(r,c)],⟨by rw [AU,e1];rfl,fun p hp=>?_⟩,⟨by rw [Zqo h3.1,e3],fun i=>?_⟩,?_⟩;rcases Ao.mp hp with q | q;exact e2 p q;rw [Aj.mp q];exact ⟨ps,h2⟩;have:=e4 i;have g:=h3.2 i;rw [Zhx h3.1,AU,Dz];show _+(_+(c.getD i 0+0))=_;omega;unfold Yy at e5 ⊢;rw [e5,AU,Dz];show _=_+((if c.sum=0 then 0 else 1)+0);rw [h2.sum];cases ps<;>rfl
theorem Pln.ofCuts {ks:List Kd}{os:List Nat}(ho:os.length=ks.length):∀{n:Nat} {xs:List (List Int×List Nat)} {rs:List (List Int)} {l:List Nat},xs.length=n->Xmm ks rs xs->Zrb os xs l->∃pl,Pln ks os rs l (Yy xs) pl
  | 0,xs,rs,l,hn,⟨e1,e2⟩,⟨e3,e4⟩=>by
    cases xs with
    | nil =>subst e1;have:l=os:=Zri e3 fun i=>e4 i;subst this;exact ⟨[],.nil⟩
    | cons _ _=>cases hn
  | n+1,xs,rs,l,hn,⟨e1,e2⟩,⟨e3,e4⟩=>by
    have hne:xs≠[]:=fun z=>by rw [z] at hn;cases hn
    obtain ⟨ys,p,rfl⟩:∃ys p,xs=ys++[p]:=⟨xs.dropLast,xs.getLast hne,(FP hne).symm⟩;rw [AU] at e1;subst e1;obtain ⟨ps,hp⟩:=e2 p (Ar _ (.head _));have hl:p.2.length=l.length:=by rw [hp.len,e3,ho]
    have lf:Zrb os ys (adC l p.2):=⟨by rw [Zyt hl,e3],fun i=>by
      have:=e4 i;rw [AU,Dz] at this;rw [Zjs hl];have q:_+(_+(p.2.getD i 0+0))=_:=this;omega⟩
    obtain ⟨pl,hpl⟩:=Pln.ofCuts ho (n:=n) (xs:=ys) (rs:=ys.map (·.1)) (l:=adC l p.2) (by rw [Ak] at hn;exact BF hn) ⟨rfl,fun q hq=>e2 q (AF _ hq)⟩ lf;have le:LeC p.2 (adC l p.2):=⟨by rw [Zyt hl,hl],fun i=>by rw [Zjs hl];omega⟩;have h:=hpl.snoc hp le;have e:sbC (adC l p.2) p.2=l:=by refine Zri (by rw [Zqo le.1,Zyt hl]) fun i=>?_;rw [Zhx le.1,Zjs hl];omega
    have eu:Yy (ys++[p])=Yy ys+if ps=[] then 0 else 1:=by unfold Yy;rw [AU,Dz];show _+((if p.2.sum=0 then 0 else 1)+0)=_;rw [hp.sum];cases ps<;>rfl
    rw [e,<- eu] at h;exact ⟨_,h⟩
structure Dkt (S:List Nat->Prop)(W:List Nat->D->Prop)(cs:List (List Nat))(xs:List D):Prop where
 nd:cs.Nodup
 ln:xs.length=cs.length
 fl:Zu xs=true
 ky:∀c,c∈cs↔S c
 vl:∀p∈cs.zip xs,W p.1 p.2
theorem Dkt.imp {S:List Nat->Prop}{W:List Nat->D->Prop}(h:Dkt S W cs xs)(hS:∀c,S c↔S' c)(hW:∀c x,S c->W c x->W' c x):Dkt S' W' cs xs:=⟨h.nd,h.ln,h.fl,fun c=>(h.ky c).trans (hS c),fun p hp=>hW _ _ ((h.ky _).mp (Dc hp).1) (h.vl p hp)⟩
theorem Dkt.one {S:List Nat->Prop}{W:List Nat->D->Prop}{x:D}(hS:∀c',S c'↔c'=c)(hf:flat x=true)(hW:W c x):Dkt S W [c] [x]:=
  ⟨Ay.mpr ⟨(fun z=>nomatch z),A6⟩,rfl,by simp [Zu,hf],fun c'=>by rw [Aj];exact (hS c').symm,fun p hp=>by
    rw [Aj.mp hp];exact hW⟩
theorem Dkt.nil {S:List Nat->Prop}{W:List Nat->D->Prop}(hS:∀c,¬S c):Dkt S W [] []:=⟨A6,rfl,rfl,fun c=>⟨(fun z=>nomatch z),fun z=>absurd z (hS c)⟩,fun _ z=>nomatch z⟩
theorem Zky {d:D}(hd:flat d=true):∀(xs:List D),Zu xs=true->Zu (xs++[d])=true
 | [],_=>by simp [Zu,hd]
 | x::xs,h=>by simp only [Zu,AY,Io] at h ⊢;exact ⟨h.1,Zky hd xs h.2⟩
theorem Xax {k:List (Int ⊕ Str)}{d:D}(hd:flat d=true):∀(ks:List (List (Int ⊕ Str))) (xs:List D),Zu xs=true->Zu (A3 (fun j x=>if j=k then d else x) ks xs)=true
 | [],_,_=>rfl
 | _::_,[],_=>rfl
 | j::ks,x::xs,h=>by simp only [Zu,AY] at h;rw [Dw];simp only [Zu,AY];refine ⟨?_,Xax hd ks xs h.2⟩;split;exact hd;exact h.1
theorem Zja {k:List Nat}{v:D}{p:List Nat×D}:∀(cs:List (List Nat)) (xs:List D),p∈cs.zip (A3 (fun j x=>if j=kyN k then v else x) (cs.map kyN) xs)->(p.1=k/\p.2=v)\/(p.1≠k/\p∈cs.zip xs)
 | [],_,h=>nomatch h
 | _::_,[],h=>nomatch h
 | c::cs,x::xs,h=>by rw [AV,Dw,Ca] at h;rcases Al.mp h with e | e;by_cases q:c=k;subst q;rw [if_pos rfl] at e;rw [e];exact .inl ⟨rfl,rfl⟩;rw [if_neg fun z=>q (Zpr z)] at e;rw [e];exact .inr ⟨q,.head _⟩;rcases Zja cs xs e with h | ⟨h1,h2⟩;exact .inl h;exact .inr ⟨h1,.tail _ h2⟩
theorem Dkt.put {S:List Nat->Prop}{W:List Nat->D->Prop}(h:Dkt S W cs xs)(hv:flat v=true)(hS:∀c,S' c↔S c\/c=k)(hW:∀c x,S c->c≠k->W c x->W' c x)(hk:W' k v):∃cs' xs',Xol (cs.map kyN) xs (kyN k) v=.dtt (cs'.map kyN) xs'/\Dkt S' W' cs' xs':=by unfold Xol;rw [Zrn];by_cases q:k∈cs;rw [if_pos (decide_eq_true q)];refine ⟨cs,_,rfl,h.nd,by rw [Cb,Ah,h.ln,GU],Xax hv _ _ h.fl,fun c=>?_,fun p hp=>?_⟩;rw [h.ky c,hS c];exact ⟨.inl,fun z=>z.elim id fun e=>e▸(h.ky k).mp q⟩;rcases Zja _ _ hp with ⟨e1,e2⟩ | ⟨e1,e2⟩;rw [e1,e2];exact hk;exact hW _ _ ((h.ky _).mp (Dc e2).1) e1 (h.vl p e2);rw [if_neg fun z=>q (of_decide_eq_true z)];refine ⟨cs++[k],xs++[v],by rw [AU];rfl,?_,by rw [Ak,Ak,h.ln];rfl,Zky hv _ h.fl,fun c=>?_,fun p hp=>?_⟩;refine Dy.mpr ⟨h.nd,Ay.mpr ⟨(fun z=>nomatch z),A6⟩,fun a ha b hb e=>?_⟩;rw [Aj.mp hb] at e;exact q (e▸ha);rw [Ao,Aj,h.ky c,hS c];rw [FL h.ln.symm] at hp;rcases Ao.mp hp with e | e;have m:=(Dc e).1;exact hW _ _ ((h.ky _).mp m) (fun z=>q (z▸m)) (h.vl p e);rw [Aj.mp e];exact hk
theorem Zsh {k:List Nat}:∀(cs:List (List Nat)) (xs:List D),xs.length=cs.length->k∈cs->∃x,tAt (cs.map kyN) xs (kyN k)=some x/\(k,x)∈cs.zip xs
 | [],_,_,h=>nomatch h
 | c::cs,x::xs,hl,h=>by by_cases e:c=k;subst e;exact ⟨x,if_pos rfl,.head _⟩;obtain ⟨y,h1,h2⟩:=Zsh cs xs (BF hl) ((Al.mp h).resolve_left fun z=>e z.symm);exact ⟨y,(if_neg fun z=>e (Zpr z)).trans h1,.tail _ h2⟩
 | _::_,[],hl,_=>nomatch hl
theorem Dkt.at {S:List Nat->Prop}{W:List Nat->D->Prop}(h:Dkt S W cs xs)(hk:S k):∃x,tAt (cs.map kyN) xs (kyN k)=some x/\W k x:=by obtain ⟨x,h1,h2⟩:=Zsh cs xs h.ln ((h.ky k).mpr hk);exact ⟨x,h1,h.vl _ h2⟩
structure Zau (os:List Nat):Prop where
 pr:Xl os<=120
 ha:∀cs:List (List Nat),cs.Nodup->(∀c∈cs,LeC c os)->((cs.map kyN).map thK).Nodup
theorem mem_getD (h:x∈c):∃i,i<c.length/\x=c.getD i 0:=by obtain ⟨i,hi,e⟩:=EK.mp h;exact ⟨i,hi,by rw [AS,Ag hi,<- e];rfl⟩
theorem Zau.small (h:Zau os)(hc:LeC c os):∀x∈c,x<120:=fun x hx=>by
 obtain ⟨i,hi,rfl⟩:=mem_getD hx;have:=hc.2 i;have hi':i<os.length:=by rw [<- hc.1];exact hi
 have m:os.getD i 0∈os:=by rw [AS,Ag hi'];exact Cg hi'
 have:=Zro m;have:=h.pr;omega
theorem Dkt.few {S:List Nat->Prop}{W:List Nat->D->Prop}(h:Dkt S W cs xs)(ho:Zau os)(hS:∀c,S c->LeC c os):cs.length<=120:=Az (Xad h.nd fun c hc=>hS c ((h.ky c).mp hc)) ho.pr
theorem Xpx :(kyN c).all kOk=true:=by refine Bp.mpr fun k hk=>?_;obtain ⟨x,-,rfl⟩:=AB.mp hk;rfl
theorem Zqi :((cs.map kyN).all fun k=>k.all kOk)=true:=by refine Bp.mpr fun k hk=>?_;obtain ⟨c,-,rfl⟩:=AB.mp hk;exact Xpx
theorem Zwb:∀(cs:List (List Nat)) (xs:List D),A3 (fun k x=>D.tup [Zdn k,x]) (cs.map kyN) xs=(cs.zip xs).map fun p=>.tup [tyN p.1,p.2]
 | [],_=>rfl
 | _::_,[]=>rfl
 | c::cs,x::xs=>by rw [AV,Dw,Ca,AV,Zwb cs xs,Zko]
theorem Zqb (h:a ρ=.ok (.fdt (cs.map kyN) xs))(hl:cs.length<=120):Zhz a ρ=.ok ((cs.zip xs).map fun p=>.tup [tyN p.1,p.2]):=by unfold Zhz;rw [h];show (if (cs.map kyN).length<=lim/\_ then _ else _)=_;rw [if_pos ⟨by rw [Ah];exact Az hl (by decide),Zqi⟩];exact congrArg R.ok (Zwb cs xs)
theorem Zph (h:a ρ=.ok (.fdt (cs.map kyN) xs))(hl:cs.length<=120):Zhc a ρ=.ok (cs.map tyN):=by unfold Zhc;rw [h];show (if (cs.map kyN).length<=lim/\_ then _ else _)=_;rw [if_pos ⟨by rw [Ah];exact Az hl (by decide),Zqi⟩,Be];refine congrArg R.ok (BM fun c _=>Zko c)
theorem Dkt.dict {S:List Nat->Prop}{W:List Nat->D->Prop}(h:Dkt S W cs xs)(ho:Zau os)(hS:∀c,S c->LeC c os)(hc:S c):Zst [.fdt (cs.map kyN) xs]=some (.dtt (cs.map kyN) xs):=by have le:∀c∈cs,LeC c os:=fun c hc=>hS c ((h.ky c).mp hc);refine if_pos ⟨fun z=>?_,Bp.mpr fun k hk=>?_,ho.ha cs h.nd le,h.fl⟩;rw [List.map_eq_nil_iff.mp z] at h;exact nomatch (h.ky c).mpr hc;obtain ⟨c,hc,rfl⟩:=AB.mp hk;exact Xte fun x hx=>GW (ho.small (le c hc) x hx) (by decide)
theorem Xrb {α:Type}{enc:α->D}{b:FB}{s:FS}{P:List α->Env->Prop}{xs:List α}(step:∀l x r ρ,xs=l++x::r->P l ρ->∃ρ',(turn b s (enc x) ρ=.ok (.nx ρ')\/turn b s (enc x) ρ=.ok (.cnt ρ'))/\P (l++[x]) ρ'):∀{r l:List α} {ρ:Env},xs=l++r->P l ρ->∃ρ',P xs ρ'/\Zgz b s (r.map enc) ρ=.ok (.nx ρ')
 | [],l,ρ,e,h=>⟨ρ,by rw [e,Dg];exact h,rfl⟩
 | x::r,l,ρ,e,h=>by
  obtain ⟨ρ1,t,h1⟩:=step l x r ρ e h;obtain ⟨ρ2,h2,t2⟩:=Xrb step (r:=r) (l:=l++[x]) (ρ:=ρ1) (by rw [e,CN];rfl) h1;refine ⟨ρ2,h2,?_⟩;rw [AV,Zmv];unfold turn at t;cases hb:(b (enc x) ρ).calm with
  | ok ρ' =>rw [hb,Zas] at t;rw [Zas];rcases t with t | t;rw [t];exact t2;rw [t];exact t2
  | err _ _=>rw [hb] at t;rcases t with t | t<;>cases t
  | bad=>rw [hb] at t;rcases t with t | t<;>cases t
theorem Jz {enc:α->D}{b:FB}{P:List α->Env->Prop}{xs:List α}(h0:P [] ρ)(step:∀l x r ρ,xs=l++x::r->P l ρ->∃ρ',(turn b s (enc x) ρ=.ok (.nx ρ')\/turn b s (enc x) ρ=.ok (.cnt ρ'))/\P (l++[x]) ρ'):∃ρ',P xs ρ'/\Zgz b s (xs.map enc) ρ=.ok (.nx ρ'):=Xrb step (l:=[]) rfl h0
theorem Ztc (h:i<c.length):gIx (tyN c) (.int (i:Int))=some (.int ((c.getD i 0:Nat):Int)):=ix_t (k:=i) rfl (by rw [AM,AS,Ag h];rfl)
theorem Yu:∀c:List Nat,Zu (c.map fun x:Nat=>D.int (x:Int))=true
 | []=>rfl
 | _::c=>by rw [AV];show (true&&Zu _)=true;rw [Yu c];rfl
theorem Xsm (h:i<c.length):Zxb (tyN c) none (some (i:Int))=some (tyN (c.take i))/\Zxb (tyN c) (some ((i:Int)+1)) none=some (tyN (c.drop (i+1))):=by
 have hl:(c.map fun x:Nat=>D.int (x:Int)).length=c.length:=Ah ..;constructor;have hc:¬(Zpt (c.map fun x:Nat=>D.int (x:Int)).length 0 none=0/\Zpt (c.map fun x:Nat=>D.int (x:Int)).length (c.map fun x:Nat=>D.int (x:Int)).length (some (i:Int))=(c.map fun x:Nat=>D.int (x:Int)).length):=fun z=>by have:=z.2;unfold Zpt at this;simp only [] at this;rw [if_neg (by omega),hl] at this;omega
 refine (if_pos ⟨Yu c,hc⟩).trans ?_;rw [Xgs (by omega),<- Ga];rfl;have hc:¬(Zpt (c.map fun x:Nat=>D.int (x:Int)).length 0 (some ((i:Int)+1))=0/\Zpt (c.map fun x:Nat=>D.int (x:Int)).length (c.map fun x:Nat=>D.int (x:Int)).length none=(c.map fun x:Nat=>D.int (x:Int)).length):=fun z=>by have:=z.1;unfold Zpt at this;simp only [] at this;rw [if_neg (by omega),hl] at this;omega
 refine (if_pos ⟨Yu c,hc⟩).trans ?_;rw [Xge (by omega),<- GV];rfl
theorem Xuk (h:i<c.length)(hl:c.length<=1000):Zjo (tyN (c.take i)) (.tup [.int ((c.getD i 0:Nat)+1)])=some (tyN (c.take i++[c.getD i 0+1]))/\Zjo (tyN (c.take i++[c.getD i 0+1])) (tyN (c.drop (i+1)))=some (tyN (Zfu c i)):=by
 have e:Zfu c i=c.take i++[c.getD i 0+1]++c.drop (i+1):=by unfold Zfu;rw [List.set_eq_take_append_cons_drop,if_pos h,CN];rfl
 constructor;have h1:((c.take i).map fun x:Nat=>D.int (x:Int)).length+1<=1000000:=by rw [Ah,CH];omega
 refine (if_pos ⟨h1,Yu _,rfl⟩).trans ?_;unfold tyN;rw [AU];rfl;have h1:((c.take i++[c.getD i 0+1]).map fun x:Nat=>D.int (x:Int)).length+((c.drop (i+1)).map fun x:Nat=>D.int (x:Int)).length<=lim:=by rw [Ah,Ah,<- Ak,<- e,Zsy];exact Az hl (by decide)
 refine (if_pos ⟨h1,Yu _,Yu _⟩).trans ?_;rw [<- AU,<- e];rfl
theorem r_up {e i:FE}(he:e ρ=.ok (tyN c))(hi:i ρ=.ok (.int (j:Int)))(h:j<c.length)(hl:c.length<=1000):f2 Zjo (f2 Zjo (fSl Zxb e Zgx (Zel i)) (fA Zew (Ze (f2 Yp (f2 gIx e i) (fC (.int 1))) Zy))) (fSl Zxb e (Zel (f2 Yp i (fC (.int 1)))) Zgx) ρ=.ok (tyN (Zfu c j)):=Zm (Zm (r_sl he rfl (Zzk hi) (Xsm h).1) (Jd (Zd (Zm (Zm he hi (Ztc h)) rfl rfl) rfl) rfl) (Xuk h hl).1) (r_sl he (Zzk (Zm hi rfl rfl)) rfl (Xsm h).2) (Xuk h hl).2
inductive Cw (ns:List Int)(ks:List Kd):Nat->Nat->List Nat->Prop where
 | nil (a:Nat):Cw ns ks a a (Ab ks.length 0)
 | skip {a b:Nat} {c:List Nat}:Cw ns ks a b c->b+1<=ns.length->Cw ns ks a (b+1) c
 | piece {a b i:Nat} {c:List Nat} {k:Kd}:Cw ns ks a b c->ks[i]?=some k->good ns k (b:Int)=true->Cw ns ks a (b+k.w.toNat) (Zfu c i)
theorem Zrq (n i:Nat):(Ab n 0).getD i 0=0:=by rw [AS,El];split<;>rfl
def Lf (ks:List Kd)(os:List Nat)(rs:List (List Int))(l:List Nat)(u:Nat):Prop:=∃xs,Xmm ks rs xs/\Zrb os xs l/\u=Yy xs
theorem Xao (ho:os.length=ks.length):(∃pl,Pln ks os rs l u pl)↔Lf ks os rs l u:=by constructor;rintro ⟨pl,h⟩;exact h.cuts;rintro ⟨xs,h1,h2,rfl⟩;exact Pln.ofCuts ho rfl h1 h2
theorem Lf.mid {xs:List (List Int×List Nat)}(f:List Int×List Nat->Nat)(p:List Int×List Nat):((xs++p::ys).map f).sum=((xs++ys).map f).sum+f p:=by rw [AU,AU,AV,Dz,Dz,CS];omega
theorem Lf.more (ho:os.length=ks.length)(h:Lf ks os (rs++ss) l u):Lf ks os (rs++r::ss) l u:=by obtain ⟨xs,⟨e1,e2⟩,⟨e3,e4⟩,rfl⟩:=h;obtain ⟨ys,zs,rfl,e5,e6⟩:=List.map_eq_append_iff.mp e1;refine ⟨ys++(r,Ab ks.length 0)::zs,⟨by rw [AU,AV,e5,e6],fun p hp=>?_⟩,⟨e3,fun i=>?_⟩,?_⟩;rcases Ao.mp hp with q | q;exact e2 p (AF _ q);rcases Al.mp q with q | q;rw [q];exact ⟨[],Ct.none r ks r.length⟩;exact e2 p (Ar _ q);rw [Lf.mid];have:=e4 i;show _+(_+(Ab ks.length 0).getD i 0)=_;rw [Zrq];omega;unfold Yy;rw [Lf.mid];show _=_+(if (Ab ks.length 0).sum=0 then 0 else 1);rw [Zbg,if_pos rfl];rfl
theorem Zyz:∀xs:List (List Int×List Nat),Yy xs<=xs.length
 | []=>As _
 | p::xs=>by have:=Zyz xs;unfold Yy at this ⊢;rw [AV,CS,Bt];split<;>omega
theorem Lf.used (h:Lf ks os rs l u):u<=rs.length:=by obtain ⟨xs,⟨e1,e2⟩,⟨e3,e4⟩,rfl⟩:=h;rw [<- e1,Ah];exact Zyz xs
theorem Lf.rest (h:Lf ks os rs l u)(ho:os.length=ks.length):Lf ks (sbC os l) rs (Ab ks.length 0) u:=by obtain ⟨xs,⟨e1,e2⟩,⟨e3,e4⟩,rfl⟩:=h;refine ⟨xs,⟨e1,e2⟩,⟨by rw [BS,Zqo e3,ho],fun i=>?_⟩,rfl⟩;have:=e4 i;rw [Zrq,Zhx e3];omega
def Xr {α:Type}:List α->Nat->List α
 | [],_=>[]
 | r::rs,m=>(if m % 2=1 then [r] else [])++Xr rs (m / 2)
theorem Zir {α:Type}(x:α):∀(l:List α) (m:Nat),Xr (l++[x]) m=Xr l m++(if m / 2 ^ l.length % 2=1 then [x] else [])
 | [],m=>by show (if m % 2=1 then [x] else [])++[]=[]++_;rw [Dg,Fz,Kt,KM];rfl
 | r::l,m=>by show _++Xr (l++[x]) (m / 2)=(_++_)++_;rw [Zir x l (m / 2),CN,Bt,Ku,Kw,G5]
theorem Zhr {α:Type}{x:α}:∀{l:List α} {m:Nat},x∈Xr l m->x∈l
 | r::l,m,h=>by rcases Ao.mp h with q | q;split at q;rw [Aj.mp q];exact .head _;exact nomatch q;exact .tail _ (Zhr q)
theorem Zgu {α:Type}:∀(l:List α) (m:Nat),(Xr l m).length<=l.length
 | [],_=>As _
 | r::l,m=>by have:=Zgu l (m / 2);show ((if m % 2=1 then [r] else [])++Xr l (m / 2)).length<=_;rw [Ak,Bt];split;show 1+_<=_;omega;show 0+_<=_;omega
theorem Lf.ofPart (ho:os.length=ks.length){l:List Nat}{u:Nat}:∀{rs pre:List (List Int)} {m:Nat},Lf ks os (pre++Xr rs m) l u->Lf ks os (pre++rs) l u
 | [],pre,m,h=>h
 | r::rs,pre,m,h=>by have h:Lf ks os (pre++((if m % 2=1 then [r] else [])++Xr rs (m / 2))) l u:=h;split at h;rw [<- CN] at h;have:=Lf.ofPart ho h;rw [CN] at this;exact this;exact Lf.more ho (Lf.ofPart ho h)
def maskOf:List (List Int×List Nat)->Nat
 | []=>0
 | p::xs=>(if p.2.sum=0 then 0 else 1)+2*maskOf xs
theorem Zzn:∀xs:List (List Int×List Nat),maskOf xs<2 ^ xs.length
 | []=>Nat.one_pos
 | p::xs=>by have:=Zzn xs;show (if p.2.sum=0 then 0 else 1)+2*maskOf xs<2 ^ (xs.length+1);rw [Ku];split<;>omega
theorem Zmq:∀xs:List (List Int×List Nat),Xr (xs.map (·.1)) (maskOf xs)=(Xr xs (maskOf xs)).map (·.1)
 | []=>rfl
 | p::xs=>by
  have e2:maskOf (p::xs) / 2=maskOf xs:=by show ((if p.2.sum=0 then 0 else 1)+2*maskOf xs) / 2=_;split<;>omega
  show (if maskOf (p::xs) % 2=1 then [p.1] else [])++Xr (xs.map (·.1)) (maskOf (p::xs) / 2)=((if maskOf (p::xs) % 2=1 then [p] else [])++Xr xs (maskOf (p::xs) / 2)).map (·.1);rw [e2,Zmq xs,AU];split<;>rfl
theorem Znh:∀{c:List Nat},c.sum=0->∀i,c.getD i 0=0
 | [],_,i=>rfl
 | x::c,h,i=>by
  rw [CS] at h;cases i with
  | zero=>show x=0;omega
  | succ i=>exact Znh (c:=c) (by omega) i
theorem Znn:∀xs:List (List Int×List Nat),(∀i,((Xr xs (maskOf xs)).map fun p=>p.2.getD i 0).sum=(xs.map fun p=>p.2.getD i 0).sum)/\Yy (Xr xs (maskOf xs))=Yy xs/\(Xr xs (maskOf xs)).length=Yy xs
 | []=>⟨fun _=>rfl,rfl,rfl⟩
 | p::xs=>by
  obtain ⟨h1,h2,h3⟩:=Znn xs;have e:Xr (p::xs) (maskOf (p::xs))=(if p.2.sum=0 then [] else [p])++Xr xs (maskOf xs):=by
   have e2:maskOf (p::xs) / 2=maskOf xs:=by show ((if p.2.sum=0 then 0 else 1)+2*maskOf xs) / 2=_;split<;>omega
   show (if maskOf (p::xs) % 2=1 then [p] else [])++Xr xs (maskOf (p::xs) / 2)=_;rw [e2];by_cases q:p.2.sum=0;rw [if_pos q,if_neg (by show ¬((if p.2.sum=0 then 0 else 1)+2*maskOf xs) % 2=1;rw [if_pos q];omega)];rw [if_neg q,if_pos (by show ((if p.2.sum=0 then 0 else 1)+2*maskOf xs) % 2=1;rw [if_neg q];omega)]
  have u:Yy (p::xs)=(if p.2.sum=0 then 0 else 1)+Yy xs:=by unfold Yy;rw [AV,CS]
  rw [e,u];by_cases q:p.2.sum=0;rw [if_pos q,if_pos q,FU];refine ⟨fun i=>?_,h2,h3⟩;show ((Xr xs (maskOf xs)).map fun p=>p.2.getD i 0).sum=_;rw [AV,CS,Znh q,FU];exact h1 i;rw [if_neg q,if_neg q];refine ⟨fun i=>?_,?_,?_⟩;show ((p::Xr xs (maskOf xs)).map fun p=>p.2.getD i 0).sum=_;rw [AV,CS,AV,CS,h1 i];have:Yy (p::Xr xs (maskOf xs))=1+Yy (Xr xs (maskOf xs)):=by unfold Yy;rw [AV,CS,if_neg q]
  exact this.trans (by rw [h2]);show (p::Xr xs (maskOf xs)).length=_;rw [Bt,h3];omega
theorem Lf.toPart (h:Lf ks os rs l u):∃m,m<2 ^ rs.length/\(Xr rs m).length=u/\Lf ks os (Xr rs m) l u:=by
 obtain ⟨xs,⟨e1,e2⟩,⟨e3,e4⟩,rfl⟩:=h;obtain ⟨h1,h2,h3⟩:=Znn xs;have ep:Xr rs (maskOf xs)=(Xr xs (maskOf xs)).map (·.1):=by rw [<- e1];exact Zmq xs
 refine ⟨maskOf xs,?_,by rw [ep,Ah,h3],Xr xs (maskOf xs),⟨ep.symm,fun p hp=>e2 p (Zhr hp)⟩,⟨e3,fun i=>by rw [h1];exact e4 i⟩,h2.symm⟩;rw [<- e1,Ah];exact Zzn xs
def Zae:FS:=
 (sIf (cE (f2 gLt (f2 gIx (fV 5) (fV 2)) (fV 3))) (Xk (Xq 7 (f2 Zjo (f2 Zjo (fSl Zxb (fV 5) Zgx (Zel (fV 2))) (fA Zew (Ze (f2 Yp (f2 gIx (fV 5) (fV 2)) (fC (.int 1))) Zy))) (fSl Zxb (fV 5) (Zel (f2 Yp (fV 2) (fC (.int 1)))) Zgx))) (sIf (cE (f2 Zfd (fV 7) (fV 0))) (Zin 0 (fV 7) (f1 Xhq (f2 Zva (fV 6) (fA Yz (Ze (fV 4) Zy))))) sNx)) sNx)
def Zdr:FM:=
 (Xni (Zeb (Zhz (fV 1)) (Zet (Xw (Zt 5) (Xw (Zt 6) Zeo))) (Zpv Zae)))
def Xy (ds:List D):R (D×D):=(Xpr 8 Zdr ds).calm
def Zag:FS:=
  (Xk (Xq 7 (fA Zda (Ze (Zdb 9 2 (Zlg (fV 3) (fV 5)) (Zet (Xw (Zt 9) (Xw (Zt 10) Zeo))) Ziy (f2 Zeu (fV 9) (fV 10))) Zy)))
    (Xk (sIf (cE (f2 gLt (Zqg (fV 7) (fC (.int 0))) (fC (.int 0)))) sCnt sNx)
    (Xk (Xq 8 (fIf (Zui (fV 6)) (f2 Yp (f2 gIx (fV 4) (fC (.int 0))) (fC (.int 1))) (f1 Yr (f2 gIx (fV 4) (fC (.int 0))))))
    (sIf (cOr (cE (f2 Zfd (fV 7) (fV 2))) (cE (f2 gLt (fV 8) (f2 gIx (f2 Xop (fV 2) (fV 7)) (fC (.int 0)))))) (Zin 2 (fV 7) (fA Zew (Ze (fV 8) (Ze (f1 Xhq (f2 Zva (f2 gIx (fV 4) (fC (.int 1))) (fA Yz (Ze (fV 6) Zy)))) Zy)))) sNx))))
def Zej:FS:=
 (Zeb (Zhz (fV 1)) (Zet (Xw (Zt 5) (Xw (Zt 6) Zeo))) Zag)
def Zpu:FS:=
  (Xk (Xq 2 (fC (.dtt [] [])))
    (Xk (Zeb (Zhz (fV 0)) (Zet (Xw (Zt 3) (Xw (Zt 4) Zeo))) Zej)
    (Zjc 2)))
def Zar (ds:List D):R D:=(run 9 Zpu ds).calm
def Zbr:FS:=
  (Xk (sIf (cE (f2 gEq (f2 Zfz (fV 1) (fC (.int 2))) (fC (.int 1)))) (Zlc 2 (fV 3)) sNx)
    (Xq 1 (f2 Xhx (fV 1) (fC (.int 2)))))
def Zqa:FS:=
  (Xk (Xq 2 (fA Yz Zy))
    (Xk (Zeb (Zff (fV 0)) (Zt 3) Zbr)
    (Zdo (fV 2))))
def Jk (ds:List D):R D:=(run 4 Zqa ds).calm
def Zap:FS:=
  (sIf (cE (f2 gLt (f2 gIx (fV 9) (fV 7)) (f2 gIx (fV 2) (fV 7)))) (Xk (Xq 10 (f2 Zjo (f2 Zjo (fSl Zxb (fV 9) Zgx (Zel (fV 7))) (fA Zew (Ze (f2 Yp (f2 gIx (fV 9) (fV 7)) (fC (.int 1))) Zy))) (fSl Zxb (fV 9) (Zel (f2 Yp (fV 7) (fC (.int 1)))) Zgx)))
    (Zin 6 (fV 10) (fC (.bl true)))) sNx)
def Zch:FS:=
  (Xk (Xq 8 (f2 Zeu (fV 5) (f2 gIx (f2 gIx (fV 1) (fV 7)) (fC (.int 1)))))
    (sIf (cE (Yf Zaq (Ze (fV 3) (Ze (f2 gIx (fV 1) (fV 7)) (Ze (fV 8) Zy))))) (Zeb (Zhc (f2 gIx (fV 4) (fV 8))) (Zt 9) Zap) sNx))
def Zak:FS:=
  (Xk (Xq 6 (fA Zst (Ze (f2 gIx (fV 4) (f1 Xhh (fC (.int 1)))) Zy)))
    (Xk (Zeb (Zfy (Ze (fA Zbh (Ze (fV 1) Zy)) Zy)) (Zt 7) Zch)
    (Zhk 4 6)))
def Zkn:FS:=
  (Xk (Xq 3 (Yf Ji (Ze (fV 0) Zy)))
    (Xk (Xq 4 (fA Yz (Ze (f1 Xmr (Zfm (fA Zda (Ze (f2 Zab (fA Yz (Ze (fC (.int 0)) Zy)) (fA Zbh (Ze (fV 1) Zy))) Zy)) (fC (.bl true)))) Zy)))
    (Xk (Zeb (Zte (Ze (fC (.int 1)) (Ze (fA Zbh (Ze (fV 3) Zy)) Zy))) (Zt 5) Zak)
    (Zdo (f1 Yr (f2 gIx (fV 4) (f1 Xhh (fC (.int 1)))))))))
def Yx (ds:List D):R D:=(run 11 Zkn ds).calm
def Zgp:FS:=
  (Xk (Xq 8 (f2 Zeu (fV 4) (f2 gIx (fV 7) (fC (.int 1)))))
    (sIf (cE (Yf Zle (Ze (fV 0) (Ze (fV 7) (Ze (fV 8) Zy))))) (Znr (Zje 5 Xy (Ze (f2 gIx (fV 3) (fV 8)) (Ze (fV 6) (Ze (f2 gIx (fV 2) (fV 6)) (Ze (fA Zew (Ze (fV 8) (Ze (f2 gIx (fV 7) (fC (.int 0))) Zy))) Zy)))))) sNx))
def Zdl:FS:=
  (Xk (Xq 5 (fA Zst (Ze (f2 gIx (fV 3) (f1 Xhh (fC (.int 1)))) Zy)))
    (Xk (Zeb (Xlo (fV 1)) (Zet (Xw (Zt 6) (Xw (Zt 7) Zeo))) Zgp)
    (Zhk 3 5)))
def Zzf:FS:=
  (Xk (Xq 3 (fA Yz (Ze (f1 Xmr (Zfm (fA Zda (Ze (f2 Zab (fA Yz (Ze (fC (.int 0)) Zy)) (fA Zbh (Ze (fV 2) Zy))) Zy)) (f1 Xhq (fA Yz Zy)))) Zy)))
    (Xk (Zeb (Zte (Ze (fC (.int 1)) (Ze (f2 Yp (fA Zbh (Ze (fV 0) Zy)) (fC (.int 1))) Zy))) (Zt 4) Zdl)
    (Zdo (f1 Yr (f2 gIx (fV 3) (f1 Xhh (fC (.int 1))))))))
def Zck (ds:List D):R D:=(run 9 Zzf ds).calm
def Zdf:FS:=
  (Xk (Xq 9 (f1 Yr (f2 gIx (fV 5) (fV 8))))
    (Xk (sIf (Xht (cE (f2 gEq (fV 8) (fC (.int 0)))) (cE (f2 gEq (f2 gIx (fV 5) (fC (.int 8))) (fC (.int 0))))) (Xq 9 (f2 Zeu (fV 4) (fC (.int 1)))) sNx)
    (Xk (sIf (cE (f2 gGt (f2 Zab (fV 7) (f2 Yp (fV 9) (fC (.int 1)))) (fV 4))) (Xq 9 (fC (.int 0))) sNx)
    (Xk (Xq 7 (f2 Zab (fV 7) (f2 Yp (fV 9) (fC (.int 1)))))
    (Zlc 6 (f1 Yr (fV 9)))))))
def Zmj:FS:=
  (Xk (Xq 5 (Yf Xj (Ze (fV 0) (Ze (fV 1) (Ze (f2 Yp (f2 Zab (fA Yz (Ze (f2 Yp (fV 3) (fC (.int 1))) Zy)) (fC (.int 8))) (fA Yz (Ze (fC (.int 16)) Zy))) Zy)))))
    (Xk (Xq 6 (fA Yz Zy))
    (Xk (Xq 7 (fC (.int 1)))
    (Xk (Zeb (Zfy (Ze (fA Zbh (Ze (fV 2) Zy)) Zy)) (Zt 8) Zdf)
    (Zdo (fV 6))))))
def Jn (ds:List D):R D:=(run 10 Zmj ds).calm
def Ju:FS:=
  (Xk (Xq 9 (fA Zda (Ze (Zdb 10 2 (Zlg (fV 7) (fV 8)) (Zet (Xw (Zt 10) (Xw (Zt 11) Zeo))) Ziy (f2 Zeu (fV 10) (fV 11))) Zy)))
    (sIf (cOr (cE (f2 gEq (fA Zbh (Ze (fV 9) Zy)) (fC (.int 0)))) (cE (f2 gGe (fA Zyg (Ze (fV 9) Zy)) (fC (.int 0))))) (Zin 6 (fV 9) (fC (.bl true))) sNx))
def Jv:FS:=
 (Zeb (Zhc (fV 5)) (Zt 8) Ju)
def Zca:FS:=
  (Xk (Xq 5 (Yf Yx (Ze (fV 4) (Ze (fV 1) (Ze (fV 2) Zy)))))
    (Xk (Xq 6 (fC (.dtt [] [])))
    (Xk (Zeb (Zhc (fV 3)) (Zt 7) Jv)
    (Zjg 3 6))))
def Zio:FS:=
  (Xk (Xq 3 (f1 Xmr (Zfm (fA Zda (Ze (fV 2) Zy)) (fC (.bl true)))))
    (Xk (Zeb (Zff (fV 0)) (Zt 4) Zca)
    (Zdo (fV 3))))
def Yd (ds:List D):R D:=(run 10 Zio ds).calm
def Zbn:FS:=
 (Xq 3 (Yf Zar (Ze (fV 3) (Ze (Yf Zck (Ze (fV 4) (Ze (fV 1) (Ze (fV 2) Zy)))) Zy))))
def Zhb:FS:=
  (Xk (Zvb (Yf Jp (Ze (fV 0) (Ze (fV 2) Zy))))
    (Xk (Xq 3 (f1 Xmr (Zfm (fA Zda (Ze (fV 2) Zy)) (fA Zew (Ze (fC (.int 0)) (Ze (f1 Xhq (fA Yz Zy)) Zy))))))
    (Xk (Zeb (Zff (fV 0)) (Zt 4) Zbn)
    (Zdo (fV 3)))))
def Ym (ds:List D):R D:=(run 5 Zhb ds).calm
def Zmt:FS:=
  (Xk (Xq 5 (Yf Zat (Ze (fV 0) (Ze (fV 1) (Ze (fV 4) Zy)))))
    (Xk (Xq 6 (Yf Jq (Ze (fV 0) (Ze (fV 1) (Ze (fV 4) Zy)))))
    (Xk (Xq 7 (f1 Yr (f2 gIx (Yf Xj (Ze (fV 0) (Ze (f2 Yp (fV 1) (fC (.int 1))) (Ze (fA Yz (Ze (f2 Yp (fV 2) (fC (.int 1))) Zy)) Zy)))) (fC (.int 0)))))
    (Xk (Xq 8 (Zdb 9 1 (Zfy (Ze (fV 7) Zy)) (Zt 9) Ziy (Yf Jg (Ze (fV 0) (Ze (f2 Yp (f2 Yp (fV 1) (fC (.int 2))) (fV 9)) (Ze (fV 3) (Ze (fV 5) Zy)))))))
    (Zdo (fA Zew (Ze (fV 8) (Ze (fV 6) Zy))))))))
def Jo (ds:List D):R D:=(run 9 Zmt ds).calm
def Xtr:FS:=
  (Xk (Xq 3 (Yf Ym (Ze (fV 0) (Ze (fV 1) (Ze (fV 2) Zy)))))
    (Xk (Xq 4 (fA Zda (Ze (f2 Zab (fA Yz (Ze (fC (.int 0)) Zy)) (fA Zbh (Ze (fV 2) Zy))) Zy)))
    (Xk (sIf (cE (f2 Zrs (fV 4) (fV 3))) Zhu sNx)
    (Zdo (f2 Xcx (fV 3) (fV 4))))))
def Zmh (ds:List D):R D:=(run 5 Xtr ds).calm
def Zvj:FS:=
  (Xk (Xq 9 (Yf Jk (Ze (fV 1) (Ze (fV 8) Zy))))
    (sIf (Xht (cE (f2 gLt (fA Zbh (Ze (fV 9) Zy)) (fV 7))) (cE (f2 Xaq (fV 6) (Yf Yd (Ze (fV 9) (Ze (fV 2) (Ze (fV 3) Zy))))))) (Xq 7 (fA Zbh (Ze (fV 9) Zy))) sNx))
def q_law:FS:=
  (Xk (Xom (Yf Jo (Ze (fV 0) (Ze (fC (.int 0)) (Ze (fC (.int 4)) (Ze (fC (.int 14)) (Ze (fC (.int 4)) Zy)))))) (Zet (Xw (Zt 1) (Xw (Zt 2) Zeo))))
    (Xk (Xq 3 (Yf Jn (Ze (fV 0) (Ze (fC (.int 10)) (Ze (fV 2) (Ze (fC (.int 3)) (Ze (fC (.int 27)) Zy)))))))
    (Xk (Xq 4 (fA Zpd (Ze (fA Zws (Ze (Yf Yd (Ze (fV 1) (Ze (fV 2) (Ze (fV 3) Zy)))) Zy)) Zy)))
    (Xk (Xq 5 (f1 Yr (f2 gIx (fV 4) (f2 Zfz (f2 gIx (Yf Xj (Ze (fV 0) (Ze (fC (.int 11)) (Ze (fA Yz (Ze (fC (.int 81)) Zy)) Zy)))) (fC (.int 0))) (fA Zbh (Ze (fV 4) Zy))))))
    (Xk (Xq 3 (Zdb 11 2 (Zss (fV 3) (fV 5)) (Zet (Xw (Zt 11) (Xw (Zt 12) Zeo))) Ziy (f2 Zeu (fV 11) (fV 12))))
    (Xk (Xq 6 (fA Zda (Ze (f2 Zab (fA Yz (Ze (fC (.int 0)) Zy)) (fA Zbh (Ze (fV 2) Zy))) Zy)))
    (Xk (Xq 7 (fA Zbh (Ze (fV 1) Zy)))
    (Xk (Zeb (Zfy (Ze (fC (.int 16)) Zy)) (Zt 8) Zvj)
    (Xk (Xq 10 (Yf Jb (Ze (fV 1) (Ze (fV 2) (Ze (fV 3) Zy)))))
    (Zdo (f2 gEq (f2 gIx (Yf Zmh (Ze (f2 gIx (fV 10) (fC (.int 0))) (Ze (f2 gIx (fV 10) (fC (.int 1))) (Ze (f2 gIx (fV 10) (fC (.int 2))) Zy)))) (fC (.int 0))) (fV 7))))))))))))
def Xnt (ds:List D):R D:=(run 11 q_law ds).calm
def oD (os:List Nat):D:=iD (os.map fun x:Nat=>(x:Int))
def fps (ps:List (Int×Str)):D:=.flst (ps.map pD)
def WC (ns:List Int)(ks:List Kd)(e:Nat)(c:List Nat)(x:D):Prop:=∃ps,x=fps ps/\Ct ns ks e c ps
def WT (_:List Nat)(x:D):Prop:=x=.bl true
theorem Zhn {α:Type}{f:α->D}(h:∀x,flat (f x)=true):∀l:List α,Zu (l.map f)=true
 | []=>rfl
 | x::l=>by rw [AV];show (flat (f x)&&Zu _)=true;rw [h x,Zhn h l];rfl
theorem Xrr (ps:List (Int×Str)):Zu (ps.map pD)=true:=Zhn (fun _=>rfl) ps
theorem Zwk {f:FS}(h:f ρ=.ok (.nx ρ')):Zpv f ρ=.ok (.nx ρ'):=by unfold Zpv;rw [h];rfl
theorem Zqn {k e:FE}{ks:List (List (Int ⊕ Str))}{z:D}(he:e ρ=.ok d)(hi:ρ[i]?=some (some (.dtt ks xs)))(hk:k ρ=.ok z)(hz:Zny z=some q)(hd:flat d=true)(hx:Zu xs=true)(hl:ks.length<lim)(hp:Xol ks xs q d=d'):Zin i k e ρ=.ok (.nx (ρ.set i (some d'))):=by unfold Zin;rw [he,Zas,hi];show (k ρ).bind _=_;rw [hk,Zas,hz,<- hp];exact if_pos ⟨hd,hx,hl⟩
theorem Xlq {args:FA}{d0:D}{ys:List D}(hi:ρ[i]?=some (some d0))(ha:args ρ=.ok ys)(h:G (d0::ys)=.ok (d,d')):Znr (Zje i G args) ρ=.ok (.nx (ρ.set i (some d'))):=by unfold Znr Zje;rw [hi];show ((args ρ).bind _).bind _=_;rw [ha];show ((G (d0::ys)).bind _).bind _=_;rw [h];rfl
theorem Zvu {ks:List (List (Int ⊕ Str))}(hi:ρ[i]?=some (some (.lst xs)))(hj:ρ[j]?=some (some (.dtt ks ds)))(h1:Zu ds=true)(h2:Zu xs=true)(hn:i≠j)(hl:xs.length<lim):Zhk i j ρ=.ok (.nx ((ρ.set j none).set i (some (.lst (xs++[.fdt ks ds]))))):=by unfold Zhk;rw [hi,hj];exact if_pos ⟨h1,h2,hn,hl⟩
theorem Zvn :Zfd (tyN c) (.dtt (cs.map kyN) xs)=some (.bl (!decide (c∈cs))):=by show (Zny (tyN c)).map _=_;rw [Zbb];show some (D.bl (!Zwp (cs.map kyN) (kyN c)))=_;rw [Zrn]
theorem Zdv (hl:xs.length=cs.length)(h:c∈cs):∃x,(c,x)∈cs.zip xs:=by obtain ⟨x,-,h⟩:=Zsh cs xs hl h;exact ⟨x,h⟩
theorem Xal {ks:List α}{l r:List (α×Nat)}{x:α×Nat}(e:ks.zipIdx=l++x::r):x.2=l.length/\ks[l.length]?=some x.1:=by
 have h:(ks.zipIdx)[l.length]?=some x:=by rw [e];simp
 rw [List.getElem?_zipIdx] at h;cases q:ks[l.length]? with
 | none=>rw [q] at h;cases h
 | some k =>rw [q] at h;cases h;exact ⟨FU _,rfl⟩
theorem Zgk {r:List Nat}(e:A5 n=l++x::r):x=l.length/\l.length<n:=by
 have h:(A5 n)[l.length]?=some x:=by rw [e];simp
 obtain ⟨h1,h2⟩:=Ai.mp h;rw [List.getElem_range] at h2;rw [CK] at h1;exact ⟨h2.symm,h1⟩
theorem Xbv {x:D}(hl:xs.length=e+1)(h:xs[e]?=some x):gIx (.lst xs) (.int (-1))=some x:=by
 have hne:xs≠[]:=fun z=>by rw [z] at hl;cases hl
 have q:=FP hne;have g:xs.getLast hne=x:=by rw [List.getLast_eq_getElem];have:=(Ai.mp h).2;rw [<- this];congr 1;omega
 rw [<- q,g];exact Xjg _ _
theorem r_mbZ {r:FM}(h:s ρ=.ok (.nx ρ'))(h2:r ρ'=p):Zvw s r ρ=p:=by unfold Zvw;rw [h];exact h2
theorem Xrk {G:FM}{o:D}(h:G (ds.map some++Ab (N - ds.length) none)=.ok (d,ρ))(h0:ρ[0]?=some (some o)):(Xpr N G ds).calm=.ok (d,o):=by unfold Xpr;rw [h];show (match ρ[0]? with | some (some d')=>R.ok (d,d') | _=>.bad).calm=_;rw [h0];rfl
theorem StS.le (h:StS ns ks os e i c):LeC c os:=by rcases h with h | ⟨i',k,b,c',h1,h2,h3,h4,h5,h6,rfl⟩;exact h.1;exact h5.1.up h6
theorem StS.zero :StS ns ks os e 0 c↔KS ns ks os e c:=by constructor;rintro (h | ⟨i',_,_,_,h,_⟩);exact h;exact absurd h (IM _);exact .inl
theorem StS.same {k:Kd}(hk:ks[i]?=some k)(h:good ns k ((e:Int)+1 - k.w)=false):StS ns ks os e i c↔StS ns ks os e (i+1) c:=by constructor;rintro (h | ⟨i',k,b,c',h1,h2⟩);exact .inl h;exact .inr ⟨i',k,b,c',C0 h1,h2⟩;rintro (h | ⟨i',k',b,c',h1,h2,h3,h4,h5⟩);exact .inl h;rcases GI.mp h1 with q | q;exact .inr ⟨i',k',b,c',q,h2,h3,h4,h5⟩;subst q;rw [hk] at h2;cases h2;rw [h3,h] at h4;cases h4
theorem StS.more {b:Nat}{k:Kd}(hk:ks[i]?=some k)(hb:(b:Int)=(e:Int)+1 - k.w)(h:good ns k (b:Int)=true):StS ns ks os e (i+1) c↔StS ns ks os e i c\/∃c',KS ns ks os b c'/\c'.getD i 0<os.getD i 0/\c=Zfu c' i:=by
 constructor;rintro (h | ⟨i',k',b',c',h1,h2,h3,h4,h5⟩);exact .inl (.inl h);rcases GI.mp h1 with q | q;exact .inl (.inr ⟨i',k',b',c',q,h2,h3,h4,h5⟩);subst q;rw [hk] at h2;cases h2;have:b'=b:=by omega
 subst this;exact .inr ⟨c',h5⟩;rintro ((h | ⟨i',k,b,c',h1,h2⟩) | ⟨c',h1⟩);exact .inl h;exact .inr ⟨i',k,b,c',C0 h1,h2⟩;exact .inr ⟨i,k,b,c',FG _,hk,hb,h,h1⟩
theorem Zml (h:KS ns ks os e c):c.length=ks.length:=h.2.elim fun _ g=>g.len
abbrev Xqz (cs:List (List Nat))(xs:List D)(ca:List (List Nat))(xa:List D)(i:Nat)(os:List Nat)(b:Nat)(k:Kd)(o5 o6 o7:Option D):Env:=[some (.dtt (cs.map kyN) xs),some (.fdt (ca.map kyN) xa),some (.int (i:Int)),some (.int (os.getD i 0:Nat)),some (pD ((b:Int),k.name)),o5,o6,o7]
theorem Zur (ho:Zau os)(hlk:ks.length<=8)(hw:∀k∈ks,1<=k.w)(hn:ns.length<=1000){b:Nat}{k:Kd}(he:e<=1000)(hk:ks[i]?=some k)(hb:(b:Int)=(e:Int)+1 - k.w)(hg:good ns k (b:Int)=true)(ha:Dkt (KS ns ks os b) (WC ns ks b) ca xa)(hr:Dkt (StS ns ks os e i) (WC ns ks (e+1)) cr xr) :
  ∃cr' xr',Xy [.dtt (cr.map kyN) xr,.fdt (ca.map kyN) xa,.int (i:Int),.int (os.getD i 0:Nat),pD ((b:Int),k.name)]=.ok (.non,.dtt (cr'.map kyN) xr')/\Dkt (StS ns ks os e (i+1)) (WC ns ks (e+1)) cr' xr':=by
 have hi:=(Ai.mp hk).1;have wk:=hw k (AW hk)
 let S':List (List Nat×D)->List Nat->Prop:=fun l c=>StS ns ks os e i c\/∃p∈l,p.1.getD i 0<os.getD i 0/\c=Zfu p.1 i
 have sub:∀p∈ca.zip xa,KS ns ks os b p.1:=fun p hp=>(ha.ky _).mp (Dc hp).1;have sle:∀l,(∀p∈l,p∈ca.zip xa)->∀c,S' l c->LeC c os:=by rintro l hl c (h | ⟨p,hp,h,rfl⟩);exact h.le;exact (sub p (hl p hp)).1.up h
 have loop:=Jz (enc:=fun p:List Nat×D=>D.tup [tyN p.1,p.2]) (b:=Zet (Xw (Zt 5) (Xw (Zt 6) Zeo))) (s:=Zpv Zae) (xs:=ca.zip xa) (ρ:=(Xqz cr xr ca xa i os b k none none none))
  (P:=fun l ρ=>∃(cs:List (List Nat)) (xs:List D) (o5 o6 o7:Option D),ρ=(Xqz cs xs ca xa i os b k o5 o6 o7)/\Dkt (S' l) (WC ns ks (e+1)) cs xs)
  ⟨cr,xr,none,none,none,rfl,hr.imp (fun c=>⟨.inl,fun h=>h.elim id fun ⟨_,z,_⟩=>nomatch z⟩) fun _ _ _ h=>h⟩ ?_
 obtain ⟨ρ',⟨cs,xs,o5,o6,o7,rfl,hd⟩,t⟩:=loop;refine ⟨cs,xs,Xrk (r_mbZ (Zbi (Zqb rfl (ha.few ho fun c h=>h.1)) t) rfl) rfl,hd.imp (fun c=>?_) fun _ _ _ h=>h⟩;rw [StS.more hk hb hg];constructor;rintro (h | ⟨p,hp,h⟩);exact .inl h;exact .inr ⟨p.1,sub p hp,h⟩;rintro (h | ⟨c',h1,h⟩);exact .inl h;obtain ⟨x,hx⟩:=Zdv ha.ln ((ha.ky c').mpr h1);exact .inr ⟨(c',x),hx,h⟩;rintro l ⟨c,x⟩ r ρ e1 ⟨cs,xs,o5,o6,o7,rfl,hd⟩;have hx:(c,x)∈ca.zip xa:=by rw [e1];simp
 have hl:∀p∈l,p∈ca.zip xa:=fun p hp=>by rw [e1];exact AF _ hp
 have kc:KS ns ks os b c:=sub _ hx;have hil:i<c.length:=by rw [Zml kc];exact hi
 obtain ⟨ps,rfl,hct⟩:WC ns ks b c x:=ha.vl _ hx;have up1:=r_up (e:=fV 5) (i:=fV 2) (ρ:=(Xqz cs xs ca xa i os b k (some (tyN c)) (some (fps ps)) o7)) (c:=c) (j:=i) rfl rfl hil (by rw [Zml kc];omega);have snoc:∀c',S' (l++[(c,fps ps)]) c'↔S' l c'\/(c.getD i 0<os.getD i 0/\c'=Zfu c i):=fun c'=>by constructor;rintro (h | ⟨p,hp,h⟩);exact .inl (.inl h);rcases Ao.mp hp with q | q;exact .inl (.inr ⟨p,q,h⟩);rw [Aj.mp q] at h;exact .inr h;rintro ((h | ⟨p,hp,h⟩) | h);exact .inl h;exact .inr ⟨p,AF _ hp,h⟩;exact .inr ⟨_,Ar _ (.head _),h⟩
 by_cases q:c.getD i 0<os.getD i 0;by_cases m:Zfu c i∈cs;refine ⟨(Xqz cs xs ca xa i os b k (some (tyN c)) (some (fps ps)) (some (tyN (Zfu c i)))),.inl ?_,⟨cs,xs,_,_,_,rfl,hd.imp (fun c'=>?_) fun _ _ _ h=>h⟩⟩;exact Zwk (Jt (Yt (Zm (Zm rfl rfl (Ztc hil)) rfl (Znu (BQ.mpr q)))) (Zn (Zx up1) (Ys (Yt (Zm rfl rfl (Zvn.trans (by rw [decide_eq_true m];rfl)))) rfl)));rw [snoc c'];refine ⟨.inl,fun h=>h.elim id fun h=>?_⟩;rw [h.2];exact (hd.ky _).mp m;have fl:flat (fps (ps++[((b:Int),k.name)]))=true:=rfl;have wv:WC ns ks (e+1) (Zfu c i) (fps (ps++[((b:Int),k.name)])):=by have:=Ct.cut hct hk hg;rw [show b+k.w.toNat=e+1 by omega] at this;exact ⟨_,rfl,this⟩
 obtain ⟨cs',xs',e2,hd'⟩:=hd.put (S':=S' (l++[(c,fps ps)])) (W':=WC ns ks (e+1)) (k:=Zfu c i) fl (fun c'=>by rw [snoc c'];exact ⟨fun h=>h.imp id fun h=>h.2,fun h=>h.imp id fun h=>⟨q,h⟩⟩) (fun _ _ _ _ h=>h) wv;refine ⟨[some (.dtt (cs'.map kyN) xs'),some (.fdt (ca.map kyN) xa),some (.int (i:Int)),some (.int (os.getD i 0:Nat)),some (pD ((b:Int),k.name)),some (tyN c),some (fps ps),some (tyN (Zfu c i))],.inl ?_,⟨cs',xs',_,_,_,rfl,hd'⟩⟩;have lp:ps.length<=b:=hct.few hw;have ad:Zva (fps ps) (.lst [pD ((b:Int),k.name)])=some (.lst ((ps++[((b:Int),k.name)]).map pD)):=by refine (if_pos ⟨?_,rfl⟩).trans (by rw [AU];rfl);rw [Ah];show _+1<=1000000;omega
 have fz:Xhq (.lst ((ps++[((b:Int),k.name)]).map pD))=some (fps (ps++[((b:Int),k.name)])):=if_pos (Xrr _);have nl:=hd.few ho (sle l hl);exact Zwk (Jt (Yt (Zm (Zm rfl rfl (Ztc hil)) rfl (Znu (BQ.mpr q)))) (Zn (Zx up1) (Jt (Yt (Zm rfl rfl (Zvn.trans (by rw [decide_eq_false m];rfl)))) (Zqn (Zfw (Zm rfl (Jd (Zd rfl rfl) rfl) ad) fz) rfl rfl (Zbb _) fl hd.fl (by rw [Ah];exact Cz nl (by decide)) e2))));refine ⟨(Xqz cs xs ca xa i os b k (some (tyN c)) (some (fps ps)) o7),.inl ?_,⟨cs,xs,_,_,_,rfl,hd.imp (fun c'=>?_) fun _ _ _ h=>h⟩⟩;exact Zwk (Ys (Yt (Zm (Zm rfl rfl (Ztc hil)) rfl (Znv fun z=>q (BQ.mp z)))) rfl);rw [snoc c'];exact ⟨.inl,fun h=>h.elim id fun h=>absurd h.1 q⟩
structure Rws (ns:List Int)(ks:List Kd)(os:List Nat)(W:Nat->List Nat->D->Prop)(e:Nat)(Rs:List D):Prop where
 ln:Rs.length=e+1
 fl:Zu Rs=true
 rw_:∀j,j<=e->∃cs xs,Rs[j]?=some (.fdt (cs.map kyN) xs)/\Dkt (KS ns ks os j) (W j) cs xs
theorem Rws.snoc {W:Nat->List Nat->D->Prop}(h:Rws ns ks os W e Rs)(hd:Dkt (KS ns ks os (e+1)) (W (e+1)) cs xs):Rws ns ks os W (e+1) (Rs++[.fdt (cs.map kyN) xs]):=by
 refine ⟨by rw [Ak,h.ln];rfl,Zky rfl _ h.fl,fun j hj=>?_⟩;rcases Nat.lt_or_ge e j with q | q;have:j=e+1:=by omega
 subst this;exact ⟨cs,xs,by rw [<- h.ln,List.getElem?_concat_length],hd⟩;obtain ⟨cs',xs',h1,h2⟩:=h.rw_ j q;exact ⟨cs',xs',by rw [AD (by rw [h.ln];omega)];exact h1,h2⟩
theorem le_zero (ho:os.length=ks.length):LeC (Ab ks.length 0) os:=⟨by rw [BS,ho],fun i=>by rw [AS,El];split<;>exact D4 _⟩
theorem KS.nothing (ho:os.length=ks.length)(e:Nat):KS ns ks os e (Ab ks.length 0):=⟨le_zero ho,[],Ct.none ns ks e⟩
theorem KS.zero (ho:os.length=ks.length)(hw:∀k∈ks,1<=k.w)(c:List Nat):KS ns ks os 0 c↔c=Ab ks.length 0:=by
 constructor;rintro ⟨-,ps,h⟩;generalize hE:0=E at h;cases h with
 | zero=>rfl
 | skip _=>cases hE
 | cut h hk hg =>have:=hw _ (AW hk);omega
 rintro rfl;exact KS.nothing ho 0
theorem Zmd:∀n:Nat,(Ab n [(0:Int)]).flatten=(Ab n 0).map fun x:Nat=>(x:Int)
 | 0=>rfl
 | n+1=>by rw [Bc,BN,Zmd n,Bc];rfl
theorem Zkw {e:FE}(h:e ρ=.ok (.int (n:Int)))(hn:n<=200):fA Zda (Ze (f2 Zab (fA Yz (Ze (fC (.int 0)) Zy)) e) Zy) ρ=.ok (tyN (Ab n 0)):=by
 have m:Zab (.lst ([0].map D.int)) (.int (n:Int))=some (iD ((Ab n 0).map fun x:Nat=>(x:Int))):=by rw [Zki (by omega) (by omega) (by decide),CW,Zmd]
 refine Jd (Zd (Zm (Jd (Zd rfl rfl) rfl) h m) rfl) ?_;unfold iD;rw [Be];exact if_pos (Yu (Ab n 0))
theorem Zqu {b:FE}(ha:a ρ=.ok (tyN c))(hb:b ρ=.ok v)(hv:flat v=true):f1 Xmr (Zfm a b) ρ=.ok (.fdt ([c].map kyN) [v]):=by refine Zfw (x:=.dtt [kyN c] [v]) ?_ (if_pos (by simp [Zu,hv]));unfold Zfm;rw [ha,Zas,hb,Zas,Zbb];exact if_pos hv
theorem Xqu (os:List Nat):Zbh [oD os]=some (.int (os.length:Int)):=by show some (D.int (((os.map fun x:Nat=>(x:Int)).map D.int).length:Nat))=_;rw [Ah,Ah]
theorem o_ix (h:i<os.length):gIx (oD os) (.int (i:Int))=some (.int ((os.getD i 0:Nat):Int)):=Xle (k:=i) rfl (by rw [AM,AM,AS,Ag h];rfl)
theorem Zqm {W:Nat->List Nat->D->Prop}(h:Rws ns ks os W e Rs):∃cs xs,gIx (.lst Rs) (.int (-1))=some (.fdt (cs.map kyN) xs)/\Dkt (KS ns ks os e) (W e) cs xs:=by obtain ⟨cs,xs,h1,h2⟩:=h.rw_ e (As _);exact ⟨cs,xs,Xbv h.ln h1,h2⟩
theorem WC.skip {e:Nat}{c:List Nat}{x:D}(h:WC ns ks e c x):WC ns ks (e+1) c x:=h.imp fun _ h=>⟨h.1,.skip h.2⟩
abbrev Xog (ns:List Int)(ks:List Kd)(os:List Nat)(Rs:List D)(e:Nat)(o5 o6 o7 o8:Option D):Env:=[some (iD ns),some (tD ks),some (oD os),some (.lst Rs),some (.int (1+(e:Int))),o5,o6,o7,o8]
theorem Xai (ho:Zau os)(hol:os.length=ks.length)(hlk:ks.length<=8)(hw:∀k∈ks,1<=k.w)(hn:ns.length<=1000)(he:e<ns.length)(hR:Rws ns ks os (WC ns ks) e Rs)(o5 o6 o7 o8:Option D) :
  ∃cs xs p6 p7 p8,Zdl (Xog ns ks os Rs e o5 o6 o7 o8)=.ok (.nx (Xog ns ks os ((Rs++[.fdt (cs.map kyN) xs])) e none p6 p7 p8))/\Dkt (KS ns ks os (e+1)) (WC ns ks (e+1)) cs xs:=by
 obtain ⟨c0,x0,hl0,hd0⟩:=Zqm hR;have loop:=Jz (enc:=fun x:Kd×Nat=>D.tup [.int (x.2:Int),kD x.1]) (b:=Zet (Xw (Zt 6) (Xw (Zt 7) Zeo))) (s:=Zgp) (xs:=ks.zipIdx) (ρ:=(Xog ns ks os Rs e (some (.dtt (c0.map kyN) x0)) o6 o7 o8))
  (P:=fun l ρ=>∃(cs:List (List Nat)) (xs:List D) (o6 o7 o8:Option D),ρ=(Xog ns ks os Rs e (some (.dtt (cs.map kyN) xs)) o6 o7 o8)/\Dkt (StS ns ks os e l.length) (WC ns ks (e+1)) cs xs)
  ⟨c0,x0,o6,o7,o8,rfl,hd0.imp (fun c=>StS.zero.symm) fun _ _ _ h=>h.skip⟩ ?_
 obtain ⟨ρ',⟨cs,xs,p6,p7,p8,rfl,hd⟩,t⟩:=loop;have hd:Dkt (KS ns ks os (e+1)) (WC ns ks (e+1)) cs xs:=hd.imp (fun c=>by rw [List.length_zipIdx];exact StS.all hw) fun _ _ _ h=>h;refine ⟨cs,xs,p6,p7,p8,Zn (Zx (Jd (Zd (Zm rfl rfl hl0) rfl) (hd0.dict ho (fun c h=>h.1) (KS.nothing hol e)))) (Zn (Zbi (xs:=ks.zipIdx.map fun x:Kd×Nat=>D.tup [.int (x.2:Int),kD x.1]) ?_ t) ?_),hd⟩;show (if (ks.map kD).length<=lim then R.ok (Zkl (ks.map kD)) else .bad)=_;rw [if_pos (by rw [Ah];exact Az hlk (by decide)),Zxv];exact Zvu rfl rfl hd.fl hR.fl (by decide) (by rw [hR.ln];show _<1000000;omega);rintro l ⟨k,i⟩ r ρ e1 ⟨cs,xs,p6,p7,p8,rfl,hd⟩;obtain ⟨rfl,hk⟩:=Xal e1;have hi:=(Ai.mp hk).1;have wk:=hw k (AW hk);have set8:∀z:Int,z=1+(e:Int) - k.w->Xq 8 (f2 Zeu (fV 4) (f2 gIx (fV 7) (fC (.int 1)))) (Xog ns ks os Rs e (some (.dtt (cs.map kyN) xs)) (some (.int (l.length:Int))) (some (kD k)) p8)=.ok (.nx (Xog ns ks os Rs e (some (.dtt (cs.map kyN) xs)) (some (.int (l.length:Int))) (some (kD k)) (some (.int z)))):=fun z hz=>by rw [hz];exact Zx (Zm rfl (Zm rfl rfl (Xgq k)) rfl)
 cases g:good ns k (1+(e:Int) - k.w) with
 | false =>refine ⟨_,.inl (Zn (set8 _ rfl) (Ys (Yt (Xs (Zd rfl (Zd rfl (Zd rfl rfl))) ((Xaz ns k _ wk).trans (by rw [g])))) rfl)),⟨cs,xs,_,_,_,rfl,hd.imp (fun c=>?_) fun _ _ _ h=>h⟩⟩;rw [Ak];exact StS.same hk (by rw [show (e:Int)+1 - k.w=1+(e:Int) - k.w by omega];exact g)
 | true =>obtain ⟨b,hb⟩:∃b:Nat,1+(e:Int) - k.w=(b:Int):=⟨(1+(e:Int) - k.w).toNat,(B4 (of_decide_eq_true g).1).symm⟩;rw [hb] at g;obtain ⟨ca,xa,hra,hda⟩:=hR.rw_ b (by omega);obtain ⟨cr,xr,hF,hd'⟩:=Zur ho hlk hw hn (e:=e) (i:=l.length) (b:=b) (k:=k) (by omega) hk (by omega) g hda hd;refine ⟨_,.inl (Zn (set8 _ hb.symm) (Jt (Yt (Xs (Zd rfl (Zd rfl (Zd rfl rfl))) ((Xaz ns k _ wk).trans (by rw [g])))) (Xlq rfl (Zd (Zm rfl rfl (Xle (k:=b) rfl hra)) (Zd rfl (Zd (Zm rfl rfl (o_ix (by rw [hol];exact hi))) (Zd (Jd (Zd rfl (Zd (Zm rfl rfl (kD_0 k)) rfl)) rfl) rfl)))) hF))),⟨cr,xr,_,_,_,rfl,?_⟩⟩;rw [Ak];exact hd'
theorem Xiw (ho:Zau os)(hol:os.length=ks.length)(hlk:ks.length<=8)(hw:∀k∈ks,1<=k.w)(hn:ns.length<=1000):∃cs xs,Zck [iD ns,tD ks,oD os]=.ok (.fdt (cs.map kyN) xs)/\Dkt (KS ns ks os ns.length) (WC ns ks ns.length) cs xs:=by
  have loop:=Jz (enc:=fun k:Nat=>D.int (1+(k:Int))) (b:=Zt 4) (s:=Zdl) (xs:=A5 ns.length) (ρ:=[some (iD ns),some (tD ks),some (oD os),some (.lst [.fdt ([Ab ks.length 0].map kyN) [fps []]]),none,none,none,none,none])
    (P:=fun l ρ=>∃(Rs:List D) (o4 o5 o6 o7 o8:Option D),ρ=[some (iD ns),some (tD ks),some (oD os),some (.lst Rs),o4,o5,o6,o7,o8]/\Rws ns ks os (WC ns ks) l.length Rs)
    ⟨_,_,_,_,_,_,rfl,rfl,rfl,fun j hj=>⟨[Ab ks.length 0],[fps []],by
      cases EV.mp hj;rfl,by
      cases EV.mp hj;exact Dkt.one (KS.zero hol hw) rfl ⟨[],rfl,.zero⟩⟩⟩ ?_
  obtain ⟨ρ',⟨Rs,o4,o5,o6,o7,o8,rfl,hR⟩,t⟩:=loop;rw [CK] at hR;obtain ⟨cs,xs,hl,hd⟩:=Zqm hR;have z0:fA Zda (Ze (f2 Zab (fA Yz (Ze (fC (.int 0)) Zy)) (fA Zbh (Ze (fV 2) Zy))) Zy) [some (iD ns),some (tD ks),some (oD os),none,none,none,none,none,none]=.ok (tyN (Ab ks.length 0)):=Zkw (Jd (Zd rfl rfl) (by rw [<- hol];exact Xqu os)) (by omega);have rg:Zjh [.int 1,.int ((ns.length:Int)+1)]=.ok (Zgb 1 ns.length):=Znf (by omega) (by omega) (by omega) (by omega) (by omega) (by omega);refine ⟨cs,xs,Jy (Zn (Zx (Jd (Zd (Zqu z0 (Zfw rfl rfl) rfl) rfl) rfl)) (Zn (Zbi (Xgu (Zd rfl (Zd (Zm (Zkf rfl) rfl rfl) rfl)) rg) t) (Zaf (Zfw (Zm rfl rfl hl) rfl)))),hd⟩;rintro l x r ρ e1 ⟨Rs,o4,o5,o6,o7,o8,rfl,hR⟩;obtain ⟨rfl,hlt⟩:=Zgk e1;obtain ⟨cs,xs,p6,p7,p8,t,hd⟩:=Xai ho hol hlk hw hn hlt hR o5 o6 o7 o8;refine ⟨_,.inl t,⟨_,_,_,_,_,_,rfl,?_⟩⟩;rw [Ak];exact hR.snoc hd
abbrev Xmj (ns:List Int)(ks:List Kd)(os:List Nat)(Rs:List D)(e:Nat)(o6 o7 o8 o9 o10:Option D):Env:=[some (iD ns),some (tD ks),some (oD os),some (iD (Je ns)),some (.lst Rs),some (.int (1+(e:Int))),o6,o7,o8,o9,o10]
abbrev eD63 (d0 d1:Option D)(os:List Nat)(d3 d4 d5:Option D)(cs:List (List Nat))(xs:List D)(i:Nat)(d8 o9 o10:Option D):Env:=[d0,d1,some (oD os),d3,d4,d5,some (.dtt (cs.map kyN) xs),some (.int (i:Int)),d8,o9,o10]
theorem Xdn (n:Nat):Zgb 0 n=(A5 n).map fun k:Nat=>D.int (k:Int):=BM fun k _=>by rw [Fp]
theorem Xgk (ho:Zau os)(hol:os.length=ks.length)(hlk:ks.length<=8){b:Nat}{k:Kd}(hk:ks[i]?=some k)(hb:(b:Int)=(e:Int)+1 - k.w)(hg:good ns k (b:Int)=true)(ha:Dkt (KS ns ks os b) WT ca xa)(hr:Dkt (StS ns ks os e i) WT cr xr){d3 d5 d8:Option D}(o9 o10:Option D) :
    ∃cr' xr' p9 p10,Zgz (Zt 9) Zap (ca.map tyN) (eD63 d0 d1 os d3 d4 d5 cr xr i d8 o9 o10)=.ok (.nx (eD63 d0 d1 os d3 d4 d5 cr' xr' i d8 p9 p10))/\Dkt (StS ns ks os e (i+1)) WT cr' xr':=by
  have hi:=(Ai.mp hk).1
  let S':List (List Nat)->List Nat->Prop:=fun l c=>StS ns ks os e i c\/∃p∈l,p.getD i 0<os.getD i 0/\c=Zfu p i
  have sub:∀p∈ca,KS ns ks os b p:=fun p hp=>(ha.ky _).mp hp;have loop:=Jz (enc:=tyN) (b:=Zt 9) (s:=Zap) (xs:=ca) (ρ:=(eD63 d0 d1 os d3 d4 d5 cr xr i d8 o9 o10))
    (P:=fun l ρ=>∃(cs:List (List Nat)) (xs:List D) (o9 o10:Option D),ρ=(eD63 d0 d1 os d3 d4 d5 cs xs i d8 o9 o10)/\Dkt (S' l) WT cs xs)
    ⟨cr,xr,o9,o10,rfl,hr.imp (fun c=>⟨.inl,fun h=>h.elim id fun ⟨_,z,_⟩=>nomatch z⟩) fun _ _ _ h=>h⟩ ?_
  obtain ⟨ρ',⟨cs,xs,p9,p10,rfl,hd⟩,t⟩:=loop;refine ⟨cs,xs,p9,p10,t,hd.imp (fun c=>?_) fun _ _ _ h=>h⟩;rw [StS.more hk hb hg];exact or_congr_right ⟨fun ⟨p,hp,h⟩=>⟨p,sub p hp,h⟩,fun ⟨p,hp,h⟩=>⟨p,(ha.ky p).mpr hp,h⟩⟩
  · rintro l c r ρ e1 ⟨cs,xs,p9,p10,rfl,hd⟩;have hx:c∈ca:=by rw [e1];simp
    have hl:∀p∈l,p∈ca:=fun p hp=>by rw [e1];exact AF _ hp
    have kc:KS ns ks os b c:=sub _ hx;have hil:i<c.length:=by rw [Zml kc];exact hi
    have snoc:∀c',S' (l++[c]) c'↔S' l c'\/(c.getD i 0<os.getD i 0/\c'=Zfu c i):=fun c'=>by constructor;rintro (h | ⟨p,hp,h⟩);exact .inl (.inl h);rcases Ao.mp hp with q | q;exact .inl (.inr ⟨p,q,h⟩);rw [Aj.mp q] at h;exact .inr h;rintro ((h | ⟨p,hp,h⟩) | h);exact .inl h;exact .inr ⟨p,AF _ hp,h⟩;exact .inr ⟨_,Ar _ (.head _),h⟩
    by_cases q:c.getD i 0<os.getD i 0
    · obtain ⟨cs',xs',e2,hd'⟩:=hd.put (S':=S' (l++[c])) (W':=WT) (k:=Zfu c i) (v:=.bl true) rfl (fun c'=>by rw [snoc c'];exact ⟨fun h=>h.imp id fun h=>h.2,fun h=>h.imp id fun h=>⟨q,h⟩⟩) (fun _ _ _ _ h=>h) rfl;have nl:=hd.few ho (fun c' h=>by
        rcases h with h | ⟨p,hp,h,rfl⟩;exact h.le
        · exact (sub p (hl p hp)).1.up h)
      refine ⟨_,.inl (Jt (Yt (Zm (Zm rfl rfl (Ztc hil)) (Zm rfl rfl (o_ix (by rw [hol];exact hi))) (Znu (BQ.mpr q)))) (Zn (Zx (r_up (c:=c) (j:=i) rfl rfl hil (by rw [Zml kc];omega))) (Zqn rfl rfl rfl (Zbb _) rfl hd.fl (by rw [Ah];exact Cz nl (by decide)) e2))),⟨cs',xs',_,_,rfl,hd'⟩⟩
    refine ⟨_,.inl (Ys (Yt (Zm (Zm rfl rfl (Ztc hil)) (Zm rfl rfl (o_ix (by rw [hol];exact hi))) (Znv fun z=>q (BQ.mp z)))) rfl),⟨cs,xs,_,_,rfl,hd.imp (fun c'=>?_) fun _ _ _ h=>h⟩⟩;rw [snoc c'];exact ⟨.inl,fun h=>h.elim id fun h=>absurd h.1 q⟩
theorem Xjs (ho:Zau os)(hol:os.length=ks.length)(hlk:ks.length<=8)(hw:∀k∈ks,1<=k.w)(hn:ns.length<=1000)(he:e<ns.length)(hR:Rws ns ks os (fun _=>WT) e Rs)(o6 o7 o8 o9 o10:Option D) :
  ∃cs xs p7 p8 p9 p10,Zak (Xmj ns ks os Rs e o6 o7 o8 o9 o10)=.ok (.nx (Xmj ns ks os ((Rs++[.fdt (cs.map kyN) xs])) e none p7 p8 p9 p10))/\Dkt (KS ns ks os (e+1)) WT cs xs:=by
 obtain ⟨c0,x0,hl0,hd0⟩:=Zqm hR;have loop:=Jz (enc:=fun k:Nat=>D.int (k:Int)) (b:=Zt 7) (s:=Zch) (xs:=A5 ks.length) (ρ:=(Xmj ns ks os Rs e (some (.dtt (c0.map kyN) x0)) o7 o8 o9 o10))
  (P:=fun l ρ=>∃(cs:List (List Nat)) (xs:List D) (o7 o8 o9 o10:Option D),ρ=(Xmj ns ks os Rs e (some (.dtt (cs.map kyN) xs)) o7 o8 o9 o10)/\Dkt (StS ns ks os e l.length) WT cs xs)
  ⟨c0,x0,o7,o8,o9,o10,rfl,hd0.imp (fun c=>StS.zero.symm) fun _ _ _ h=>h⟩ ?_
 obtain ⟨ρ',⟨cs,xs,p7,p8,p9,p10,rfl,hd⟩,t⟩:=loop;have hd:Dkt (KS ns ks os (e+1)) WT cs xs:=hd.imp (fun c=>by rw [CK];exact StS.all hw) fun _ _ _ h=>h;have rg:Zfy (Ze (fA Zbh (Ze (fV 1) Zy)) Zy) (Xmj ns ks os Rs e (some (.dtt (c0.map kyN) x0)) o7 o8 o9 o10)=.ok ((A5 ks.length).map fun k:Nat=>D.int (k:Int)):=by rw [<- Xdn];exact Zpf (j:=(ks.length:Int)) (Zd (Jd (Zd rfl rfl) (Zrr ks)) rfl) (by omega)
 exact ⟨cs,xs,p7,p8,p9,p10,Zn (Zx (Jd (Zd (Zm rfl rfl hl0) rfl) (hd0.dict ho (fun c h=>h.1) (KS.nothing hol e)))) (Zn (Zbi rg t) (Zvu rfl rfl hd.fl hR.fl (by decide) (by rw [hR.ln];show _<1000000;omega))),hd⟩;rintro l i r ρ e1 ⟨cs,xs,p7,p8,p9,p10,rfl,hd⟩;obtain ⟨rfl,hi⟩:=Zgk e1;have hk:ks[l.length]?=some ks[l.length]:=Ag hi;generalize ks[l.length]=k at hk;have wk:=hw k (AW hk);have tk:gIx (tD ks) (.int (l.length:Int))=some (kD k):=Xle (k:=l.length) rfl (by rw [AM,hk];rfl);have set8:∀z:Int,z=1+(e:Int) - k.w->Xq 8 (f2 Zeu (fV 5) (f2 gIx (f2 gIx (fV 1) (fV 7)) (fC (.int 1)))) (Xmj ns ks os Rs e (some (.dtt (cs.map kyN) xs)) (some (.int (l.length:Int))) p8 p9 p10)=.ok (.nx (Xmj ns ks os Rs e (some (.dtt (cs.map kyN) xs)) (some (.int (l.length:Int))) (some (.int z)) p9 p10)):=fun z hz=>by rw [hz];exact Zx (Zm rfl (Zm (Zm rfl rfl tk) rfl (Xgq k)) rfl)
 cases g:good ns k (1+(e:Int) - k.w) with
 | false =>refine ⟨_,.inl (Zn (set8 _ rfl) (Ys (Yt (Xs (Zd rfl (Zd (Zm rfl rfl tk) (Zd rfl rfl))) ((Zxt ns k _ wk).trans (by rw [g])))) rfl)),⟨cs,xs,_,_,_,_,rfl,hd.imp (fun c=>?_) fun _ _ _ h=>h⟩⟩;rw [Ak];exact StS.same hk (by rw [show (e:Int)+1 - k.w=1+(e:Int) - k.w by omega];exact g)
 | true =>obtain ⟨b,hb⟩:∃b:Nat,1+(e:Int) - k.w=(b:Int):=⟨(1+(e:Int) - k.w).toNat,(B4 (of_decide_eq_true g).1).symm⟩;rw [hb] at g;obtain ⟨ca,xa,hra,hda⟩:=hR.rw_ b (by omega);obtain ⟨cr,xr,q9,q10,hF,hd'⟩:=Xgk ho hol hlk (e:=e) (i:=l.length) (b:=b) (k:=k) hk (by omega) g hda hd (d0:=some (iD ns)) (d1:=some (tD ks)) (d3:=some (iD (Je ns))) (d4:=some (.lst Rs)) (d5:=some (.int (1+(e:Int)))) (d8:=some (.int (b:Int))) p9 p10;refine ⟨_,.inl (Zn (set8 _ hb.symm) (Jt (Yt (Xs (Zd rfl (Zd (Zm rfl rfl tk) (Zd rfl rfl))) ((Zxt ns k _ wk).trans (by rw [g])))) (Zbi (Zph (Zm rfl rfl (Xle (k:=b) rfl hra)) (hda.few ho fun c h=>h.1)) hF))),⟨cr,xr,_,_,_,_,rfl,?_⟩⟩;rw [Ak];exact hd'
theorem Zup (ho:Zau os)(hol:os.length=ks.length)(hlk:ks.length<=8)(hw:∀k∈ks,1<=k.w)(hn:ns.length<=900):∃cs xs,Yx [iD ns,tD ks,oD os]=.ok (.fdt (cs.map kyN) xs)/\Dkt (KS ns ks os ns.length) WT cs xs:=by
  have loop:=Jz (enc:=fun k:Nat=>D.int (1+(k:Int))) (b:=Zt 5) (s:=Zak) (xs:=A5 ns.length) (ρ:=[some (iD ns),some (tD ks),some (oD os),some (iD (Je ns)),some (.lst [.fdt ([Ab ks.length 0].map kyN) [.bl true]]),none,none,none,none,none,none])
    (P:=fun l ρ=>∃(Rs:List D) (o5 o6 o7 o8 o9 o10:Option D),ρ=[some (iD ns),some (tD ks),some (oD os),some (iD (Je ns)),some (.lst Rs),o5,o6,o7,o8,o9,o10]/\Rws ns ks os (fun _=>WT) l.length Rs)
    ⟨_,_,_,_,_,_,_,rfl,rfl,rfl,fun j hj=>⟨[Ab ks.length 0],[.bl true],by
      cases EV.mp hj;rfl,by
      cases EV.mp hj;exact Dkt.one (KS.zero hol hw) rfl rfl⟩⟩ ?_
  obtain ⟨ρ',⟨Rs,o5,o6,o7,o8,o9,o10,rfl,hR⟩,t⟩:=loop;rw [CK] at hR;obtain ⟨cs,xs,hl,hd⟩:=Zqm hR;have z0:fA Zda (Ze (f2 Zab (fA Yz (Ze (fC (.int 0)) Zy)) (fA Zbh (Ze (fV 1) Zy))) Zy) [some (iD ns),some (tD ks),some (oD os),some (iD (Je ns)),none,none,none,none,none,none,none]=.ok (tyN (Ab ks.length 0)):=Zkw (Jd (Zd rfl rfl) (Zrr ks)) (by omega);have sl:=Zsl ns;have rg:Zjh [.int 1,.int ((Je ns).length:Int)]=.ok (Zgb 1 ns.length):=Znf (by omega) (by omega) (by omega) (by omega) (by omega) (by omega);refine ⟨cs,xs,Jy (Zn (Zx (Xs (Zd rfl rfl) (Xjv ns (by omega)))) (Zn (Zx (Jd (Zd (Zqu z0 rfl rfl) rfl) rfl)) (Zn (Zbi (Xgu (Zd rfl (Zd (Zkf rfl) rfl)) rg) t) (Zaf (Zfw (Zm rfl rfl hl) rfl))))),hd⟩;rintro l x r ρ e1 ⟨Rs,o5,o6,o7,o8,o9,o10,rfl,hR⟩;obtain ⟨rfl,hlt⟩:=Zgk e1;obtain ⟨cs,xs,p7,p8,p9,p10,t,hd⟩:=Xjs ho hol hlk hw (by omega) hlt hR o6 o7 o8 o9 o10;refine ⟨_,.inl t,⟨_,_,_,_,_,_,_,rfl,?_⟩⟩;rw [Ak];exact hR.snoc hd
def vP (u:Nat)(pl:List (List (Int×Str))):D:=.tup [.int (u:Int),.flst (pl.map fps)]
def RS (ks:List Kd)(os:List Nat)(rs:List (List Int))(l:List Nat):Prop:=∃u pl,Pln ks os rs l u pl
def WP (ks:List Kd)(os:List Nat)(rs:List (List Int))(l:List Nat)(x:D):Prop:=∃u pl,x=vP u pl/\Pln ks os rs l u pl/\∀u' pl',Pln ks os rs l u' pl'->u<=u'
def nzP (ps:List (Int×Str)):Nat:=if ps=[] then 0 else 1
theorem Zrv {u':Nat}(h:vP u pl=vP u' pl'):u=u':=by exact Ki.mp (D.int.inj (FH (D.tup.inj h)).1)
theorem Xak (h:fps ps=fps ps'):nzP ps=nzP ps':=by have:=congrArg EL (D.flst.inj h);rw [Ah,Ah] at this;unfold nzP;cases ps<;>cases ps'<;>first | rfl | cases this
def rIv (l c:List Nat):List Int:=(l.zip c).map fun p=>(p.1:Int) - (p.2:Int)
theorem Zsm:∀{l c:List Nat},LeC c l->(rIv l c).map D.int=(sbC l c).map fun x:Nat=>D.int (x:Int)
 | [],[],_=>rfl
 | x::l,y::c,h=>by obtain ⟨h1,h2⟩:=LeC.cons.mp h;show D.int ((x:Int) - (y:Int))::(rIv l c).map D.int=D.int ((x - y:Nat):Int)::(sbC l c).map _;rw [Zsm h2,Kh h1]
 | [],_::_,h=>nomatch h.1
 | _::_,[],h=>nomatch h.1
theorem Zou:∀{l c:List Nat},c.length=l.length->(LeC c l↔∀x∈rIv l c,0<=x)
 | [],[],_=>⟨fun _ _ z=>(nomatch z),fun _=>LeC.refl _⟩
 | x::l,y::c,h=>by rw [LeC.cons,Zou (l:=l) (c:=c) (BF h)];show _↔∀z∈((x:Int) - (y:Int))::rIv l c,0<=z;rw [AN];exact and_congr_left fun _=>by omega
 | [],_::_,h=>nomatch h
 | _::_,[],h=>nomatch h
theorem Xbf (l:List Int):∀a:Int,0<=l.foldl min a↔0<=a/\∀x∈l,0<=x:=by
 induction l with
 | nil=>exact fun a=>⟨fun h=>⟨h,fun _ z=>nomatch z⟩,fun h=>h.1⟩
 | cons x l ih =>intro a;rw [DL,ih,AN,Ie];exact and_assoc
theorem Xgc {l:List Int}(h:l≠[]):0<=Zve l↔∀x∈l,0<=x:=by
 cases l with
 | nil=>exact absurd rfl h
 | cons x l=>rw [AN];exact Xbf l x
theorem Zsc (l:List Int):0<=(if l=[] then 0 else Zve l)↔∀x∈l,0<=x:=by split;rename_i h;rw [h];exact ⟨fun _ _ z=>(nomatch z),fun _=>FQ _⟩;rename_i h;exact Xgc h
theorem Zgm:∀c:List Int,intsOf (c.map D.int)=some c
 | []=>rfl
 | i::c=>by show (intsOf (c.map D.int)).map (i::·)=_;rw [Zgm c];rfl
theorem flA_i:∀c:List Int,Zu (c.map D.int)=true:=Zhn fun _=>rfl
theorem Xoy {b:FE}(ha:a ρ=.ok (tyN l))(hb:b ρ=.ok (tyN c))(hl:l.length<=1000):Zlg a b ρ=.ok ((l.zip c).map fun p=>.tup [.int (p.1:Int),.int (p.2:Int)]):=by unfold Zlg;rw [ha,Zas,hb,Zas];refine (if_pos ⟨by rw [Ah];exact Az hl (by decide),Yu l,Yu c⟩).trans (congrArg R.ok ?_);rw [Ij,Lk,Il]
theorem Xgx {b:FE}(hn:ρ.length=n)(ha:a ρ=.ok (tyN l))(hb:b ρ=.ok (tyN c))(hl:l.length<=1000):fA Zda (Ze (Zdb n 2 (Zlg a b) (Zet (Xw (Zt n) (Xw (Zt (n+1)) Zeo))) Ziy (f2 Zeu (fV n) (fV (n+1)))) Zy) ρ=.ok (.tup ((rIv l c).map D.int)):=by refine Jd (Zd (Zlr hn (Xoy ha hb hl) (Xhn (f:=fun p:Nat×Nat=>D.int (p.1:Int)) (g:=fun p:Nat×Nat=>D.int (p.2:Int)) (v:=fun p=>D.int ((p.1:Int) - (p.2:Int))) hn fun p _=>?_)) rfl) ?_;refine Zm (x:=.int (p.1:Int)) (y:=.int (p.2:Int)) ?_ ?_ rfl;subst hn;unfold fV;rw [Bj (As _),FZ];rfl;subst hn;unfold fV;rw [Bj (Hu _),show ρ.length+1 - ρ.length=1 by omega];rfl;unfold rIv;rw [Be];exact if_pos (Zhn (fun _=>rfl) _)
theorem Xso {b:FE}{l:List Int}{i:Int}(ha:a ρ=.ok (.tup (l.map D.int)))(hb:b ρ=.ok (.int i)):Zqg a b ρ=.ok (.int (if l=[] then i else Zve l)):=by unfold Zqg;rw [ha];simp only [Zas];rw [Zgm];simp only [];rw [hb];rfl
theorem Xot {c:FT}{b:FE}{t:Bool}{x y:D}(hc:c ρ=.ok t)(ha:t=true->a ρ=.ok x)(hb:t=false->b ρ=.ok y):fIf c a b ρ=.ok (if t=true then x else y):=by rw [Xtu,hc,Zas];cases t;exact hb rfl;exact ha rfl
theorem Xrl (ha:a ρ=.ok (.flst xs)):Zui a ρ=.ok (!xs.isEmpty):=by unfold Zui;rw [ha];rfl
theorem Xkl {ks:List (List (Int ⊕ Str))}(h:ρ[i]?=some (some (.dtt ks ds)))(hf:Zu ds=true):Zjc i ρ=.ok (.ret (.fdt ks ds)):=by unfold Zjc;rw [h];exact if_pos hf
theorem Xrt {a b:FS}(h:a ρ=.ok (.cnt ρ')):Xk a b ρ=.ok (.cnt ρ'):=by rw [Zpj,h];rfl
theorem Xgy {p q:List Nat×D}:∀{cs:List (List Nat)} {xs:List D},cs.Nodup->p∈cs.zip xs->q∈cs.zip xs->p.1=q.1->p.2=q.2
 | [],_,_,h,_,_=>nomatch h
 | _::_,[],_,h,_,_=>nomatch h
 | c::cs,x::xs,nd,h1,h2,e=>by have hn:=Ay.mp nd;rw [Ca] at h1 h2;rcases Al.mp h1 with q1 | q1;rcases Al.mp h2 with q2 | q2;rw [q1,q2];exact absurd (Dc q2).1 (by rw [<- e,q1];exact hn.1);rcases Al.mp h2 with q2 | q2;exact absurd (Dc q1).1 (by rw [e,q2];exact hn.1);exact Xgy hn.2 q1 q2 e
abbrev Kv:=List Nat×D
def PrX (Pr:Kv->Kv->Prop)(p0 q0 p q:Kv):Prop:=Pr p q\/(p=p0/\q=q0)
def SM (Pr:Kv->Kv->Prop)(c:List Nat):Prop:=∃p q,Pr p q/\LeC q.1 p.1/\c=sbC p.1 q.1
def WM (ks:List Kd)(os:List Nat)(rs:List (List Int))(Pr:Kv->Kv->Prop)(c:List Nat)(x:D):Prop:=∃u pl,x=vP u pl/\Pln ks os rs c u pl/\∀p q,Pr p q->LeC q.1 p.1->c=sbC p.1 q.1->∀u0 pl0 ps0,p.2=vP u0 pl0->q.2=fps ps0->u<=u0+nzP ps0
abbrev Zuf (d0 d1:Option D)(cs:List (List Nat))(xs:List D)(l:List Nat)(u:Nat)(pl:List (List (Int×Str)))(c:List Nat)(ps:List (Int×Str))(o7 o8:Option D):Env:=[d0,d1,some (.dtt (cs.map kyN) xs),some (tyN l),some (vP u pl),some (tyN c),some (fps ps),o7,o8]
def WrT (ks:List Kd)(os:List Nat)(rs:List (List Int))(r:List Int)(Pr:Kv->Kv->Prop)(d0 d1:Option D)(cs:List (List Nat))(xs:List D)(l:List Nat)(u:Nat)(pl:List (List (Int×Str)))(c:List Nat)(ps:List (Int×Str))(o7 o8:Option D):Prop:=∃cs' xs' p7 p8,(Zag (Zuf d0 d1 cs xs l u pl c ps o7 o8)=.ok (.nx (Zuf d0 d1 cs' xs' l u pl c ps p7 p8))\/Zag (Zuf d0 d1 cs xs l u pl c ps o7 o8)=.ok (.cnt (Zuf d0 d1 cs' xs' l u pl c ps p7 p8)))/\Dkt (SM (PrX Pr (l,vP u pl) (c,fps ps))) (WM ks os (rs++[r]) (PrX Pr (l,vP u pl) (c,fps ps))) cs' xs'
theorem Xit (ho:Zau os)(hol:os.length=ks.length)(hlk:ks.length<=8)(hr:rs.length<=1000){Pr:Kv->Kv->Prop}(hp:Pln ks os rs l u pl)(hc:Ct r ks r.length c ps)(hd:Dkt (SM Pr) (WM ks os (rs++[r]) Pr) cs xs)(d0 d1 o7 o8:Option D) :
    WrT ks os rs r Pr d0 d1 cs xs l u pl c ps o7 o8:=by
  have ll:l.length=ks.length:=hp.le.1.trans hol;have lc:c.length=l.length:=hc.len.trans ll.symm;have s7:Xq 7 (fA Zda (Ze (Zdb 9 2 (Zlg (fV 3) (fV 5)) (Zet (Xw (Zt 9) (Xw (Zt 10) Zeo))) Ziy (f2 Zeu (fV 9) (fV 10))) Zy)) (Zuf d0 d1 cs xs l u pl c ps o7 o8)=.ok (.nx (Zuf d0 d1 cs xs l u pl c ps (some (.tup ((rIv l c).map D.int))) o8)):=Zx (Xgx (n:=9) rfl rfl rfl (by omega));have mn:∀z:Option D,f2 gLt (Zqg (fV 7) (fC (.int 0))) (fC (.int 0)) (Zuf d0 d1 cs xs l u pl c ps (some (.tup ((rIv l c).map D.int))) z)=.ok (.bl (decide ((if rIv l c=[] then 0 else Zve (rIv l c))<0))):=fun z=>Zm (Xso rfl rfl) rfl rfl;have le_iff:=(Zou lc).trans (Zsc (rIv l c)).symm;by_cases le:LeC c l
  · have ge:=le_iff.mp le;have t1:sIf (cE (f2 gLt (Zqg (fV 7) (fC (.int 0))) (fC (.int 0)))) sCnt sNx (Zuf d0 d1 cs xs l u pl c ps (some (.tup ((rIv l c).map D.int))) o8)=.ok (.nx (Zuf d0 d1 cs xs l u pl c ps (some (.tup ((rIv l c).map D.int))) o8)):=Ys (Yt ((mn o8).trans (by rw [decide_eq_false (by omega)]))) rfl;have er:D.tup ((rIv l c).map D.int)=tyN (sbC l c):=congrArg D.tup (Zsm le);rw [er] at s7 t1;have tr:(!(ps.map pD).isEmpty)=!ps.isEmpty:=by cases ps<;>rfl
    have us:∀z:Option D,fIf (Zui (fV 6)) (f2 Yp (f2 gIx (fV 4) (fC (.int 0))) (fC (.int 1))) (f1 Yr (f2 gIx (fV 4) (fC (.int 0)))) (Zuf d0 d1 cs xs l u pl c ps (some (tyN (sbC l c))) z)=.ok (.int ((u+nzP ps:Nat):Int)):=fun z=>by
      have e0:D.int ((u+nzP ps:Nat):Int)=if (!ps.isEmpty)=true then .int ((u:Int)+1) else .int (u:Int):=by cases ps<;>rfl
      rw [e0];exact Xot ((Xrl rfl).trans (by rw [tr])) (fun _=>Zm (Zm rfl rfl rfl) rfl rfl) (fun _=>Zfw (Zm rfl rfl rfl) rfl)
    have s8:=Zx (i:=8) (us o8);have pn:Pln ks os (rs++[r]) (sbC l c) (u+nzP ps) (pl++[ps]):=hp.snoc hc le;have fv:flat (vP (u+nzP ps) (pl++[ps]))=true:=rfl;have nl:=hd.few ho (fun c' ⟨p,q,h1,h2,h3⟩=>by
      obtain ⟨x,-,u',pl',-,h,-⟩:=hd.at ⟨p,q,h1,h2,h3⟩;exact h.le)
    have tv:fA Zew (Ze (fV 8) (Ze (f1 Xhq (f2 Zva (f2 gIx (fV 4) (fC (.int 1))) (fA Yz (Ze (fV 6) Zy)))) Zy)) (Zuf d0 d1 cs xs l u pl c ps (some (tyN (sbC l c))) (some (.int ((u+nzP ps:Nat):Int))))=.ok (vP (u+nzP ps) (pl++[ps])):=by
      have ad:Zva (.flst (pl.map fps)) (.lst [fps ps])=some (.lst ((pl++[ps]).map fps)):=by refine (if_pos ⟨?_,rfl⟩).trans (by rw [AU];rfl);rw [Ah,hp.plen];show _+1<=1000000;omega
      exact Jd (Zd rfl (Zd (Zfw (Zm (Zm rfl rfl rfl) (Jd (Zd rfl rfl) rfl) ad) (if_pos (Zhn (fun _=>rfl) _))) rfl)) rfl
    have putting:cOr (cE (f2 Zfd (fV 7) (fV 2))) (cE (f2 gLt (fV 8) (f2 gIx (f2 Xop (fV 2) (fV 7)) (fC (.int 0))))) (Zuf d0 d1 cs xs l u pl c ps (some (tyN (sbC l c))) (some (.int ((u+nzP ps:Nat):Int))))=.ok true->(∀u1 pl1,sbC l c∈cs->tAt (cs.map kyN) xs (kyN (sbC l c))=some (vP u1 pl1)->u+nzP ps<=u1)->WrT ks os rs r Pr d0 d1 cs xs l u pl c ps o7 o8:=fun tc low=>by
      obtain ⟨cs',xs',e2,hd'⟩:=hd.put (S':=SM (PrX Pr (l,vP u pl) (c,fps ps))) (W':=WM ks os (rs++[r]) (PrX Pr (l,vP u pl) (c,fps ps))) (k:=sbC l c) fv (fun c'=>by
          constructor;rintro ⟨p,q,h1 | ⟨rfl,rfl⟩,h2,h3⟩;exact .inl ⟨p,q,h1,h2,h3⟩;exact .inr h3
          · rintro (⟨p,q,h1,h2,h3⟩ | h);exact ⟨p,q,.inl h1,h2,h3⟩
            · exact ⟨_,_,.inr ⟨rfl,rfl⟩,le,h⟩) (fun c' x _ hne ⟨u1,pl1,h1,h2,h3⟩=>⟨u1,pl1,h1,h2,fun p q hpq h4 h5=>by
          rcases hpq with h | ⟨rfl,rfl⟩;exact h3 p q h h4 h5
          · exact absurd h5 hne⟩) ⟨_,_,rfl,pn,fun p q hpq h4 h5 u0 pl0 ps0 e3 e4=>by
          rcases hpq with h | ⟨rfl,rfl⟩;obtain ⟨x,hx,u1,pl1,rfl,h1,h2⟩:=hd.at (k:=sbC l c) ⟨p,q,h,h4,h5⟩;exact Az (low u1 pl1 ((hd.ky _).mpr ⟨p,q,h,h4,h5⟩) hx) (h2 p q h h4 h5 u0 pl0 ps0 e3 e4)
          · rw [Zrv e3,Xak e4];exact As _⟩
      exact ⟨cs',xs',_,_,.inl (Zn s7 (Zn t1 (Zn s8 (Jt tc (Zqn tv rfl rfl (Zbb _) fv hd.fl (by rw [Ah];exact Cz nl (by decide)) e2))))),hd'⟩
    by_cases m:sbC l c∈cs;obtain ⟨x,hx,u1,pl1,rfl,h1,h2⟩:=hd.at ((hd.ky _).mp m);have ta:Xop (.dtt (cs.map kyN) xs) (tyN (sbC l c))=some (vP u1 pl1):=by refine (if_pos hd.fl).trans ?_;rw [Zbb];exact hx
    have tl:f2 gLt (fV 8) (f2 gIx (f2 Xop (fV 2) (fV 7)) (fC (.int 0))) (Zuf d0 d1 cs xs l u pl c ps (some (tyN (sbC l c))) (some (.int ((u+nzP ps:Nat):Int))))=.ok (.bl (decide (((u+nzP ps:Nat):Int)<(u1:Int)))):=Zm rfl (Zm (Zm rfl rfl ta) rfl rfl) rfl;by_cases lt:u+nzP ps<u1;refine putting (Zhl (Yt (Zm rfl rfl (Zvn.trans (by rw [decide_eq_true m];rfl)))) (Yt (tl.trans (by rw [decide_eq_true (BQ.mpr lt)])))) fun u2 pl2 _ h=>?_;rw [hx] at h;rw [<- Zrv (AK h)];omega;refine ⟨cs,xs,_,_,.inl (Zn s7 (Zn t1 (Zn s8 (Ys (Zhl (Yt (Zm rfl rfl (Zvn.trans (by rw [decide_eq_true m];rfl)))) (Yt (tl.trans (by rw [decide_eq_false fun z=>lt (BQ.mp z)])))) rfl)))),⟨hd.nd,hd.ln,hd.fl,fun c'=>?_,fun p hp=>?_⟩⟩;rw [hd.ky c'];constructor;rintro ⟨p,q,h1,h2,h3⟩;exact ⟨p,q,.inl h1,h2,h3⟩;rintro ⟨p,q,h1 | ⟨rfl,rfl⟩,h2,h3⟩;exact ⟨p,q,h1,h2,h3⟩;rw [h3];exact (hd.ky _).mp m;obtain ⟨u3,pl3,e3,h3,h4⟩:=hd.vl p hp;refine ⟨u3,pl3,e3,h3,fun p' q hpq h5 h6 u0 pl0 ps0 e5 e6=>?_⟩;rcases hpq with h | ⟨rfl,rfl⟩;exact h4 p' q h h5 h6 u0 pl0 ps0 e5 e6;have mz:(sbC l c,vP u1 pl1)∈cs.zip xs:=by obtain ⟨y,hy,hm⟩:=Zsh cs xs hd.ln m;rw [hx] at hy;rw [AK hy];exact hm
    have:p.2=vP u1 pl1:=Xgy hd.nd hp mz h6;rw [this] at e3;rw [<- Zrv e3,<- Zrv e5,<- Xak e6];exact IF lt;exact putting (Zsu (Yt (Zm rfl rfl (Zvn.trans (by rw [decide_eq_false m];rfl))))) fun _ _ h=>absurd h m
  refine ⟨cs,xs,_,_,.inr (Zn s7 (Xrt (Jt (Yt ((mn o8).trans (by rw [decide_eq_true (Int.lt_of_not_ge fun z=>le (le_iff.mpr z))]))) rfl))),hd.imp (fun c'=>?_) fun c' x _ ⟨u1,pl1,h1,h2,h3⟩=>⟨u1,pl1,h1,h2,fun p q hpq h4 h5=>?_⟩⟩;constructor;rintro ⟨p,q,h1,h2,h3⟩;exact ⟨p,q,.inl h1,h2,h3⟩;rintro ⟨p,q,h1 | ⟨rfl,rfl⟩,h2,h3⟩;exact ⟨p,q,h1,h2,h3⟩;exact absurd h2 le;rcases hpq with h | ⟨rfl,rfl⟩;exact h3 p q h h4 h5;exact absurd h4 le
theorem Xnc (h:Ct r ks r.length c ps)(h':Ct r ks r.length c ps'):nzP ps=nzP ps':=by have:=h.sum.symm.trans h'.sum;unfold nzP;cases ps<;>cases ps'<;>first | rfl | cases this
theorem Zkm {Pr Pr':Kv->Kv->Prop}(e:∀p q,Pr p q↔Pr' p q)(h:Dkt (SM Pr) (WM ks os rs Pr) cs xs):Dkt (SM Pr') (WM ks os rs Pr') cs xs:=by have:Pr=Pr':=funext fun p=>funext fun q=>propext (e p q);rw [<- this];exact h
theorem Xks (ho:Zau os)(hol:os.length=ks.length)(hlk:ks.length<=8)(hr:rs.length<=1000)(hl:Dkt (RS ks os rs) (WP ks os rs) cl xl)(hc:Dkt (KS r ks os r.length) (WC r ks r.length) cc xc):∃cs xs,Zar [.fdt (cl.map kyN) xl,.fdt (cc.map kyN) xc]=.ok (.fdt (cs.map kyN) xs)/\Dkt (RS ks os (rs++[r])) (WP ks os (rs++[r])) cs xs:=by
 have loop:=Jz (enc:=fun p:Kv=>D.tup [tyN p.1,p.2]) (b:=Zet (Xw (Zt 3) (Xw (Zt 4) Zeo))) (s:=Zej) (xs:=cl.zip xl) (ρ:=[some (.fdt (cl.map kyN) xl),some (.fdt (cc.map kyN) xc),some (.dtt [] []),none,none,none,none,none,none])
  (P:=fun l ρ=>∃(cs:List (List Nat)) (xs:List D) (o3 o4 o5 o6 o7 o8:Option D),ρ=[some (.fdt (cl.map kyN) xl),some (.fdt (cc.map kyN) xc),some (.dtt (cs.map kyN) xs),o3,o4,o5,o6,o7,o8]/\Dkt (SM fun p q=>p∈l/\q∈cc.zip xc) (WM ks os (rs++[r]) fun p q=>p∈l/\q∈cc.zip xc) cs xs)
  ⟨[],[],none,none,none,none,none,none,rfl,Dkt.nil fun c ⟨p,q,h,_⟩=>nomatch h.1⟩ ?_
 obtain ⟨ρ',⟨cs,xs,o3,o4,o5,o6,o7,o8,rfl,hd⟩,t⟩:=loop;refine ⟨cs,xs,Jy (Zn (Zx rfl) (Zn (Zbi (Zqb rfl (hl.few ho fun c ⟨_,_,h⟩=>h.le)) t) (Xkl rfl hd.fl))),hd.imp (fun c=>?_) fun c x _ ⟨u,pl,h1,h2,h3⟩=>⟨u,pl,h1,h2,fun u' pl' h=>?_⟩⟩;constructor;rintro ⟨p,q,⟨h1,h2⟩,h3,rfl⟩;obtain ⟨u,pl,-,hp,-⟩:=hl.vl p h1;obtain ⟨ps,-,hq⟩:=hc.vl q h2;exact ⟨_,_,hp.snoc hq h3⟩;rintro ⟨u,pl,h⟩;obtain ⟨l',u',pl',c',ps,h1,h2,h3,rfl,-⟩:=h.inv;obtain ⟨x,hx⟩:=Zdv hl.ln ((hl.ky l').mpr ⟨_,_,h1⟩);obtain ⟨y,hy⟩:=Zdv hc.ln ((hc.ky c').mpr ⟨h3.trans h1.le,_,h2⟩);exact ⟨(l',x),(c',y),⟨hx,hy⟩,h3,rfl⟩;obtain ⟨l',u0,pl0,c',ps,h4,h5,h6,rfl,rfl⟩:=h.inv;obtain ⟨x',hx⟩:=Zdv hl.ln ((hl.ky l').mpr ⟨_,_,h4⟩);obtain ⟨y,hy⟩:=Zdv hc.ln ((hc.ky c').mpr ⟨h6.trans h4.le,_,h5⟩);obtain ⟨u1,pl1,e1,h7,h8⟩:=hl.vl _ hx;obtain ⟨ps1,e2,h9⟩:=hc.vl _ hy;have:=h3 (l',x') (c',y) ⟨hx,hy⟩ h6 rfl u1 pl1 ps1 e1 e2;have e3:=Xnc h9 h5;have:=h8 u0 pl0 h4;show u<=u0+nzP ps;omega;rintro l ⟨ll,x⟩ rr ρ e1 ⟨cs,xs,o3,o4,o5,o6,o7,o8,rfl,hd⟩;have hx:(ll,x)∈cl.zip xl:=by rw [e1];simp
 obtain ⟨u,pl,rfl,hp,-⟩:=hl.vl _ hx;have inner:=Jz (enc:=fun p:Kv=>D.tup [tyN p.1,p.2]) (b:=Zet (Xw (Zt 5) (Xw (Zt 6) Zeo))) (s:=Zag) (xs:=cc.zip xc) (ρ:=[some (.fdt (cl.map kyN) xl),some (.fdt (cc.map kyN) xc),some (.dtt (cs.map kyN) xs),some (tyN ll),some (vP u pl),o5,o6,o7,o8])
  (P:=fun m ρ=>∃(cs:List (List Nat)) (xs:List D) (o5 o6 o7 o8:Option D),ρ=[some (.fdt (cl.map kyN) xl),some (.fdt (cc.map kyN) xc),some (.dtt (cs.map kyN) xs),some (tyN ll),some (vP u pl),o5,o6,o7,o8]/\Dkt (SM fun p q=>(p∈l/\q∈cc.zip xc)\/(p=(ll,vP u pl)/\q∈m)) (WM ks os (rs++[r]) fun p q=>(p∈l/\q∈cc.zip xc)\/(p=(ll,vP u pl)/\q∈m)) cs xs)
  ⟨cs,xs,o5,o6,o7,o8,rfl,Zkm (fun p q=>⟨.inl,fun h=>h.elim id fun h=>nomatch h.2⟩) hd⟩ ?_
 obtain ⟨ρ',⟨cs,xs,p5,p6,p7,p8,rfl,hd⟩,t⟩:=inner;refine ⟨_,.inl (Zbi (Zqb rfl (hc.few ho fun c h=>h.1)) t),⟨cs,xs,_,_,_,_,_,_,rfl,Zkm (fun p q=>?_) hd⟩⟩;rw [Ao,Aj];exact ⟨fun h=>h.elim (fun h=>⟨.inl h.1,h.2⟩) fun h=>⟨.inr h.1,h.2⟩,fun ⟨h1,h2⟩=>h1.elim (fun h=>.inl ⟨h,h2⟩) fun h=>.inr ⟨h,h2⟩⟩;rintro m ⟨c,y⟩ rr' ρ e2 ⟨cs,xs,p5,p6,p7,p8,rfl,hd⟩;have hy:(c,y)∈cc.zip xc:=by rw [e2];simp
 obtain ⟨ps,rfl,hq⟩:=hc.vl _ hy;obtain ⟨cs',xs',q7,q8,t,hd'⟩:=Xit ho hol hlk hr hp hq hd (some (.fdt (cl.map kyN) xl)) (some (.fdt (cc.map kyN) xc)) p7 p8;refine ⟨_,t,⟨cs',xs',_,_,_,_,rfl,Zkm (fun p q=>?_) hd'⟩⟩;rw [Ao,Aj];exact ⟨fun h=>h.elim (fun h=>h.imp id fun h=>⟨h.1,.inl h.2⟩) fun h=>.inr ⟨h.1,.inr h.2⟩,fun h=>h.elim (fun h=>.inl (.inl h)) fun ⟨h1,h2⟩=>h2.elim (fun h=>.inl (.inr ⟨h1,h⟩)) fun h=>.inr ⟨h1,h⟩⟩
theorem Zbl:∀a b:List Nat,Xl (a++b)=Xl a*Xl b
 | [],b=>(KJ _).symm
 | x::a,b=>by show (x+1)*Xl (a++b)=(x+1)*Xl a*Xl b;rw [Zbl a b,GH]
theorem Xam (h:m<=120):m<2 ^ 4000:=AC (show m<2 ^ 7 by omega) (Ht (by omega) (by omega))
theorem Xfq (h:Xl os<=120)(hl:os.length<=1000):Zdq [oD os]=.ok (.int (Xl os:Nat)):=by
 have loop:=Jz (enc:=fun x:Nat=>D.int (x:Int)) (b:=Zt 2) (s:=Zfb) (xs:=os) (ρ:=[some (oD os),some (.int 1),none])
  (P:=fun l ρ=>∃o:Option D,ρ=[some (oD os),some (.int (Xl l:Nat)),o]) ⟨none,rfl⟩ ?_
 obtain ⟨ρ',⟨o,rfl⟩,t⟩:=loop;refine Jy (Zn (Zx rfl) (Zn (Zbi (Zfe rfl ?_) (by rw [Be];exact t)) (Zaf rfl)));rw [Ah,Ah];exact Az hl (by decide);rintro l x r ρ e ⟨o,rfl⟩;have h1:Xl l*(x+1)<=120:=by have p:=Zcp r;rw [e,Zbl] at h;have h:Xl l*((x+1)*Xl r)<=120:=h;rw [<- GH] at h;exact Az (Ds _ p) h
 have h2:Xl l<=120:=Az (Ds _ (EG x)) h1;have h3:x+1<=120:=Az (G4 _ (Zcp l)) h1;have e3:Xl (l++[x])=Xl l*(x+1):=by rw [Zbl];show Xl l*((x+1)*1)=_;rw [F0]
 have m:Zue (.int (Xl l:Nat)) (.int ((x:Int)+1))=some (.int ((Xl l:Nat)*((x:Int)+1))):=if_pos ⟨by rw [Ib];exact Xam h2,by rw [show ((x:Int)+1).natAbs=x+1 by omega];exact Xam h3⟩;have t:Zfb [some (oD os),some (.int (Xl l:Nat)),some (.int (x:Int))]=.ok (.nx [some (oD os),some (.int ((Xl l:Nat)*((x:Int)+1))),some (.int (x:Int))]):=r_aug rfl (Zm rfl rfl rfl) m;refine ⟨_,.inl t,⟨some (.int (x:Int)),?_⟩⟩;rw [e3,IN];rfl
theorem Xsd (h:Xl os<=120)(hol:os.length<=1000)(hr:rs.length<=1000)(h40:∀r∈rs,r.length<=40):Jp [rsD rs,oD os]=.ok .non:=by
 have cp:Zbk 1 (Zt 2) Ziy (f2 gGt (fA Zbh (Ze (fV 2) Zy)) (fC (.int 40))) [some (rsD rs),some (oD os)] (rs.map iD)=.ok (rs.map fun _=>D.bl false):=Xhv rfl fun r hr=>Zm (Zkf rfl) rfl (Znv (by have:=h40 r hr;omega));have an:gAny [.lst (rs.map fun _=>D.bl false)]=some (.bl false):=by
  have:∀l:List (List Int),bools (l.map fun _=>D.bl false)=some (l.map fun _=>false):=fun l=>by
   induction l with
   | nil=>rfl
   | cons x l ih=>show (bools (l.map fun _=>D.bl false)).map (false::·)=_;rw [ih];rfl
  show (bools (rs.map fun _=>D.bl false)).bind _=_;rw [this];show some (D.bl ((rs.map fun _=>false).any id))=_;rw [List.any_map];simp
 have q:Zce [some (rsD rs),some (oD os)]=.ok (.nx [some (rsD rs),some (oD os)]):=Zn (Ys (Yt (Jd (Zd (Zlr rfl (Zfe rfl (by rw [Ah];exact Az hr (by decide))) cp) rfl) an)) rfl) (Ys (Yt (Zm (Xs (Zd rfl rfl) (Xfq h hol)) rfl (Znv (by omega)))) rfl);show (run 2 Zce [rsD rs,oD os]).calm=_;unfold run;rw [show ([rsD rs,oD os]:List D).map some++Ab (2 - [rsD rs,oD os].length) none=[some (rsD rs),some (oD os)] from rfl,q];rfl
theorem Xmx {e:FE}(h:e ρ=.ok d):Zvb e ρ=.ok (.nx ρ):=by unfold Zvb;rw [h];rfl
theorem Xst (os:List Nat):Zda [oD os]=some (tyN os):=by unfold oD iD;rw [Be];exact if_pos (Yu os)
theorem Pln.nil_iff :RS ks os [] l↔l=os:=by
 constructor;rintro ⟨u,pl,h⟩;generalize hE:([]:List (List Int))=E at h;cases h with
 | nil=>rfl
 | snoc _ _ _=>exact absurd (congrArg EL hE) (by rw [Ak];exact (ID _).symm)
 rintro rfl;exact ⟨0,[],.nil⟩
theorem Xdl (ho:Zau os)(hol:os.length=ks.length)(hlk:ks.length<=8)(hw:∀k∈ks,1<=k.w)(hr:rs.length<=900)(h40:∀r∈rs,r.length<=40):∃cs xs,Ym [rsD rs,tD ks,oD os]=.ok (.fdt (cs.map kyN) xs)/\Dkt (RS ks os rs) (WP ks os rs) cs xs:=by
 have loop:=Jz (enc:=iD) (b:=Zt 4) (s:=Zbn) (xs:=rs) (ρ:=[some (rsD rs),some (tD ks),some (oD os),some (.fdt ([os].map kyN) [vP 0 []]),none])
  (P:=fun l ρ=>∃(cs:List (List Nat)) (xs:List D) (o:Option D),ρ=[some (rsD rs),some (tD ks),some (oD os),some (.fdt (cs.map kyN) xs),o]/\Dkt (RS ks os l) (WP ks os l) cs xs) ⟨[os],[vP 0 []],none,rfl,Dkt.one (fun c=>Pln.nil_iff) rfl ⟨0,[],rfl,.nil,fun _ _ _=>D4 _⟩⟩ ?_
 obtain ⟨ρ',⟨cs,xs,o,rfl,hd⟩,t⟩:=loop;exact ⟨cs,xs,Jy (Zn (Xmx (Xs (Zd rfl (Zd rfl rfl)) (Xsd ho.pr (by omega) (by omega) h40))) (Zn (Zx (Zqu (Jd (Zd rfl rfl) (Xst os)) (Jd (Zd rfl (Zd (Zfw rfl rfl) rfl)) rfl) rfl)) (Zn (Zbi (Zfe rfl (by rw [Ah];exact Az hr (by decide))) t) (Zaf rfl)))),hd⟩;rintro l r rr ρ e ⟨cs,xs,o,rfl,hd⟩;have hm:r∈rs:=by rw [e];simp
 have hll:l.length<=900:=by have:=congrArg EL e;rw [Ak] at this;omega
 obtain ⟨cc,xc,h1,h2⟩:=Xiw (ns:=r) ho hol hlk hw (by have:=h40 r hm;omega);obtain ⟨cs',xs',h3,h4⟩:=Xks ho hol hlk (by omega) hd h2;exact ⟨_,.inl (Zx (Xs (Zd rfl (Zd (Xs (Zd rfl (Zd rfl (Zd rfl rfl))) h1) rfl)) h3)),⟨cs',xs',_,rfl,h4⟩⟩
theorem Xlr {ks:List (List (Int ⊕ Str))}(hj:ρ[j]?=some (some (.dtt ks ds)))(h1:Zu ds=true)(hn:i≠j)(hl:i<ρ.length):Zjg i j ρ=.ok (.nx ((ρ.set j none).set i (some (.fdt ks ds)))):=by unfold Zjg;rw [hj];exact if_pos ⟨h1,hn,hl⟩
theorem Xkb {l:List Int}(h:l≠[]):Zyg [.tup (l.map D.int)]=some (.int (Zve l)):=by show (intsOf (l.map D.int)).bind _=_;rw [Zgm];exact if_neg h
def SR (Pr:List Nat->List Nat->Prop)(c:List Nat):Prop:=∃p q,Pr p q/\LeC q p/\c=sbC p q
theorem Zkb {Pr:List Nat->List Nat->Prop}(e:∀p q,Pr p q↔Pr' p q)(h:Dkt (SR Pr) WT cs xs):Dkt (SR Pr') WT cs xs:=by have:Pr=Pr':=funext fun p=>funext fun q=>propext (e p q);rw [<- this];exact h
abbrev Xoi (d0 d1 d2 d3 d4 d5:Option D)(cs:List (List Nat))(xs:List D)(l c:List Nat)(o9:Option D):Env:=[d0,d1,d2,d3,d4,d5,some (.dtt (cs.map kyN) xs),some (tyN l),some (tyN c),o9]
theorem Xiy (ho:Zau os)(hol:os.length=ks.length)(hlk:ks.length<=8){Pr:List Nat->List Nat->Prop}(hl:LeC l os)(hc:c.length=ks.length)(hPr:∀p q,Pr p q->LeC p os)(hd:Dkt (SR Pr) WT cs xs)(d0 d1 d2 d3 d4 d5 o9:Option D) :
    ∃cs' xs' p9,Ju (Xoi d0 d1 d2 d3 d4 d5 cs xs l c o9)=.ok (.nx (Xoi d0 d1 d2 d3 d4 d5 cs' xs' l c p9))/\Dkt (SR fun p q=>Pr p q\/(p=l/\q=c)) WT cs' xs':=by
  have ll:l.length=ks.length:=hl.1.trans hol;have lc:c.length=l.length:=hc.trans ll.symm;have s9:Xq 9 (fA Zda (Ze (Zdb 10 2 (Zlg (fV 7) (fV 8)) (Zet (Xw (Zt 10) (Xw (Zt 11) Zeo))) Ziy (f2 Zeu (fV 10) (fV 11))) Zy)) (Xoi d0 d1 d2 d3 d4 d5 cs xs l c o9)=.ok (.nx (Xoi d0 d1 d2 d3 d4 d5 cs xs l c (some (.tup ((rIv l c).map D.int))))):=Zx (Xgx (n:=10) rfl rfl rfl (by omega));have le_iff:=(Zou lc).trans (Zsc (rIv l c)).symm;have len0:fA Zbh (Ze (fV 9) Zy) (Xoi d0 d1 d2 d3 d4 d5 cs xs l c (some (.tup ((rIv l c).map D.int))))=.ok (.int ((rIv l c).length:Nat)):=Jd (Zd rfl rfl) (by show some (D.int _)=_;rw [Ah]);have tc:cOr (cE (f2 gEq (fA Zbh (Ze (fV 9) Zy)) (fC (.int 0)))) (cE (f2 gGe (fA Zyg (Ze (fV 9) Zy)) (fC (.int 0)))) (Xoi d0 d1 d2 d3 d4 d5 cs xs l c (some (.tup ((rIv l c).map D.int))))=.ok (decide (0<=(if rIv l c=[] then 0 else Zve (rIv l c)))):=by by_cases e:rIv l c=[];rw [if_pos e];exact Zsu (Yt (Zm len0 rfl ((Zip _ _).trans (Znu (by rw [e];rfl)))));rw [if_neg e];refine Zhl (Yt (Zm len0 rfl ((Zip _ _).trans (Znv fun z=>e (BW.mp (by omega)))))) (Yt (Zm (Jd (Zd rfl rfl) (Xkb e)) rfl rfl))
  have nl:=hd.few ho (fun c' ⟨p,q,h1,h2,h3⟩=>by
    rw [h3];exact (Xii h2.1).trans (hPr p q h1))
  by_cases le:LeC c l
  · have er:D.tup ((rIv l c).map D.int)=tyN (sbC l c):=congrArg D.tup (Zsm le);rw [decide_eq_true (le_iff.mp le)] at tc;rw [er] at s9 tc;obtain ⟨cs',xs',e2,hd'⟩:=hd.put (S':=SR fun p q=>Pr p q\/(p=l/\q=c)) (W':=WT) (k:=sbC l c) (v:=.bl true) rfl (fun c'=>by
      constructor;rintro ⟨p,q,h1 | ⟨rfl,rfl⟩,h2,h3⟩;exact .inl ⟨p,q,h1,h2,h3⟩;exact .inr h3
      · rintro (⟨p,q,h1,h2,h3⟩ | h);exact ⟨p,q,.inl h1,h2,h3⟩
        · exact ⟨_,_,.inr ⟨rfl,rfl⟩,le,h⟩) (fun _ _ _ _ h=>h) rfl
    exact ⟨cs',xs',_,Zn s9 (Jt tc (Zqn rfl rfl rfl (Zbb _) rfl hd.fl (by rw [Ah];exact Cz nl (by decide)) e2)),hd'⟩
  rw [decide_eq_false fun z=>le (le_iff.mpr z)] at tc;refine ⟨cs,xs,_,Zn s9 (Ys tc rfl),hd.imp (fun c'=>?_) fun _ _ _ h=>h⟩;constructor;rintro ⟨p,q,h1,h2,h3⟩;exact ⟨p,q,.inl h1,h2,h3⟩;rintro ⟨p,q,h1 | ⟨rfl,rfl⟩,h2,h3⟩;exact ⟨p,q,h1,h2,h3⟩;exact absurd h2 le
theorem Xdm (ho:Zau os)(hol:os.length=ks.length)(hlk:ks.length<=8)(hl:Dkt (RS ks os rs) WT cl xl)(hc:Dkt (KS r ks os r.length) WT cc xc){d2 o7 o8 o9:Option D}:∃cs xs p7 p8 p9,Zgz (Zt 7) Jv (cl.map tyN) [d0,d1,d2,some (.fdt (cl.map kyN) xl),d4,some (.fdt (cc.map kyN) xc),some (.dtt [] []),o7,o8,o9]=.ok (.nx [d0,d1,d2,some (.fdt (cl.map kyN) xl),d4,some (.fdt (cc.map kyN) xc),some (.dtt (cs.map kyN) xs),p7,p8,p9])/\Dkt (RS ks os (rs++[r])) WT cs xs:=by
  have lle:∀p∈cl,LeC p os:=fun p hp=>((hl.ky p).mp hp).elim fun _ ⟨_,h⟩=>h.le;have loop:=Jz (enc:=tyN) (b:=Zt 7) (s:=Jv) (xs:=cl) (ρ:=[d0,d1,d2,some (.fdt (cl.map kyN) xl),d4,some (.fdt (cc.map kyN) xc),some (.dtt [] []),o7,o8,o9])
    (P:=fun l ρ=>∃(cs:List (List Nat)) (xs:List D) (o7 o8 o9:Option D),ρ=[d0,d1,d2,some (.fdt (cl.map kyN) xl),d4,some (.fdt (cc.map kyN) xc),some (.dtt (cs.map kyN) xs),o7,o8,o9]/\Dkt (SR fun p q=>p∈l/\q∈cc) WT cs xs)
    ⟨[],[],o7,o8,o9,rfl,Dkt.nil fun c ⟨p,q,h,_⟩=>nomatch h.1⟩ ?_
  obtain ⟨ρ',⟨cs,xs,p7,p8,p9,rfl,hd⟩,t⟩:=loop;refine ⟨cs,xs,p7,p8,p9,t,hd.imp (fun c=>?_) fun _ _ _ h=>h⟩;constructor;rintro ⟨p,q,⟨h1,h2⟩,h3,rfl⟩;obtain ⟨u,pl,hp⟩:=(hl.ky p).mp h1;obtain ⟨-,ps,hq⟩:=(hc.ky q).mp h2;exact ⟨_,_,hp.snoc hq h3⟩;rintro ⟨u,pl,h⟩;obtain ⟨l',u',pl',c',ps,h1,h2,h3,rfl,-⟩:=h.inv;exact ⟨l',c',⟨(hl.ky l').mpr ⟨_,_,h1⟩,(hc.ky c').mpr ⟨h3.trans h1.le,_,h2⟩⟩,h3,rfl⟩
  · rintro l ll rr ρ e1 ⟨cs,xs,p7,p8,p9,rfl,hd⟩;have hx:ll∈cl:=by rw [e1];simp
    have hll:∀p∈l,p∈cl:=fun p hp=>by rw [e1];exact AF _ hp
    have inner:=Jz (enc:=tyN) (b:=Zt 8) (s:=Ju) (xs:=cc) (ρ:=[d0,d1,d2,some (.fdt (cl.map kyN) xl),d4,some (.fdt (cc.map kyN) xc),some (.dtt (cs.map kyN) xs),some (tyN ll),p8,p9])
      (P:=fun m ρ=>∃(cs:List (List Nat)) (xs:List D) (o8 o9:Option D),ρ=[d0,d1,d2,some (.fdt (cl.map kyN) xl),d4,some (.fdt (cc.map kyN) xc),some (.dtt (cs.map kyN) xs),some (tyN ll),o8,o9]/\Dkt (SR fun p q=>(p∈l/\q∈cc)\/(p=ll/\q∈m)) WT cs xs)
      ⟨cs,xs,p8,p9,rfl,Zkb (fun p q=>⟨.inl,fun h=>h.elim id fun h=>nomatch h.2⟩) hd⟩ ?_
    obtain ⟨ρ',⟨cs,xs,q8,q9,rfl,hd⟩,t⟩:=inner;refine ⟨_,.inl (Zbi (Zph rfl (hc.few ho fun c h=>h.1)) t),⟨cs,xs,_,_,_,rfl,Zkb (fun p q=>?_) hd⟩⟩;rw [Ao,Aj];exact ⟨fun h=>h.elim (fun h=>⟨.inl h.1,h.2⟩) fun h=>⟨.inr h.1,h.2⟩,fun ⟨h1,h2⟩=>h1.elim (fun h=>.inl ⟨h,h2⟩) fun h=>.inr ⟨h,h2⟩⟩
    · rintro m c rr' ρ e2 ⟨cs,xs,q8,q9,rfl,hd⟩;have hy:c∈cc:=by rw [e2];simp
      obtain ⟨cs',xs',z9,t,hd'⟩:=Xiy ho hol hlk (lle ll hx) (Zml ((hc.ky c).mp hy)) (fun p q h=>by
        rcases h with h | h;exact lle p (hll p h.1)
        · rw [h.1];exact lle ll hx) hd d0 d1 d2 (some (.fdt (cl.map kyN) xl)) d4 (some (.fdt (cc.map kyN) xc)) q9
      refine ⟨_,.inl t,⟨cs',xs',_,_,rfl,Zkb (fun p q=>?_) hd'⟩⟩;rw [Ao,Aj];exact ⟨fun h=>h.elim (fun h=>h.imp id fun h=>⟨h.1,.inl h.2⟩) fun h=>.inr ⟨h.1,.inr h.2⟩,fun h=>h.elim (fun h=>.inl (.inl h)) fun ⟨h1,h2⟩=>h2.elim (fun h=>.inl (.inr ⟨h1,h⟩)) fun h=>.inr ⟨h1,h⟩⟩
theorem Ziz (ho:Zau os)(hol:os.length=ks.length)(hlk:ks.length<=8)(hw:∀k∈ks,1<=k.w)(hr:rs.length<=900)(h40:∀r∈rs,r.length<=40):∃cs xs,Yd [rsD rs,tD ks,oD os]=.ok (.fdt (cs.map kyN) xs)/\Dkt (RS ks os rs) WT cs xs:=by
 have loop:=Jz (enc:=iD) (b:=Zt 4) (s:=Zca) (xs:=rs) (ρ:=[some (rsD rs),some (tD ks),some (oD os),some (.fdt ([os].map kyN) [.bl true]),none,none,none,none,none,none])
  (P:=fun l ρ=>∃(cs:List (List Nat)) (xs:List D) (o4 o5 o6 o7 o8 o9:Option D),ρ=[some (rsD rs),some (tD ks),some (oD os),some (.fdt (cs.map kyN) xs),o4,o5,o6,o7,o8,o9]/\Dkt (RS ks os l) WT cs xs) ⟨[os],[.bl true],none,none,none,none,none,none,rfl,Dkt.one (fun c=>Pln.nil_iff) rfl rfl⟩ ?_
 obtain ⟨ρ',⟨cs,xs,o4,o5,o6,o7,o8,o9,rfl,hd⟩,t⟩:=loop;exact ⟨cs,xs,Jy (Zn (Zx (Zqu (Jd (Zd rfl rfl) (Xst os)) rfl rfl)) (Zn (Zbi (Zfe rfl (by rw [Ah];exact Az hr (by decide))) t) (Zaf rfl))),hd⟩;rintro l r rr ρ e ⟨cs,xs,o4,o5,o6,o7,o8,o9,rfl,hd⟩;have hm:r∈rs:=by rw [e];simp
 obtain ⟨cc,xc,h1,h2⟩:=Zup (ns:=r) ho hol hlk hw (by have:=h40 r hm;omega);obtain ⟨cs',xs',p7,p8,p9,h3,h4⟩:=Xdm ho hol hlk hd h2 (d0:=some (rsD rs)) (d1:=some (tD ks)) (d2:=some (oD os)) (d4:=some (iD r)) (o7:=o7) (o8:=o8) (o9:=o9);exact ⟨_,.inl (Zn (Zx (Xs (Zd rfl (Zd rfl (Zd rfl rfl))) h1)) (Zn (Zx rfl) (Zn (Zbi (Zph rfl (hd.few ho fun c ⟨_,_,h⟩=>h.le)) h3) (Xlr rfl h4.fl (by decide) (by show 3<10;decide))))),⟨cs',xs',_,_,_,_,_,_,rfl,h4⟩⟩
theorem Zxs {n:Nat}{e:FE}{ρ:Env}{α β:Type}{enc:α->D}{f:β->D}{Q:β->Prop}(hn:ρ.length=n):∀{xs:List α},(∀x∈xs,∃v,e (ρ++[some (enc x)])=.ok (f v)/\Q v)->∃vs:List β,Zbk 1 (Zt n) Ziy e ρ (xs.map enc)=.ok (vs.map f)/\vs.length=xs.length/\∀v∈vs,Q v
 | [],_=>⟨[],rfl,rfl,fun _ z=>nomatch z⟩
 | x::xs,h=>by
  obtain ⟨v,h1,h2⟩:=h x (.head _);obtain ⟨vs,g1,g2,g3⟩:=Zxs hn (xs:=xs) (f:=f) (Q:=Q) fun y hy=>h y (.tail _ hy);refine ⟨v::vs,?_,congrArg Ln g2,AN.mpr ⟨h2,g3⟩⟩;rw [AV];unfold Zbk;have hb:Zt n (enc x) (ρ++Ab 1 none)=.ok (ρ++[some (enc x)]):=by show R.ok ((ρ++[none]).set n (some (enc x)))=_;rw [<- hn,Di _ _ (As _),FZ];rfl
  rw [hb,Zcg];show (e (ρ++[some (enc x)])).bind _=_;rw [h1,Zas,g1];rfl
def ShO (lim:Nat)(l:List Nat):Prop:=Xl l<=lim/\((∀x∈l,x<=3)\/∃m,l=(lim - 1)::Ab m 0)
theorem Ziw:∀m:Nat,Xl (Ab m 0)=1
 | 0=>rfl
 | m+1=>by show (0+1)*Xl (Ab m 0)=1;rw [Ziw m]
theorem ShO.zero {lim:Nat}(h:ShO lim l):ShO lim (l++[0]):=by obtain ⟨h1,h2⟩:=h;refine ⟨by rw [Zbl];show _*1<=_;rw [F0];exact h1,h2.imp (fun h x hx=>?_) fun ⟨m,e⟩=>⟨m+1,by rw [e,List.replicate_succ',Io]⟩⟩;rcases Ao.mp hx with q | q;exact h x q;rw [Aj.mp q];decide
theorem Zyf (ns:List Int)(hn:ns.length<=63){i:Int}(i0:0<=i)(i1:i<1000)(hk:ks.length<=8)(l0:1<=lm)(l1:lm<=120):∃os,Jn [.scr ns,.int i,tD ks,.int 3,.int (lm:Int)]=.ok (oD os)/\os.length=ks.length/\ShO lm os:=by
  obtain ⟨qs,hrow,hqs⟩:=Zjb ns hn (i:=i) i0 i1 ((Ab 8 [(4:Int)]).flatten++[16]) (by decide) (by decide);have hql:qs.length=9:=hqs.len;have bq:∀k:Nat,k<8->0<=qs.getD k 0/\qs.getD k 0<4:=fun k hk=>by
    have:=hqs.at_ k (by show k<9;omega);have e:∀k:Nat,k<8->((Ab 8 [(4:Int)]).flatten++[16]).getD k 0=4:=by decide
    rw [e k hk] at this;exact this
  have loop:=Jz (enc:=fun k:Nat=>D.int (k:Int)) (b:=Zt 8) (s:=Zdf) (xs:=A5 ks.length) (ρ:=[some (.scr ns),some (.int i),some (tD ks),some (.int 3),some (.int (lm:Int)),some (iD qs),some (oD []),some (.int 1),none,none])
    (P:=fun l ρ=>∃(os:List Nat) (o8 o9:Option D),ρ=[some (.scr ns),some (.int i),some (tD ks),some (.int 3),some (.int (lm:Int)),some (iD qs),some (oD os),some (.int (Xl os:Nat)),o8,o9]/\os.length=l.length/\ShO lm os) ⟨[],none,none,rfl,rfl,l0,.inl fun _ z=>nomatch z⟩ ?_
  obtain ⟨ρ',⟨os,o8,o9,rfl,h1,h2⟩,t⟩:=loop;rw [CK] at h1;have m8:Zab (.lst ([4].map D.int)) (.int 8)=some (iD (Ab 8 [(4:Int)]).flatten):=Zki (ws:=[4]) (m:=8) (by decide) (by decide) (by decide);have a8:Yp (iD (Ab 8 [(4:Int)]).flatten) (iD [16])=some (iD ((Ab 8 [(4:Int)]).flatten++[16])):=Zkc (by decide);exact ⟨os,Jy (Zn (Zx (Xs (Zd rfl (Zd rfl (Zd (Zm (Zm (Jd (Zd (Zm rfl rfl rfl) rfl) rfl) rfl m8) (Jd (Zd rfl rfl) rfl) a8) rfl))) hrow)) (Zn (Zx rfl) (Zn (Zx rfl) (Zn (Zbi ((Zpf (j:=(ks.length:Int)) (Zd (Jd (Zd rfl rfl) (Zrr ks)) rfl) (by omega)).trans (congrArg R.ok (Xdn _))) t) (Zaf rfl))))),h1,h2⟩
  · rintro l k r ρ e1 ⟨os,o8,o9,rfl,h1,h2⟩;obtain ⟨rfl,hlt⟩:=Zgk e1;have b:=bq l.length (by omega);have ix:gIx (iD qs) (.int (l.length:Int))=some (.int (qs.getD l.length 0)):=Xee (by omega);have ix8:gIx (iD qs) (.int 8)=some (.int (qs.getD 8 0)):=Xee (k:=8) (by omega);obtain ⟨w,hw⟩:∃w:Nat,qs.getD l.length 0=(w:Int):=⟨(qs.getD l.length 0).toNat,(B4 b.1).symm⟩;rw [hw] at ix b;have s1:Xq 9 (f1 Yr (f2 gIx (fV 5) (fV 8))) [some (.scr ns),some (.int i),some (tD ks),some (.int 3),some (.int (lm:Int)),some (iD qs),some (oD os),some (.int (Xl os:Nat)),some (.int (l.length:Int)),o9]=.ok (.nx [some (.scr ns),some (.int i),some (tD ks),some (.int 3),some (.int (lm:Int)),some (iD qs),some (oD os),some (.int (Xl os:Nat)),some (.int (l.length:Int)),some (.int (w:Int))]):=Zx (Zfw (Zm rfl rfl ix) rfl);obtain ⟨v,s2,hv⟩:∃v:Nat,sIf (Xht (cE (f2 gEq (fV 8) (fC (.int 0)))) (cE (f2 gEq (f2 gIx (fV 5) (fC (.int 8))) (fC (.int 0))))) (Xq 9 (f2 Zeu (fV 4) (fC (.int 1)))) sNx [some (.scr ns),some (.int i),some (tD ks),some (.int 3),some (.int (lm:Int)),some (iD qs),some (oD os),some (.int (Xl os:Nat)),some (.int (l.length:Int)),some (.int (w:Int))]=.ok (.nx [some (.scr ns),some (.int i),some (tD ks),some (.int 3),some (.int (lm:Int)),some (iD qs),some (oD os),some (.int (Xl os:Nat)),some (.int (l.length:Int)),some (.int (v:Int))])/\((v<=3)\/(l.length=0/\v=lm - 1)):=by by_cases q:(l.length:Int)=0/\qs.getD 8 0=0;refine ⟨lm - 1,Jt (Zjj (Yt (Zm rfl rfl ((Zip _ _).trans (Znu q.1)))) (Yt (Zm (Zm rfl rfl ix8) rfl ((Zip _ _).trans (Znu q.2))))) (Zx (Zm rfl rfl ?_)),.inr ⟨by omega,rfl⟩⟩;show some (D.int ((lm:Int) - 1))=_;rw [Kh l0];rfl;refine ⟨w,Ys ?_ rfl,.inl (by omega)⟩;by_cases q1:(l.length:Int)=0;exact Zjj (Yt (Zm rfl rfl ((Zip _ _).trans (Znu q1)))) (Yt (Zm (Zm rfl rfl ix8) rfl ((Zip _ _).trans (Znv fun z=>q ⟨q1,z⟩))));exact Zyl (Yt (Zm rfl rfl ((Zip _ _).trans (Znv q1))))
    have vb:v<=120:=by omega
    have pb:Xl os<=120:=Az h2.1 l1;have mu:∀x:Nat,x<=120->Zab (.int (Xl os:Nat)) (.int ((x:Int)+1))=some (.int ((Xl os*(x+1):Nat):Int)):=fun x hx=>by rw [Zpz (by omega) (by omega),IN];rfl
    have last:∀x:Nat,x<=120->ShO lm (os++[x])->∃ρ',(Xk (Xq 7 (f2 Zab (fV 7) (f2 Yp (fV 9) (fC (.int 1))))) (Zlc 6 (f1 Yr (fV 9)))) [some (.scr ns),some (.int i),some (tD ks),some (.int 3),some (.int (lm:Int)),some (iD qs),some (oD os),some (.int (Xl os:Nat)),some (.int (l.length:Int)),some (.int (x:Int))]=.ok (.nx ρ')/\∃(os:List Nat) (o8 o9:Option D),ρ'=[some (.scr ns),some (.int i),some (tD ks),some (.int 3),some (.int (lm:Int)),some (iD qs),some (oD os),some (.int (Xl os:Nat)),o8,o9]/\os.length=(l++[l.length]).length/\ShO lm os:=fun x hx hs=>by
      have e3:Xl (os++[x])=Xl os*(x+1):=by rw [Zbl];show Xl os*((x+1)*1)=_;rw [F0]
      refine ⟨[some (.scr ns),some (.int i),some (tD ks),some (.int 3),some (.int (lm:Int)),some (iD qs),some (oD (os++[x])),some (.int (Xl (os++[x]):Nat)),some (.int (l.length:Int)),some (.int (x:Int))],?_,os++[x],_,_,rfl,by rw [Ak,Ak,h1];rfl,hs⟩;have ap:oD (os++[x])=.lst ((os.map fun x:Nat=>(x:Int)).map D.int++[.int (x:Int)]):=by unfold oD iD;rw [AU,AU];rfl
      rw [e3,ap];exact Zn (Zx (Zm rfl (Zm rfl rfl rfl) (mu x hx))) (Znl rfl (Zfw rfl rfl) (by rw [Ah,Ah,h1];show _<1000000;omega))
    by_cases big:lm<Xl os*(v+1);obtain ⟨ρ',t,hP⟩:=last 0 (by omega) h2.zero;exact ⟨ρ',.inl (Zn s1 (Zn s2 (Zn (Jt (Yt (Zm (Zm rfl (Zm rfl rfl rfl) (mu v vb)) rfl (Znu (BQ.mpr big)))) (Zx rfl)) t))),hP⟩
    · obtain ⟨ρ',t,hP⟩:=last v vb ⟨by rw [Zbl];show Xl os*((v+1)*1)<=_;rw [F0];omega,by
        rcases h2.2 with h | ⟨m,h⟩;rcases hv with hv | ⟨hv1,hv2⟩;exact .inl fun x hx=>(Ao.mp hx).elim (h x) fun z=>by rw [Aj.mp z];exact hv
        have:os=[]:=BW.mp (h1.trans hv1);exact .inr ⟨0,by rw [this,hv2];rfl⟩
        · have v0:v=0:=by rw [h] at big;have big:¬lm<(lm - 1+1)*Xl (Ab m 0)*(v+1):=big;rw [Ziw,F0,Nat.sub_add_cancel l0] at big;rcases Nat.eq_zero_or_pos v with z | z;exact z;exact absurd (AC (show lm<lm*2 by omega) (Nat.mul_le_mul_left lm (show 2<=v+1 by omega))) big
          rw [v0];exact (ShO.zero ⟨h2.1,.inr ⟨m,h⟩⟩).2⟩
      exact ⟨ρ',.inl (Zn s1 (Zn s2 (Zn (Ys (Yt (Zm (Zm rfl (Zm rfl rfl rfl) (mu v vb)) rfl (Znv fun z=>big (BQ.mp z)))) rfl) t))),hP⟩
theorem Zev:∀{c o:List Nat},LeC c o->Xl c<=Xl o
 | [],[],_=>As _
 | x::c,y::o,h=>by obtain ⟨h1,h2⟩:=LeC.cons.mp h;exact JQ (Nat.succ_le_succ h1) (Zev h2)
 | [],_::_,h=>nomatch h.1
 | _::_,[],h=>nomatch h.1
theorem Zgs:∀(c:List Nat) (a:Nat),(c.map (·+1)).foldl (·*·) a=a*Xl c
 | [],a=>(F0 a).symm
 | x::c,a=>by rw [AV,DL,Zgs c];show a*(x+1)*Xl c=a*((x+1)*Xl c);rw [GH]
theorem Zwz:∀{m:Nat} {c:List Nat},LeC c (Ab m 0)->c=Ab m 0
 | 0,[],_=>rfl
 | m+1,x::c,h=>by obtain ⟨h1,h2⟩:=LeC.cons.mp (show LeC (x::c) (0::Ab m 0) from h);rw [Zwz h2,EV.mp h1];rfl
 | 0,_::_,h=>nomatch h.1
 | _+1,[],h=>nomatch h.1
theorem ShO.ok (h:ShO lm os)(hl:os.length<=8)(l1:lm<=120):Zau os:=by
 refine ⟨Az h.1 l1,fun cs nd hc=>?_⟩;rcases h.2 with g | ⟨m,rfl⟩;refine Zus hl nd fun c hcm=>⟨(hc c hcm).1,fun x hx=>?_,?_⟩;obtain ⟨i,hi,rfl⟩:=mem_getD hx;have hi':i<os.length:=by rw [<- (hc c hcm).1];exact hi
 have m:os.getD i 0∈os:=by rw [AS,Ag hi'];exact Cg hi'
 exact Az ((hc c hcm).2 i) (g _ m);rw [Zgs,KJ];exact Az (Zev (hc c hcm)) (Az h.1 l1);have hm:m<=7:=by rw [Bt,BS] at hl;omega
 have l0:1<=lm:=Az (Zcp _) h.1;refine Zoh hm nd fun c hcm=>?_;have hcc:=hc c hcm;cases c with
 | nil=>exact nomatch hcc.1
 | cons x c =>obtain ⟨h1,h2⟩:=LeC.cons.mp hcc;exact ⟨x,by omega,by rw [Zwz h2]⟩
theorem Zuz {a:List (List Int)}{x:List Int}:x∈Jf a↔x∈a:=(L2.Zbw a).mem_iff
def toI (c:List Nat):List Int:=c.map fun x:Nat=>(x:Int)
theorem Zau.mono (h:Zau os)(hl:LeC o os):Zau o:=⟨Az (Zev hl) h.pr,fun cs nd hc=>h.ha cs nd fun c hcm=>(hc c hcm).trans hl⟩
theorem Xld :Zrs (tyN c) (.fdt (cs.map kyN) xs)=some (.bl (!decide (c∈cs))):=by show (Zny (tyN c)).map _=_;rw [Zbb];show some (D.bl (!Zwp (cs.map kyN) (kyN c)))=_;rw [Zrn]
theorem Xtf :Xaq (tyN c) (.fdt (cs.map kyN) xs)=some (.bl (decide (c∈cs))):=by show (Zny (tyN c)).map _=_;rw [Zbb];show some (D.bl (Zwp (cs.map kyN) (kyN c)))=_;rw [Zrn]
theorem Xtk {x:D}(h:tAt (cs.map kyN) xs (kyN c)=some x):Xcx (.fdt (cs.map kyN) xs) (tyN c)=some x:=by show (Zny (tyN c)).bind _=_;rw [Zbb];exact h
theorem Xpi (hn:ρ.length=n):fV n (ρ++[some d])=.ok d:=by subst hn;unfold fV;rw [Bj (As _),FZ];rfl
theorem Xsw (hn:ρ.length=n)(rs:List (List Int)):Zbk 1 (Zt n) Ziy (fA Zij (Ze (fV n) Zy)) ρ (rs.map iD)=.ok (rs.map iD):=Xhv hn fun r _=>Jd (Zd (Xpi hn) rfl) (Zxw r)
theorem Zuv (rs:List (List Int))(ks:List Kd)(ws:List Int)(hr:rs.length<=1000):Jb [rsD rs,tD ks,iD ws]=.ok (.lst [rsD rs,tD ks,iD ws]):=Jy (Zaf (Jd (Zd (Zlr rfl (Zfe rfl (by rw [Ah];exact Az hr (by decide))) (Xsw (n:=3) (by rfl) rs)) (Zd (Jd (Zd rfl rfl) (Xnk ks)) (Zd (Jd (Zd rfl rfl) (Zxw ws)) rfl))) rfl))
theorem Zmo:∀cs:List (List Nat),Zfl (cs.map tyN)=some (cs.map toI)
 | []=>rfl
 | c::cs=>by
  show (Xft (tyN c)).bind (fun a=>(Zfl (cs.map tyN)).bind fun l=>some (a::l))=_;have e:Xft (tyN c)=some (toI c):=by show intsOf (c.map fun x:Nat=>D.int (x:Int))=_;rw [show (c.map fun x:Nat=>D.int (x:Int))=(toI c).map D.int by unfold toI;rw [Be];rfl];exact Zgm _
  rw [e,Zmo cs];rfl
theorem Xlm (c:List Nat):itD (toI c)=tyN c:=by unfold itD toI tyN;rw [Be];rfl
theorem Zln (hol:os.length=ks.length):RS ks os rs l↔∃u,Lf ks os rs l u:=exists_congr fun _=>Xao hol
theorem Lf.self (ho:os.length=ks.length)(rs:List (List Int)):∃u,Lf ks os rs os u:=by
 induction rs with
 | nil=>exact ⟨0,[],⟨rfl,fun _ h=>nomatch h⟩,⟨rfl,fun i=>Nat.add_zero _⟩,rfl⟩
 | cons r rs ih=>exact ih.imp fun u h=>Lf.more (rs:=[]) ho h
theorem Xnl (ho:Zau os)(hol:os.length=ks.length)(hlk:ks.length<=8)(hw:∀k∈ks,1<=k.w)(hr:rs.length<=900)(h40:∀r∈rs,r.length<=40)(hz:∃u,Lf ks os rs (Ab ks.length 0) u):∃u pl,Zmh [rsD rs,tD ks,oD os]=.ok (vP u pl)/\Lf ks os rs (Ab ks.length 0) u/\∀u',Lf ks os rs (Ab ks.length 0) u'->u<=u':=by obtain ⟨cs,xs,h,hd⟩:=Xdl ho hol hlk hw hr h40;have m:Ab ks.length 0∈cs:=(hd.ky _).mpr ((Zln hol).mpr hz);obtain ⟨x,hx,u,pl,rfl,hp,hmin⟩:=hd.at ((hd.ky _).mp m);refine ⟨u,pl,?_,(Xao hol).mp ⟨pl,hp⟩,fun u' hu=>?_⟩;exact Jy (Zn (Zx (Xs (Zd rfl (Zd rfl (Zd rfl rfl))) h)) (Zn (Zx (Zkw (Jd (Zd rfl rfl) (by rw [<- hol];exact Xqu os)) (by omega))) (Zn (Ys (Yt (Zm rfl rfl (Xld.trans (by rw [decide_eq_true m];rfl)))) rfl) (Zaf (Zm rfl rfl (Xtk hx))))));obtain ⟨pl',hp'⟩:=(Xao hol).mpr hu;exact hmin u' pl' hp'
theorem Xmd (rs:List (List Int))(m:Nat)(hr:rs.length<=1000):Jk [rsD rs,.int (m:Int)]=.ok (rsD (Xr rs m)):=by
  obtain ⟨ρ',⟨o3,rfl⟩,t⟩:=Jz (enc:=iD) (b:=Zt 3) (s:=Zbr) (xs:=rs) (ρ:=[some (rsD rs),some (.int (m:Int)),some (.lst []),none]) (P:=fun l ρ=>∃o3:Option D,ρ=[some (rsD rs),some (.int ((m / 2 ^ l.length:Nat):Int)),some (.lst ((Xr l m).map iD)),o3]) ⟨none,by rw [Fz,Kt,KM];rfl⟩ (by
    rintro l x r ρ e ⟨o3,rfl⟩;have hl:(Xr l m).length<=1000:=Az (Zgu l m) (by rw [e,Ak] at hr;omega);generalize hq:m / 2 ^ l.length=q;have s2:Xq 1 (f2 Xhx (fV 1) (fC (.int 2))) [some (rsD rs),some (.int (q:Int)),some (.lst ((Xr (l++[x]) m).map iD)),some (iD x)]=.ok (.nx [some (rsD rs),some (.int ((m / 2 ^ (l++[x]).length:Nat):Int)),some (.lst ((Xr (l++[x]) m).map iD)),some (iD x)]):=by
      have:m / 2 ^ (l++[x]).length=q / 2:=by rw [Ak,<- hq,G5];rfl
      rw [this];refine Zx (Zm rfl rfl ((div_ii (by decide) (by decide)).trans ?_));rw [Int.natCast_ediv];rfl
    refine ⟨_,.inl ?_,some (iD x),rfl⟩;show Zbr [some (rsD rs),some (.int (q:Int)),some (.lst ((Xr l m).map iD)),some (iD x)]=_;have md:f2 Zfz (fV 1) (fC (.int 2)) [some (rsD rs),some (.int (q:Int)),some (.lst ((Xr l m).map iD)),some (iD x)]=.ok (.int ((q % 2:Nat):Int)):=Zm rfl rfl ((Zay (by decide)).trans (by rw [Int.natCast_emod];rfl));have sn:=Zir x l m;rw [hq] at sn;by_cases b:q % 2=1;rw [if_pos b] at sn;refine Zn (Jt (Yt (Zm md rfl ((Zip _ _).trans (Znu (by omega))))) (Znl rfl rfl (by rw [Ah];exact Cz hl (by decide)))) ?_;rw [sn,AU] at s2 ⊢;exact s2
    · rw [if_neg b,Dg] at sn;refine Zn (Ys (Yt (Zm md rfl ((Zip _ _).trans (Znv (by omega))))) rfl) ?_;rw [sn] at s2 ⊢;exact s2)
  exact Jy (Zn (Zx (Jd rfl rfl)) (Zn (Zbi (Zfe rfl (by rw [Ah];exact Az hr (by decide))) t) (Zaf rfl)))
theorem Xlj (ns:List Int)(hn:ns.length<=63):∃rs ks,Jo [.scr ns,.int 0,.int 4,.int 14,.int 4]=.ok (.tup [rsD rs,tD ks])/\rs.length<=4/\(∀r∈rs,r.length<=40)/\ks.length<=4/\Xtq ks:=by
 obtain ⟨fl,hf,ff0,ff1⟩:=Xjk ns hn (i:=0) (m:=4) (by decide) (by decide) (by decide) (by decide);obtain ⟨ks,ht,hk,tk⟩:=Xet ns hn (i:=0) (m:=4) (by decide) (by decide) (by decide) (by decide);obtain ⟨os,hr,ro⟩:=Zjb ns hn (i:=1) (by decide) (by decide) [5] (by decide) (by decide);have b:=ro.at_ 0 (by decide);have i0:gIx (iD os) (.int 0)=some (.int (os.getD 0 0)):=Xee (k:=0) (by rw [ro.len];decide);generalize os.getD 0 0=n at b i0;have b:0<=n/\n<5:=b;obtain ⟨rs,h1,h2,h3⟩:=Zxs (n:=9) (e:=Yf Jg (Ze (fV 0) (Ze (f2 Yp (f2 Yp (fV 1) (fC (.int 2))) (fV 9)) (Ze (fV 3) (Ze (fV 5) Zy))))) (ρ:=[some (.scr ns),some (.int 0),some (.int 4),some (.int 14),some (.int 4),some (.int fl),some (tD ks),some (.int n),none]) (enc:=fun k:Nat=>D.int (k:Int)) (f:=iD) (Q:=fun r:List Int=>r.length<=40) rfl (xs:=A5 n.toNat) fun k hk=>by have hk:=Bs.mp hk;obtain ⟨ws,w1,w2,-⟩:=Xnq ns hn (i:=0+2+(k:Int)) (m:=14) (fl:=fl) (by omega) (by omega) (by decide) (by decide) ff0 ff1;exact ⟨ws,Xs (Zd rfl (Zd (Zm (Zm rfl rfl rfl) rfl rfl) (Zd rfl (Zd rfl rfl)))) w1,by omega⟩
 refine ⟨rs,ks,Jy (Zn (Zx (Xs (Zd rfl (Zd rfl (Zd rfl rfl))) hf)) (Zn (Zx (Xs (Zd rfl (Zd rfl (Zd rfl rfl))) ht)) (Zn (Zx (Zfw (Zm (Xs (Zd rfl (Zd (Zm rfl rfl rfl) (Zd (Jd (Zd (Zm rfl rfl rfl) rfl) rfl) rfl))) hr) rfl i0) rfl)) (Zn (Zx (Zlr rfl ((Zpf (Zd rfl rfl) (by omega)).trans (congrArg R.ok (Xdn _))) h1)) (Zaf (Jd (Zd rfl (Zd rfl rfl)) rfl)))))),by rw [h2,CK];omega,h3,by omega,tk⟩
theorem Zuh (ns:List Int)(hn:ns.length<=63):Xnt [.scr ns]=.ok (.bl true):=by
  obtain ⟨rs,ks,hrolls,hr,h40,hk,tk⟩:=Xlj ns hn;obtain ⟨o0,hord,hol0,sho⟩:=Zyf ns hn (i:=10) (by decide) (by decide) (ks:=ks) (by omega) (lm:=27) (by decide) (by decide);have ho0:=sho.ok (by omega) (by decide);have hw:∀k∈ks,1<=k.w:=fun k hk=>(tk.ok k hk).w1;obtain ⟨cs,xs,hreach,hd⟩:=Ziz ho0 hol0 (by omega) hw (by omega) h40;have le:∀c∈cs,LeC c o0:=fun c hc=>((hd.ky c).mp hc).elim fun _ ⟨_,h⟩=>h.le;have few:cs.length<=27:=Az (Xad hd.nd le) sho.1;have hne:0<cs.length:=GP ((hd.ky o0).mpr ((Zln hol0).mpr (Lf.self hol0 rs)));have lst:Zws [.fdt (cs.map kyN) xs]=some (.lst (cs.map tyN)):=by refine (if_pos ⟨by rw [Ah];exact Az few (by decide),Zqi⟩).trans ?_;rw [Be];exact congrArg (fun l=>some (D.lst l)) (BM fun c _=>Zko c)
  have hs:(Jf (cs.map toI)).length=cs.length:=by rw [(L2.Zbw _).length_eq,Ah]
  have srt:Zpd [.lst (cs.map tyN)]=some (.lst ((Jf (cs.map toI)).map itD)):=by
    show (Zfl (cs.map tyN)).bind _=_;rw [Zmo];refine if_pos ⟨by rw [Ah];omega,?_⟩;rw [Ah];by_cases z:ks.length=0;left;refine Az (Xad hd.nd le) ?_;have:o0=[]:=BW.mp (hol0.trans z);rw [this];exact As _;right;refine Bp.mpr fun c hc=>?_;obtain ⟨d,hdm,rfl⟩:=AB.mp hc;have:=(le d hdm).1
    match d,this with
    | [],e=>exact absurd (e.trans hol0).symm z
    | _::_,_=>rfl
  obtain ⟨qs,hrow,hqs⟩:=Zjb ns hn (i:=11) (by decide) (by decide) [81] (by decide) (by decide);have b0:=(hqs.at_ 0 (by decide)).1;have i0:gIx (iD qs) (.int 0)=some (.int (qs.getD 0 0)):=Xee (k:=0) (by rw [hqs.len];decide);generalize qs.getD 0 0=q0 at b0 i0;have hi:=Zmp (x:=q0) (m:=(cs.length:Int)) (by omega);obtain ⟨j,hj⟩:∃j:Nat,q0 % (cs.length:Int)=(j:Int):=⟨_,(B4 hi.1).symm⟩;have hjl:j<(Jf (cs.map toI)).length:=by rw [hs];omega
  obtain ⟨l,hlc,hll⟩:=AB.mp (Zuz.mp (Cg hjl));have ix:gIx (.lst ((Jf (cs.map toI)).map itD)) (.int (q0 % (cs.length:Int)))=some (tyN l):=Xle (k:=j) hj (by rw [AM,Ag hjl,<- hll,Option.map_some,Xlm]);have md:Zfz (.int q0) (.int (cs.length:Int))=some (.int (q0 % (cs.length:Int))):=Zay (by omega);have ln:Zbh [.lst ((Jf (cs.map toI)).map itD)]=some (.int (cs.length:Int)):=by show some (D.int (((Jf (cs.map toI)).map itD).length:Int))=_;rw [Ah,hs]
  have hlo:=le l hlc;obtain ⟨u0,hu0⟩:=(Zln hol0).mp ((hd.ky l).mp hlc);have sle:=Xii hlo.1;have ho:Zau (sbC o0 l):=ho0.mono sle;have hol:(sbC o0 l).length=ks.length:=by rw [sle.1,hol0]
  have hz:∃u,Lf ks (sbC o0 l) rs (Ab ks.length 0) u:=⟨u0,hu0.rest hol0⟩;have sub:Zdb 11 2 (Zss (fV 3) (fV 5)) (Zet (Xw (Zt 11) (Xw (Zt 12) Zeo))) Ziy (f2 Zeu (fV 11) (fV 12)) [some (.scr ns),some (rsD rs),some (tD ks),some (oD o0),some (.lst ((Jf (cs.map toI)).map itD)),some (tyN l),none,none,none,none,none]=.ok (oD (sbC o0 l)):=by
    have it:Zss (fV 3) (fV 5) [some (.scr ns),some (rsD rs),some (tD ks),some (oD o0),some (.lst ((Jf (cs.map toI)).map itD)),some (tyN l),none,none,none,none,none]=.ok ((o0.zip l).map fun p=>.tup [.int (p.1:Int),.int (p.2:Int)]):=by show (if ((o0.map fun x:Nat=>(x:Int)).map D.int).length<=lim/\Zu ((o0.map fun x:Nat=>(x:Int)).map D.int)=true/\Zu (l.map fun x:Nat=>D.int (x:Int))=true then R.ok _ else _)=_;rw [if_pos ⟨by rw [Ah,Ah,hol0];show _<=1000000;omega,flA_i _,Yu l⟩,Be,Ij,Lk,Il];rfl
    have cp:=Xhn (n:=11) (ρ:=[some (.scr ns),some (rsD rs),some (tD ks),some (oD o0),some (.lst ((Jf (cs.map toI)).map itD)),some (tyN l),none,none,none,none,none]) (e:=f2 Zeu (fV 11) (fV 12)) (f:=fun p:Nat×Nat=>D.int (p.1:Int)) (g:=fun p:Nat×Nat=>D.int (p.2:Int)) (v:=fun p=>D.int ((p.1:Int) - (p.2:Int))) (xs:=o0.zip l) rfl fun p _=>Zm rfl rfl rfl;refine (Zlr rfl it cp).trans (congrArg R.ok ?_);unfold oD iD;rw [Be];refine congrArg D.lst (Eq.trans ?_ (Zsm hlo));unfold rIv;rw [Be];rfl
  generalize sbC o0 l=os at *;obtain ⟨u,pl,hfill,hu,hmin⟩:=Xnl ho hol (by omega) hw (by omega) h40 hz;generalize D.lst ((Jf (cs.map toI)).map itD)=S4 at *;obtain ⟨ρ',⟨n,o8,o9,rfl,n1,n2,n3⟩,t⟩:=Jz (enc:=fun k:Nat=>D.int (k:Int)) (b:=Zt 8) (s:=Zvj) (xs:=A5 16) (ρ:=[some (.scr ns),some (rsD rs),some (tD ks),some (oD os),some S4,some (tyN l),some (tyN (Ab ks.length 0)),some (.int (rs.length:Int)),none,none,none])
    (P:=fun ms ρ=>∃(n:Nat) (o8 o9:Option D),ρ=[some (.scr ns),some (rsD rs),some (tD ks),some (oD os),some S4,some (tyN l),some (tyN (Ab ks.length 0)),some (.int (n:Int)),o8,o9,none]/\u<=n/\n<=rs.length/\∀m∈ms,(∃u',Lf ks os (Xr rs m) (Ab ks.length 0) u')->n<=(Xr rs m).length)
    ⟨rs.length,none,none,rfl,hu.used,As _,fun _ h=>nomatch h⟩ (by
    rintro ms m r ρ e ⟨n,o8,o9,rfl,n1,n2,n3⟩;have pk:=Xmd rs m (by omega);have pl1:=Zgu rs m;obtain ⟨cp,xp,hrp,hdp⟩:=Ziz (rs:=Xr rs m) ho hol (by omega) hw (by omega) fun r hr=>h40 r (Zhr hr);have lnp:∀o7:Option D,fA Zbh (Ze (fV 9) Zy) [some (.scr ns),some (rsD rs),some (tD ks),some (oD os),some S4,some (tyN l),some (tyN (Ab ks.length 0)),o7,some (.int (m:Int)),some (rsD (Xr rs m)),none]=.ok (.int ((Xr rs m).length:Int)):=fun o7=>Jd (Zd rfl rfl) (Zzh _);have st:Xq 9 (Yf Jk (Ze (fV 1) (Ze (fV 8) Zy))) [some (.scr ns),some (rsD rs),some (tD ks),some (oD os),some S4,some (tyN l),some (tyN (Ab ks.length 0)),some (.int (n:Int)),some (.int (m:Int)),o9,none]=.ok (.nx [some (.scr ns),some (rsD rs),some (tD ks),some (oD os),some S4,some (tyN l),some (tyN (Ab ks.length 0)),some (.int (n:Int)),some (.int (m:Int)),some (rsD (Xr rs m)),none]):=Zx (Xs (Zd rfl (Zd rfl rfl)) pk);by_cases a:(Xr rs m).length<n;have tin:=Yt (Zm (g:=Xaq) (a:=fV 6) (b:=Yf Yd (Ze (fV 9) (Ze (fV 2) (Ze (fV 3) Zy)))) (ρ:=[some (.scr ns),some (rsD rs),some (tD ks),some (oD os),some S4,some (tyN l),some (tyN (Ab ks.length 0)),some (.int (n:Int)),some (.int (m:Int)),some (rsD (Xr rs m)),none]) rfl (Xs (Zd rfl (Zd rfl (Zd rfl rfl))) hrp) (Xtf (c:=Ab ks.length 0)));by_cases b:Ab ks.length 0∈cp;obtain ⟨u',hu'⟩:=(Zln hol).mp ((hdp.ky _).mp b);have w1:=hu'.used;have w2:=hmin u' (Lf.ofPart (pre:=[]) hol hu');rw [decide_eq_true b] at tin;refine ⟨[some (.scr ns),some (rsD rs),some (tD ks),some (oD os),some S4,some (tyN l),some (tyN (Ab ks.length 0)),some (.int ((Xr rs m).length:Int)),some (.int (m:Int)),some (rsD (Xr rs m)),none],.inl ?_,(Xr rs m).length,_,_,rfl,by omega,pl1,fun k hk hf=>?_⟩;exact Zn st (Jt (Zjj (Yt (Zm (lnp _) rfl (Znu (by omega)))) tin) (Zx (lnp _)));rcases Ao.mp hk with q | q;exact Az (Gb a) (n3 k q hf);rw [Aj.mp q];exact As _;rw [decide_eq_false b] at tin;refine ⟨[some (.scr ns),some (rsD rs),some (tD ks),some (oD os),some S4,some (tyN l),some (tyN (Ab ks.length 0)),some (.int (n:Int)),some (.int (m:Int)),some (rsD (Xr rs m)),none],.inl ?_,n,_,_,rfl,n1,n2,fun k hk hf=>?_⟩;exact Zn st (Ys (Zjj (Yt (Zm (lnp _) rfl (Znu (by omega)))) tin) rfl);rcases Ao.mp hk with q | q;exact n3 k q hf;rw [Aj.mp q] at hf;exact absurd ((hdp.ky _).mpr ((Zln hol).mpr hf)) b
    · refine ⟨[some (.scr ns),some (rsD rs),some (tD ks),some (oD os),some S4,some (tyN l),some (tyN (Ab ks.length 0)),some (.int (n:Int)),some (.int (m:Int)),some (rsD (Xr rs m)),none],.inl ?_,n,_,_,rfl,n1,n2,fun k hk hf=>?_⟩;exact Zn st (Ys (Zyl (Yt (Zm (lnp _) rfl (Znv (by omega))))) rfl)
      · rcases Ao.mp hk with q | q;exact n3 k q hf
        · rw [Aj.mp q];omega)
  obtain ⟨m,m1,m2,m3⟩:=hu.toPart;have m16:m<16:=AC m1 (Az (Ht (by decide) hr) (by decide));have e:u=n:=Nat.le_antisymm n1 (by rw [<- m2];exact n3 m (Bs.mpr m16) ⟨_,m3⟩);have cp:=Zuv rs ks (toI os) (by omega);exact Jy (Zn (r_asg (Xs (Zd rfl (Zd rfl (Zd rfl (Zd rfl (Zd rfl rfl))))) hrolls) rfl)
    (Zn (Zx (Xs (Zd rfl (Zd rfl (Zd rfl (Zd rfl (Zd rfl rfl))))) hord))
    (Zn (Zx (Jd (Zd (Jd (Zd (Xs (Zd rfl (Zd rfl (Zd rfl rfl))) hreach) rfl) lst) rfl) srt))
    (Zn (Zx (Zfw (Zm rfl (Zm (Zm (Xs (Zd rfl (Zd rfl (Zd (Jd (Zd rfl rfl) rfl) rfl))) hrow) rfl i0) (Jd (Zd rfl rfl) ln) md) ix) (if_pos (Yu l))))
    (Zn (Zx sub)
    (Zn (Zx (Zkw (Jd (Zd rfl rfl) (Zrr ks)) (by omega)))
    (Zn (Zx (Jd (Zd rfl rfl) (Zzh rs)))
    (Zn (Zbi ((Zpf (j:=16) (Zd rfl rfl) (by decide)).trans (congrArg R.ok (Xdn 16))) t)
    (Zn (Zx (Xs (Zd rfl (Zd rfl (Zd rfl rfl))) cp))
    (Zaf (Zm (Zm (Xs (Zd (Zm rfl rfl rfl) (Zd (Zm rfl rfl rfl) (Zd (Zm rfl rfl rfl) rfl))) hfill) rfl rfl) rfl ((Zip _ _).trans (Znu (by rw [e]))))))))))))))
end Dl
set_option maxHeartbeats 4000000
namespace K65
open PySem PySem.Spec PyProof.Rows L2
open Dl (D R FE FT FA FO FS FI FB Fl)
variable {P q:AQ}{w:Bl}{K:AO}{C:String->Addr}{mg:Str->Option Value}{base h:Bq}{f a:Addr}{fd:Ck}{xs:List V}{l:PySem.W.OpenLaw}{loose:List Str}{XP:(Str->Option Value)->Bq->Prop}{YP:Bl->Bq->Prop}{d:DefRec}
def top (i:Nat):Stmt:=PySem.Challenge.pw_selvage_k65_whole_no_fewer_rolls.main.body.getD i (.Pass ⟨0,0,0,0⟩)
abbrev Zoy:Stmt:=top 6
abbrev Xmp:Stmt:=top 8
abbrev Zoc:Stmt:=top 10
abbrev Zbo:Stmt:=top 14
abbrev Zdd:Stmt:=top 15
abbrev Zjw:Stmt:=top 16
abbrev Zcv:Stmt:=top 17
abbrev Zba:Stmt:=top 18
abbrev Xjr:Stmt:=top 19
abbrev Zep:Stmt:=top 21
abbrev Zhg:Stmt:=top 22
abbrev Zhm:Stmt:=top 23
abbrev Zdk:Stmt:=top 24
abbrev Zes:Stmt:=top 25
abbrev Zez:Stmt:=top 26
abbrev Zeq:Stmt:=top 27
abbrev Zfi:Stmt:=top 28
abbrev Zbt:Stmt:=top 29
abbrev Zdg:Stmt:=top 30
abbrev Zcn:Stmt:=top 31
abbrev Zah:Stmt:=top 32
abbrev Zax:Stmt:=top 33
abbrev Zfg:Stmt:=top 34
abbrev Xnv:Stmt:=top 35
abbrev Jl:Stmt:=top 15
theorem Zre:Xe ["roll","begin","end"] ["roll","begin","end"] (Zk Zoy):=⟨rfl,rfl,rfl,by decide +kernel,rfl,by decide +kernel,by decide +kernel⟩
theorem Xgt:Xe ["roll","kind","place","end"] ["roll","kind","place"] (Zk Xmp):=⟨rfl,rfl,rfl,by decide +kernel,rfl,by decide +kernel,by decide +kernel⟩
theorem Zsa:Xe ["order","product","number"] ["order"] (Zk Zoc):=⟨rfl,rfl,rfl,by decide +kernel,rfl,by decide +kernel,by decide +kernel⟩
theorem Zfr:Xe ["rolls","order"] ["rolls","order"] (Zk Zbo):=⟨rfl,rfl,rfl,by decide +kernel,rfl,by decide +kernel,by decide +kernel⟩
theorem Zyy:Xe ["row","ahead","place","wanted","piece","cut","cutting","more"] ["row","ahead","place","wanted","piece"] (Zk Zdd):=⟨rfl,rfl,rfl,by decide +kernel,rfl,by decide +kernel,by decide +kernel⟩
theorem Zms:Xe ["roll","table","order","rows","end","row","place","kind","begin"] ["roll","table","order"] (Zk Zjw):=⟨rfl,rfl,rfl,by decide +kernel,rfl,by decide +kernel,by decide +kernel⟩
theorem Zgw:Xe ["plans","cuts","more","left","ahead","cut","cutting","rest","used"] ["plans","cuts"] (Zk Zcv):=⟨rfl,rfl,rfl,by decide +kernel,rfl,by decide +kernel,by decide +kernel⟩
theorem Zco:Xe ["rolls","table","order","plans","roll"] ["rolls","table","order"] (Zk Zba):=⟨rfl,rfl,rfl,by decide +kernel,rfl,by decide +kernel,by decide +kernel⟩
theorem Xhr:Xe ["rolls","table","order","plans","nothing"] ["rolls","table","order"] (Zk Xjr):=⟨rfl,rfl,rfl,by decide +kernel,rfl,by decide +kernel,by decide +kernel⟩
theorem Zhy:Xe ["_law_script","_law_place","_law_seed","_law_cell_here"] ["_law_script","_law_place"] (Zk Zep):=⟨rfl,rfl,rfl,by decide +kernel,rfl,by decide +kernel,by decide +kernel⟩
theorem Zji:Xe ["_law_cell_here","_law_k","_law_one","_law_two"] ["_law_cell_here","_law_k"] (Zk Zhg):=⟨rfl,rfl,rfl,by decide +kernel,rfl,by decide +kernel,by decide +kernel⟩
theorem Zit:Xe ["_law_script","_law_place","_law_sizes","_law_cell_here","_law_left","_law_some","_law_k","_law_other"] ["_law_script","_law_place","_law_sizes"] (Zk Zhm):=⟨rfl,rfl,rfl,by decide +kernel,rfl,by decide +kernel,by decide +kernel⟩
theorem Zft:Xe ["_law_script","_law_place","_law_most","_law_pool","_law_some","_law_flaw_here","_law_gain","_law_table_here","_law_k","_law_at","_law_width","_law_worth","_law_allowed","_law_name"] ["_law_script","_law_place","_law_most"] (Zk Zdk):=⟨rfl,rfl,rfl,by decide +kernel,rfl,by decide +kernel,by decide +kernel⟩
theorem Zic:Xe ["_law_script","_law_place","_law_most"] ["_law_script","_law_place","_law_most"] (Zk Zes):=⟨rfl,rfl,rfl,by decide +kernel,rfl,by decide +kernel,by decide +kernel⟩
theorem Zib:Xe ["_law_script","_law_place","_law_most","_law_flaw_here","_law_some","_law_great","_law_roll_here","_law_k","_law_at","_law_weight"] ["_law_script","_law_place","_law_most","_law_flaw_here"] (Zk Zez):=⟨rfl,rfl,rfl,by decide +kernel,rfl,by decide +kernel,by decide +kernel⟩
theorem Zhd:Xe ["_law_roll_here","_law_sums_here","_law_weight"] ["_law_roll_here"] (Zk Zeq):=⟨rfl,rfl,rfl,by decide +kernel,rfl,by decide +kernel,by decide +kernel⟩
theorem Zhj:Xe ["_law_sums_here","_law_kind","_law_at","_law_end"] ["_law_sums_here","_law_kind","_law_at"] (Zk Zfi):=⟨rfl,rfl,rfl,by decide +kernel,rfl,by decide +kernel,by decide +kernel⟩
theorem Zfn:Xe ["_law_script","_law_place","_law_most","_law_cells","_law_kinds","_law_flaw_here","_law_table_here","_law_count","_law_rolls_here"] ["_law_script","_law_place","_law_most","_law_cells","_law_kinds"] (Zk Zbt):=⟨rfl,rfl,rfl,by decide +kernel,rfl,by decide +kernel,by decide +kernel⟩
theorem Zfp:Xe ["_law_script","_law_place","_law_table_here","_law_most","_law_limit","_law_some","_law_order_here","_law_product","_law_k","_law_wanted"] ["_law_script","_law_place","_law_table_here","_law_most","_law_limit"] (Zk Zdg):=⟨rfl,rfl,rfl,by decide +kernel,rfl,by decide +kernel,by decide +kernel⟩
theorem Zec:Xe ["_law_roll_here","_law_table_here","_law_order_here","_law_sums_here","_law_found","_law_end","_law_here","_law_k","_law_at","_law_counts_here","_law_more"] ["_law_roll_here","_law_table_here","_law_order_here"] (Zk Zcn):=⟨rfl,rfl,rfl,by decide +kernel,rfl,by decide +kernel,by decide +kernel⟩
theorem Zde:Xe ["_law_rolls_here","_law_table_here","_law_order_here","_law_reached_here","_law_roll_here","_law_cuts","_law_here","_law_left","_law_counts_here","_law_rest"] ["_law_rolls_here","_law_table_here","_law_order_here"] (Zk Zah):=⟨rfl,rfl,rfl,by decide +kernel,rfl,by decide +kernel,by decide +kernel⟩
theorem Zdw:Xe ["_law_rolls_here","_law_table_here","_law_order_here"] ["_law_rolls_here","_law_table_here","_law_order_here"] (Zk Zax):=⟨rfl,rfl,rfl,by decide +kernel,rfl,by decide +kernel,by decide +kernel⟩
theorem Zia:Xe ["_law_rolls_here","_law_mask","_law_some","_law_roll_here"] ["_law_rolls_here","_law_mask"] (Zk Zfg):=⟨rfl,rfl,rfl,by decide +kernel,rfl,by decide +kernel,by decide +kernel⟩
theorem Xqv:Xe ["_law_script","_law_rolls_here","_law_table_here","_law_order_here","_law_reached_here","_law_left","_law_nothing","_law_least","_law_mask","_law_part_here","_law_handed"] ["_law_script"] (Zk Xnv):=⟨rfl,rfl,rfl,by decide +kernel,rfl,by decide +kernel,by decide +kernel⟩
theorem Zav:Xe ["row","ahead","place","wanted","piece","cut","cutting","more"] ["row","ahead","place","wanted","piece"] (Zk Jl):=⟨rfl,rfl,rfl,by decide +kernel,rfl,by decide +kernel,by decide +kernel⟩
structure Txt (mg:Str->Option Value):Prop where
 sum:mg "sum"=none
 len:mg "len"=none
 any:mg "any"=none
 range:mg "range"=none
 dict:mg "dict"=none
 enumerate:mg "enumerate"=none
 tuple:mg "tuple"=none
 min:mg "min"=none
 zip:mg "zip"=none
 list:mg "list"=none
 sorted:mg "sorted"=none
 LONGEST_ROLL:∃t,mg "LONGEST_ROLL"=JL (.int 40 t)
 MOST_STATES:∃t,mg "MOST_STATES"=JL (.int 120 t)
theorem Xbr (F:Fun K "spoilt" "spoilt" Zoy f fd)(T:Txt mg):Zbe P w K mg base CX0 7 f fd ["roll","begin","end"] (spD K C 3 2 Dl.Zcr):=by
  refine F.okC Zre (Γ':=[]) (Δ':=[]) rfl fun cdv A outer s H E hr=>?_;have sc:=Zre;have hu:_+64<BC:=hr.units;exact ⟨_,(Zg [] [] (Zan (Xil (Zto (Xv Zhv Zcc (Zj 1) Zc (Xu _)) (Zto (Xv Zqe Zhi (Zj 2) (Xg (r:=Zai K) Xh Yh rfl T.len PySem.boot_len (Zb (Zj 0) Zi Za) (he:=Za)) (Xu _)) (Zmg (Xv Zqe Zhi (Zj 1) (Zj 2) (Xu _)))))) (Zl Zgf) Yc)
      (Zl (Yl (Xg (r:=rSum K) (Xcq rfl) Xnm rfl T.sum KG (Zb (Xph K (Zj 0) (Zdm (Zj 1)) (Zdm (Zj 2))) Zi Ya) (he:=Ya)))))⟩
theorem Xfe (F:Fun K "states" "states" Zoc f fd)(T:Txt mg):Zbe P w K mg base CX0 7 f fd ["order"] (spD K C 1 2 Dl.Zdq):=by
  refine F.okC Zsa (Γ':=[]) (Δ':=[]) rfl fun cdv A outer s H E hr=>?_;have sc:=Zsa;have hu:_+64<BC:=hr.units;exact ⟨_,(Zg [1] [1] (Zr (i:=1) sc.nd rfl (An rfl) Zc)
      (Zg [1] [1] (Jc [1] [1] AH rfl (Zci (Zj 0)) (Xx (i:=2) (hN:=sc.nd) (hi:=rfl) (hx:=An rfl)) (Zl (Xiu (i:=1) sc.nd rfl (An rfl) (Zp Zw Zv (Zj 2) Zc))))
      (Zl (Yl (Zik 1)))))⟩
theorem Zdp (F:Fun K "add_with_last" "add_with_last" Jl f fd)(T:Txt mg):Zbe P w K mg base CX0 7 f fd ["row","ahead","place","wanted","piece"] (spM K C 4 Dl.Xy):=by refine F.okM Zav rfl fun cdv A outer s H E hr=>?_;have sc:=Zav;have hu:_+64<BC:=hr.units;exact ⟨_,(Xqb (Xsr [0] [0] AH rfl (Zjq (Zj 1)) (Xkm rfl (Znc (Zsw (i:=5) (hN:=sc.nd) (hi:=rfl) (hx:=An rfl)) (Znc (Zsw (i:=6) (hN:=sc.nd) (hi:=rfl) (hx:=An rfl)) Xdt))) (Zog (Xrx (Xv Zhv Zcc (Xb K (Zj 5) (Zj 2) Zz) (Zj 3) (Xu _)) (Xbx [0,7] [0,7] (Xcy [0,7] [0,7] (Xpu (i:=7) sc.nd rfl (An rfl) (Zp Zkx Zgh (Zp Zkx Zgh (Zrx K (Zj 5) Zgy (Zdm (Zj 2))) (Znk (Zh (Zp Zw Zv (Xb K (Zj 5) (Zj 2) Zz) Zc) Zi Zs))) (Zrx K (Zj 5) (Zdm (Zp Zw Zv (Zj 2) Zc)) Zgy))) (Zog (Xrx (Xv (Zpe hu) Zsq (Zj 7) (Zj 0) rfl) (Zog (Xnz (i:=0) (he:=(Zrw (Zp Zwm Zsg (Zj 6) (Zkg (Zb (Zj 4) Zi Za))))) (hk:=(Zj 7)) (hu:=hu))) Zzv)))) Zzv))))⟩
theorem Zqh (F:Fun K "with_roll" "with_roll" Zcv f fd)(T:Txt mg):Zbe P w K mg base CX0 7 f fd ["plans","cuts"] (spD K C 2 2 Dl.Zar):=by
  refine F.okC Zgw (Γ':=[]) (Δ':=[]) rfl fun cdv A outer s H E hr=>?_;have sc:=Zgw;have hu:_+64<BC:=hr.units;have nd0:Eu (["plans","cuts","more","left","ahead","cut","cutting","rest","used","number","gone"]:List Str):=by decide +kernel
  exact ⟨_,(Zg [2] [2] (Zr (i:=2) sc.nd rfl (An rfl) Zwd)
      (Zg [2] [2] (Jc [2] [2] AH rfl (Zjq (Zj 0)) (Zvm rfl (Zcq (Xx (i:=3) (hN:=sc.nd) (hi:=rfl) (hx:=An rfl)) (Zcq (Xx (i:=4) (hN:=sc.nd) (hi:=rfl) (hx:=An rfl)) Zpw))) (Zl (Jc [2] [2] AH rfl (Zjq (Zj 1)) (Zvm rfl (Zcq (Xx (i:=5) (hN:=sc.nd) (hi:=rfl) (hx:=An rfl)) (Zcq (Xx (i:=6) (hN:=sc.nd) (hi:=rfl) (hx:=An rfl)) Zpw))) (Jm [2,7,8] [2,7,8] (Zg [2,7] [2,7] (Zr (i:=7) sc.nd rfl (An rfl) (Xz (r:=Zil K) Jr Zaw rfl T.tuple Bo (Zb (Zkd (n:=9) (Zk Zcv) ["plans","cuts","more","left","ahead","cut","cutting","rest","used"] ["plans","cuts","more","left","ahead","cut","cutting","rest","used"] ["number","gone"] ⟨rfl,by decide +kernel,by decide +kernel,by decide +kernel,by decide +kernel,by decide +kernel,rfl,by decide +kernel⟩ (Zvr rfl T.zip (Zj 3) (Zj 5) Za Za) (fun _ _ _ _ _=>(Zyi K (Zct (Zbx 9 (hN:=nd0)) (Zct (Zbx 10 (hN:=nd0)) Zod)))) (fun _ _ _ _ _=>Zfh) (fun _ _ _ _ _=>(Zp Zfq Zcb (Zj 9 (hv:=An rfl)) (Zj 10 (hv:=An rfl))))) Zi Zal) (he:=Zal)))
      (Zg [2,7] [2,7] (Zan (Xv Zhv Zcc (Xgd K rfl T.min (Zj 7) Zc Za) Zc (Xu _)) (Zl Xqm) Yc)
      (Zg [2,7,8] [2,7,8] (Zr (i:=8) sc.nd rfl (An rfl) (ce_if (Xkc (Zj 6)) (Zp Zw Zv (Xb K (Zj 4) Zc Zo) Zc) (Ye (Xb K (Zj 4) Zc Zo))))
      (Zl (Zan (Xil (Zto (Xv (Zpe hu) Zsq (Zj 7) (Zj 2) rfl) (Zmg (Xv Zhv Zcc (Zj 8) (Xb K (Xui (Zj 2) (Zj 7) hu) Zc Zo) (Xu _))))) (Zl (Zoz (i:=2) (he:=(Zvl (Zb (Zj 8) (Zb (Zrw (Zp Zwm Zsg (Xb K (Zj 4) Zc Zo) (Zkg (Zb (Zj 6) Zi Za)))) Zi Zs) Za))) (hk:=(Zj 7)) (hu:=hu))) Yc)))))))))
      (Zl (Xdy (i:=2)))))⟩
theorem Zoj (F:Fun K "_law_cell" "_law_cell" Zep f fd)(T:Txt mg):Zbe P w K mg base CX0 7 f fd ["_law_script","_law_place"] (spD K C 2 2 Dl.Jh):=by
  refine F.okC Zhy (Γ':=[]) (Δ':=[]) rfl fun cdv A outer s H E hr=>?_;have sc:=Zhy;have hu:_+64<BC:=hr.units;exact ⟨_,(Zg [] [] (Zan (Xv Zhv Zcc (Zj 1) (Xg (r:=Zai K) Xh Yh rfl T.len PySem.boot_len (Zb (Zj 0) Zi Za) (he:=Za)) (Xu _)) (Zl (Yl (Ye (Xb K (Zj 0) (Zj 1) Zz)))) Yc)
      (Zg [2] [2] (Zr (i:=2) sc.nd rfl (An rfl) Zc)
      (Zg [2] [2] (Jc [2] [2] AH rfl (Zci (Xph K (Zj 0) Zgy (Zdm Zc))) (Xx (i:=3) (hN:=sc.nd) (hi:=rfl) (hx:=An rfl)) (Zl (Zr (i:=2) sc.nd rfl (An rfl) (Zp Zad Yo (Zp Zw Zv (Zp Zw Zv (Zp Xo Xn (Zj 2) Zc) (Zp Zad Yo (Zj 3) Zc)) Zc) Zc))))
      (Zl (Yl (Zp Zad Yo (Zp Zw Zv (Zj 2) (Zp Xo Xn Zc (Zj 1))) Zc))))))⟩
theorem Zul (F:Fun K "_law_mix" "_law_mix" Zhg f fd)(T:Txt mg):Zbe P w K mg base CX0 7 f fd ["_law_cell_here","_law_k"] (spD K C 2 2 Dl.Zaj):=by
  refine F.okC Zji (Γ':=[]) (Δ':=[]) rfl fun cdv A outer s H E hr=>?_;have sc:=Zji;have hu:_+64<BC:=hr.units;exact ⟨_,(Zg [2] [2] (Zr (i:=2) sc.nd rfl (An rfl) (Zp Zad Yo (Zp Zdz Zbv (Zp Zw Zv (Zp Zw Zv (Zp Zad Yo (Zj 0) Zc) (Zp Xo Xn Zc (Zj 1))) Zc) Zc) Zc))
      (Zg [2,3] [2,3] (Zr (i:=3) sc.nd rfl (An rfl) (Zp Zad Yo (Zp Zw Zv (Zp Zw Zv (Zp Xo Xn (Zj 2) Zc) (Zp Xo Xn (Zp Xo Xn Zc (Zj 1)) (Zj 1))) Zc) Zc))
      (Zl (Yl (Zp Zjm Zqd (Zj 3) Zc)))))⟩
theorem Zpn (F:Fun K "_law_sums" "_law_sums" Zeq f fd)(T:Txt mg):Zbe P w K mg base CX0 7 f fd ["_law_roll_here"] (spD K C 1 2 Dl.Ji):=by
  refine F.okC Zhd (Γ':=[]) (Δ':=[]) rfl fun cdv A outer s H E hr=>?_;have sc:=Zhd;have hu:_+64<BC:=hr.units;exact ⟨_,(Zg [1] [1] (Zr (i:=1) sc.nd rfl (An rfl) (Xt (Zh Zc Zi Zf)))
      (Zg [1] [1] (Jc [1] [1] AH rfl (Zci (Zj 0)) (Xx (i:=2) (hN:=sc.nd) (hi:=rfl) (hx:=An rfl)) (Zl (Zgq (i:=1) (he:=(Zp Zw Zv (Xb K (Zj 1) (Zmy Zc) Zeh) (Zj 2))) (hse:=Zs))))
      (Zl (Yl (Zik 1)))))⟩
theorem Zon (F:Fun K "_law_good" "_law_good" Zfi f fd)(T:Txt mg):Zbe P w K mg base CX0 7 f fd ["_law_sums_here","_law_kind","_law_at"] (spD K C 3 2 Dl.Zaq):=by
  refine F.okC Zhj (Γ':=[]) (Δ':=[]) rfl fun cdv A outer s H E hr=>?_;have sc:=Zhj;have hu:_+64<BC:=hr.units;exact ⟨_,(Zg [3] [3] (Zr (i:=3) sc.nd rfl (An rfl) (Zp Zw Zv (Zj 2) (Xb K (Zj 1) Zc Zo)))
      (Zg [3] [3] (Zan (Xil (Zto (Xv Zhv Zcc (Zj 2) Zc (Xu _)) (Zmg (Xv Xqt Xhg (Zj 3) (Xg (r:=Zai K) Xh Yh rfl T.len PySem.boot_len (Zb (Zj 0) Zi Za) (he:=Za)) (Xu _))))) (Zl (Yl Zuu)) Yc)
      (Zl (Yl (Zql Xql Xie (Zp Zfq Zcb (Xb K (Zj 0) (Zj 3) Zz) (Xb K (Zj 0) (Zj 2) Zz)) (Xb K (Zj 1) Zc Zo) (Xu _))))))⟩
theorem Zjt (F:Fun K "_law_copies" "_law_copies" Zax f fd)(T:Txt mg):Zbe P w K mg base CX0 7 f fd ["_law_rolls_here","_law_table_here","_law_order_here"] (spD K C 3 2 Dl.Jb):=by
 refine F.okC Zdw (Γ':=[]) (Δ':=[]) rfl fun cdv A outer s H E hr=>?_;have sc:=Zdw;have hu:_+64<BC:=hr.units;have nd0:Eu (["_law_rolls_here","_law_table_here","_law_order_here","_law_roll_here"]:List Str):=by decide +kernel
 exact ⟨_,(Zl (Yl (Xt (Zh (Zkd (n:=3) (Zk Zax) ["_law_rolls_here","_law_table_here","_law_order_here"] ["_law_rolls_here","_law_table_here","_law_order_here"] ["_law_roll_here"] ⟨rfl,by decide +kernel,by decide +kernel,by decide +kernel,by decide +kernel,by decide +kernel,rfl,by decide +kernel⟩ (Zci (Zj 0)) (fun _ _ _ _ _=>(Zbx 3 (hN:=nd0))) (fun _ _ _ _ _=>Zfh) (fun _ _ _ _ _=>(Xz (r:=Zqf K) (Zex rfl) Zjp rfl T.list C9 (Zb (Zj 3 (hv:=An rfl)) Zi Za) (he:=Za)))) (Zh (Xz (r:=Zqf K) (Zex rfl) Zjp rfl T.list C9 (Zb (Zj 1) Zi Za) (he:=Za)) (Zh (Xz (r:=Zqf K) (Zex rfl) Zjp rfl T.list C9 (Zb (Zj 2) Zi Za) (he:=Za)) Zi Yi) Yi) Zal))))⟩
theorem Zos (F:Fun K "_law_part" "_law_part" Zfg f fd)(T:Txt mg):Zbe P w K mg base CX0 7 f fd ["_law_rolls_here","_law_mask"] (spR K C 2 Dl.Jk):=by
  refine F.okU Zia (Γ':=[]) (Δ':=[]) rfl fun cdv A outer s H E hr=>?_;have sc:=Zia;have hu:_+64<BC:=hr.units;exact ⟨_,(Zlb [2] [2] (Xhf (i:=2) sc.nd rfl (An rfl) (Xt Zi))
      (Zlb [2] [] (Xsc (i:=3) [2] [] AH rfl (Zci (Zj 0)) sc.nd rfl (An rfl) (Xen [1,2] [1] (Zlb [2] [] (cu_if (Xv (r:=Zyv K) (Zed hu) Zeg (Zp Zad Yo (Zj 1) Zc) Zc (Xu _)) (Zof (Xrv (i:=2) (he:=(Zj 3)) (hse:=Za))) Xjd)
      (Zof (Xhf (i:=1) sc.nd rfl (An rfl) (Zp Zjm Zqd (Zj 1) Zc))))))
      (Zof (Xsv (Zj 2)))))⟩
theorem Xsp (F:Fun K "fits" "fits" Xmp f fd)(T:Txt mg)(Dspoilt:Def P w K mg base CX0 7 "spoilt" ["roll","begin","end"] (spD K C 3 2 Dl.Zcr)):Zbe P w K mg base CX0 8 f fd ["roll","kind","place"] (spD K C 3 2 Dl.Zle):=by
  refine F.okC Xgt (Γ':=[]) (Δ':=[]) rfl fun cdv A outer s H E hr=>?_;have sc:=Xgt;have hu:_+64<BC:=hr.units;exact ⟨_,(Zg [3] [3] (Zr (i:=3) sc.nd rfl (An rfl) (Zp Zw Zv (Zj 2) (Xb K (Zj 1) Zc Zo)))
      (Zg [3] [3] (Zan (Xil (Zto (Xv Zhv Zcc (Zj 2) Zc (Xu _)) (Zmg (Xv Zqe Zhi (Zj 3) (Xg (r:=Zai K) Xh Yh rfl T.len PySem.boot_len (Zb (Zj 0) Zi Za) (he:=Za)) (Xu _))))) (Zl (Yl Zuu)) Yc)
      (Zl (Yl (Zql Xql Xie (Xi Dspoilt (hr.mono (by decide)) rfl Yv (Zb (Zj 0) (Zb (Zj 2) (Zb (Zj 3) Zi Za) Za) Za) (he:=Za)) (Xb K (Zj 1) Zc Zo) (Xu _))))))⟩
theorem Zlt (F:Fun K "refuse_big" "refuse_big" Zbo f fd)(T:Txt mg)(Dstates:Def P w K mg base CX0 7 "states" ["order"] (spD K C 1 2 Dl.Zdq)):Zbe P w K mg base CX0 8 f fd ["rolls","order"] (spD K C 2 2 Dl.Jp):=by
  refine F.okC Zfr (Γ':=[]) (Δ':=[]) rfl fun cdv A outer s H E hr=>?_;have sc:=Zfr;have hu:_+64<BC:=hr.units;have nd0:Eu (["rolls","order","roll"]:List Str):=by decide +kernel
  exact ⟨_,(Zg [] [] (Zan (Zyn (Xg (r:=Xea K) (Zxz rfl) Xns rfl T.any KI (Zb (Zkd (n:=2) (Zk Zbo) ["rolls","order"] ["rolls","order"] ["roll"] ⟨rfl,by decide +kernel,by decide +kernel,by decide +kernel,by decide +kernel,by decide +kernel,rfl,by decide +kernel⟩ (Zci (Zj 0)) (fun _ _ _ _ _=>(Zbx 2 (hN:=nd0))) (fun _ _ _ _ _=>Zfh) (fun _ _ _ _ _=>(Zql Zqe Zhi (Xg (r:=Zai K) Xh Yh rfl T.len PySem.boot_len (Zb (Zj 2 (hv:=An rfl)) Zi Za) (he:=Za)) (Zwy rfl T.LONGEST_ROLL.choose_spec ⟨_,rfl⟩) (Xu _)))) Zi Zal) (he:=Zal))) (Zl Zgf) Yc)
      (Zl (Zan (Xv Zqe Zhi (Xi Dstates (hr.mono (by decide)) rfl Yv (Zb (Zj 1) Zi Za) (he:=Za)) (Zwy rfl T.MOST_STATES.choose_spec ⟨_,rfl⟩) (Xu _)) (Zl Zgf) Yc)))⟩
theorem Zta (F:Fun K "_law_row" "_law_row" Zhm f fd)(T:Txt mg)(D_law_cell:Def P w K mg base CX0 7 "_law_cell" ["_law_script","_law_place"] (spD K C 2 2 Dl.Jh))(D_law_mix:Def P w K mg base CX0 7 "_law_mix" ["_law_cell_here","_law_k"] (spD K C 2 2 Dl.Zaj)):Zbe P w K mg base CX0 8 f fd ["_law_script","_law_place","_law_sizes"] (spD K C 3 2 Dl.Xj):=by
  refine F.okC Zit (Γ':=[]) (Δ':=[]) rfl fun cdv A outer s H E hr=>?_;have sc:=Zit;have hu:_+64<BC:=hr.units;exact ⟨_,(Zg [3] [3] (Zr (i:=3) sc.nd rfl (An rfl) (Xi D_law_cell (hr.mono (by decide)) rfl Yv (Zb (Zj 0) (Zb (Zj 1) Zi Za) Za) (he:=Za)))
      (Zg [3,4] [3,4] (Zr (i:=4) sc.nd rfl (An rfl) (Ye (Zj 3)))
      (Zg [3,4,5] [3,4,5] (Zr (i:=5) sc.nd rfl (An rfl) (Xt Zi))
      (Zg [3,4,5] [3,4,5] (Jc [3,4,5] [3,4,5] AH rfl (Zdi rfl T.range (Zb (Xg (r:=Zai K) Xh Yh rfl T.len PySem.boot_len (Zb (Zj 2) Zi Za) (he:=Za)) Zi Yi)) (Xx (i:=6) (hN:=sc.nd) (hi:=rfl) (hx:=An rfl)) (Zl (Zan (Xv Zhv Zcc (Zj 3) (Zp Zdz Zbv Zc Zc) (Xu _)) (Zl (Zgq (i:=5) (he:=(Zp Zad Yo (Xi D_law_mix (hr.mono (by decide)) rfl Yv (Zb (Zj 3) (Zb (Zj 6) Zi Za) Za) (he:=Za)) (Xb K (Zj 2) (Zj 6) Zz))) (hse:=Zs))) (Zl (Zan (Xv Zqe Zhi (Zj 4) Zc (Xu _)) (Zg [3,4,5] [3,4,5] (Zgq (i:=5) (he:=(Zp Zad Yo (Zj 4) (Xb K (Zj 2) (Zj 6) Zz))) (hse:=Zs))
      (Zl (Zr (i:=4) sc.nd rfl (An rfl) (Zp Zjm Zqd (Zj 4) (Xb K (Zj 2) (Zj 6) Zz))))) (Jm [3,4,5,7] [3,4,5,7] (Zg [3,4,5,7] [3,4,5,7] (Zr (i:=7) sc.nd rfl (An rfl) (Xi D_law_cell (hr.mono (by decide)) rfl Yv (Zb (Zj 0) (Zb (Zp Zad Yo (Zp Zw Zv (Zp Zw Zv (Zj 1) Zc) (Zj 6)) Zc) Zi Zs) Za) (he:=Za)))
      (Zl (Zgq (i:=5) (he:=(Zp Zad Yo (Xi D_law_mix (hr.mono (by decide)) rfl Yv (Zb (Zj 7) (Zb (Zj 6) Zi Za) Za) (he:=Za)) (Xb K (Zj 2) (Zj 6) Zz))) (hse:=Zs))))))))))
      (Zl (Yl (Zik 5)))))))⟩
theorem Zkp (F:Fun K "_law_counts" "_law_counts" Zcn f fd)(T:Txt mg)(D_law_sums:Def P w K mg base CX0 7 "_law_sums" ["_law_roll_here"] (spD K C 1 2 Dl.Ji))(D_law_good:Def P w K mg base CX0 7 "_law_good" ["_law_sums_here","_law_kind","_law_at"] (spD K C 3 2 Dl.Zaq)):Zbe P w K mg base CX0 8 f fd ["_law_roll_here","_law_table_here","_law_order_here"] (spD K C 3 2 Dl.Yx):=by
  refine F.okC Zec (Γ':=[]) (Δ':=[]) rfl fun cdv A outer s H E hr=>?_;have sc:=Zec;have hu:_+64<BC:=hr.units;exact ⟨_,(Zg [3] [3] (Zr (i:=3) sc.nd rfl (An rfl) (Xi D_law_sums (hr.mono (by decide)) rfl Yv (Zb (Zj 0) Zi Za) (he:=Za)))
      (Zg [3,4] [3,4] (Zr (i:=4) sc.nd rfl (An rfl) (Xt (Zh (Zsp (Zgn (Xz (r:=Zil K) Jr Zaw rfl T.tuple Bo (Zb (Zp Xo Xn (Xt (Zh Zc Zi Zf)) (Xg (r:=Zai K) Xh Yh rfl T.len PySem.boot_len (Zb (Zj 1) Zi Za) (he:=Za))) Zi Zs) (he:=Zs)) Zuu hu)) Zi Zne)))
      (Zg [3,4] [3,4] (Jc [3,4] [3,4] AH rfl (Zwe rfl T.range (Zb Zc (Zb (Xg (r:=Zai K) Xh Yh rfl T.len PySem.boot_len (Zb (Zj 3) Zi Za) (he:=Za)) Zi Yi) Zf)) (Xx (i:=5) (hN:=sc.nd) (hi:=rfl) (hx:=An rfl)) (Zg [3,4,6] [3,4,6] (Zr (i:=6) sc.nd rfl (An rfl) (Xz (r:=Zqt) Zjd Zld rfl T.dict Fw (Zb (Xb K (Zj 4) (Zmy Zc) Zeh) Zi Ya) (he:=Ya)))
      (Zg [3,4,6] [3,4,6] (Jc [3,4,6] [3,4,6] AH rfl (Zdi rfl T.range (Zb (Xg (r:=Zai K) Xh Yh rfl T.len PySem.boot_len (Zb (Zj 1) Zi Za) (he:=Za)) Zi Yi)) (Xx (i:=7) (hN:=sc.nd) (hi:=rfl) (hx:=An rfl)) (Jm [3,4,6,8] [3,4,6,8] (Zg [3,4,6,8] [3,4,6,8] (Zr (i:=8) sc.nd rfl (An rfl) (Zp Zfq Zcb (Zj 5) (Xb K (Xb K (Zj 1) (Zj 7) Zz) Zc Zo)))
      (Zl (Zan (Zyn (Xi D_law_good (hr.mono (by decide)) rfl Yv (Zb (Zj 3) (Zb (Xb K (Zj 1) (Zj 7) Zz) (Zb (Zj 8) Zi Za) Ya) Za) (he:=Za))) (Zl (Jc [3,4,6,8] [3,4,6,8] AH rfl (Zjx (Xb K (Zj 4) (Zj 8) Zz)) (Xx (i:=9) (hN:=sc.nd) (hi:=rfl) (hx:=An rfl)) (Zl (Zan (Xv Zhv Zcc (Xb K (Zj 9) (Zj 7) Zz) (Xb K (Zj 2) (Zj 7) Zz) (Xu _)) (Jm [3,4,6,8,10] [3,4,6,8,10] (Zg [3,4,6,8,10] [3,4,6,8,10] (Zr (i:=10) sc.nd rfl (An rfl) (Zp Zkx Zgh (Zp Zkx Zgh (Zrx K (Zj 9) Zgy (Zdm (Zj 7))) (Znk (Zh (Zp Zw Zv (Xb K (Zj 9) (Zj 7) Zz) Zc) Zi Zs))) (Zrx K (Zj 9) (Zdm (Zp Zw Zv (Zj 7) Zc)) Zgy)))
      (Zl (Zoz (i:=6) (he:=Zuu) (hk:=(Zj 10)) (hu:=hu))))) Yc)))) Yc)))))
      (Zl (Zqv (i:=4) (j:=6))))))
      (Zl (Yl (Ye (Xb K (Zj 4) (Zmy Zc) Zeh)))))))⟩
theorem Zxi (F:Fun K "cuts_of" "cuts_of" Zjw f fd)(T:Txt mg)(Dfits:Def P w K mg base CX0 8 "fits" ["roll","kind","place"] (spD K C 3 2 Dl.Zle))(Dadd_with_last__W:Def P w K mg base CX0 7 "add_with_last" ["row","ahead","place","wanted","piece"] (spM K C 4 Dl.Xy)):Zbe P w K mg base CX0 9 f fd ["roll","table","order"] (spD K C 3 2 Dl.Zck):=by
  refine F.okC Zms (Γ':=[]) (Δ':=[]) rfl fun cdv A outer s H E hr=>?_;have sc:=Zms;have hu:_+64<BC:=hr.units;exact ⟨_,(Zg [3] [3] (Zr (i:=3) sc.nd rfl (An rfl) (Xt (Zh (Zsp (Zgn (Xz (r:=Zil K) Jr Zaw rfl T.tuple Bo (Zb (Zp Xo Xn (Xt (Zh Zc Zi Zf)) (Xg (r:=Zai K) Xh Yh rfl T.len PySem.boot_len (Zb (Zj 2) Zi Za) (he:=Za))) Zi Zs) (he:=Zs)) (Zrw (Xt Zi)) hu)) Zi Zne)))
      (Zg [3] [3] (Jc [3] [3] AH rfl (Zwe rfl T.range (Zb Zc (Zb (Zp Zw Zv (Xg (r:=Zai K) Xh Yh rfl T.len PySem.boot_len (Zb (Zj 0) Zi Za) (he:=Za)) Zc) Zi Zs) Zf)) (Xx (i:=4) (hN:=sc.nd) (hi:=rfl) (hx:=An rfl)) (Zg [3,5] [3,5] (Zr (i:=5) sc.nd rfl (An rfl) (Xz (r:=Zqt) Zjd Zld rfl T.dict Fw (Zb (Xb K (Zj 3) (Zmy Zc) Zeh) Zi Ya) (he:=Ya)))
      (Zg [3,5] [3,5] (Jc [3,5] [3,5] AH rfl (Xml rfl T.enumerate (Zj 1) Za) (Zvm rfl (Zcq (Xx (i:=6) (hN:=sc.nd) (hi:=rfl) (hx:=An rfl)) (Zcq (Xx (i:=7) (hN:=sc.nd) (hi:=rfl) (hx:=An rfl)) Zpw))) (Jm [3,5,8] [3,5,8] (Zg [3,5,8] [3,5,8] (Zr (i:=8) sc.nd rfl (An rfl) (Zp Zfq Zcb (Zj 4) (Xb K (Zj 7) Zc Zo)))
      (Zl (Zan (Zyn (Xi Dfits (hr.mono (by decide)) rfl Yv (Zb (Zj 0) (Zb (Zj 7) (Zb (Zj 8) Zi Za) Za) Za) (he:=Za))) (Zl (Xbl (Xeu 5 Dadd_with_last__W (hr.mono (by decide)) rfl Yv (Zb (Xb K (Zj 3) (Zj 8) Zz) (Zb (Zj 6) (Zb (Xb K (Zj 2) (Zj 6) Zz) (Zb (Zvl (Zb (Zj 8) (Zb (Xb K (Zj 7) Zc Zo) Zi Ya) Za)) Zi Zsn) Ya) Za) Ya) (he:=Za)))) Yc)))))
      (Zl (Zqv (i:=3) (j:=5))))))
      (Zl (Yl (Ye (Xb K (Zj 3) (Zmy Zc) Zeh))))))⟩
theorem Zlo (F:Fun K "_law_table" "_law_table" Zdk f fd)(T:Txt mg)(D_law_row:Def P w K mg base CX0 8 "_law_row" ["_law_script","_law_place","_law_sizes"] (spD K C 3 2 Dl.Xj)):Zbe P w K mg base CX0 9 f fd ["_law_script","_law_place","_law_most"] (spD K C 3 2 Dl.Jq):=by
  refine F.okC Zft (Γ':=[]) (Δ':=[]) rfl fun cdv A outer s H E hr=>?_;have sc:=Zft;have hu:_+64<BC:=hr.units;exact ⟨_,(Zg [3] [3] (Zr (i:=3) sc.nd rfl (An rfl) (Xt (Zh Zac (Zh Zac (Zh Zac (Zh Zac (Zh Zac (Zh Zac (Zh Zac (Zh Zac (Zh Zac (Zh Zac Zi Zf) Zf) Zf) Zf) Zf) Zf) Zf) Zf) Zf) Zf)))
      (Zg [3] [3] (Zr (i:=3) sc.nd rfl (An rfl) (Zp Zw Zv (Zj 3) (Xt (Zh Zac (Zh Zac (Zh Zac (Zh Zac (Zh Zac (Zh Zac Zi Zf) Zf) Zf) Zf) Zf) Zf))))
      (Zg [3,4] [3,4] (Zr (i:=4) sc.nd rfl (An rfl) (Xi D_law_row (hr.mono (by decide)) rfl Yv (Zb (Zj 0) (Zb (Zj 1) (Zb (Zp Zw Zv (Xt (Zh (Zp Zw Zv (Zj 2) Zc) (Zh Zc (Zh Zc (Zh Zc (Zh Zc (Zh Zc Zi Zf) Zf) Zf) Zf) Zf) Zs)) (Zp Xo Xn (Xt (Zh Zc (Zh Zc (Zh Zc Zi Zf) Zf) Zf)) (Zj 2))) Zi Zs) Za) Za) (he:=Za)))
      (Zg [3,4,5] [3,4,5] (Zr (i:=5) sc.nd rfl (An rfl) (Ye (Xb K (Xt (Zh Zc (Zh Zc (Zh Zc (Zh (Zp Zdz Zbv Zc Zc) Zi Zs) Zf) Zf) Zf)) (Xb K (Zj 4) Zc Zo) Zao)))
      (Zg [3,4,5,6] [3,4,5,6] (Zr (i:=6) sc.nd rfl (An rfl) (Ye (Xb K (Xt (Zh Zc (Zh Zc (Zh (Zp Zdz Zbv Zc Zc) (Zh (Zp Xo Xn Zc (Zp Zdz Zbv Zc Zc)) Zi Zs) Zs) Zf) Zf)) (Xb K (Zj 4) Zc Zo) Zao)))
      (Zg [3,4,5,6,7] [3,4,5,6,7] (Zr (i:=7) sc.nd rfl (An rfl) (Xt Zi))
      (Zg [3,4,5,6,7] [3,4,5,6,7] (Jc [3,4,5,6,7] [3,4,5,6,7] AH rfl (Zdi rfl T.range (Zb (Xb K (Zj 4) Zc Zo) Zi Ya)) (Xx (i:=8) (hN:=sc.nd) (hi:=rfl) (hx:=An rfl)) (Jm [3,4,5,6,7,9,10,11,12,13] [3,4,5,6,7,9,10,11,12,13] (Zg [3,4,5,6,7,9] [3,4,5,6,7,9] (Zr (i:=9) sc.nd rfl (An rfl) (Zp Zw Zv (Zp Xo Xn Zc (Zj 8)) Zc))
      (Zg [3,4,5,6,7,9,10] [3,4,5,6,7,9,10] (Zr (i:=10) sc.nd rfl (An rfl) (Ye (Xb K (Zkg (Zb Zc (Zb Zc (Zb Zc (Zb Zc (Zb Zc (Zb Zc (Zb Zc (Zb Zc (Zb Zc (Zb Zc (Zb (Xb K (Xt (Zh Zc (Zh Zc Zi Zf) Zf)) (Zp Zad Yo (Zj 8) Zc) plain_bin) Zi Ya) Zf) Zf) Zf) Zf) Zf) Zf) Zf) Zf) Zf) Zf)) (Xb K (Zj 4) (Zj 9) Zz) Zao)))
      (Zg [3,4,5,6,7,9,10,11] [3,4,5,6,7,9,10,11] (Zr (i:=11) sc.nd rfl (An rfl) (Zp Zw Zv Zc (Xb K (Zj 4) (Zp Zw Zv (Zj 9) Zc) plain_bin)))
      (Zg [3,4,5,6,7,9,10,11] [3,4,5,6,7,9,10,11] (Zan (Xv (r:=Zyv K) (Zed hu) Zeg (Xb K (Zj 4) Zc Zo) Zc (Xu _)) (Zl (Zr (i:=11) sc.nd rfl (An rfl) (Zp Zw Zv (Zp Xo Xn Zc (Zj 10)) (Zp Zad Yo (Xb K (Zj 4) (Zp Zw Zv (Zj 9) Zc) plain_bin) Zc)))) Yc)
      (Zg [3,4,5,6,7,9,10,11] [3,4,5,6,7,9,10,11] (Zan (Xv (r:=Zyv K) (Zed hu) Zeg (Xb K (Zj 4) Zc Zo) Zc (Xu _)) (Zl (Zr (i:=11) sc.nd rfl (An rfl) (Zp Zw Zv Zc (Zp Zad Yo (Xb K (Zj 4) (Zp Zw Zv (Zj 9) Zc) plain_bin) Zc)))) Yc)
      (Zg [3,4,5,6,7,9,10,11] [3,4,5,6,7,9,10,11] (Zan (Xv (r:=Zyv K) (Zed hu) Zeg (Xb K (Zj 4) Zc Zo) Zc (Xu _)) (Zl (Zr (i:=11) sc.nd rfl (An rfl) (Ye (Zj 10)))) Yc)
      (Zg [3,4,5,6,7,9,10,11,12] [3,4,5,6,7,9,10,11,12] (Zr (i:=12) sc.nd rfl (An rfl) (Xg (r:=Xbu) (Zlx rfl) Zya rfl T.min D1 (Zb (Zp Xo Xn (Xb K (Xt (Zh Zc (Zh Zc (Zh Zc (Zh Zc (Zh Zc (Zh Zc Zi Zf) Zf) Zf) Zf) Zf) Zf)) (Xb K (Zj 4) (Zp Zw Zv (Zj 9) Zc) plain_bin) Zao) (Zj 5)) (Zb (Zp Zfq Zcb (Zp Zdz Zbv Zc Zc) Zc) Zi Zs) Zs) (he:=Zs)))
      (Zg [3,4,5,6,7,9,10,11,12,13] [3,4,5,6,7,9,10,11,12,13] (Zr (i:=13) sc.nd rfl (An rfl) (Ye (Xb K (Zj 3) (Zp Zad Yo (Zp Zw Zv (Xb K (Zj 4) Zc Zo) (Zp Xo Xn (Zp Zw Zv (Zp Xo Xn Zc (Xb K (Zj 4) Zc Zo)) Zc) (Zj 8))) Zc) plain_bin)))
      (Zl (Zgq (i:=7) (he:=(Znk (Zh (Ye (Zj 13)) (Zh (Ye (Zj 10)) (Zh (Xg (r:=Xbu) (Zlx rfl) Zya rfl T.min D1 (Zb (Zp Xo Xn (Zj 11) (Zj 6)) (Zb (Zp Zdz Zbv Zc Zc) Zi Zs) Zs) (he:=Zs)) (Zh (Ye (Zj 12)) Zi Za) Yi) Za) Za))) (hse:=Zsn)))))))))))))
      (Zl (Yl (Zik 7))))))))))⟩
theorem Zot (F:Fun K "_law_flaw" "_law_flaw" Zes f fd)(T:Txt mg)(D_law_row:Def P w K mg base CX0 8 "_law_row" ["_law_script","_law_place","_law_sizes"] (spD K C 3 2 Dl.Xj)):Zbe P w K mg base CX0 9 f fd ["_law_script","_law_place","_law_most"] (spD K C 3 2 Dl.Zat):=by refine F.okC Zic (Γ':=[]) (Δ':=[]) rfl fun cdv A outer s H E hr=>?_;have sc:=Zic;have hu:_+64<BC:=hr.units;exact ⟨_,(Zl (Yl (Ye (Xb K (Xt (Zh Zc (Zh Zc (Zh Zc (Zh (Zp Zdz Zbv Zc Zc) Zi Zs) Zf) Zf) Zf)) (Xb K (Xi D_law_row (hr.mono (by decide)) rfl Yv (Zb (Zj 0) (Zb (Zj 1) (Zb (Xt (Zh (Zp Zw Zv (Zj 2) Zc) (Zh Zc Zi Zf) Zs)) Zi Zdt) Za) Za) (he:=Za)) Zc Zo) Zao))))⟩
theorem Zoq (F:Fun K "_law_roll" "_law_roll" Zez f fd)(T:Txt mg)(D_law_row:Def P w K mg base CX0 8 "_law_row" ["_law_script","_law_place","_law_sizes"] (spD K C 3 2 Dl.Xj)):Zbe P w K mg base CX0 9 f fd ["_law_script","_law_place","_law_most","_law_flaw_here"] (spD K C 4 2 Dl.Jg):=by
  refine F.okC Zib (Γ':=[]) (Δ':=[]) rfl fun cdv A outer s H E hr=>?_;have sc:=Zib;have hu:_+64<BC:=hr.units;exact ⟨_,(Zg [4] [4] (Zr (i:=4) sc.nd rfl (An rfl) (Xi D_law_row (hr.mono (by decide)) rfl Yv (Zb (Zj 0) (Zb (Zj 1) (Zb (Zp Zw Zv (Xt (Zh (Zp Zw Zv (Zj 2) Zc) (Zh Zc (Zh Zc Zi Zf) Zf) Zs)) (Zp Xo Xn (Xt (Zh Zc (Zh Zc Zi Zf) Zf)) (Zj 2))) Zi Zs) Za) Za) (he:=Za)))
      (Zg [4,5] [4,5] (Zr (i:=5) sc.nd rfl (An rfl) (Zp Xo Xn Zc (Zj 3)))
      (Zg [4,5] [4,5] (Zan (Xv (r:=Zyv K) (Zed hu) Zeg (Xb K (Zj 4) Zc Zo) Zc (Xu _)) (Zl (Zr (i:=5) sc.nd rfl (An rfl) (Zp Zdz Zbv Zc Zc))) Yc)
      (Zg [4,5,6] [4,5,6] (Zr (i:=6) sc.nd rfl (An rfl) (Xt Zi))
      (Zg [4,5,6] [4,5,6] (Jc [4,5,6] [4,5,6] AH rfl (Zdi rfl T.range (Zb (Xb K (Zj 4) Zc Zo) Zi Ya)) (Xx (i:=7) (hN:=sc.nd) (hi:=rfl) (hx:=An rfl)) (Jm [4,5,6,8,9] [4,5,6,8,9] (Zg [4,5,6,8] [4,5,6,8] (Zr (i:=8) sc.nd rfl (An rfl) (Zp Zw Zv (Zp Xo Xn Zc (Zj 7)) Zc))
      (Zg [4,5,6,8,9] [4,5,6,8,9] (Zr (i:=9) sc.nd rfl (An rfl) Zc)
      (Zg [4,5,6,8,9] [4,5,6,8,9] (Zan (Xv Zhv Zcc (Xb K (Zj 4) (Zj 8) Zz) (Xb K (Xt (Zh Zc (Zh Zc (Zh Zc (Zh Zc Zi Zf) Zf) Zf) Zf)) (Xb K (Zj 4) Zc Zo) Zao) (Xu _)) (Zl (Zr (i:=9) sc.nd rfl (An rfl) (Ye (Xb K (Zkg (Zb (Zj 3) (Zb (Zj 3) (Zb (Zp Xo Xn Zc (Zj 3)) (Zb (Zp Xo Xn Zc (Zj 3)) (Zb (Zj 5) Zi Za) Zs) Zs) Za) Za)) (Xb K (Zj 4) (Zp Zw Zv (Zj 8) Zc) plain_bin) Zao)))) Yc)
      (Zl (Zgq (i:=6) (he:=(Ye (Zj 9))) (hse:=Za))))))))
      (Zl (Yl (Zik 6))))))))⟩
theorem Zma (F:Fun K "_law_order" "_law_order" Zdg f fd)(T:Txt mg)(D_law_row:Def P w K mg base CX0 8 "_law_row" ["_law_script","_law_place","_law_sizes"] (spD K C 3 2 Dl.Xj)):Zbe P w K mg base CX0 9 f fd ["_law_script","_law_place","_law_table_here","_law_most","_law_limit"] (spD K C 5 2 Dl.Jn):=by
  refine F.okC Zfp (Γ':=[]) (Δ':=[]) rfl fun cdv A outer s H E hr=>?_;have sc:=Zfp;have hu:_+64<BC:=hr.units;exact ⟨_,(Zg [5] [5] (Zr (i:=5) sc.nd rfl (An rfl) (Xi D_law_row (hr.mono (by decide)) rfl Yv (Zb (Zj 0) (Zb (Zj 1) (Zb (Zp Zw Zv (Zp Xo Xn (Xt (Zh (Zp Zw Zv (Zj 3) Zc) Zi Zs)) Zc) (Xt (Zh Zc Zi Zf))) Zi Zs) Za) Za) (he:=Za)))
      (Zg [5,6] [5,6] (Zr (i:=6) sc.nd rfl (An rfl) (Xt Zi))
      (Zg [5,6,7] [5,6,7] (Zr (i:=7) sc.nd rfl (An rfl) Zc)
      (Zg [5,6,7] [5,6,7] (Jc [5,6,7] [5,6,7] AH rfl (Zdi rfl T.range (Zb (Xg (r:=Zai K) Xh Yh rfl T.len PySem.boot_len (Zb (Zj 2) Zi Za) (he:=Za)) Zi Yi)) (Xx (i:=8) (hN:=sc.nd) (hi:=rfl) (hx:=An rfl)) (Jm [5,6,7,9] [5,6,7,9] (Zg [5,6,7,9] [5,6,7,9] (Zr (i:=9) sc.nd rfl (An rfl) (Ye (Xb K (Zj 5) (Zj 8) Zz)))
      (Zg [5,6,7,9] [5,6,7,9] (Zan (Xil (Xhi (Xv (r:=Zyv K) (Zed hu) Zeg (Zj 8) Zc (Xu _)) (Xat (Xv (r:=Zyv K) (Zed hu) Zeg (Xb K (Zj 5) Zc Zo) Zc (Xu _))))) (Zl (Zr (i:=9) sc.nd rfl (An rfl) (Zp Zfq Zcb (Zj 4) Zc))) Yc)
      (Zg [5,6,7,9] [5,6,7,9] (Zan (Xv Zqe Zhi (Zp Xo Xn (Zj 7) (Zp Zw Zv (Zj 9) Zc)) (Zj 4) (Xu _)) (Zl (Zr (i:=9) sc.nd rfl (An rfl) Zc)) Yc)
      (Zg [5,6,7,9] [5,6,7,9] (Zr (i:=7) sc.nd rfl (An rfl) (Zp Xo Xn (Zj 7) (Zp Zw Zv (Zj 9) Zc)))
      (Zl (Zgq (i:=6) (he:=(Ye (Zj 9))) (hse:=Za)))))))))
      (Zl (Yl (Zik 6)))))))⟩
theorem Zii (F:Fun K "_law_reached" "_law_reached" Zah f fd)(T:Txt mg)(D_law_counts:Def P w K mg base CX0 8 "_law_counts" ["_law_roll_here","_law_table_here","_law_order_here"] (spD K C 3 2 Dl.Yx)):Zbe P w K mg base CX0 9 f fd ["_law_rolls_here","_law_table_here","_law_order_here"] (spD K C 3 2 Dl.Yd):=by
  refine F.okC Zde (Γ':=[]) (Δ':=[]) rfl fun cdv A outer s H E hr=>?_;have sc:=Zde;have hu:_+64<BC:=hr.units;have nd0:Eu (["_law_rolls_here","_law_table_here","_law_order_here","_law_reached_here","_law_roll_here","_law_cuts","_law_here","_law_left","_law_counts_here","_law_rest","_law_one","_law_other"]:List Str):=by decide +kernel
  exact ⟨_,(Zg [3] [3] (Zr (i:=3) sc.nd rfl (An rfl) (Zsp (Zgn (Xz (r:=Zil K) Jr Zaw rfl T.tuple Bo (Zb (Zj 2) Zi Za) (he:=Za)) Zuu hu)))
      (Zg [3] [3] (Jc [3] [3] AH rfl (Zci (Zj 0)) (Xx (i:=4) (hN:=sc.nd) (hi:=rfl) (hx:=An rfl)) (Jm [3,5] [3,5] (Zg [3,5] [3,5] (Zr (i:=5) sc.nd rfl (An rfl) (Xi D_law_counts (hr.mono (by decide)) rfl Yv (Zb (Zj 4) (Zb (Zj 1) (Zb (Zj 2) Zi Za) Za) Za) (he:=Za)))
      (Zg [3,5,6] [3,5,6] (Zr (i:=6) sc.nd rfl (An rfl) Zwd)
      (Zg [3,5,6] [3,5,6] (Jc [3,5,6] [3,5,6] AH rfl (Zjx (Zj 3)) (Xx (i:=7) (hN:=sc.nd) (hi:=rfl) (hx:=An rfl)) (Zl (Jc [3,5,6] [3,5,6] AH rfl (Zjx (Zj 5)) (Xx (i:=8) (hN:=sc.nd) (hi:=rfl) (hx:=An rfl)) (Jm [3,5,6,9] [3,5,6,9] (Zg [3,5,6,9] [3,5,6,9] (Zr (i:=9) sc.nd rfl (An rfl) (Xz (r:=Zil K) Jr Zaw rfl T.tuple Bo (Zb (Zkd (n:=10) (Zk Zah) ["_law_rolls_here","_law_table_here","_law_order_here","_law_reached_here","_law_roll_here","_law_cuts","_law_here","_law_left","_law_counts_here","_law_rest"] ["_law_rolls_here","_law_table_here","_law_order_here","_law_reached_here","_law_roll_here","_law_cuts","_law_here","_law_left","_law_counts_here","_law_rest"] ["_law_one","_law_other"] ⟨rfl,by decide +kernel,by decide +kernel,by decide +kernel,by decide +kernel,by decide +kernel,rfl,by decide +kernel⟩ (Zvr rfl T.zip (Zj 7) (Zj 8) Za Za) (fun _ _ _ _ _=>(Zyi K (Zct (Zbx 10 (hN:=nd0)) (Zct (Zbx 11 (hN:=nd0)) Zod)))) (fun _ _ _ _ _=>Zfh) (fun _ _ _ _ _=>(Zp Zfq Zcb (Zj 10 (hv:=An rfl)) (Zj 11 (hv:=An rfl))))) Zi Zal) (he:=Zal)))
      (Zl (Zan (Xil (Zto (Xv (r:=Zyv K) (Zed hu) Zeg (Xg (r:=Zai K) Xh Yh rfl T.len PySem.boot_len (Zb (Zj 9) Zi Za) (he:=Za)) Zc (Xu _)) (Zmg (Xv Xqt Xhg (Xg (r:=Xku K) (Zxk rfl) Xci rfl T.min D1 (Zb (Zj 9) Zi Za) (he:=Za)) Zc (Xu _))))) (Zl (Zoz (i:=6) (he:=Zuu) (hk:=(Zj 9)) (hu:=hu))) Yc)))))))
      (Zl (Xbz (i:=3) (j:=6) sc.nd rfl (An rfl))))))))
      (Zl (Yl (Zik 3)))))⟩
theorem Zid (F:Fun K "plans_by_left" "plans_by_left" Zba f fd)(T:Txt mg)(Drefuse_big:Def P w K mg base CX0 8 "refuse_big" ["rolls","order"] (spD K C 2 2 Dl.Jp))(Dwith_roll:Def P w K mg base CX0 7 "with_roll" ["plans","cuts"] (spD K C 2 2 Dl.Zar))(Dcuts_of:Def P w K mg base CX0 9 "cuts_of" ["roll","table","order"] (spD K C 3 2 Dl.Zck)):Zbe P w K mg base CX0 10 f fd ["rolls","table","order"] (spD K C 3 2 Dl.Ym):=by
  refine F.okC Zco (Γ':=[]) (Δ':=[]) rfl fun cdv A outer s H E hr=>?_;have sc:=Zco;have hu:_+64<BC:=hr.units;exact ⟨_,(Zg [] [] (Xmu (Xi Drefuse_big (hr.mono (by decide)) rfl Yv (Zb (Zj 0) (Zb (Zj 2) Zi Za) Za) (he:=Za)))
      (Zg [3] [3] (Zr (i:=3) sc.nd rfl (An rfl) (Zsp (Zgn (Xz (r:=Zil K) Jr Zaw rfl T.tuple Bo (Zb (Zj 2) Zi Za) (he:=Za)) (Znk (Zh Zc (Zh (Zrw (Xt Zi)) Zi Zdt) Zf)) hu)))
      (Zg [3] [3] (Jc [3] [3] AH rfl (Zci (Zj 0)) (Xx (i:=4) (hN:=sc.nd) (hi:=rfl) (hx:=An rfl)) (Zl (Zr (i:=3) sc.nd rfl (An rfl) (Xi Dwith_roll (hr.mono (by decide)) rfl Yv (Zb (Zj 3) (Zb (Xi Dcuts_of (hr.mono (by decide)) rfl Yv (Zb (Zj 4) (Zb (Zj 1) (Zb (Zj 2) Zi Za) Za) Za) (he:=Za)) Zi Yi) Za) (he:=Za)))))
      (Zl (Yl (Zik 3))))))⟩
theorem Zlp (F:Fun K "_law_rolls" "_law_rolls" Zbt f fd)(T:Txt mg)(D_law_flaw:Def P w K mg base CX0 9 "_law_flaw" ["_law_script","_law_place","_law_most"] (spD K C 3 2 Dl.Zat))(D_law_table:Def P w K mg base CX0 9 "_law_table" ["_law_script","_law_place","_law_most"] (spD K C 3 2 Dl.Jq))(D_law_row:Def P w K mg base CX0 8 "_law_row" ["_law_script","_law_place","_law_sizes"] (spD K C 3 2 Dl.Xj))(D_law_roll:Def P w K mg base CX0 9 "_law_roll" ["_law_script","_law_place","_law_most","_law_flaw_here"] (spD K C 4 2 Dl.Jg)):Zbe P w K mg base CX0 10 f fd ["_law_script","_law_place","_law_most","_law_cells","_law_kinds"] (spD K C 5 2 Dl.Jo):=by
  refine F.okC Zfn (Γ':=[]) (Δ':=[]) rfl fun cdv A outer s H E hr=>?_;have sc:=Zfn;have hu:_+64<BC:=hr.units;have nd0:Eu (["_law_script","_law_place","_law_most","_law_cells","_law_kinds","_law_flaw_here","_law_table_here","_law_count","_law_rolls_here","_law_k"]:List Str):=by decide +kernel
  exact ⟨_,(Zg [5] [5] (Zr (i:=5) sc.nd rfl (FK rfl) (Xi D_law_flaw (hr.mono (by decide)) rfl Yv (Zb (Zj 0) (Zb (Zj 1) (Zb (Zj 4) Zi Za) Za) Za) (he:=Za)))
      (Zg [5,6] [5,6] (Zr (i:=6) sc.nd rfl (An rfl) (Xi D_law_table (hr.mono (by decide)) rfl Yv (Zb (Zj 0) (Zb (Zj 1) (Zb (Zj 4) Zi Za) Za) Za) (he:=Za)))
      (Zg [5,6,7] [5,6,7] (Zr (i:=7) sc.nd rfl (An rfl) (Ye (Xb K (Xi D_law_row (hr.mono (by decide)) rfl Yv (Zb (Zj 0) (Zb (Zp Zw Zv (Zj 1) Zc) (Zb (Xt (Zh (Zp Zw Zv (Zj 2) Zc) Zi Zs)) Zi Zdt) Zs) Za) (he:=Za)) Zc Zo)))
      (Zg [5,6,7,8] [5,6,7,8] (Zvz (i:=8) (n:=9) (Zk Zbt) ["_law_script","_law_place","_law_most","_law_cells","_law_kinds","_law_flaw_here","_law_table_here","_law_count","_law_rolls_here"] ["_law_script","_law_place","_law_most","_law_cells","_law_kinds","_law_flaw_here","_law_table_here","_law_count","_law_rolls_here"] ["_law_k"] ⟨rfl,by decide +kernel,by decide +kernel,by decide +kernel,by decide +kernel,by decide +kernel,rfl,by decide +kernel⟩ rfl rfl (Zdi rfl T.range (Zb (Zj 7) Zi Za)) (fun _ _ _ _ _=>(Zbx 9 (hN:=nd0))) (fun _ _ _ _ _=>Zfh) (fun _ _ _ _ _=>(Xi D_law_roll (hr.mono (by decide)) rfl Yv (Zb (Zj 0 (hv:=FK (An rfl))) (Zb (Zp Zw Zv (Zp Zw Zv (Zj 1 (hv:=FK (An rfl))) Zc) (Zj 9 (hv:=An rfl))) (Zb (Zj 3 (hv:=FK (An rfl))) (Zb (Zj 5 (hv:=FK (An rfl))) Zi Za) Za) Zs) Za) (he:=Za))))
      (Zl (Yl (Znk (Zrj [(8,false),(6,false)] (Zik 8) (Zrj [(6,false)] (Zik 6) Zi Za) Za))))))))⟩
theorem Xrw (F:Fun K "fill" "fill" Xjr f fd)(T:Txt mg)(Dplans_by_left:Def P w K mg base CX0 10 "plans_by_left" ["rolls","table","order"] (spD K C 3 2 Dl.Ym)):Zbe P w K mg base CX0 11 f fd ["rolls","table","order"] (spD K C 3 2 Dl.Zmh):=by
  refine F.okC Xhr (Γ':=[]) (Δ':=[]) rfl fun cdv A outer s H E hr=>?_;have sc:=Xhr;have hu:_+64<BC:=hr.units;exact ⟨_,(Zg [3] [3] (Zr (i:=3) sc.nd rfl (An rfl) (Xi Dplans_by_left (hr.mono (by decide)) rfl Yv (Zb (Zj 0) (Zb (Zj 1) (Zb (Zj 2) Zi Za) Za) Za) (he:=Za)))
      (Zg [3,4] [3,4] (Zr (i:=4) sc.nd rfl (An rfl) (Xz (r:=Zil K) Jr Zaw rfl T.tuple Bo (Zb (Zp Xo Xn (Xt (Zh Zc Zi Zf)) (Xg (r:=Zai K) Xh Yh rfl T.len PySem.boot_len (Zb (Zj 2) Zi Za) (he:=Za))) Zi Zs) (he:=Zs)))
      (Zg [3,4] [3,4] (Zan (Xv (Zpe hu) Zxd (Zj 4) (Zj 3) rfl) (Zl Zgf) Yc)
      (Zl (Yl (Xip (Zj 3) (Zj 4) hu))))))⟩
theorem oklaw (F:Fun K "law" "law" Xnv f fd)(T:Txt mg)(D_law_rolls:Def P w K mg base CX0 10 "_law_rolls" ["_law_script","_law_place","_law_most","_law_cells","_law_kinds"] (spD K C 5 2 Dl.Jo))(D_law_order:Def P w K mg base CX0 9 "_law_order" ["_law_script","_law_place","_law_table_here","_law_most","_law_limit"] (spD K C 5 2 Dl.Jn))(D_law_copies:Def P w K mg base CX0 7 "_law_copies" ["_law_rolls_here","_law_table_here","_law_order_here"] (spD K C 3 2 Dl.Jb))(D_law_part:Def P w K mg base CX0 7 "_law_part" ["_law_rolls_here","_law_mask"] (spR K C 2 Dl.Jk))(D_law_reached:Def P w K mg base CX0 9 "_law_reached" ["_law_rolls_here","_law_table_here","_law_order_here"] (spD K C 3 2 Dl.Yd))(Dfill:Def P w K mg base CX0 11 "fill" ["rolls","table","order"] (spD K C 3 2 Dl.Zmh))(D_law_row:Def P w K mg base CX0 8 "_law_row" ["_law_script","_law_place","_law_sizes"] (spD K C 3 2 Dl.Xj)):Zbe P w K mg base CX0 12 f fd ["_law_script"] (spD K C 1 2 Dl.Xnt):=by
  refine F.okC Xqv (Γ':=[]) (Δ':=[]) rfl fun cdv A outer s H E hr=>?_;have sc:=Xqv;have hu:_+64<BC:=hr.units;have nd0:Eu (["_law_script","_law_rolls_here","_law_table_here","_law_order_here","_law_reached_here","_law_left","_law_nothing","_law_least","_law_mask","_law_part_here","_law_handed","_law_one","_law_other"]:List Str):=by decide +kernel
  exact ⟨_,(Zg [1,2] [1,2] (Zvh rfl (Xi D_law_rolls (hr.mono (by decide)) rfl Yv (Zb (Zj 0) (Zb Zc (Zb Zc (Zb Zc (Zb Zc Zi Zf) Zf) Zf) Zf) Za) (he:=Za)) (Xaw (i:=1) sc.nd rfl (An rfl) (Xaw (i:=2) sc.nd rfl (An rfl) Xul)))
      (Zg [1,2,3] [1,2,3] (Zr (i:=3) sc.nd rfl (An rfl) (Xi D_law_order (hr.mono (by decide)) rfl Yv (Zb (Zj 0) (Zb Zc (Zb (Zj 2) (Zb Zc (Zb Zc Zi Zf) Zf) Za) Zf) Za) (he:=Za)))
      (Zg [1,2,3,4] [1,2,3,4] (Zr (i:=4) sc.nd rfl (An rfl) (Xg (r:=Zol K) (Zom hu) Ztv rfl T.sorted KH (Zb (Xz (r:=Zyu) (Zuw rfl) Zze rfl T.list C9 (Zb (Xi D_law_reached (hr.mono (by decide)) rfl Yv (Zb (Zj 1) (Zb (Zj 2) (Zb (Zj 3) Zi Za) Za) Za) (he:=Za)) Zi Yi) (he:=Yi)) Zi Yi) (he:=Yi)))
      (Zg [1,2,3,4,5] [1,2,3,4,5] (Zr (i:=5) sc.nd rfl (An rfl) (Ye (Xb K (Zj 4) (Zp Zad Yo (Xb K (Xi D_law_row (hr.mono (by decide)) rfl Yv (Zb (Zj 0) (Zb Zc (Zb (Xt (Zh Zc Zi Zf)) Zi Zdt) Zf) Za) (he:=Za)) Zc Zo) (Xg (r:=Zai K) Xh Yh rfl T.len PySem.boot_len (Zb (Zj 4) Zi Za) (he:=Za))) plain_bin)))
      (Zg [1,2,3,4,5] [1,2,3,4,5] (Zvz (i:=3) (n:=11) (Zk Xnv) ["_law_script","_law_rolls_here","_law_table_here","_law_order_here","_law_reached_here","_law_left","_law_nothing","_law_least","_law_mask","_law_part_here","_law_handed"] ["_law_script","_law_rolls_here","_law_table_here","_law_order_here","_law_reached_here","_law_left","_law_nothing","_law_least","_law_mask","_law_part_here","_law_handed"] ["_law_one","_law_other"] ⟨rfl,by decide +kernel,by decide +kernel,by decide +kernel,by decide +kernel,by decide +kernel,rfl,by decide +kernel⟩ rfl rfl (Xjp rfl T.zip (Zj 3) (Zj 5) Za Za) (fun _ _ _ _ _=>(Zyi K (Zct (Zbx 11 (hN:=nd0)) (Zct (Zbx 12 (hN:=nd0)) Zod)))) (fun _ _ _ _ _=>Zfh) (fun _ _ _ _ _=>(Zp Zfq Zcb (Zj 11 (hv:=An rfl)) (Zj 12 (hv:=An rfl)))))
      (Zg [1,2,3,4,5,6] [1,2,3,4,5,6] (Zr (i:=6) sc.nd rfl (An rfl) (Xz (r:=Zil K) Jr Zaw rfl T.tuple Bo (Zb (Zp Xo Xn (Xt (Zh Zc Zi Zf)) (Xg (r:=Zai K) Xh Yh rfl T.len PySem.boot_len (Zb (Zj 2) Zi Za) (he:=Za))) Zi Zs) (he:=Zs)))
      (Zg [1,2,3,4,5,6,7] [1,2,3,4,5,6,7] (Zr (i:=7) sc.nd rfl (An rfl) (Xg (r:=Zai K) Xh Yh rfl T.len PySem.boot_len (Zb (Zj 1) Zi Za) (he:=Za)))
      (Zg [2,3,4,5,6,7] [2,3,4,5,6,7] (Jc [2,3,4,5,6,7] [2,3,4,5,6,7] AH rfl (Zdi rfl T.range (Zb Zc Zi Zf)) (Xx (i:=8) (hN:=sc.nd) (hi:=rfl) (hx:=An rfl)) (Zg [2,3,4,5,6,7] [2,3,4,5,6,7] (Xod (i:=9) sc.nd rfl (An rfl) (Xfh D_law_part (hr.mono (by decide)) rfl Yv (Zb (Zj 1) (Zb (Zj 8) Zi Za) Za) (he:=Za)))
      (Zl (Zan (Xil (Xhi (Xv Zhv Zcc (Xg (r:=Zai K) Xh Yh rfl T.len PySem.boot_len (Zb (Zj 9) Zi Za) (he:=Za)) (Zj 7) (Xu _)) (Xat (Xv (Xuf hu) Xel (Zj 6) (Xi D_law_reached (hr.mono (by decide)) rfl Yv (Zb (Zj 9) (Zb (Zj 2) (Zb (Zj 3) Zi Za) Za) Za) (he:=Za)) rfl)))) (Zl (Zr (i:=7) sc.nd rfl (An rfl) (Xg (r:=Zai K) Xh Yh rfl T.len PySem.boot_len (Zb (Zj 9) Zi Za) (he:=Za)))) Yc))))
      (Zg [2,3,4,5,6,7,10] [2,3,4,5,6,7,10] (Zr (i:=10) sc.nd rfl (An rfl) (Xi D_law_copies (hr.mono (by decide)) rfl Yv (Zb (Zj 1) (Zb (Zj 2) (Zb (Zj 3) Zi Za) Za) Za) (he:=Za)))
      (Zl (Yl (Zql (r:=Zyv K) (Zed hu) Zeg (Xb K (Xi Dfill (hr.mono (by decide)) rfl Yv (Zb (Xb K (Zj 10) Zc Zo) (Zb (Xb K (Zj 10) Zc Zo) (Zb (Xb K (Zj 10) Zc Zo) Zi Ya) Ya) Ya) (he:=Ya)) Zc Zo) (Zj 7) (Xu _)))))))))))))⟩
def Xlx (K:AO):Sp:=fun vs H Q _=>∃(a:Addr) (ns:List Int),vs=[.ref a]/\FzL K H a (ns.map V.int)/\ns.length<=63/\∀H',Q (.bl true) H'
theorem fz_of {H:Hp}(hO:Only H)(h:SqL K H a xs):FzL K H a xs:=by rcases h with (h | h) | h;rcases hO a with z | ⟨o,ys,z⟩;rw [h] at z;cases z;rw [h] at z;cases z;exact .inl h;exact .inr h
theorem Xff (ns:List Int)(h:ns.length<=63):Dl.Xnt [.scr ns]=.ok (.bl true):=Dl.Zuh ns h
theorem all_mk {fa f1 f2 f3 f4 f5 f6 f7 f8 f9 f10 f11 f12 f13 f14 f15 f16 f17 f18 f19 f20 f21 f22 f23 f24 f25:Addr}(X:K.In h)(G:h.Ns Aq mg)(hfa:mg "law"=some (.ref fa))
  {fd1 fd2 fd3 fd4 fd5 fd6 fd7 fd8 fd9 fd10 fd11 fd12 fd13 fd14 fd15 fd16 fd17 fd18 fd19 fd20 fd21 fd22 fd23 fd24 fd25:Ck}
  (a1:Cy K Aq "spoilt"=some (some (.ref f1))) (F1:Fun K "spoilt" "spoilt" Zoy f1 fd1)
  (a2:Cy K Aq "fits"=some (some (.ref f2))) (F2:Fun K "fits" "fits" Xmp f2 fd2)
  (a3:Cy K Aq "states"=some (some (.ref f3))) (F3:Fun K "states" "states" Zoc f3 fd3)
  (a4:Cy K Aq "refuse_big"=some (some (.ref f4))) (F4:Fun K "refuse_big" "refuse_big" Zbo f4 fd4)
  (a5:Cy K Aq "add_with_last"=some (some (.ref f5))) (F5:Fun K "add_with_last" "add_with_last" Zdd f5 fd5)
  (a6:Cy K Aq "cuts_of"=some (some (.ref f6))) (F6:Fun K "cuts_of" "cuts_of" Zjw f6 fd6)
  (a7:Cy K Aq "with_roll"=some (some (.ref f7))) (F7:Fun K "with_roll" "with_roll" Zcv f7 fd7)
  (a8:Cy K Aq "plans_by_left"=some (some (.ref f8))) (F8:Fun K "plans_by_left" "plans_by_left" Zba f8 fd8)
  (a9:Cy K Aq "fill"=some (some (.ref f9))) (F9:Fun K "fill" "fill" Xjr f9 fd9)
  (a10:Cy K Aq "_law_cell"=some (some (.ref f10))) (F10:Fun K "_law_cell" "_law_cell" Zep f10 fd10)
  (a11:Cy K Aq "_law_mix"=some (some (.ref f11))) (F11:Fun K "_law_mix" "_law_mix" Zhg f11 fd11)
  (a12:Cy K Aq "_law_row"=some (some (.ref f12))) (F12:Fun K "_law_row" "_law_row" Zhm f12 fd12)
  (a13:Cy K Aq "_law_table"=some (some (.ref f13))) (F13:Fun K "_law_table" "_law_table" Zdk f13 fd13)
  (a14:Cy K Aq "_law_flaw"=some (some (.ref f14))) (F14:Fun K "_law_flaw" "_law_flaw" Zes f14 fd14)
  (a15:Cy K Aq "_law_roll"=some (some (.ref f15))) (F15:Fun K "_law_roll" "_law_roll" Zez f15 fd15)
  (a16:Cy K Aq "_law_sums"=some (some (.ref f16))) (F16:Fun K "_law_sums" "_law_sums" Zeq f16 fd16)
  (a17:Cy K Aq "_law_good"=some (some (.ref f17))) (F17:Fun K "_law_good" "_law_good" Zfi f17 fd17)
  (a18:Cy K Aq "_law_rolls"=some (some (.ref f18))) (F18:Fun K "_law_rolls" "_law_rolls" Zbt f18 fd18)
  (a19:Cy K Aq "_law_order"=some (some (.ref f19))) (F19:Fun K "_law_order" "_law_order" Zdg f19 fd19)
  (a20:Cy K Aq "_law_counts"=some (some (.ref f20))) (F20:Fun K "_law_counts" "_law_counts" Zcn f20 fd20)
  (a21:Cy K Aq "_law_reached"=some (some (.ref f21))) (F21:Fun K "_law_reached" "_law_reached" Zah f21 fd21)
  (a22:Cy K Aq "_law_copies"=some (some (.ref f22))) (F22:Fun K "_law_copies" "_law_copies" Zax f22 fd22)
  (a23:Cy K Aq "_law_part"=some (some (.ref f23))) (F23:Fun K "_law_part" "_law_part" Zfg f23 fd23)
  (a24:Cy K Aq "law"=some (some (.ref f24))) (F24:Fun K "law" "law" Xnv f24 fd24)
  (a25:Cy K Aq "add_with_last"=some (some (.ref f25))) (F25:Fun K "add_with_last" "add_with_last" Jl f25 fd25)
  (z1:Cy K Aq "sum"=some none)
  (z2:Cy K Aq "len"=some none)
  (z3:Cy K Aq "any"=some none)
  (z4:Cy K Aq "range"=some none)
  (z5:Cy K Aq "dict"=some none)
  (z6:Cy K Aq "enumerate"=some none)
  (z7:Cy K Aq "tuple"=some none)
  (z8:Cy K Aq "min"=some none)
  (z9:Cy K Aq "zip"=some none)
  (z10:Cy K Aq "list"=some none)
  (z11:Cy K Aq "sorted"=some none)
  {tv1:Tok} (v1:Cy K Aq "LONGEST_ROLL"=some (some (.int 40 tv1)))
  {tv2:Tok} (v2:Cy K Aq "MOST_STATES"=some (some (.int 120 tv2)))
  : ∃fd:Ck,(∀(s:Af) (v:Value),Fk s fd ⟨[v],[]⟩ [("_law_script",v)])/\∀base:Bq,K.In base->base.Ns Aq mg->Zbe l.prog w K mg base CX0 12 fa fd ["_law_script"] (Xlx K):=by
 have e:=hfa.symm.trans (CT X G a24);cases e;have T:Txt mg:=⟨Cp X G z1,Cp X G z2,Cp X G z3,Cp X G z4,Cp X G z5,Cp X G z6,Cp X G z7,Cp X G z8,Cp X G z9,Cp X G z10,Cp X G z11,⟨tv1,CT X G v1⟩,⟨tv2,CT X G v2⟩⟩;obtain ⟨oc,od,kV,doc,pm,an,cdv,ct,osl,rfl,lk,hcd⟩:=F24.ex;refine ⟨HU "law" "law" (Zcm Xnv) (Jj Xnv) (Zk Xnv) .none kV doc pm an cdv ct,fun s v=>.of_eq rfl,fun base _ _=>?_⟩;have b1:=F1.binds (ps:=["roll","begin","end"]) fun _ _ _ _ _ _=>Zey (fun _ _ _=>rfl);have Dspoilt:Def l.prog w K mg base CX0 7 "spoilt" ["roll","begin","end"] (spD K (fun _=>0) 3 2 Dl.Zcr):=⟨f1,_,CT X G a1,F1.kp,b1,Xbr F1 T⟩;have b3:=F3.binds (ps:=["order"]) fun _ _ _ _ _ _=>Xnh (fun _=>rfl);have Dstates:Def l.prog w K mg base CX0 7 "states" ["order"] (spD K (fun _=>0) 1 2 Dl.Zdq):=⟨f3,_,CT X G a3,F3.kp,b3,Xfe F3 T⟩;have b5:=F5.binds (ps:=["row","ahead","place","wanted","piece"]) fun _ _ _ _ _ _=>Xbs (fun _ _ _ _ _=>rfl);have b7:=F7.binds (ps:=["plans","cuts"]) fun _ _ _ _ _ _=>Zth (fun _ _=>rfl);have Dwith_roll:Def l.prog w K mg base CX0 7 "with_roll" ["plans","cuts"] (spD K (fun _=>0) 2 2 Dl.Zar):=⟨f7,_,CT X G a7,F7.kp,b7,Zqh F7 T⟩;have b10:=F10.binds (ps:=["_law_script","_law_place"]) fun _ _ _ _ _ _=>Zth (fun _ _=>rfl);have D_law_cell:Def l.prog w K mg base CX0 7 "_law_cell" ["_law_script","_law_place"] (spD K (fun _=>0) 2 2 Dl.Jh):=⟨f10,_,CT X G a10,F10.kp,b10,Zoj F10 T⟩;have b11:=F11.binds (ps:=["_law_cell_here","_law_k"]) fun _ _ _ _ _ _=>Zth (fun _ _=>rfl);have D_law_mix:Def l.prog w K mg base CX0 7 "_law_mix" ["_law_cell_here","_law_k"] (spD K (fun _=>0) 2 2 Dl.Zaj):=⟨f11,_,CT X G a11,F11.kp,b11,Zul F11 T⟩;have b16:=F16.binds (ps:=["_law_roll_here"]) fun _ _ _ _ _ _=>Xnh (fun _=>rfl);have D_law_sums:Def l.prog w K mg base CX0 7 "_law_sums" ["_law_roll_here"] (spD K (fun _=>0) 1 2 Dl.Ji):=⟨f16,_,CT X G a16,F16.kp,b16,Zpn F16 T⟩;have b17:=F17.binds (ps:=["_law_sums_here","_law_kind","_law_at"]) fun _ _ _ _ _ _=>Zey (fun _ _ _=>rfl);have D_law_good:Def l.prog w K mg base CX0 7 "_law_good" ["_law_sums_here","_law_kind","_law_at"] (spD K (fun _=>0) 3 2 Dl.Zaq):=⟨f17,_,CT X G a17,F17.kp,b17,Zon F17 T⟩;have b22:=F22.binds (ps:=["_law_rolls_here","_law_table_here","_law_order_here"]) fun _ _ _ _ _ _=>Zey (fun _ _ _=>rfl);have D_law_copies:Def l.prog w K mg base CX0 7 "_law_copies" ["_law_rolls_here","_law_table_here","_law_order_here"] (spD K (fun _=>0) 3 2 Dl.Jb):=⟨f22,_,CT X G a22,F22.kp,b22,Zjt F22 T⟩;have b23:=F23.binds (ps:=["_law_rolls_here","_law_mask"]) fun _ _ _ _ _ _=>Zth (fun _ _=>rfl);have D_law_part:Def l.prog w K mg base CX0 7 "_law_part" ["_law_rolls_here","_law_mask"] (spR K (fun _=>0) 2 Dl.Jk):=⟨f23,_,CT X G a23,F23.kp,b23,Zos F23 T⟩;have b25:=F25.binds (ps:=["row","ahead","place","wanted","piece"]) fun _ _ _ _ _ _=>Xbs (fun _ _ _ _ _=>rfl);have Dadd_with_last__W:Def l.prog w K mg base CX0 7 "add_with_last" ["row","ahead","place","wanted","piece"] (spM K (fun _=>0) 4 Dl.Xy):=⟨f25,_,CT X G a25,F25.kp,b25,Zdp F25 T⟩;have b2:=F2.binds (ps:=["roll","kind","place"]) fun _ _ _ _ _ _=>Zey (fun _ _ _=>rfl);have Dfits:Def l.prog w K mg base CX0 8 "fits" ["roll","kind","place"] (spD K (fun _=>0) 3 2 Dl.Zle):=⟨f2,_,CT X G a2,F2.kp,b2,Xsp F2 T Dspoilt⟩;have b4:=F4.binds (ps:=["rolls","order"]) fun _ _ _ _ _ _=>Zth (fun _ _=>rfl);have Drefuse_big:Def l.prog w K mg base CX0 8 "refuse_big" ["rolls","order"] (spD K (fun _=>0) 2 2 Dl.Jp):=⟨f4,_,CT X G a4,F4.kp,b4,Zlt F4 T Dstates⟩;have b12:=F12.binds (ps:=["_law_script","_law_place","_law_sizes"]) fun _ _ _ _ _ _=>Zey (fun _ _ _=>rfl);have D_law_row:Def l.prog w K mg base CX0 8 "_law_row" ["_law_script","_law_place","_law_sizes"] (spD K (fun _=>0) 3 2 Dl.Xj):=⟨f12,_,CT X G a12,F12.kp,b12,Zta F12 T D_law_cell D_law_mix⟩;have b20:=F20.binds (ps:=["_law_roll_here","_law_table_here","_law_order_here"]) fun _ _ _ _ _ _=>Zey (fun _ _ _=>rfl);have D_law_counts:Def l.prog w K mg base CX0 8 "_law_counts" ["_law_roll_here","_law_table_here","_law_order_here"] (spD K (fun _=>0) 3 2 Dl.Yx):=⟨f20,_,CT X G a20,F20.kp,b20,Zkp F20 T D_law_sums D_law_good⟩;have b6:=F6.binds (ps:=["roll","table","order"]) fun _ _ _ _ _ _=>Zey (fun _ _ _=>rfl);have Dcuts_of:Def l.prog w K mg base CX0 9 "cuts_of" ["roll","table","order"] (spD K (fun _=>0) 3 2 Dl.Zck):=⟨f6,_,CT X G a6,F6.kp,b6,Zxi F6 T Dfits Dadd_with_last__W⟩;have b13:=F13.binds (ps:=["_law_script","_law_place","_law_most"]) fun _ _ _ _ _ _=>Zey (fun _ _ _=>rfl);have D_law_table:Def l.prog w K mg base CX0 9 "_law_table" ["_law_script","_law_place","_law_most"] (spD K (fun _=>0) 3 2 Dl.Jq):=⟨f13,_,CT X G a13,F13.kp,b13,Zlo F13 T D_law_row⟩;have b14:=F14.binds (ps:=["_law_script","_law_place","_law_most"]) fun _ _ _ _ _ _=>Zey (fun _ _ _=>rfl);have D_law_flaw:Def l.prog w K mg base CX0 9 "_law_flaw" ["_law_script","_law_place","_law_most"] (spD K (fun _=>0) 3 2 Dl.Zat):=⟨f14,_,CT X G a14,F14.kp,b14,Zot F14 T D_law_row⟩;have b15:=F15.binds (ps:=["_law_script","_law_place","_law_most","_law_flaw_here"]) fun _ _ _ _ _ _=>Xug (fun _ _ _ _=>rfl);have D_law_roll:Def l.prog w K mg base CX0 9 "_law_roll" ["_law_script","_law_place","_law_most","_law_flaw_here"] (spD K (fun _=>0) 4 2 Dl.Jg):=⟨f15,_,CT X G a15,F15.kp,b15,Zoq F15 T D_law_row⟩;have b19:=F19.binds (ps:=["_law_script","_law_place","_law_table_here","_law_most","_law_limit"]) fun _ _ _ _ _ _=>Xbs (fun _ _ _ _ _=>rfl);have D_law_order:Def l.prog w K mg base CX0 9 "_law_order" ["_law_script","_law_place","_law_table_here","_law_most","_law_limit"] (spD K (fun _=>0) 5 2 Dl.Jn):=⟨f19,_,CT X G a19,F19.kp,b19,Zma F19 T D_law_row⟩;have b21:=F21.binds (ps:=["_law_rolls_here","_law_table_here","_law_order_here"]) fun _ _ _ _ _ _=>Zey (fun _ _ _=>rfl);have D_law_reached:Def l.prog w K mg base CX0 9 "_law_reached" ["_law_rolls_here","_law_table_here","_law_order_here"] (spD K (fun _=>0) 3 2 Dl.Yd):=⟨f21,_,CT X G a21,F21.kp,b21,Zii F21 T D_law_counts⟩;have b8:=F8.binds (ps:=["rolls","table","order"]) fun _ _ _ _ _ _=>Zey (fun _ _ _=>rfl);have Dplans_by_left:Def l.prog w K mg base CX0 10 "plans_by_left" ["rolls","table","order"] (spD K (fun _=>0) 3 2 Dl.Ym):=⟨f8,_,CT X G a8,F8.kp,b8,Zid F8 T Drefuse_big Dwith_roll Dcuts_of⟩;have b18:=F18.binds (ps:=["_law_script","_law_place","_law_most","_law_cells","_law_kinds"]) fun _ _ _ _ _ _=>Xbs (fun _ _ _ _ _=>rfl);have D_law_rolls:Def l.prog w K mg base CX0 10 "_law_rolls" ["_law_script","_law_place","_law_most","_law_cells","_law_kinds"] (spD K (fun _=>0) 5 2 Dl.Jo):=⟨f18,_,CT X G a18,F18.kp,b18,Zlp F18 T D_law_flaw D_law_table D_law_row D_law_roll⟩;have b9:=F9.binds (ps:=["rolls","table","order"]) fun _ _ _ _ _ _=>Zey (fun _ _ _=>rfl);have Dfill:Def l.prog w K mg base CX0 11 "fill" ["rolls","table","order"] (spD K (fun _=>0) 3 2 Dl.Zmh):=⟨f9,_,CT X G a9,F9.kp,b9,Xrw F9 T Dplans_by_left⟩;exact (oklaw (C:=fun _=>0) F24 T D_law_rolls D_law_order D_law_copies D_law_part D_law_reached Dfill D_law_row).imp fun vs H Q E h=>by obtain ⟨a,ns,rfl,hz,hl,q⟩:=h;refine ⟨[.scr ns],[],rfl,⟨.ref a,[],[],[],rfl,⟨a,rfl,hz,rfl⟩,⟨rfl,rfl⟩,rfl⟩,?_⟩;rw [Xff ns hl];rintro v H' _ ⟨B,r,_⟩;obtain ⟨rfl,_⟩:=r;exact q H'
theorem walk {K:Params->AO}(hn:l.most=some 63)(hdf:d.params.defaults=[])
    (hY:∀(w:Bl) (h:Bq),YP w h->(K w.params).In h)
    (F:∀(w:Bl) (mg:Str->Option Value) (fa:Addr) (h:Bq),(K w.params).In h->h.Ns Aq mg->mg d.name=some (.ref fa)->
      ∃fd:Ck,(∀(s:Af) (u:Value),Fk s fd ⟨[u],[]⟩ [("_law_script",u)])/\∀base:Bq,(K w.params).In base->base.Ns Aq mg->Zbe l.prog w (K w.params) mg base CX0 12 fa fd ["_law_script"] (Xlx (K w.params))) :
    PySem.W.WalkO q loose XP YP l.row.toRowW d [] (fun f vs=>PySem.call f vs):=
  L2.Xma (n:=63) (k:=12) (x:="_law_script") (CX:=fun _=>CX0) (sp:=fun w=>Xlx (K w.params)) hn (by decide) hdf ⟨rfl,by decide,by decide,rfl⟩ hY F (fun _ H a ns hl hO hS=>⟨a,ns,rfl,fz_of hO hS,hl,fun _=>rfl⟩) fun _ _ _ _ _ z=>z
end K65
open PySem PySem.W PyProof.Rows
set_option maxRecDepth 100000 in
set_option maxHeartbeats 0 in
theorem PySem.Challenge.cw_selvage_k65_whole_no_fewer_rolls_holds : PySem.Challenge.rw_selvage_k65_whole_no_fewer_rolls.Holds := by
 w_on;o_law;z_head;(case hw=>w_witness2)
 k_fill
 refine L2.Xfo (fun _=>by kernel_rfl) (K65.walk (l:=PySem.Challenge.rw_selvage_k65_whole_no_fewer_rolls) rfl rfl (fun w h Y=>Y) ?F)
 case F =>
  intro w mg fa h KX G hmg;refine' K65.all_mk KX G hmg ?a1 (L2.Yj ?l1 ?c1 ?k1) ?a2 (L2.Yj ?l2 ?c2 ?k2) ?a3 (L2.Yj ?l3 ?c3 ?k3) ?a4 (L2.Yj ?l4 ?c4 ?k4) ?a5 (L2.Yj ?l5 ?c5 ?k5) ?a6 (L2.Yj ?l6 ?c6 ?k6) ?a7 (L2.Yj ?l7 ?c7 ?k7) ?a8 (L2.Yj ?l8 ?c8 ?k8) ?a9 (L2.Yj ?l9 ?c9 ?k9) ?a10 (L2.Yj ?l10 ?c10 ?k10) ?a11 (L2.Yj ?l11 ?c11 ?k11) ?a12 (L2.Yj ?l12 ?c12 ?k12) ?a13 (L2.Yj ?l13 ?c13 ?k13) ?a14 (L2.Yj ?l14 ?c14 ?k14) ?a15 (L2.Yj ?l15 ?c15 ?k15) ?a16 (L2.Yj ?l16 ?c16 ?k16) ?a17 (L2.Yj ?l17 ?c17 ?k17) ?a18 (L2.Yj ?l18 ?c18 ?k18) ?a19 (L2.Yj ?l19 ?c19 ?k19) ?a20 (L2.Yj ?l20 ?c20 ?k20) ?a21 (L2.Yj ?l21 ?c21 ?k21) ?a22 (L2.Yj ?l22 ?c22 ?k22) ?a23 (L2.Yj ?l23 ?c23 ?k23) ?a24 (L2.Yj ?l24 ?c24 ?k24) ?a25 (L2.Yj ?l25 ?c25 ?k25) ?z1 ?z2 ?z3 ?z4 ?z5 ?z6 ?z7 ?z8 ?z9 ?z10 ?z11 ?v1 ?v2
  case a1|l1|c1|k1|a2|l2|c2|k2|a3|l3|c3|k3|a4|l4|c4|k4|a5|l5|c5|k5|a6|l6|c6|k6|a7|l7|c7|k7|a8|l8|c8|k8|a9|l9|c9|k9|a10|l10|c10|k10|a11|l11|c11|k11|a12|l12|c12|k12|a13|l13|c13|k13|a14|l14|c14|k14|a15|l15|c15|k15|a16|l16|c16|k16|a17|l17|c17|k17|a18|l18|c18|k18|a19|l19|c19|k19|a20|l20|c20|k20|a21|l21|c21|k21|a22|l22|c22|k22|a23|l23|c23|k23|a24|l24|c24|k24|a25|l25|c25|k25|z1|z2|z3|z4|z5|z6|z7|z8|z9|z10|z11|v1|v2=>k_is
