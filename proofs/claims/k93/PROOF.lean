import PyProof.Rows.All
import Wide.All
import OpenK.AllK
import Wide.FinOn
import Lean
import PyProof.EqAt
import PyProof.EqKinds
import PyProof.TupleCall
import PySem.Challenge.RW_selvage_k93_lines_refused
set_option Elab.async false
set_option linter.all false
set_option maxRecDepth 100000
set_option genSizeOfSpec false
set_option genInjectivity false
open List renaming replicate→Aa,mem_cons→Af,mem_append_right→Ag,getElem?_eq_some_iff→Ah,mem_singleton→Ak,length_map→Al,mem_append→An,mem_append_left→As,length_append→AE,map_cons→AG,getElem?_eq_getElem→AH,size_toArray→AI,length_cons→AK,lookup_cons→AS,getElem?_append_left→AT,nodup_cons→A0,forall_mem_cons→A3,replicate_succ→A4,mem_of_getElem?→A5,range→A7,all_eq_true→Bb,mem_cons_of_mem→Bg,getD→Bh,mem_range→Bj,Nodup→Bt,getElem?_map→Bu,flatten_cons→Bv,take_of_length_le→BF,length_take→BH,mem_cons_self→BL,mem_filterMap→BN,nodup_nil→BQ,map_append→BY,getElem?_set_ne→BZ,getElem?_append_right→B4,getElem?_set_self→B6,mem_map→B9,drop_eq_getElem_cons→Ca,not_mem_nil→Cb,length_drop→Cc,getElem_mem→Ce,append_nil→Cf,length_filterMap_le→Cg,getElem?_replicate→Co,nodup_append→Ct,cons_lt_cons_iff→Cz,append_assoc→CG,any_cons→CH,mem_of_mem_drop→CJ,length_set→CM,zipWith→CV,mem_replicate→C2,length_range→C9,find?_cons→Di,mem_flatMap→Dp,map_map→Dt,set_append_right→Dz,length_replicate→DA,mem_of_mem_take→DF,mem_iff_getElem→DG,filterMap_cons→DQ,zip_cons_cons→DS,drop_length→DW,cons_append→Ef,any_eq_true→Eg,of_mem_zip→Er,nil_append→Es,mem_filter→Et,foldl_cons→Eu,nodup_iff_pairwise_ne→EJ,foldl→EK,mem_or_eq_of_mem_set→EU,set_eq_of_length_le→E4,all_cons→E5,forall_mem_append→Fa,drop_of_length_le→Fb,takeWhile_prefix→Fj,length_singleton→Fk,dropWhile_suffix→Fm,mem_of_mem_tail→Fs,map_congr_left→Fw,getElem?_take→FP,filterMap_map→FQ,getElem?_set→Gf,take_length→Gn,mem_flatten→Gp,filter_cons→Gq,map_take→Gw,range_succ→GC,length_nil→GD,drop_zero→GK,map_drop→GR,any_map→G3,map_nil→G6,length→Ho
open PySem renaming Shared→Ab,starEach→Ac,mainGlobals→Ad,sizeLine→Ai,wpAny_bind→Aj,model→Ao,wpAny→Au,Program→Av,foldedSetIterable→Aw,wpAny_mono→Ax,compareOp→AA,Around→AJ,eval→AM,World→AO,wpAny_pure→AU,assignEach→AV,backTo→AW,Heap→AY,bootBuiltins→Bc,wpAny_truthy_bool→Bf,Keyword→Bi,cLine→Bk,attributeBase→Bl,sizeLine_eq→Bm,FuncData→BB,assign→BE,keywordEach→BI,wpAny_holding→BJ,swapsWith→BP,compEnvC→BR,binaryOp→BS,NameKind→BU,slicePicked→BX,evalEach→B0,behindInMarks→B3,codeAny→B8,relabel→Ci,holding→Cj,typeLookup→Cu,typeIs_str→Cv,sysModules→Cw,wpAny_loadPart_at→CC,backToKw→CF,rawInt→CL,isSubtype→CO,call_meets→CP,wpAny_standAt→CS,ExceptHandler→CY,sliceBounds→CZ,wpAny_passesOwn→C4,letOwnedTupleGo→C5,noteFrame→Dc,GenState→Dj,swapsWithSole→Du,swappedStores→Dv,Result→DL,wpAny_execs_nil→DN,recursionLimit→DT,PyData→DZ,reprQuote→D4,lastMarks→D5,BindsTo→D7,Arguments→D8,comprehension→Ed,wpAny_Call_Name_kw→Ei,builtinsNs→El,wpAny_pyIter_list→Ex,wpAny_assign_Name→Ey,standAt→EA,codeAny_mono→ED,callerA→EE,wpAny_comp_letGo→EN,tupleKind→EO,setFlight→EQ,sliceIndices_le→E6,valueAt→E8,setItem→E9,reprText→Fc,newFunctionEnv→Fd,closureFor→Fe,again→Ff,wpAny_comprehension_free→Fu,Comprehension→Fy,wpAny_getItem_str_slice→Fz,cellsFrom→FF,bindL→FG,bindC→FH,atKey→FJ,CmpOp→FU,wpAny_noteFrame_againW→FV,seqIndex_neg→FX,leaving→FY,entryPlaceOf→F0,codeAny_compStart_list→Ga,OsState→Gb,exec_Assign_Name_used→Gi,wpAny_newFunctionEnv→Gr,wpAny_field→Gs,seqIndex_of→Gv,codeAny_call_builtin→Gz,Drawn→GG,wpAny_Name→GM,typeIs_int→GN,tupleKind_room_in1→GO,sliceRange→GP,IsPart→GS,wpAny_pyIter_enum→GX,wpAny_newObj_type→GY,slot_list_getitem→GZ,release→G0,newList→G1,wpAny_execs_cons→Hd,seqIndex?→He,checkBuiltinCall→Hf,PassesOwn→Hi,wpAny_loadPart'→Hx,theTreesLotGoes→Hy,setField→HE,bindArgs→HF,behindIsImport→HG,Operator→HH,intBits_le_64→HP,eval_ListComp→HQ,evalPart_none→HR,compTurn_list→HS
open Bool renaming and_eq_true→Ae,false_ne_true→Ar,false_eq_true→A8,eq_iff_iff→BW,true_and→CI,false_and→C3,eq_false_iff→D6,or_eq_true→GH,false_or→GV
open Or renaming inl→Am,inr→Dy
open PySem.Str renaming join→Ap,empty→Cp,length→DX
open Nat renaming lt_of_lt_of_le→Aq,le_refl→AF,le_trans→AN,lt_irrefl→AZ,ne_of_lt→Be,zero_le→BC,lt_of_succ_lt→Dg,le_add_right→Dq,min_eq_left→Ds,lt_trans→DU,mul_le_mul→Ej,min_eq_right→En,succ_mul→Ez,toDigits→Fh,le_of_lt→Fi,max_le→Gd,lt_succ_of_lt→Gj,le_succ_of_le→Gk,le_of_succ_le→Gm,repr→GQ,zero_add→Hj,sub_zero→Hk,sub_self→Hl,ne_of_gt→Hm,add_comm→Hn,log2_lt→HD,max_lt→HI
open PySem.Builtin.Str renaming strSliceIndices→Ay,reprChar→BV,tooLong→Dr,strKind→EM,strSub→HL,occurrences→HM
open PySem.Heap renaming get?_push_of_some→Az,lt_size→AL,get?_push_size→A9,SameBut→BD,get?_update_other→B7,get?_update_self→DB,size_push→GL
open PySem.W renaming Frag→AB,mg_of→Bn,nsIn→Bq,subIn→BG,mg_none_of→BK,findIn→B5,kia_one→Cr,hideAll_none→CD,kitOne→CN,hideAll→CU,typeIn→DH,keepIn→DJ,codeIn→Ek,looks_findIn→EB,exmOne→ET,hideAll_get→EY,excIn→EZ,clsIn→E1,specialIn→FC,methodObj→FD,fnOf→FZ,codeHdIn→Gy,instObj→G2
open PySem.PyData renaming strOk→AC,eqv→Do,canLay0→Dx,canLayAll0→DR,depthAll→Ee,depth→E3,eqvAll→GB
open Option renaming map_eq_some_iff→AD,some→CA,none→CB,bind_eq_some_iff→De,isSome_map→Fv,getD_none→FL,bind_some→FN
open PyProof.Rows renaming Keyed→AQ,kindOf→Cm,boot_isinstance→Cs,callWith_type1→Cy,envOfC→C6,boot_str→C7,boot_int→C8,AllBare→Da,SortKind→DY,boot_min→Em,pendingOf→ES,SortSt→Fg,arrOf→FK,subscriptTail_builtinR→FW,IntsAre→Gg,failedOf→Gx,callWith_builtin1→Hz,boot_list→HA,boot_any→HB,boot_all→HC,subscriptTail→HN
open Option.some renaming inj→AR,injEq→DD
open Int renaming le_trans→AX,emod_lt_of_pos→Bo,emod_nonneg→BA,mul_le_mul_of_nonneg_left→BO,eq_ofNat_of_zero_le→Cq,toNat_of_nonneg→CW,toNat_lt→DC,mul_nonneg→DI,le_of_lt→DV,lt_add_one_iff→D1,zero_add→Ew,mul_le_mul→EV,le_add_of_nonneg_right→EW,add_nonneg→EX,ofNat_lt→Fn,add_le_add_right→Fx,add_le_add_left→FR,lt_of_le_of_lt→Gh,min_le_right→GF,add_le_add→GU,add_assoc→G7,toNat_le→Hs,ne_of_gt→Ht,lt_trans→Hu,ediv_one→Hv,le_min→HJ
open PySem.PassesOwn renaming never→A6
open PySem.Value renaming ref→Ba,bool→Bs,none→C1,builtin→DO,str→D9,int→Ea,type→EF,isStrOf→GJ,isInt→G4,float→G5
open PySem.NameKind renaming free→Bp,cell→Ge
open True renaming intro→BM
open Sum renaming inr→Ck,inl→Eb
open PySem.Builtin.List renaming listTooLong→CK
open PySem.SeqAt renaming shaped→CQ
open Array renaming toList_append→CT,toList_inj→Dm,getElem?_toList→Dw,mem_toList_iff→DE,size_append→D2,all_eq_true_iff_forall_mem→D3,getElem?_eq_some_iff→EI,length_toList→Ft,toList→GW
open ForInStep renaming yield→Dh
open PySem.StrLaws renaming join_split→DK,subAt_one→Fq
open PySem.F renaming typeOf_object_class→DM,args_str_split_2→Ec,entry_str_split→Eo,slot_str_split→EG,slot_gs_get→Fo,slot_int_rmul→G9
open Nat.succ renaming inj→DP
open PySem.Obj renaming mapSeq→D0,mapFields→E7,data_mapFields→Gc
open And renaming intro→Ep
open PySem.Calls renaming Name_function_global→EH,evalArgs_plain→Fp
open Char renaming toNat→EL
open UInt32 renaming le_iff_toNat_le→E2
open ToString renaming toString→Gu
open PySem.Walks renaming strAscii→GA,strWide→GI,list→Hh
open PySem.Heap.IsSliceOf renaming new→G8
open List.Pairwise renaming nil→Hq,imp_of_mem→Hr
open PySem.Builtin.Range renaming rangeSize→Hw
open PySem.Heap.DictOf renaming new→HK
open PySem.SeqAt.EqAt renaming str_int→HU,int_str→HV
open Prod renaming ext→HW
open PySem.EntryCells renaming newEntry→HX
open List.cons renaming injEq→HY
open PySem.DictEntry renaming refKey→HZ
open PySem.AutoListH renaming list___mul___list_int_3→Ib
open PySem.W (isFn kitCls lookIn)

open Nat (lt_of_lt_of_le)

open Array (toList_append)

def PySem.W.Fast.tw11302220369455257934:=0
def PySem.W.Fast.tw4308246096391656432:=0
def PySem.W.Fast.tw3228801143012423018:=0
def PySem.W.Fast.tw11226982483354100935:=0
def PySem.W.Fast.tw8684519642699243497:=0
def PySem.W.Fast.tw16180220885872787332:=0
def PySem.W.Fast.tw122474655262433196:=0
def PySem.W.Fast.tw7833546697810082546:=0
def PySem.W.Fast.tw4731157338074526991:=0
def PySem.W.Fast.tw5765458697123223789:=0
def PySem.W.Fast.tw9891742548100750336:=0
def PySem.W.Fast.tw5405506854129343314:=0
theorem aT0 (h:True:=by first | exact .inl rfl | exact .inr rfl | assumption):True:=BM
theorem aT3 (h:True:=by first | exact Am rfl | exact Dy (Am rfl) | exact Dy (Dy rfl)):True:=BM
namespace L2
open PySem PySem.Spec PyProof.Rows
variable {H H':Hp}{a b it C dx:Addr}{o:Obj}{u cd:Value}{P prog:Av}{w:AO}{h h':AY}{x name m qual:Str}{e c tg l iter:Expr}{X:Cx}{pins pins' pl:List (Addr×Obj)}{σ:St}{s s':Ab}{g':Array Dj}{t' i j n tk:Nat}{d':GG}{ch fp:List Addr}{N ps ks:List Str}{M:Model}{A:AJ}{E Q:Value->Ab->Prop}{v:V}{α:Type}{pos pos' p apos:Pos}{ta tb te tl tc:TE}{t:TA}{K:AB}{st:Stmt}{es:List Expr}{g:List Value->List Value->List Value}{vs dvs:List V}{body:List Stmt}{op op':FU}{r r':R2}{f:Value->Value->Sem Value}{us ds:List Value}{mA mg:Str->Option Value}{fs':List (Str×V)}{CX:CXT}{fd:BB}{sp:Sp}{kws:List Bi}{nm:Option Str}{gV:List V->List V->List V}{sc scope:Scope}{outer:List Env}{params:D8}{an od:Option Addr}
abbrev Key:=Sum Int Str
def Zrz:Key->Value->Bool
 | .inl k,v=>G4 k v
 | .inr x,v=>GJ x v
def keyH (w:AO):Key->Int
 | .inl k=>hashInt k
 | .inr x=>hashStr w x
theorem Jb:∀{k:Key} {v:Value},Zrz k v=true->(∃i t,k=Eb i/\v=Ea i t)\/(∃x t,k=Ck x/\v=D9 x t)
 | .inl i,v,h=>by obtain ⟨t,e⟩:=Value.isInt_shape (k:=i) (v:=v) h;exact .inl ⟨i,t,rfl,e⟩
 | .inr x,v,h=>by obtain ⟨t,e⟩:=Value.isStrOf_shape (x:=x) (v:=v) h;exact .inr ⟨x,t,rfl,e⟩
theorem Zua (i:Int)(t:Tok):Zrz (.inl i) (.int i t)=true:=by simp [Zrz,G4]
theorem Zub (x:Str)(t:Tok):Zrz (.inr x) (.str x t)=true:=by simp [Zrz,GJ]
theorem Xpw (a b:Int):decide ((Eb a:Key)=Eb b)=(a==b):=by by_cases e:a=b;subst e;simp;have h:¬(Eb a:Key)=Eb b:=fun q=>e (Sum.inl.inj q);rw [decide_eq_false h];exact (beq_eq_false_iff_ne.mpr e).symm
theorem Xqw (a b:Str):decide ((Ck a:Key)=Ck b)=decide (a=b):=by by_cases e:a=b;subst e;simp;have h:¬(Ck a:Key)=Ck b:=fun q=>e (Sum.inr.inj q);rw [decide_eq_false h,decide_eq_false e]
theorem Xot (a:Int)(b:Str):decide ((Eb a:Key)=Ck b)=false:=decide_eq_false (fun q=>nomatch q)
theorem Xnu (a:Str)(b:Int):decide ((Ck a:Key)=Eb b)=false:=decide_eq_false (fun q=>nomatch q)
def Zas (prog:Av)(w:AO):PySem.KeyKind prog w Key where
 is:=Zrz
 hash:=keyH w
 inj:=fun v a b ha hb=>by
  rcases Jb ha with ⟨i,t,rfl,rfl⟩ | ⟨x,t,rfl,rfl⟩
  ·rcases Jb hb with ⟨j,u,rfl,e⟩ | ⟨y,u,rfl,e⟩
   ·injection e with e1 _;rw [e1]
   ·exact nomatch e
  ·rcases Jb hb with ⟨j,u,rfl,e⟩ | ⟨y,u,rfl,e⟩
   ·exact nomatch e
   ·injection e with e1 _;rw [e1]
 byValue:=fun k v h=>by
  rcases Jb h with ⟨i,t,rfl,rfl⟩ | ⟨x,t,rfl,rfl⟩<;>rfl
 pyHash:=fun hv h=>by
  rcases Jb hv with ⟨i,t,rfl,rfl⟩ | ⟨x,t,rfl,rfl⟩
  ·exact wpAny_pyHash_int h
  ·exact wpAny_pyHash_str h
 eqBool:=fun hu hv h=>by
  rcases Jb hu with ⟨i,t,rfl,rfl⟩ | ⟨x,t,rfl,rfl⟩
  ·rcases Jb hv with ⟨j,u,rfl,rfl⟩ | ⟨y,u,rfl,rfl⟩
   ·rw [Xpw] at h;exact wpAny_eqBool_int h
   ·rw [Xot] at h;exact HV i t y u _ _ _ _ h
  ·rcases Jb hv with ⟨j,u,rfl,rfl⟩ | ⟨y,u,rfl,rfl⟩
   ·rw [Xnu] at h;exact HU x t j u _ _ _ _ h
   ·rw [Xqw] at h;exact wpAny_eqBool_str h
 «strs»:=fun k x t v h=>by
  rcases Jb h with ⟨i,u,rfl,e⟩ | ⟨y,u,rfl,e⟩
  ·exact nomatch e
  ·injection e with e1 _
   subst e1
   cases v<;>rfl
theorem Zpd (prog:Av)(w:AO)(i:Int)(t:Tok):(Zas prog w).is (.inl i) (.int i t)=true:=Zua i t
theorem Zph (prog:Av)(w:AO)(x:Str)(t:Tok):(Zas prog w).is (.inr x) (.str x t)=true:=Zub x t
set_option genInjectivity true in
inductive V where
 | non | bl (b:Bool) | int (i:Int) | str (x:Str) | byt (b:Array UInt8) | flt (b:UInt64) | ref (a:Addr) | ty (n:String)
 deriving DecidableEq
def RelV:V->Value->Prop
 | .non,u=>u=C1
 | .bl b,u=>u=Bs b
 | .int i,u=>∃t,u=Ea i t
 | .str x,u=>∃t,u=D9 x t
 | .byt b,u=>∃t,u=Value.bytes b t
 | .flt b,u=>∃t,u=G5 b t
 | .ref a,u=>u=Ba a
 | .ty n,u=>u=EF n
abbrev Jj:List V->List Value->Prop:=Paired RelV
theorem Jj.length {xs:List V}{us:List Value}(r:Jj xs us):xs.length=us.length:=Paired.length r
theorem Jj.get:∀{xs:List V} {us:List Value} {i:Nat} {x:V},Jj xs us->xs[i]?=some x->∃u,us[i]?=some u/\RelV x u
 | _,_,_,_,.nil,e=>by simp at e
 | _,_,0,_,.cons r _,e=>by simp at e;subst e;exact ⟨_,rfl,r⟩
 | _,_,i+1,x,.cons _ t,e=>by obtain ⟨u,h1,h2⟩:=Jj.get (i:=i) (x:=x) t (by simpa using e);exact ⟨u,by simpa using h1,h2⟩
theorem Jj.set {x:V}{u:Value}(r:RelV x u):∀{xs:List V} {us:List Value} (i:Nat),Jj xs us->Jj (xs.set i x) (us.set i u)
 | _,_,_,.nil=>.nil
 | _,_,0,.cons _ t=>.cons r t
 | _,_,i+1,.cons q t=>.cons q (Jj.set r i t)
theorem Jj.append:∀{xs ys:List V} {us ws:List Value},Jj xs us->Jj ys ws->Jj (xs++ys) (us++ws)
 | _,_,_,_,.nil,s=>s
 | _,_,_,_,.cons r t,s=>.cons r (Jj.append t s)
theorem Jj.take:∀{xs:List V} {us:List Value} (n:Nat),Jj xs us->Jj (xs.take n) (us.take n)
 | _,_,0,_=>.nil
 | _,_,_+1,.nil=>.nil
 | _,_,n+1,.cons r t=>.cons r (Jj.take n t)
theorem Jj.drop:∀{xs:List V} {us:List Value} (n:Nat),Jj xs us->Jj (xs.drop n) (us.drop n)
 | _,_,0,r=>r
 | _,_,_+1,.nil=>.nil
 | _,_,n+1,.cons _ t=>Jj.drop n t
def Xfl:Option V->Option Value->Prop
 | some v,some u=>RelV v u
 | none,none=>True
 | _,_=>False
def KV {κ:Type}:List (κ×V)->List (κ×Value)->Prop:=Paired fun (p:κ×V) (q:κ×Value)=>p.1=q.1/\RelV p.2 q.2
def kV:Key->V
 | .inl i=>.int i
 | .inr x=>.str x
inductive HO where
 | lst (xs:List V)
 | tup (xs:List V)
 | dK (kvs:List (Key×V)) | dT (kvs:List (List Key×V))
 | set (S:Int->Bool) (n:Nat)
 | ins (C dx:Addr) (fs:List (Str×V))
 | own (x:Addr)
 | xd (fs:List (Str×V))
 | met (f x:Addr)
 | rng (lo hi:Int)
 | frz (o:Obj) (u:HO)
 | tbl (pos:Pos) (qual:Str)
 | ext (φ:AY->Prop)
abbrev Hp:=Addr->Option HO
def upd (H:Hp)(a:Addr)(o:HO):Hp:=fun b=>if b=a then some o else H b
theorem Ym {o:HO}:upd H a o a=some o:=by unfold upd;rw [if_pos rfl]
theorem Xl {o:HO}(h:b≠a):upd H a o b=H b:=by unfold upd;rw [if_neg h]
theorem ne_of {o u:HO}(h:H a=some o)(h':H b=some u)(d:o≠u):a≠b:=by intro e;subst e;rw [h] at h';exact d (AR h')
theorem Xw {o:HO}(h:H a=some o)(h':H b=none):a≠b:=by intro e;subst e;rw [h] at h';cases h'
section
variable (P:Av)(w:AO)
def Zar (H:Hp)(h:AY)(a:Addr):HO->Prop
 | .lst xs=>xs.length<=Ai/\∃(its:List Value) (n:Nat),Jj xs its/\h.get? a=some {cls:=.type "list",data:=.seq its.toArray n}
 | .tup xs=>xs.length<=Ai/\∃its:List Value,Jj xs its/\IsTup h a its.toArray
 | .dK kvs=>kvs.length<=Ai/\(a==Cw)=false/\∃vs,KV kvs vs/\h.DictOf (Zas P w) a vs
 | .dT kvs=>kvs.length<=Ai/\(a==Cw)=false/\∃xs:List (List Key×Addr×Value),
   Paired (fun (p:List Key×V) (q:List Key×Addr×Value)=>p.1=q.1/\H q.2.1=some (.tup (p.1.map kV))/\RelV p.2 q.2.2) kvs xs/\
   ∃o es ep,h.get? a=some o/\o.ExactDict/\o.data=.dict es ep/\es.toList=xs.map (entryOfKey (EO (Zas P w)))/\(xs.map (·.1)).Nodup
 | .set S n=>h.SetOf (intKind P w) a S n
 | .ins C dx fs=>H dx=some (.own a)/\fs.length<=1000/\dx≠a/\h.get? a=some (G2 C dx)/\
   ∃mA,h.Ns1 dx mA/\(∀f,Xfl (fs.lookup f) (mA f))/\PySem.Within mA (fs.map (·.1))
 | .own _=>∃o,h.get? a=some o
 | .xd fs=>∃mA,h.Ns1 a mA/\∀f,Xfl (fs.lookup f) (mA f)
 | .rng lo hi=>∃t u v,h.get? a=some {cls:=.type "range",data:=.fields #[.int lo t,.int hi u,.int 1 v]}
 | .frz o u=>h.get? a=some o/\Zar H h a u
 | .tbl pos qual=>∃ps,h.get? a=some {cls:=.none,data:=.fields ps}/\TriplesOk ps.toList/\∀v,codeAmong pos ps.toList=some v->∃c o vs t,v=.ref c/\H c=some (.frz o (.own 0))/\o.data=.fields vs/\vs[1]?=some (.str qual t)
 | .met f x=>h.get? a=some (FD (.ref f) (.ref x))
 | .ext φ=>φ h/\(∃o,h.get? a=some o)/\∀h1 h2:AY,φ h1->(∀o,h1.get? a=some o->h2.get? a=some o)->φ h2
def HOk (H:Hp)(h:AY):Prop:=∀a o,H a=some o->Zar P w H h a o
end
section
variable {o:HO}
theorem Zar.lt (x:Zar P w H h a o):a<h.objs.size:=by
 cases o with
 | lst xs=>obtain ⟨_,_,_,_,e⟩:=x;exact AL e
 | tup xs=>obtain ⟨_,_,_,p⟩:=x;exact p.lt
 | dK kvs=>obtain ⟨_,_,_,_,o,_,_,e,_⟩:=x;exact AL e
 | dT kvs=>obtain ⟨_,_,_,_,o,_,_,e,_⟩:=x;exact AL e
 | set S n=>obtain ⟨o,_,_,_,e,_⟩:=x;exact AL e
 | ins C dx fs=>obtain ⟨_,_,_,e,_⟩:=x;exact AL e
 | own y=>obtain ⟨_,e⟩:=x;exact AL e
 | xd fs=>obtain ⟨_,⟨_,_,_,e,_⟩,_⟩:=x;exact AL e
 | rng lo hi=>obtain ⟨_,_,_,e⟩:=x;exact AL e
 | frz ob u=>obtain ⟨e,_⟩:=x;exact AL e
 | tbl pos qual=>obtain ⟨_,e,_⟩:=x;exact AL e
 | met f y=>exact AL (show h.get? a=some _ from x)
 | ext φ=>obtain ⟨_,⟨_,e⟩,_⟩:=x;exact AL e
theorem Paired.mapP {α β:Type}{F G:α->β->Prop}:∀{l₁:List α} {l₂:List β},Paired F l₁ l₂->(∀a b,F a b->G a b)->Paired G l₁ l₂
 | _,_,.nil,_=>.nil
 | _,_,.cons r t,f=>.cons (f _ _ r) (Paired.mapP t f)
theorem Zar.stay (x:Zar P w H h a o)(k:∀b u,(b=a\/H b=some (.own a))->h.get? b=some u->h'.get? b=some u)
  (ho:∀b,H b=some (.own a)->H' b=some (.own a)) (ht:∀b xs,H b=some (.tup xs)->H' b=some (.tup xs)) (hf:∀b o u,H b=some (.frz o u)->H' b=some (.frz o u)):Zar P w H' h' a o:=by
 induction o with
 | lst xs=>obtain ⟨z,its,n,r,e⟩:=x;exact ⟨z,its,n,r,k _ _ (.inl rfl) e⟩
 | tup xs=>obtain ⟨z,its,r,ob,e,c⟩:=x;exact ⟨z,its,r,ob,k _ _ (.inl rfl) e,c⟩
 | dK kvs=>obtain ⟨z,y,vs,r,ob,es,ep,e,c⟩:=x;exact ⟨z,y,vs,r,ob,es,ep,k _ _ (.inl rfl) e,c⟩
 | dT kvs =>obtain ⟨z,y,xs,r,ob,es,ep,e,c⟩:=x;exact ⟨z,y,xs,Paired.mapP r fun p q z=>⟨z.1,ht _ _ z.2.1,z.2.2⟩,ob,es,ep,k _ _ (.inl rfl) e,c⟩
 | set S n=>obtain ⟨ob,es,ep,t,e,c⟩:=x;exact ⟨ob,es,ep,t,k _ _ (.inl rfl) e,c⟩
 | ins C dx fs =>obtain ⟨d,z,ne,e,mA,⟨od,es,ep,e2,c⟩,r⟩:=x;exact ⟨ho _ d,z,ne,k _ _ (.inl rfl) e,mA,⟨od,es,ep,k _ _ (.inr d) e2,c⟩,r⟩
 | own y=>obtain ⟨ob,e⟩:=x;exact ⟨ob,k _ _ (.inl rfl) e⟩
 | xd fs=>obtain ⟨mA,⟨od,es,ep,e,c⟩,r⟩:=x;exact ⟨mA,⟨od,es,ep,k _ _ (.inl rfl) e,c⟩,r⟩
 | rng lo hi=>obtain ⟨t,u,v,e⟩:=x;exact ⟨t,u,v,k _ _ (.inl rfl) e⟩
 | frz ob u ih=>obtain ⟨e,q⟩:=x;exact ⟨k _ _ (.inl rfl) e,ih q⟩
 | tbl pos qual =>obtain ⟨ps,e,tr,hc⟩:=x;refine ⟨ps,k a _ (.inl rfl) e,tr,fun v hv=>?_⟩;obtain ⟨c,o,vs,t,e1,e2,e3⟩:=hc v hv;exact ⟨c,o,vs,t,e1,hf _ _ _ e2,e3⟩
 | met f y =>have e:h.get? a=some (FD (.ref f) (.ref y)):=x;show h'.get? a=some (FD (.ref f) (.ref y));exact k a _ (.inl rfl) e
 | ext φ=>obtain ⟨p,⟨o,e⟩,st⟩:=x;exact ⟨st _ _ p fun o q=>k _ _ (.inl rfl) q,⟨o,k _ _ (.inl rfl) e⟩,st⟩
theorem HOk.lt (x:HOk P w H h)(e:H a=some o):a<h.objs.size:=(x a o e).lt
theorem HOk.fresh (x:HOk P w H h)(e:h.objs.size<=a):H a=none:=by
 cases q:H a with
 | none=>rfl
 | some u=>exact absurd (Aq (x.lt q) e) (AZ _)
theorem HOk.kept (x:HOk P w H h)(k:∀b u,h.get? b=some u->h'.get? b=some u):HOk P w H h':=fun a o e =>
 (x a o e).stay (fun b u _ q=>k b u q) (fun _ q=>q) (fun _ _ q=>q) fun _ _ _ q=>q
theorem HOk.laid (x:HOk P w H h)(k:∀b u,h.get? b=some u->h'.get? b=some u)(hp:h.objs.size<=a)(new:Zar P w (upd H a o) h' a o):HOk P w (upd H a o) h':=fun b u e=>by have hn:=x.fresh hp;by_cases hb:b=a;subst hb;rw [Ym] at e;cases e;exact new;rw [Xl hb] at e;exact (x b u e).stay (fun c v _ q=>k c v q) (fun c q=>by rw [Xl (Xw q hn)];exact q) (fun c xs q=>by rw [Xl (Xw q hn)];exact q) fun c ob u q=>by rw [Xl (Xw q hn)];exact q
end
def Rd (H:Hp)(a:Addr)(u:HO):Prop:=H a=some u\/∃o,H a=some (.frz o u)
theorem Rd.ok {u:HO}(r:Rd H a u)(x:HOk P w H h):Zar P w H h a u:=by rcases r with r | ⟨o,r⟩;exact x a u r;obtain ⟨_,q⟩:=x a _ r;exact q
def Mut:Option HO->Prop
 | some (.lst _)=>True
 | some (.dK _)=>True
 | some (.dT _)=>True
 | some (.set _ _)=>True
 | some (.ins _ _ _)=>True
 | some (.ext _)=>True
 | _=>False
section
variable {x e:Addr}{o':HO}
theorem HOk.write (ok:HOk P w H h)(mu:Mut (H x))(he:e=x\/H e=some (.own x))(k:∀b u,b≠e->h.get? b=some u->h'.get? b=some u)(heo:∃u,h'.get? e=some u)
  (new:Zar P w (upd H x o') h' x o'):HOk P w (upd H x o') h':=fun b u q=>by
 have nown:∀c y,H c=some (.own y)->c≠x:=fun c y r z=>by subst z;rw [r] at mu;exact mu
 have ntup:∀c xs,H c=some (.tup xs)->c≠x:=fun c xs r z=>by subst z;rw [r] at mu;exact mu
 have nfrz:∀c ob u,H c=some (.frz ob u)->c≠x:=fun c ob u r z=>by subst z;rw [r] at mu;exact mu
 by_cases hb:b=x;subst hb;rw [Ym] at q;cases q;exact new;rw [Xl hb] at q;by_cases hbe:b=e;have q':H b=some (.own x):=by rcases he with z | z;exact absurd (hbe.trans z) hb;rw [hbe];exact z
 rw [q] at q';cases q';obtain ⟨v,hv⟩:=heo;exact ⟨v,by rw [hbe];exact hv⟩;refine (ok b u q).stay (fun c v hc r=>k c v ?_ r) (fun c r=>by rw [Xl (nown c b r)];exact r) (fun c xs r=>by rw [Xl (ntup c xs r)];exact r) fun c ob u r=>by rw [Xl (nfrz c ob u r)];exact r
 rcases hc with rfl | hc;exact hbe;rintro rfl;rcases he with z | z;exact nown c b hc z;rw [hc] at z;cases z;exact hb rfl
end
structure Un (fs ex:List Addr)(H H':Hp)(h h':AY):Prop where
 keep:∀b o,h.get? b=some o->H b=none->b∉fs->b∉ex->h'.get? b=some o
 slot:∀b o,h.get? b=some o->H b=none->b∈fs->b∉ex->∃sl,h'.get? b=some {o with slots:=sl}
 free:∀b o,h.get? b=some o->H b=none->b∉ex->H' b=none
 there:∀b o,h.get? b=some o->b∉ex->∃o',h'.get? b=some o'
 tups:∀b xs,H b=some (.tup xs)->H' b=some (.tup xs)
 frzs:∀b o u,H b=some (.frz o u)->H' b=some (.frz o u)
 tbls:∀b p q,H b=some (.tbl p q)->H' b=some (.tbl p q)
section
variable {fs fs' ex ex':List Addr}{H1 H2:Hp}{h1 h2:AY}{x e:Addr}{o:HO}
theorem Un.any (u:Un fs ex H H1 h h1){ob:Obj}(q:h.get? b=some ob)(n:H b=none)(hx:b∉ex):∃sl,h1.get? b=some {ob with slots:=sl}:=by by_cases hb:b∈fs;exact u.slot b ob q n hb hx;exact ⟨ob.slots,u.keep b ob q n hb hx⟩
theorem Un.kept (k:∀b u,h.get? b=some u->h'.get? b=some u):Un fs ex H H h h':=⟨fun b ob q _ _ _=>k b ob q,fun b ob q _ _ _=>⟨ob.slots,k b ob q⟩,fun _ _ _ n _=>n,fun b ob q _=>⟨ob,k b ob q⟩,fun _ _ q=>q,fun _ _ _ q=>q,fun _ _ _ q=>q⟩
theorem Un.refl:Un fs ex H H h h:=Un.kept fun _ _ q=>q
theorem Un.laid (k:∀b u,h.get? b=some u->h'.get? b=some u)(hp:h.objs.size<=a)(hn:H a=none):Un fs ex H (upd H a o) h h' where
 keep:=fun b u q _ _ _=>k b u q
 slot:=fun b u q _ _ _=>⟨u.slots,k b u q⟩
 free:=fun b u q n _=>by rw [Xl (Be (Aq (AL q) hp))];exact n
 there:=fun b u q _=>⟨u,k b u q⟩
 tups:=fun b xs q=>by rw [Xl (Xw q hn)];exact q
 frzs:=fun b u xs q=>by rw [Xl (Xw q hn)];exact q
 tbls:=fun b p n q=>by rw [Xl (Xw q hn)];exact q
theorem Un.write (mu:Mut (H x))(he:e=x\/H e=some (.own x))(k:∀b u,b≠e->h.get? b=some u->h'.get? b=some u)(heo:∃u,h'.get? e=some u):Un fs ex H (upd H x o) h h':=by
  have hx:∀b,H b=none->b≠x:=fun b n z=>by subst z;rw [n] at mu;exact mu
  have hb:∀b,H b=none->b≠e:=fun b n z=>by subst z;rcases he with r | r;exact hx b n r;rw [n] at r;cases r
  have hm:∀b u,H b=some u->¬Mut (some u)->b≠x:=fun b u q nm z=>by subst z;rw [q] at mu;exact nm mu
  refine ⟨fun b u q n _ _=>k b u (hb b n) q,fun b u q n _ _=>⟨u.slots,k b u (hb b n) q⟩,fun b u q n _=>by rw [Xl (hx b n)];exact n,fun b u q _=>?_,
    fun b xs q=>by rw [Xl (hm b _ q fun z=>z)];exact q,fun b u xs q=>by rw [Xl (hm b _ q fun z=>z)];exact q,fun b p n q=>by rw [Xl (hm b _ q fun z=>z)];exact q⟩
  by_cases hbe:b=e;subst hbe;exact heo;exact ⟨u,k b u hbe q⟩
end
def trk (h:AY)(H:Hp):List Addr:=(A7 h.objs.size).filter fun a=>(H a).isSome
def Xcz (h:AY)(H:Hp):AY:=CU h (trk h H)
theorem Zxd (h:AY)(H:Hp):(Xcz h H).objs.size=h.objs.size:=PySem.W.hideAll_size _ _
theorem Xam (e:h.get? b=some o)(n:H b=none):(Xcz h H).get? b=some o:=EY _ e fun hm=>by have q:(H b).isSome=true:=(Et.mp hm).2;rw [n] at q;simp at q
theorem Xjv (e:(Xcz h H).get? b=some o):h.get? b=some o/\H b=none:=by
 have e':h.get? b=some o:=PySem.W.of_hideAll (trk h H) e;refine ⟨e',?_⟩;cases q:H b with
 | none=>rfl
 | some x =>have hm:b∈trk h H:=Et.mpr ⟨Bj.mpr (AL e'),by simp [q]⟩;have z:(Xcz h H).get? b=none:=CD (trk h H) hm;rw [z] at e;cases e
def Xhx (g h:AY)(L:Addr):List (Addr×Obj):=(A7 h.objs.size).filterMap fun a=>if a=L\/(g.get? a).isSome=true then none else (h.get? a).map fun o=>(a,o)
def rest (g h:AY)(L d:Addr):List (Addr×Obj):=(Xhx g h L).filter fun p=>decide (p.1≠d)
structure Mod (K:AB)(mg:Str->Option Value)(base:AY):Prop where
 kin:K.In base
 glob:base.Ns Ad mg
 blt:∃mb,base.Ns El mb/\∀x:Str,x≠"__name__"->mb x=Bc x
 nolimit:base.NoLimit
structure Cx where
 prog:Av
 w:AO
 K:AB
 mg:Str->Option Value
 base:AY
 A:AJ
 N:List Str
 s₀:Ab
 H₀:Hp
 env:Env
 outer:List Env
 stack:List Env
 ex:List Addr
 fn:Str->Bool
 calm:Bool
 pn:List (Addr×Obj)
 xe:Value->Ab->Prop
def frs (l:List Env):List Addr:=l.filterMap (·.frame)
abbrev Cx.fs (X:Cx):List Addr:=frs X.outer
def Vis (sc:Scope)(x:Str):Prop:=sc.names.lookup x=some .local\/sc.names.lookup x=some .cell\/sc.names.lookup x=some .free
def Loc (sc:Scope)(x:Str):Prop:=sc.names.lookup x=some .local\/sc.names.lookup x=some .cell
def Look (env:Env)(h:AY)(m:Str->Option Value)(x:Str)(u:Value):Prop:=
 (env.kindOf x=some .local/\m x=some u)\/((env.kindOf x=some .cell\/env.kindOf x=some .free)/\∃c,env.cells.lookup x=some c/\h.IsCell c (some u))
structure Cx.Ok (X:Cx):Prop where
 mod:Mod X.K X.mg X.base
 kind:X.env.scope.kind=.function
 glob:X.env.globals=Ad
 blt:X.env.builtins=El
 above:X.s₀.heap.objs.size<=X.env.locals
 inj:∀x y c,X.env.cells.lookup x=some c->X.env.cells.lookup y=some c->x=y
 has:∀x,(X.env.kindOf x=some .cell\/X.env.kindOf x=some .free)->∃c,X.env.cells.lookup x=some c
 cab:∀x c,X.fn x=true->X.env.cells.lookup x=some c->X.s₀.heap.objs.size<=c
 hd:X.calm=true->X.A.handled=none
 frames:X.A.frames=some X.stack
 stk:X.stack=X.outer\/(X.stack=X.env::X.outer/\X.env.frame=some X.env.locals)
 exf:∀b∈X.ex,b≠X.env.locals/\∀x c,X.env.cells.lookup x=some c->c≠b
 bs:∀b o,X.base.get? b=some o->X.s₀.heap.get? b=some o/\X.H₀ b=none
 bsz:X.base.objs.size<=X.s₀.heap.objs.size
 noex:∀b o,X.base.get? b=some o->b∉X.ex
 exfs:∀b∈X.ex,b∉X.fs
 funs:X.s₀.heap.FunFrames X.base X.outer
 frf:∀b∈X.fs,X.H₀ b=none
structure Inv (X:Cx)(pins:List (Addr×Obj))(σ:List (Option V))(H:Hp)(s:Ab):Prop where
 ok:X.Ok
 os:s.os=X.s₀.os
 bare:Da s.gens
 base:Un X.fs X.ex X.H₀ H X.s₀.heap s.heap
 loc:∃m,s.heap.Ns X.env.locals m/\∀(i:Nat) (x:Str) (v:V),X.N[i]?=some x->σ[i]?=some (some v)->Vis X.env.scope x->∃u,RelV v u/\Look X.env s.heap m x u
 cell:∀x c,X.env.cells.lookup x=some c->∃v,s.heap.IsCell c v
 free:H X.env.locals=none
 freeC:∀x c,X.env.cells.lookup x=some c->H c=none
 pin:∀p∈X.pn++pins,s.heap.get? p.1=some p.2/\H p.1=none/\p.1≠X.env.locals/\p.1∉X.fs/\∀v,p.2.data≠.cell v
 hok:HOk X.prog X.w H s.heap
 len:σ.length=X.N.length
section
variable {σ:List (Option V)}
theorem Cx.Ok.nofr (ok:X.Ok)(e:X.base.get? b=some o):b∉X.fs:=fun hb=>by have:=(ok.funs.mem hb).1;rw [e] at this;cases this
theorem Inv.bs (I:Inv X pins σ H s):∀b o,X.base.get? b=some o->s.heap.get? b=some o/\H b=none:=fun b o e =>
 ⟨I.base.keep b o (I.ok.bs b o e).1 (I.ok.bs b o e).2 (I.ok.nofr e) (I.ok.noex b o e),I.base.free b o (I.ok.bs b o e).1 (I.ok.bs b o e).2 (I.ok.noex b o e)⟩
theorem Inv.bk (I:Inv X pins σ H s):∀b o,X.base.get? b=some o->s.heap.get? b=some o:=fun b o e=>(I.bs b o e).1
theorem Inv.mod (I:Inv X pins σ H s):Mod X.K X.mg X.base:=I.ok.mod
theorem Inv.kIn (I:Inv X pins σ H s):X.K.In s.heap:=I.ok.mod.kin.keeps I.bk
theorem Inv.lt (I:Inv X pins σ H s):X.env.locals<s.heap.objs.size:=let ⟨_,hn,_⟩:=I.loc;hn.lt
theorem Inv.sz (I:Inv X pins σ H s):X.s₀.heap.objs.size<=s.heap.objs.size:=AN I.ok.above (Fi I.lt)
theorem Inv.nofs (I:Inv X pins σ H s)(h:s.heap.objs.size<=a):a∉X.fs:=fun hb=>by obtain ⟨_,o,ho,_⟩:=I.ok.funs.mem hb;exact absurd (Aq (AL ho) (AN I.sz h)) (AZ _)
theorem Inv.cne (I:Inv X pins σ H s):∀x c,X.env.cells.lookup x=some c->c≠X.env.locals:=fun x c e z=>by obtain ⟨v,o,ho,hd⟩:=I.cell x c e;obtain ⟨m,⟨o',es,ep,ho',hd',_⟩,_⟩:=I.loc;rw [z,ho'] at ho;cases ho;rw [hd'] at hd;cases hd
theorem Inv.funs (I:Inv X pins σ H s):s.heap.FunFrames X.base X.outer:=by
 have all:∀(l:List Env),(∀b∈frs l,b∈X.fs)->X.s₀.heap.FunFrames X.base l->s.heap.FunFrames X.base l:=by
  intro l
  induction l with
  | nil=>intro _ _;trivial
  | cons env r ih =>intro hs hl;obtain ⟨hk,⟨L,o,hf,hn,ho,hd⟩,hr⟩:=hl;have hL:L∈X.fs:=hs L (by unfold frs;rw [DQ,hf];exact BL);obtain ⟨sl,e⟩:=I.base.slot L o ho (I.ok.frf L hL) hL fun z=>I.ok.exfs L z hL;exact ⟨hk,⟨L,_,hf,hn,e,hd⟩,ih (fun b hb=>hs b (by unfold frs;rw [DQ,hf];exact Bg _ hb)) hr⟩
 exact all X.outer (fun _ hb=>hb) I.ok.funs
theorem Inv.stack (I:Inv X pins σ H s):s.heap.FunFrames X.base X.stack:=by rcases I.ok.stk with e | ⟨e,hf⟩;rw [e];exact I.funs;rw [e];obtain ⟨m,hn,_⟩:=I.loc;refine .cons (by rw [I.ok.kind];decide) hf hn ?_ I.funs;exact Heap.get?_none_of_le (AN I.ok.bsz I.ok.above)
theorem Inv.stkSub (I:Inv X pins σ H s):∀b∈frs X.stack,b∈X.env.locals::X.fs:=fun b hb=>by rcases I.ok.stk with e | ⟨e,hf⟩;rw [e] at hb;exact Bg _ hb;rw [e] at hb;unfold frs at hb;rw [DQ,hf] at hb;exact hb
theorem Inv.stkFree (I:Inv X pins σ H s):∀b∈frs X.stack,H b=none:=fun b hb=>by rcases Af.mp (I.stkSub b hb) with e | hb;rw [e];exact I.free;obtain ⟨_,o,ho,_⟩:=I.ok.funs.mem hb;exact I.base.free b o ho (I.ok.frf b hb) fun z=>I.ok.exfs b z hb
theorem Inv.step (I:Inv X pins σ H s)
  (hch:∀b∈ch,(b∈X.ex\/X.s₀.heap.objs.size<=b)/\b≠X.env.locals/\(∀x c,X.env.cells.lookup x=some c->c≠b)/\∀p∈X.pn++pins,p.1≠b)
  (keep:∀b o,b≠X.env.locals->b∉X.fs->b∉ch->s.heap.get? b=some o->H b=none->h'.get? b=some o)
  (slot:∀b o,b≠X.env.locals->b∈X.fs->b∉ch->s.heap.get? b=some o->H b=none->∃sl,h'.get? b=some {o with slots:=sl}) (free:∀b o,b∉ch->s.heap.get? b=some o->H b=none->H' b=none)
  (there:∀b o,b∉ch->s.heap.get? b=some o->∃o',h'.get? b=some o')
  (tups:∀b xs,H b=some (.tup xs)->H' b=some (.tup xs)) (frzs:∀b o u,H b=some (.frz o u)->H' b=some (.frz o u)) (tbls:∀b p n,H b=some (.tbl p n)->H' b=some (.tbl p n))
  (ns:∀m,s.heap.Ns X.env.locals m->h'.Ns X.env.locals m) (hok:HOk X.prog X.w H' h') (hg:Da g') :
  Inv X pins σ H' {s with heap:=h',gens:=g',drawn:=d',toks:=t'}:=by
 have neL:∀b o,X.s₀.heap.get? b=some o->b≠X.env.locals:=fun b o e=>Be (Aq (AL e) I.ok.above);have neC:∀b o,X.s₀.heap.get? b=some o->b∉X.ex->b∉ch:=fun b o e hx hb=>by rcases (hch b hb).1 with z | z;exact hx z;exact absurd (Aq (AL e) z) (AZ _)
 have cellK:∀x c,X.env.cells.lookup x=some c->∀v,s.heap.IsCell c v->h'.IsCell c v:=fun x c e v ⟨o,ho,hd⟩=>by have nch:c∉ch:=fun z=>(hch c z).2.2.1 x c e rfl;by_cases hc:c∈X.fs;obtain ⟨sl,q⟩:=slot c o (I.cne x c e) hc nch ho (I.freeC x c e);exact ⟨_,q,hd⟩;exact ⟨o,keep c o (I.cne x c e) hc nch ho (I.freeC x c e),hd⟩
 refine ⟨I.ok,I.os,hg,⟨fun b o e n hb hx=>?_,fun b o e n hb hx=>?_,fun b o e n hx=>?_,fun b o e hx=>?_,fun b xs e=>tups b xs (I.base.tups b xs e),fun b o xs e=>frzs b o xs (I.base.frzs b o xs e),fun b p n e=>tbls b p n (I.base.tbls b p n e)⟩,?_,fun x c e=>?_,?_,fun x c e=>?_,fun p hp=>?_,hok,I.len⟩;exact keep b o (neL b o e) hb (neC b o e hx) (I.base.keep b o e n hb hx) (I.base.free b o e n hx);obtain ⟨sl,e1⟩:=I.base.slot b o e n hb hx;obtain ⟨sl',e2⟩:=slot b _ (neL b o e) hb (neC b o e hx) e1 (I.base.free b o e n hx);exact ⟨sl',e2⟩;obtain ⟨o',e1⟩:=I.base.there b o e hx;exact free b o' (neC b o e hx) e1 (I.base.free b o e n hx);obtain ⟨o',e1⟩:=I.base.there b o e hx;exact there b o' (neC b o e hx) e1;obtain ⟨m,hn,hl⟩:=I.loc;refine ⟨m,ns m hn,fun i x v e1 e2 e3=>?_⟩;obtain ⟨u,r,l⟩:=hl i x v e1 e2 e3;refine ⟨u,r,?_⟩;rcases l with l | ⟨k,c,e,z⟩;exact .inl l;exact .inr ⟨k,c,e,cellK x c e _ z⟩;obtain ⟨v,z⟩:=I.cell x c e;exact ⟨v,cellK x c e v z⟩;obtain ⟨m,⟨o,_,_,ho,_⟩,_⟩:=I.loc;exact free _ o (fun z=>(hch _ z).2.1 rfl) ho I.free;obtain ⟨v,o,ho,hd⟩:=I.cell x c e;exact free c o (fun z=>(hch c z).2.2.1 x c e rfl) ho (I.freeC x c e);obtain ⟨e,n,ne,nf,d⟩:=I.pin p hp;have nch:p.1∉ch:=fun z=>(hch p.1 z).2.2.2 p hp rfl;exact ⟨keep p.1 p.2 ne nf nch e n,free p.1 p.2 nch e n,ne,nf,d⟩
theorem Inv.un (I:Inv X pins σ H s)(u:Un X.fs [] H H' s.heap h')(hok:HOk X.prog X.w H' h'):Inv X pins σ H' {s with heap:=h',toks:=t'}:=by
  obtain ⟨m,⟨o,es,ep,ho,r⟩,_⟩:=id I.loc;obtain ⟨sl,hL⟩:=u.any ho I.free (by simp);exact I.step (g':=s.gens) (d':=s.drawn) (ch:=[]) (fun _ z=>nomatch z) (fun b o _ hb _ e n=>u.keep b o e n hb (by simp)) (fun b o _ hb _ e n=>u.slot b o e n hb (by simp)) (fun b o _ e n=>u.free b o e n (by simp)) (fun b o _ e=>u.there b o e (by simp)) u.tups u.frzs u.tbls (fun m' hm=>by
    obtain ⟨o',es',ep',ho',r'⟩:=hm;rw [ho] at ho';cases ho';exact ⟨_,es',ep',hL,r'⟩) hok I.bare
theorem Inv.call (I:Inv X pins σ H s)(u:Un (frs X.stack) ch H H' s.heap h')(hok:HOk X.prog X.w H' h')(hg:Da g')
    (hch:∀b∈ch,(b∈X.ex\/X.s₀.heap.objs.size<=b)/\b≠X.env.locals/\(∀x c,X.env.cells.lookup x=some c->c≠b)/\∀p∈X.pn++pins,p.1≠b) :
    Inv X pins σ H' {s with heap:=h',gens:=g',drawn:=d',toks:=t'}:=by
  obtain ⟨m,⟨o,es,ep,ho,r⟩,_⟩:=id I.loc;obtain ⟨sl,hL⟩:=u.any ho I.free fun z=>(hch _ z).2.1 rfl;exact I.step (ch:=ch) hch (fun b o hL hb hc e n=>u.keep b o e n (fun z=>(Af.mp (I.stkSub b z)).elim hL hb) hc) (fun b o _ _ hc e n=>u.any e n hc) (fun b o hc e n=>u.free b o e n hc) (fun b o hc e=>u.there b o e hc) u.tups u.frzs u.tbls (fun m' hm=>by
    obtain ⟨o',es',ep',ho',r'⟩:=hm;rw [ho] at ho';cases ho';exact ⟨_,es',ep',hL,r'⟩) hok hg
theorem Inv.turned (I:Inv X pins σ H s)(k:∀b o,b≠it->s.heap.get? b=some o->h'.get? b=some o)(hn:H it=none)(hL:it≠X.env.locals)
  (h1:it∈X.ex\/X.s₀.heap.objs.size<=it) (h2:∀x c,X.env.cells.lookup x=some c->c≠it) (h3:∀p∈X.pn++pins,p.1≠it):Inv X pins σ H {s with heap:=h',toks:=t'}:=by
 have nit:∀b u,H b=some u->b≠it:=fun b u e z=>by rw [z,hn] at e;cases e
 refine I.step (g':=s.gens) (d':=s.drawn) (ch:=[it]) (fun b hb=>?_) (fun b o _ _ hc e _=>k b o (fun z=>hc (by simp [z])) e) (fun b o _ _ hc e _=>⟨o.slots,k b o (fun z=>hc (by simp [z])) e⟩) (fun _ _ _ _ n=>n)
  (fun b o hc e=>⟨o,k b o (fun z=>hc (by simp [z])) e⟩) (fun _ _ e=>e) (fun _ _ _ e=>e) (fun _ _ _ e=>e) (fun m hm=>?_) (fun b u e=>?_) I.bare
 have e:b=it:=by simpa using hb
 subst e;exact ⟨h1,hL,h2,h3⟩;obtain ⟨o,es,ep,ho,r⟩:=hm;exact ⟨o,es,ep,k _ o (Ne.symm hL) ho,r⟩;refine (I.hok b u e).stay (fun c v hc q=>k c v ?_ q) (fun _ q=>q) (fun _ _ q=>q) fun _ _ _ q=>q;rcases hc with z | z;rw [z];exact nit b u e;exact nit c _ z
theorem Inv.tok (I:Inv X pins σ H s)(t:Nat):Inv X pins σ H {s with toks:=t}:=I.un (h':=s.heap) (t':=t) Un.refl I.hok
theorem Inv.kept {t':Nat}(I:Inv X pins σ H s)(k:∀b u,s.heap.get? b=some u->h'.get? b=some u):Inv X pins σ H {s with heap:=h',toks:=t'}:=I.un (Un.kept k) (I.hok.kept k)
theorem Inv.laid {a:Addr}{o:HO}{t':Nat}(I:Inv X pins σ H s)(k:∀b u,s.heap.get? b=some u->h'.get? b=some u)(hp:s.heap.objs.size<=a)(new:Zar X.prog X.w (upd H a o) h' a o) :
  Inv X pins σ (upd H a o) {s with heap:=h',toks:=t'}:=I.un (Un.laid k hp (I.hok.fresh hp)) (I.hok.laid k hp new)
theorem Inv.write {x e:Addr}{o:HO}{t':Nat}(I:Inv X pins σ H s)(mu:Mut (H x))(he:e=x\/H e=some (.own x))(k:∀b u,b≠e->s.heap.get? b=some u->h'.get? b=some u)(heo:∃u,h'.get? e=some u)
  (new:Zar X.prog X.w (upd H x o) h' x o):Inv X pins σ (upd H x o) {s with heap:=h',toks:=t'}:=I.un (Un.write mu he k heo) (I.hok.write mu he k heo new)
theorem Inv.pins_of (I:Inv X pins σ H s)(h:∀p∈pins',s.heap.get? p.1=some p.2/\H p.1=none/\p.1≠X.env.locals/\p.1∉X.fs/\∀v,p.2.data≠.cell v):Inv X pins' σ H s:=⟨I.ok,I.os,I.bare,I.base,I.loc,I.cell,I.free,I.freeC,fun p hp=>(An.mp hp).elim (fun z=>I.pin p (As _ z)) (h p),I.hok,I.len⟩
theorem Zpy (hN:N.Nodup)(a:N[i]?=some x)(b:N[j]?=some x):i=j:=by obtain ⟨h1,e1⟩:=Ah.mp a;obtain ⟨h2,e2⟩:=Ah.mp b;exact (List.getElem_inj hN).mp (e1.trans e2.symm)
theorem Zht {Q:Unit->Ab->Prop}(I:Inv X pins σ H s)(hN:X.N.Nodup)(hi:X.N[i]?=some x)(hx:Loc X.env.scope x)(r:RelV v u)
  (h:∀s',Inv X pins (σ.set i (some v)) H s'->(∃a,BD a s.heap s'.heap/\(a=X.env.locals\/X.env.cells.lookup x=some a))->Q () s') (hf:autoParam (X.fn x=true\/X.env.scope.names.lookup x=some .local) aT0._auto_1):Au M A (storeName X.env x u) Q E s:=by
 obtain ⟨m,hn,hl⟩:=id I.loc;have hcls:(X.env.scope.kind==.class||(X.env.scope.kind==.module&&X.env.locals != X.env.globals))=false:=by rw [I.ok.kind];rfl
 have hiσ:i<σ.length:=by rw [I.len];exact (Ah.mp hi).1
 have cne:=I.cne;have tracked:∀{a:Addr} {h':AY},(∃o,s.heap.get? a=some o/\H a=none)->BD a s.heap h'->HOk X.prog X.w H h':=fun {a h'} ha hs b ob e=>by obtain ⟨_,_,hfree⟩:=ha;refine (I.hok b ob e).stay (fun c w' hc q=>(hs.2 c ?_).trans q) (fun _ q=>q) (fun _ _ q=>q) fun _ _ _ q=>q;rintro rfl;rcases hc with rfl | hc;rw [hfree] at e;cases e;rw [hfree] at hc;cases hc
 rcases hx with hk | hk;refine wpAny_storeName_local hk hn (fun h' hn' hs=>?_) hcls;obtain ⟨oL,_,_,hoL,_⟩:=id hn;refine h _ ⟨I.ok,I.os,I.bare,⟨fun b o e n hb hx=>?_,fun b o e n hb hx=>?_,I.base.free,fun b o e hx=>?_,I.base.tups,I.base.frzs,I.base.tbls⟩,⟨_,hn',fun j y v' e1 e2 e3=>?_⟩,fun y c e=>?_,I.free,I.freeC,fun p hp=>?_,tracked ⟨oL,hoL,I.free⟩ hs,by simpa using I.len⟩ ⟨_,hs,.inl rfl⟩;exact (hs.2 b (Be (Aq (AL e) I.ok.above))).trans (I.base.keep b o e n hb hx);obtain ⟨sl,e1⟩:=I.base.slot b o e n hb hx;exact ⟨sl,(hs.2 b (Be (Aq (AL e) I.ok.above))).trans e1⟩;obtain ⟨o',e1⟩:=I.base.there b o e hx;exact ⟨o',(hs.2 b (Be (Aq (AL e) I.ok.above))).trans e1⟩;by_cases hj:j=i;subst hj;rw [hi] at e1;cases e1;rw [B6 hiσ] at e2;cases e2;exact ⟨u,r,.inl ⟨hk,by simp⟩⟩;rw [BZ (Ne.symm hj)] at e2;obtain ⟨u',r',q⟩:=hl j y v' e1 e2 e3;refine ⟨u',r',?_⟩;rcases q with ⟨k,e⟩ | ⟨k,c,e,z⟩;refine .inl ⟨k,?_⟩;have:y≠x:=fun e=>hj (Zpy hN e1 (e▸hi));simp [this,e];exact .inr ⟨k,c,e,z.sameBut hs (cne y c e)⟩;obtain ⟨w',z⟩:=I.cell y c e;exact ⟨w',z.sameBut hs (cne y c e)⟩;obtain ⟨e,n,ne,nf,d⟩:=I.pin p hp;exact ⟨(hs.2 p.1 ne).trans e,n,ne,nf,d⟩;have hfn:X.fn x=true:=by rcases hf with z | z;exact z;rw [z] at hk;cases hk
 obtain ⟨c,hc⟩:=I.ok.has x (.inl hk);obtain ⟨w',z⟩:=I.cell x c hc;refine wpAny_storeName_cell I.ok.kind hk hc z (fun h' hc' hs=>?_);obtain ⟨oc,hoc,hocd⟩:=id z;refine h {s with heap:=h'} ⟨I.ok,I.os,I.bare,⟨fun b o e n hb hx=>?_,fun b o e n hb hx=>?_,I.base.free,fun b o e hx=>?_,I.base.tups,I.base.frzs,I.base.tbls⟩,⟨m,hn.sameBut hs (Ne.symm (cne x c hc)),fun j y v' e1 e2 e3=>?_⟩,fun y c' e=>?_,I.free,I.freeC,fun p hp=>?_,tracked ⟨oc,hoc,I.freeC x c hc⟩ hs,by simpa using I.len⟩ ⟨c,hs,.inr hc⟩;exact (hs.2 b (Be (Aq (AL e) (I.ok.cab x c hfn hc)))).trans (I.base.keep b o e n hb hx);obtain ⟨sl,e1⟩:=I.base.slot b o e n hb hx;exact ⟨sl,(hs.2 b (Be (Aq (AL e) (I.ok.cab x c hfn hc)))).trans e1⟩;obtain ⟨o',e1⟩:=I.base.there b o e hx;exact ⟨o',(hs.2 b (Be (Aq (AL e) (I.ok.cab x c hfn hc)))).trans e1⟩;by_cases hj:j=i;subst hj;rw [hi] at e1;cases e1;rw [B6 hiσ] at e2;cases e2;exact ⟨u,r,.inr ⟨.inl hk,c,hc,hc'⟩⟩;rw [BZ (Ne.symm hj)] at e2;obtain ⟨u',r',q⟩:=hl j y v' e1 e2 e3;refine ⟨u',r',?_⟩;rcases q with q | ⟨k,c',e,z'⟩;exact .inl q;refine .inr ⟨k,c',e,z'.sameBut hs ?_⟩;rintro rfl;exact hj (Zpy hN e1 (I.ok.inj _ _ _ e hc▸hi));by_cases hcc:c'=c;subst hcc;exact ⟨_,hc'⟩;obtain ⟨w2,z2⟩:=I.cell y c' e;exact ⟨w2,z2.sameBut hs hcc⟩;obtain ⟨e,n,ne,nf,d⟩:=I.pin p hp;refine ⟨(hs.2 p.1 ?_).trans e,n,ne,nf,d⟩;intro q;rw [q,hoc] at e;have q':oc=p.2:=AR e;exact d w' (by rw [<- q'];exact hocd)
theorem Zli {Q:Unit->Ab->Prop}(I:Inv X pins σ H s)(hN:X.N.Nodup)(hi:X.N[i]?=some x)(hx:Loc X.env.scope x)(r:RelV v u)
  (h:∀s',Inv X pins (σ.set i (some v)) H s'->Q () s') (hf:autoParam (X.fn x=true\/X.env.scope.names.lookup x=some .local) aT0._auto_1):Au M A (storeName X.env x u) Q E s:=
 Zht I hN hi hx r (fun s' I' _=>h s' I') hf
theorem Inv.call' (I:Inv X pins σ H s)(ho:s'.os=s.os)(u:Un (frs X.stack) ch H H' s.heap s'.heap)(hok:HOk X.prog X.w H' s'.heap)(hg:Da s'.gens)
  (hch:∀b∈ch,(b∈X.ex\/X.s₀.heap.objs.size<=b)/\b≠X.env.locals/\(∀x c,X.env.cells.lookup x=some c->c≠b)/\∀p∈X.pn++pins,p.1≠b):Inv X pins σ H' s':=by
 obtain ⟨h',g',d',t',o'⟩:=s';have e:o'=s.os:=ho;subst e;exact I.call (g':=g') (t':=t') (d':=d') u hok hg hch
end
abbrev XK:=Value->Option Addr->Hp->Prop
abbrev St:=List (Option V)
abbrev VK:=V->Hp->Prop
abbrev TE:=St->Hp->VK->Prop
abbrev TT:=St->Hp->(Bool->Hp->Prop)->Prop
abbrev TA:=St->Hp->(List V->Hp->Prop)->Prop
structure Ends where
 nx:St->Hp->Prop
 rt:VK
 bk:St->Hp->Prop:=fun _ _=>False
 ct:St->Hp->Prop:=fun _ _=>False
abbrev TS:=Ends->St->Hp->Prop
def EP (X:Cx)(pins:List (Addr×Obj))(σ:St)(Q:VK)(u:Value)(s':Ab):Prop:=∃v H',Inv X pins σ H' s'/\RelV v u/\Q v H'
def TP (X:Cx)(pins:List (Addr×Obj))(σ:St)(Q:Bool->Hp->Prop)(b:Bool)(s':Ab):Prop:=∃H',Inv X pins σ H' s'/\Q b H'
def AP (X:Cx)(pins:List (Addr×Obj))(σ:St)(Q:List V->Hp->Prop)(us:List Value)(s':Ab):Prop:=∃vs H',Inv X pins σ H' s'/\Jj vs us/\Q vs H'
def SP (X:Cx)(pins:List (Addr×Obj))(D:Ends)(f:Flow)(s':Ab):Prop:=
 match f with
 | .next=>∃σ' H',Inv X pins σ' H' s'/\D.nx σ' H'
 | .brk=>∃σ' H',Inv X pins σ' H' s'/\D.bk σ' H'
 | .cont=>∃σ' H',Inv X pins σ' H' s'/\D.ct σ' H'
 | .ret u=>∃v σ' H',Inv X pins σ' H' s'/\RelV v u/\D.rt v H'
def PE (X:Cx)(e:Expr)(t:TE):Prop:=
 ∀(pins:List (Addr×Obj)) (s:Ab) (σ:St) (H:Hp) (Q:VK),Inv X pins σ H s->t σ H Q->Au (Ao X.prog X.w) X.A (AM e X.env) (EP X pins σ Q) X.xe s
def PT (X:Cx)(e:Expr)(t:TT):Prop:=
 ∀(pins:List (Addr×Obj)) (s:Ab) (σ:St) (H:Hp) (Q:Bool->Hp->Prop),Inv X pins σ H s->t σ H Q->Au (Ao X.prog X.w) X.A (isTrue e X.env (AM e X.env)) (TP X pins σ Q) X.xe s
def PW (X:Cx)(e:Expr)(t:TT):Prop:=
 ∀(whole:Sem Value) (pins:List (Addr×Obj)) (s:Ab) (σ:St) (H:Hp) (Q:Bool->Hp->Prop),Inv X pins σ H s->t σ H Q->Au (Ao X.prog X.w) X.A (isTrue e X.env whole) (TP X pins σ Q) X.xe s
theorem PW.pt {t:TT}(h:PW X e t):PT X e t:=h _
def PA (X:Cx)(es:List Expr)(t:TA):Prop:=
 ∀(pos:Pos) (pins:List (Addr×Obj)) (s:Ab) (σ:St) (H:Hp) (Q:List V->Hp->Prop),Inv X pins σ H s->t σ H Q->Au (Ao X.prog X.w) X.A (spliced (AW pos (Ac es X.env))) (AP X pins σ Q) X.xe s
def PS (X:Cx)(st:Stmt)(t:TS):Prop:=
 ∀(pins:List (Addr×Obj)) (s:Ab) (σ:St) (H:Hp) (D:Ends),Inv X pins σ H s->t D σ H->Au (Ao X.prog X.w) X.A (exec st X.env) (SP X pins D) X.xe s
def PSs (X:Cx)(st:List Stmt)(t:TS):Prop:=
 ∀(pins:List (Addr×Obj)) (s:Ab) (σ:St) (H:Hp) (D:Ends),Inv X pins σ H s->t D σ H->Au (Ao X.prog X.w) X.A (execs st X.env) (SP X pins D) X.xe s
theorem thn {t:Sem α}{Q Q':α->Ab->Prop}(h:Au M A t Q E s)(hQ:∀a s,Q a s->Q' a s):Au M A t Q' E s:=Ax h hQ fun _ _ x=>x
section
def Ztk (i:Nat):TE:=fun σ H Q=>∃v,σ[i]?=some (some v)/\Q v H
def tC (v:V):TE:=fun _ H Q=>Q v H
theorem Xog (hN:X.N[i]?=some x)(hv:Vis X.env.scope x)(hd:(x==("__debug__":Str))=false:=by decide)(hcd:(x==("__classdict__":Str))=false:=by decide):PE X (.Name x pos) (Ztk i):=by intro pins s σ H Q I h;obtain ⟨v,e,h⟩:=h;obtain ⟨m,hn,hl⟩:=I.loc;obtain ⟨u,r,l⟩:=hl i x v hN e hv;have fin:EP X pins σ Q u s:=⟨v,H,I,r,h⟩;rcases l with ⟨hk,hm⟩ | ⟨hk,c,hc,hcell⟩;exact GM (wpAny_loadName_local I.ok.kind hk hn hm fin) hd;rcases hk with hk | hk;exact GM (wpAny_loadName_cell I.ok.kind hk hc hcell fin) hd;exact GM (wpAny_loadName_free I.ok.kind hk hc hcell fin hcd) hd
theorem Xnf {i j pos}:PE X (.Constant (.int i) j pos) (tC (.int i)):=fun _ _ _ H _ I h=>wpAny_Constant_int ⟨.int i,H,I.tok _,⟨_,rfl⟩,h⟩
theorem pe_bl {b j pos}:PE X (.Constant (.bool b) j pos) (tC (.bl b)):=fun _ _ _ H _ I h=>Constant_bool ⟨.bl b,H,I,rfl,h⟩
theorem Xnk {j pos}:PE X (.Constant .none j pos) (tC .non):=fun _ _ _ H _ I h=>Constant_none ⟨.non,H,I,rfl,h⟩
theorem Xqv {x j pos}:PE X (.Constant (.str x) j pos) (tC (.str x)):=fun _ _ _ H _ I h=>Calls.Constant_str ⟨.str x,H,I.tok _,⟨_,rfl⟩,h⟩
def Gl (X:Cx)(x:Str):Prop:=X.env.kindOf x=some .globalImplicit
theorem Zky (I:Inv X pins σ H s)(hg:Gl X x)(hm:X.mg x=some u)(h:Q u s)
  (hd:(x==("__debug__":Str))=false:=by decide):Au (Ao X.prog X.w) X.A (AM (.Name x pos) X.env) Q E s:=
 EH I.ok.kind hg (Calls.loadGlobal_global (by rw [I.ok.glob];exact I.mod.glob.keeps I.bk) hm h) hd
theorem Zlq (I:Inv X pins σ H s)(hg:Gl X x)(hm:X.mg x=none)(hv:Bc x=some u)(h:Q u s)
  (hn:x≠"__name__":=by decide) (hd:(x==("__debug__":Str))=false:=by decide):Au (Ao X.prog X.w) X.A (AM (.Name x pos) X.env) Q E s:=by
 obtain ⟨mb,h1,h2⟩:=I.mod.blt;exact EH I.ok.kind hg (Calls.loadGlobal_builtin (by rw [I.ok.glob];exact I.mod.glob.keeps I.bk) hm (by rw [I.ok.blt];exact h1.keeps I.bk) ((h2 x hn).trans hv) h) hd
theorem Xkr (hg:Gl X x)(hm:X.mg x=some u)(r:RelV v u)(hd:(x==("__debug__":Str))=false:=by decide):PE X (.Name x pos) (tC v):=fun _ _ _ H _ I h=>Zky I hg hm ⟨v,H,I,r,h⟩ hd
theorem Xfm (hg:Gl X x)(hm:X.mg x=none)(hv:Bc x=some u)(r:RelV v u)(hn:x≠"__name__":=by decide)(hd:(x==("__debug__":Str))=false:=by decide):PE X (.Name x pos) (tC v):=fun _ _ _ H _ I h=>Zlq I hg hm hv ⟨v,H,I,r,h⟩ hn hd
variable {a b:Expr}
def tB (t:TE):TT:=fun σ H Q=>t σ H fun x H1=>∃c,x=.bl c/\Q c H1
theorem Xqd {t:TE}(h:PE X e t)(he:∀whole,isTrue e X.env whole=(do let v <- whole;EA e.pos;Cj [v] (truthy v)):=by intro _;rfl):PT X e (tB t):=by intro pins s σ H Q I hw;refine isTrue_plain (thn (h pins s σ H _ I hw) fun v s1 hz9=>?_) (he _);obtain ⟨x,H1,I1,r1,q1⟩:=hz9;obtain ⟨d,rfl,q⟩:=q1;cases r1;exact Bf ⟨H1,I1,q⟩
variable {tA tB':TT}{rest:List Expr}
def tAnd (t u:TT):TT:=fun σ H Q=>t σ H fun c H1=>if c=true then u σ H1 Q else Q false H1
def tOr (t u:TT):TT:=fun σ H Q=>t σ H fun c H1=>if c=true then Q true H1 else u σ H1 Q
def tNot (t:TT):TT:=fun σ H Q=>t σ H fun c H1=>Q (!c) H1
theorem Xgo (ha:PT X a tA):PW X (.BoolOp .And [a] pos) tA:=by
 intro wh pins s σ H Q I h;refine isTrue_and (thn (ha pins s σ H Q I h) fun c s1 e=>?_);cases c with
 | true=>exact isTrue_and_nil e
 | false=>exact e
theorem Xmf (ha:PT X a tA):PW X (.BoolOp .Or [a] pos) tA:=by
 intro wh pins s σ H Q I h;refine isTrue_or (thn (ha pins s σ H Q I h) fun c s1 e=>?_);cases c with
 | false=>exact isTrue_or_nil e
 | true=>exact e
theorem Xpt (ha:PT X a tA)(hb:PW X (.BoolOp .And (b::rest) pos) tB'):PW X (.BoolOp .And (a::b::rest) pos) (tAnd tA tB'):=by
 intro wh pins s σ H Q I h;refine isTrue_and (thn (ha pins s σ H _ I h) fun c s1 ⟨H1,I1,q1⟩=>?_);cases c with
 | true=>exact hb wh pins s1 σ H1 Q I1 q1
 | false=>exact ⟨H1,I1,q1⟩
theorem pw_or (ha:PT X a tA)(hb:PW X (.BoolOp .Or (b::rest) pos) tB'):PW X (.BoolOp .Or (a::b::rest) pos) (tOr tA tB'):=by
 intro wh pins s σ H Q I h;refine isTrue_or (thn (ha pins s σ H _ I h) fun c s1 ⟨H1,I1,q1⟩=>?_);cases c with
 | true=>exact ⟨H1,I1,q1⟩
 | false=>exact hb wh pins s1 σ H1 Q I1 q1
theorem Xlu (ha:PT X a tA):PT X (.UnaryOp .Not a pos) (tNot tA):=by intro pins s σ H Q I h;exact isTrue_not (ha pins s σ H (fun c H1=>Q (!c) H1) I h)
def Xbr (ta tb:TE):TE:=fun σ H Q=>ta σ H fun x H1=>∃c,x=.bl c/\if c=true then tb σ H1 Q else Q (.bl false) H1
def tOrV (ta tb:TE):TE:=fun σ H Q=>ta σ H fun x H1=>∃c,x=.bl c/\if c=true then Q (.bl true) H1 else tb σ H1 Q
def Xaf (ta:TE):TE:=fun σ H Q=>ta σ H fun x H1=>∃c,x=.bl c/\Q (.bl (!c)) H1
theorem Xqf {op}{t:TE}(h:PE X a t):PE X (.BoolOp op [a] pos) t:=fun pins s σ H Q I hw=>BoolOp_one (h pins s σ H Q I hw)
theorem Xpp (ha:PE X a ta)(hb:PE X (.BoolOp .And (b::rest) pos) tb):PE X (.BoolOp .And (a::b::rest) pos) (Xbr ta tb):=by
 intro pins s σ H Q I h;refine BoolOp_and (thn (ha pins s σ H _ I h) fun v s1 hz9=>?_);obtain ⟨x,H1,I1,r1,q1⟩:=hz9;obtain ⟨c,rfl,q1⟩:=q1;cases r1;refine Bf ?_;cases c with
 | true=>exact hb pins s1 σ H1 Q I1 q1
 | false=>exact ⟨.bl false,H1,I1,rfl,q1⟩
theorem pe_or (ha:PE X a ta)(hb:PE X (.BoolOp .Or (b::rest) pos) tb):PE X (.BoolOp .Or (a::b::rest) pos) (tOrV ta tb):=by
 intro pins s σ H Q I h;refine BoolOp_or (thn (ha pins s σ H _ I h) fun v s1 hz9=>?_);obtain ⟨x,H1,I1,r1,q1⟩:=hz9;obtain ⟨c,rfl,q1⟩:=q1;cases r1;refine Bf ?_;cases c with
 | false=>exact hb pins s1 σ H1 Q I1 q1
 | true=>exact ⟨.bl true,H1,I1,rfl,q1⟩
theorem Xls (ha:PE X a ta):PE X (.UnaryOp .Not a pos) (Xaf ta):=by intro pins s σ H Q I h;refine UnaryOp_ (thn (ha pins s σ H _ I h) fun v s1 hz9=>?_);obtain ⟨x,H1,I1,r1,q1⟩:=hz9;obtain ⟨c,rfl,q1⟩:=q1;cases r1;exact not_of (Bf ⟨.bl (!c),H1,I1,rfl,q1⟩)
def tIf (t:TT)(ta tb:TE):TE:=fun σ H Q=>t σ H fun c H1=>if c=true then ta σ H1 Q else tb σ H1 Q
theorem Zzc (hc:PT X c tA)(ha:PE X a ta)(hb:PE X b tb):PE X (.IfExp c a b pos) (tIf tA ta tb):=by
 intro pins s σ H Q I h;refine wpAny_IfExp (thn (hc pins s σ H _ I h) fun d s1 ⟨H1,I1,q1⟩=>?_);cases d with
 | true=>exact ha pins s1 σ H1 Q I1 q1
 | false=>exact hb pins s1 σ H1 Q I1 q1
end
def SqL (K:AB)(H:Hp)(a:Addr)(xs:List V):Prop:=
 Rd H a (.lst xs)\/
  ∃(o:Obj) (its:Array Value) (n:Nat),K.lookup a=some o/\o.cls=.type "list"/\o.dict=none/\o.data=.seq its n/\its.size<=Ai/\Jj xs its.toList
def SqT (K:AB)(H:Hp)(a:Addr)(xs:List V):Prop:=
 Rd H a (.tup xs)\/
  ∃(o:Obj) (its:Array Value) (n:Nat),K.lookup a=some o/\o.cls=.type "tuple"/\o.data=.seq its n/\its.size<=Ai/\Jj xs its.toList
def absV:Value->Option V
 | .none=>some .non
 | .bool b=>some (.bl b)
 | .int i _=>some (.int i)
 | .str x _=>some (.str x)
 | .bytes b _=>some (.byt b)
 | .float b _=>some (.flt b)
 | .ref a=>some (.ref a)
 | .type n=>some (.ty n)
 | _=>none
theorem RelV.abs {x:V}(r:RelV x u):absV u=some x:=by
 cases x with
 | non=>cases r;rfl
 | bl _=>cases r;rfl
 | int _=>obtain ⟨t,rfl⟩:=r;rfl
 | str _=>obtain ⟨t,rfl⟩:=r;rfl
 | byt _=>obtain ⟨t,rfl⟩:=r;rfl
 | flt _=>obtain ⟨t,rfl⟩:=r;rfl
 | ref _=>cases r;rfl
 | ty _=>cases r;rfl
theorem RelV.inj {x y:V}{u:Value}(r:RelV x u)(q:RelV y u):x=y:=AR (r.abs.symm.trans q.abs)
theorem Jj.inj:∀{xs ys:List V} {us:List Value},Jj xs us->Jj ys us->xs=ys
 | _,_,_,.nil,.nil=>rfl
 | _,_,_,.cons r t,.cons r' t'=>by rw [r.inj r',Jj.inj t t']
section
variable {xs ys:List V}
theorem SqL.of (h:H a=some (.lst xs)):SqL K H a xs:=.inl (.inl h)
theorem SqT.of (h:H a=some (.tup xs)):SqT K H a xs:=.inl (.inl h)
theorem Inv.list (I:Inv X pins σ H s)(h:SqL X.K H a xs):∃its:List Value,Jj xs its/\PlainL s.heap a its.toArray/\xs.length<=Ai:=by rcases h with h | ⟨o,its,n,hk,hc,hd,hs,hz,r⟩;obtain ⟨z,its,n,r,e⟩:=h.ok I.hok;exact ⟨its,r,⟨_,n,e,rfl,rfl,rfl⟩,z⟩;refine ⟨its.toList,r,⟨o,n,I.kIn a o hk,hc,hd,by simpa using hs⟩,?_⟩;have e:=r.length;simp only [Ft] at e;omega
theorem Inv.tuple (I:Inv X pins σ H s)(h:SqT X.K H a xs):∃its:List Value,Jj xs its/\IsTup s.heap a its.toArray/\xs.length<=Ai:=by rcases h with h | ⟨o,its,n,hk,hc,hs,hz,r⟩;obtain ⟨z,its,r,p⟩:=h.ok I.hok;exact ⟨its,r,p,z⟩;refine ⟨its.toList,r,⟨o,I.kIn a o hk,hc,n,by simpa using hs⟩,?_⟩;have e:=r.length;simp only [Ft] at e;omega
theorem Inv.list_inj (I:Inv X pins σ H s)(h:SqL X.K H a xs)(h':SqL X.K H a ys):xs=ys:=by
 obtain ⟨its,r,⟨o,n,e,_,_,d⟩,_⟩:=I.list h;obtain ⟨its',r',⟨o',n',e',_,_,d'⟩,_⟩:=I.list h';rw [e] at e';cases e';rw [d] at d';injection d' with d1 _;have:its=its':=by simpa using congrArg GW d1
 subst this;exact r.inj r'
theorem Inv.tuple_inj (I:Inv X pins σ H s)(h:SqT X.K H a xs)(h':SqT X.K H a ys):xs=ys:=by
 obtain ⟨its,r,⟨o,e,_,n,d⟩,_⟩:=I.tuple h;obtain ⟨its',r',⟨o',e',_,n',d'⟩,_⟩:=I.tuple h';rw [e] at e';cases e';rw [d] at d';injection d' with d1 _;have:its=its':=by simpa using congrArg GW d1
 subst this;exact r.inj r'
end
abbrev Cx.wish (X:Cx)(E:Value->Ab->Prop):Cx:={X with xe:=E}
abbrev Cx.nox (X:Cx):Cx:=X.wish fun _ _=>False
theorem Cx.Ok.wish {X:Cx}(ok:X.Ok)(E:Value->Ab->Prop):(X.wish E).Ok:=⟨ok.mod,ok.kind,ok.glob,ok.blt,ok.above,ok.inj,ok.has,ok.cab,ok.hd,ok.frames,ok.stk,ok.exf,ok.bs,ok.bsz,ok.noex,ok.exfs,ok.funs,ok.frf⟩
theorem Cx.Ok.unwish (ok:(X.wish E).Ok):X.Ok:=⟨ok.mod,ok.kind,ok.glob,ok.blt,ok.above,ok.inj,ok.has,ok.cab,ok.hd,ok.frames,ok.stk,ok.exf,ok.bs,ok.bsz,ok.noex,ok.exfs,ok.funs,ok.frf⟩
theorem Inv.wish (I:Inv X pins σ H s)(E:Value->Ab->Prop):Inv (X.wish E) pins σ H s:=⟨I.ok.wish E,I.os,I.bare,I.base,I.loc,I.cell,I.free,I.freeC,I.pin,I.hok,I.len⟩
theorem Inv.unwish (I:Inv (X.wish E) pins σ H s):Inv X pins σ H s:=⟨I.ok.unwish,I.os,I.bare,I.base,I.loc,I.cell,I.free,I.freeC,I.pin,I.hok,I.len⟩
theorem SP.unwish {D:Ends}{f:Flow}{s':Ab}(h:SP (X.wish E) pins D f s'):SP X pins D f s':=by
 cases f with
 | next=>obtain ⟨σ',H',I,q⟩:=h;exact ⟨σ',H',I.unwish,q⟩
 | brk=>obtain ⟨σ',H',I,q⟩:=h;exact ⟨σ',H',I.unwish,q⟩
 | cont=>obtain ⟨σ',H',I,q⟩:=h;exact ⟨σ',H',I.unwish,q⟩
 | ret u=>obtain ⟨v,σ',H',I,r,q⟩:=h;exact ⟨v,σ',H',I.unwish,r,q⟩
theorem PSs.nox {st:List Stmt}{t:TS}(h:PSs X.nox st t):PSs X st t:=fun pins s σ H D I hw =>
 Ax (h pins s σ H D (I.wish _) hw) (fun _ _ q=>q.unwish) fun _ _ z=>False.elim z
section
variable {rest:List Stmt}{t u:TS}
def Zzw:TS:=fun D σ H=>D.nx σ H
def tSeq (t u:TS):TS:=fun D σ H=>t {D with nx:=u D} σ H
theorem Xgg:PSs X [] Zzw:=fun _ _ σ H _ I h=>DN ⟨σ,H,I,h⟩
theorem Xcg (h1:PS X st t)(h2:PSs X rest u):PSs X (st::rest) (tSeq t u):=by
 intro pins s σ H D I h;refine Hd (thn (h1 pins s σ H {D with nx:=u D} I h) fun f s1 q=>?_);cases f with
 | next =>obtain ⟨σ',H',I',q⟩:=q;exact h2 pins s1 σ' H' D I' q
 | ret v=>exact q
 | brk=>exact q
 | cont=>exact q
theorem Xhd (h1:PS X st t):PSs X [st] t:=by
 intro pins s σ H D I h;refine Hd (thn (h1 pins s σ H D I h) fun f s1 q=>?_);cases f with
 | next=>exact DN q
 | ret v=>exact q
 | brk=>exact q
 | cont=>exact q
theorem Inv.quiet (I:Inv X pins σ H s):interactive X.env=false:=by simp [interactive,I.ok.kind]
def Zzf (te:TE):TS:=fun D σ H=>te σ H fun _ H1=>D.nx σ H1
theorem Xhs (he:PE X e te)(hs:BP e none pos.line X.env=pure false:=by rfl):PS X (.Expr e pos) (Zzf te):=by intro pins s σ H D I h;exact wpAny_Expr_any (thn (he pins s σ H _ I h) fun v s1 ⟨x,H1,I1,r1,q1⟩=>⟨σ,H1,I1,q1⟩) I.quiet hs
def tRet (te:TE):TS:=fun D σ H=>te σ H D.rt
theorem Xpx (he:PE X e te):PS X (.Return (some e) pos) (tRet te):=by intro pins s σ H D I h;exact wpAny_Return_some (thn (he pins s σ H _ I h) fun v s1 ⟨x,H1,I1,r1,q1⟩=>⟨x,σ,H1,I1,r1,q1⟩)
def tIfS (c:TT)(t u:TS):TS:=fun D σ H=>c σ H fun b H1=>if b=true then t D σ H1 else u D σ H1
theorem ps_if {a b:List Stmt}{tc:TT}(hc:PT X c tc)(ha:PSs X a t)(hb:PSs X b u):PS X (.If c a b pos) (tIfS tc t u):=by
 intro pins s σ H D I h;refine wpAny_If (thn (hc pins s σ H _ I h) fun d s1 ⟨H1,I1,q1⟩=>?_);cases d with
 | true=>exact ha pins s1 σ H1 D I1 q1
 | false=>exact hb pins s1 σ H1 D I1 q1
end
abbrev TG:=V->St->Hp->(St->Hp->Prop)->Prop
abbrev TGs:=List V->St->Hp->(St->Hp->Prop)->Prop
def PG (X:Cx)(target:Expr)(t:TG):Prop:=
 ∀(pins:List (Addr×Obj)) (s:Ab) (σ:St) (H:Hp) (v:V) (u:Value) (Q:St->Hp->Prop),Inv X pins σ H s->RelV v u->t v σ H Q->
  Au (Ao X.prog X.w) X.A (BE target X.env u) (fun _ s'=>∃σ' H',Inv X pins σ' H' s'/\Q σ' H') X.xe s
def PGs (X:Cx)(ts:List Expr)(t:TGs):Prop:=
 ∀(pins:List (Addr×Obj)) (s:Ab) (σ:St) (H:Hp) (vs:List V) (us:List Value) (Q:St->Hp->Prop),Inv X pins σ H s->Jj vs us->t vs σ H Q->
  Au (Ao X.prog X.w) X.A (assignInOrder ((AV ts X.env).map (·.2)) us) (fun _ s'=>∃σ' H',Inv X pins σ' H' s'/\Q σ' H') X.xe s
abbrev TSet:=V->V->V->Hp->(Hp->Prop)->Prop
def PSet (X:Cx)(t:TSet):Prop:=
 ∀(pins:List (Addr×Obj)) (s:Ab) (σ:St) (H:Hp) (o i v:V) (ov iv u:Value) (Q:Hp->Prop),Inv X pins σ H s->RelV o ov->RelV i iv->RelV v u->t o i v H Q->
  Au (Ao X.prog X.w) X.A (E9 ov iv u) (fun _ s'=>∃H',Inv X pins σ H' s'/\Q H') X.xe s
def Zcb (i:Nat):TG:=fun v σ H Q=>Q (σ.set i (some v)) H
theorem Xkv (hN:X.N.Nodup)(hi:X.N[i]?=some x)(hx:Loc X.env.scope x)(hf:autoParam (X.fn x=true\/X.env.scope.names.lookup x=some .local) aT0._auto_1):PG X (.Name x pos) (Zcb i):=by intro pins s σ H v u Q I r h;exact Ey (Zli I hN hi hx r (fun s' I'=>⟨_,H,I',h⟩) hf)
def Xlh:TGs:=fun vs σ H Q=>vs=[]/\Q σ H
def Zsa (t:TG)(u:TGs):TGs:=fun vs σ H Q=>∃v r,vs=v::r/\t v σ H fun σ' H'=>u r σ' H' Q
theorem Xjl:PGs X [] Xlh:=by intro pins s σ H vs us Q I r h;obtain ⟨e,h⟩:=h;subst e;cases r;exact assignInOrder_nil ⟨σ,H,I,h⟩
theorem Zyp {t:TG}{u:TGs}(h1:PG X e t)(h2:PGs X es u)
  (hs:(AV (e::es) X.env).map (·.2)=BE e X.env::(AV es X.env).map (·.2):=by rfl):PGs X (e::es) (Zsa t u):=by
 intro pins s σ H vs us Q I r h;obtain ⟨v,vr,e1,h⟩:=h;subst e1;cases r with
 | cons r rr =>rw [hs];refine assignInOrder_cons (thn (h1 pins s σ H _ _ _ I r h) fun _ s1 hz9=>?_);obtain ⟨σ1,H1,I1,q1⟩:=hz9;exact h2 pins s1 σ1 H1 _ _ Q I1 rr q1
def Zdq (K:AB)(n:Nat)(t:TGs):TG:=fun v σ H Q=>∃a xs,v=.ref a/\SqT K H a xs/\xs.length=n/\t xs σ H Q
theorem Xqq {k:Nat}{t:TGs}(hc:X.calm=true)(h:PGs X es t)
  (hn:(AV es X.env).length=n:=by rfl) (hst:(AV es X.env).findIdx? (·.1)=none:=by rfl):PG X (.Tuple es k pos) (Zdq X.K n t):=by
 intro pins s σ H v u Q I r hw;obtain ⟨a,xs,e1,hq,hl,hw⟩:=hw;subst e1;cases r;obtain ⟨its,rv,ht,hz⟩:=I.tuple hq;refine assign_Tuple_tuple (I.ok.hd hc) ht (by simp [hn,<- hl,rv.length]) hst fun h' hx=>?_;have I1:Inv X pins σ H {s with heap:=h'}:=I.kept (t':=s.toks) fun b o e=>hx b o (Be (AL e)) e;exact h pins _ σ H xs _ Q I1 (by simpa using rv) hw
def Zru (to ti:TE)(t:TSet):TG:=fun v σ H Q=>to σ H fun o H1=>ti σ H1 fun i H2=>t o i v H2 fun H3=>Q σ H3
theorem Xpj {o i:Expr}{to ti:TE}{t:TSet}(ho:PE X o to)(hi:PE X i ti)(hs:PSet X t)
    (ha:∀v,BE (.Subscript o i pos) X.env v=(do
      let ov <- Cj [v] (AM o X.env)
      let iv <- Cj [v,ov] (AM i X.env)
      EA pos
      Cj [v,ov,iv] (E9 ov iv v)
      G0 [v,ov,iv] []):=by intro _;rfl):PG X (.Subscript o i pos) (Zru to ti t):=by
  intro pins s σ H v u Q I r h;rw [ha];refine Aj (BJ (thn (ho pins s σ H _ I h) fun ov s1 hz9=>?_));obtain ⟨x,H1,I1,r1,q1⟩:=hz9;refine Aj (BJ (thn (hi pins s1 σ H1 _ I1 q1) fun iv s2 hz9=>?_));obtain ⟨y,H2,I2,r2,q2⟩:=hz9;refine Aj (CS (Aj (BJ (thn (hs pins s2 σ H2 x y v ov iv u _ I2 r1 r2 r q2) fun _ s3 ⟨H3,I3,q3⟩=>?_))));exact wpAny_release ⟨σ,H3,I3,q3⟩
def Zkg (te:TE)(g:TG):TS:=fun D σ H=>te σ H fun x H1=>g x σ H1 D.nx
theorem Xqi {g:TG}(he:PE X e te)(hg:PG X tg g)(hs:Du [tg] e pos.line X.env=pure false:=by rfl)(hw:Dv [tg] e X.env=pure none:=by rfl)
  (h1:(AV [tg] X.env).map (·.2)=[BE tg X.env]:=by rfl):PS X (.Assign [tg] e pos) (Zkg te g):=by
 intro pins s σ H D I h;refine wpAny_Assign_stores (thn (he pins s σ H _ I h) fun v s1 hz9=>?_) hs hw;obtain ⟨x,H1,I1,r1,q1⟩:=hz9;rw [h1];exact thn (hg pins s1 σ H1 x v _ I1 r1 q1) fun _ s2 q=>q
theorem Xoh (hN:X.N.Nodup)(hi:X.N[i]?=some x)(hx:Loc X.env.scope x)(he:PE X e te)(hs:BP e (some (.Name x pos')) pos.line X.env=pure false:=by rfl)(hf:autoParam (X.fn x=true\/X.env.scope.names.lookup x=some .local) aT0._auto_1) :
  PS X (.Assign [.Name x pos'] e pos) (Zkg te (Zcb i)):=by
 intro pins s σ H D I h;refine wpAny_Assign_Name (thn (he pins s σ H _ I h) fun v s1 hz9=>?_) hs;obtain ⟨y,H1,I1,r1,q1⟩:=hz9;exact Zli I1 hN hi hx r1 (fun s2 I2=>⟨_,H1,I2,q1⟩) hf
structure It where
 go:Nat->Hp->Prop
 yld:Nat->Hp->V->Hp->Prop
 stop:Nat->Hp->Prop
def Zks (X:Cx)(pins:List (Addr×Obj))(H:Hp)(b:Addr):Prop:=
 H b=none/\b≠X.env.locals/\b∉X.fs/\(b∈X.ex\/X.s₀.heap.objs.size<=b)/\(∀x c,X.env.cells.lookup x=some c->c≠b)/\∀p∈X.pn++pins,p.1≠b
theorem Inv.fpOk (I:Inv X pins σ H s)(hb:s.heap.objs.size<=b)(hn:H' b=none):Zks X pins H' b:=by refine ⟨hn,Hm (Aq I.lt hb),I.nofs hb,.inr (AN I.sz hb),fun x c e z=>?_,fun p hp z=>?_⟩;obtain ⟨v,q⟩:=I.cell x c e;exact absurd (Aq q.lt (by rw [z];exact hb)) (AZ _);exact absurd (Aq (AL (I.pin p hp).1) (by rw [z];exact hb)) (AZ _)
structure Turn (P:Av)(w:AO)(K:AB)(tg:Expr)(J:It)(fp:List Addr)(it:Addr)(tn:Nat->AY->Prop):Prop where
  mem:it∈fp
  obj:∀i h,tn i h->∀b∈fp,∃o,h.get? b=some o/\∀v,o.data≠.cell v
  keep:∀i h h',tn i h->(∀b∈fp,∀o,h.get? b=some o->h'.get? b=some o)->tn i h'
  item:∀(X:Cx),X.prog=P->X.w=w->X.K=K->X.calm=true->∀(i:Nat) (pins:List (Addr×Obj)) (s:Ab) (σ:St) (H:Hp) (E:Value->Ab->Prop),Inv X pins σ H s->(∀b∈fp,Zks X pins H b)->tn i s.heap->J.go i H->
    Au (Ao P w) X.A (pyNext (.ref it)) (fun r s1=>∃u,r=some u/\
      Au (Ao P w) X.A (C5 tg (.ref it) u) (fun _ s2=>∃x H',Inv X pins σ H' s2/\RelV x u/\J.yld i H x H'/\tn (i+1) s2.heap/\∀b∈fp,H' b=none) E s1) E s
  done:∀(X:Cx),X.prog=P->X.w=w->X.K=K->X.calm=true->∀(i:Nat) (pins:List (Addr×Obj)) (s:Ab) (σ:St) (H:Hp) (E:Value->Ab->Prop),Inv X pins σ H s->(∀b∈fp,Zks X pins H b)->tn i s.heap->J.stop i H->
    Au (Ao P w) X.A (pyNext (.ref it)) (fun r s1=>r=none/\Inv X pins σ H s1) E s
  self:∀(A:AJ) (i:Nat) (s:Ab) (Q:Value->Ab->Prop) (E:Value->Ab->Prop),tn i s.heap->Q (.ref it) s->Au (Ao P w) A (pyIter (.ref it)) Q E s
abbrev TI:=St->Hp->(It->Hp->Prop)->Prop
def PIE (X:Cx)(pins:List (Addr×Obj))(σ:St)(tg:Expr)(R:It->Hp->Prop)(itv:Value)(s2:Ab):Prop:=
 ∃(it:Addr) (fp:List Addr) (tn:Nat->AY->Prop) (J:It) (H':Hp),itv=.ref it/\Inv X pins σ H' s2/\Turn X.prog X.w X.K tg J fp it tn/\tn 0 s2.heap/\(∀b∈fp,Zks X pins H' b)/\R J H'
def PI (X:Cx)(tg iter:Expr)(wi:TI):Prop:=
 ∀(pins:List (Addr×Obj)) (s:Ab) (σ:St) (H:Hp) (R:It->Hp->Prop),Inv X pins σ H s->wi σ H R->
  Au (Ao X.prog X.w) X.A (AM iter X.env) (fun v s1=>Au (Ao X.prog X.w) X.A (pyIter v) (PIE X pins σ tg R) X.xe s1) X.xe s
theorem Xad {n:String}{vs:Array Value}{Q:Unit->Ab->Prop}(ho:s.heap.get? it=some o)(hc:o.cls=.type n)(hd:o.data=.fields vs)
    (hn:["enumerate","zip","dict_itemiterator","dict_reverseitemiterator","odict_iterator","itertools.zip_longest","itertools.pairwise"].contains n=false) (hQ:Q () s):Au M A (C5 tg (.ref it) u) Q E s:=by
  unfold C5;cases tg<;>first
    | exact AU hQ
    | (cases u<;>first
        | exact AU hQ
        | (refine Aj (wpAny_load ho ?_)
           rw [hc,hd];show Au M A (if (["enumerate","zip","dict_itemiterator","dict_reverseitemiterator","odict_iterator","itertools.zip_longest","itertools.pairwise"].contains n&&vs[0]?==some (CL _))=true then _ else _) Q E s;rw [if_neg (by intro h;rw [hn,C3] at h;cases h)];exact AU hQ))
def Itl (K:AB)(a:Addr):It:=
 ⟨fun i H=>∃xs x,SqL K H a xs/\xs[i]?=some x,fun i H x H'=>H'=H/\∀xs,SqL K H a xs->xs[i]?=some x,fun i H=>∃xs,SqL K H a xs/\xs.length<=i⟩
def Itt (K:AB)(a:Addr):It:=
 ⟨fun i H=>∃xs x,SqT K H a xs/\xs[i]?=some x,fun i H x H'=>H'=H/\∀xs,SqT K H a xs->xs[i]?=some x,fun i H=>∃xs,SqT K H a xs/\xs.length<=i⟩
def Itr (lo:Int)(n:Nat):It:=⟨fun i _=>i<n,fun i H x H'=>H'=H/\x=.int (lo+i),fun i _=>n<=i⟩
theorem Zud (a it:Addr):Turn P w K tg (Itl K a) [it] it (fun i h=>h.IsListIter it a i) where
 mem:=by simp
 obj:=fun i h st b hb=>by
  have e:b=it:=by simpa using hb
  subst e;obtain ⟨o,e,c,d⟩:=st;exact ⟨o,e,fun v z=>by rw [d] at z;cases z⟩
 keep:=fun i h h' st k=>st.at fun o e=>k it (by simp) o e
 item:=by intro X hP hw hK hc i pins s σ H E I hf st hg;subst hP hw hK;obtain ⟨xs,x,hq,hx⟩:=hg;obtain ⟨its,rv,p,hz⟩:=I.list hq;obtain ⟨u,hu,ru⟩:=rv.get hx;obtain ⟨f0,f1,f2,f3,f4,f5⟩:=hf it (by simp);refine wpAny_pyNext_list_item st p.isList (x:=u) (by simpa using hu) fun h' st' sb=>?_;have I1:Inv X pins σ H {s with heap:=h'}:=I.turned (t':=s.toks) (fun b o hb e=>(sb.2 b hb).trans e) f0 f1 f3 f4 f5;obtain ⟨o,e,c,d⟩:=id st';exact ⟨u,rfl,Xad (s:={s with heap:=h'}) e c d (by decide) ⟨x,H,I1,ru,⟨rfl,fun ys hy=>by rw [I.list_inj hy hq];exact hx⟩,st',fun b hb=>(hf b hb).1⟩⟩
 done:=by intro X hP hw hK hc i pins s σ H E I hf st hg;subst hP hw hK;obtain ⟨xs,hq,hx⟩:=hg;obtain ⟨its,rv,p,hz⟩:=I.list hq;obtain ⟨f0,f1,f2,f3,f4,f5⟩:=hf it (by simp);have hl:=rv.length;exact wpAny_pyNext_list_end (I.ok.hd hc) st p.isList (by simp;omega) fun h' eb=>⟨rfl,I.turned (t':=s.toks) (fun b o hb e=>eb b o hb e) f0 f1 f3 f4 f5⟩
 self:=fun _ _ _ _ _ st h=>wpAny_pyIter_listiter st h
theorem Zsk (a it:Addr):Turn P w K tg (Itt K a) [it] it (fun i h=>h.IsTupleIter it a i) where
 mem:=by simp
 obj:=fun i h st b hb=>by
  have e:b=it:=by simpa using hb
  subst e;obtain ⟨o,e,c,d⟩:=st;exact ⟨o,e,fun v z=>by rw [d] at z;cases z⟩
 keep:=fun i h h' st k=>st.at fun o e=>k it (by simp) o e
 item:=by intro X hP hw hK hc i pins s σ H E I hf st hg;subst hP hw hK;obtain ⟨xs,x,hq,hx⟩:=hg;obtain ⟨its,rv,p,hz⟩:=I.tuple hq;obtain ⟨u,hu,ru⟩:=rv.get hx;obtain ⟨f0,f1,f2,f3,f4,f5⟩:=hf it (by simp);refine wpAny_pyNext_tuple_item st (show s.heap.IsTuple a its.toArray from p) (x:=u) (by simpa using hu) fun h' st' sb=>?_;have I1:Inv X pins σ H {s with heap:=h'}:=I.turned (t':=s.toks) (fun b o hb e=>(sb.2 b hb).trans e) f0 f1 f3 f4 f5;obtain ⟨o,e,c,d⟩:=id st';exact ⟨u,rfl,Xad (s:={s with heap:=h'}) e c d (by decide) ⟨x,H,I1,ru,⟨rfl,fun ys hy=>by rw [I.tuple_inj hy hq];exact hx⟩,st',fun b hb=>(hf b hb).1⟩⟩
 done:=by intro X hP hw hK hc i pins s σ H E I hf st hg;subst hP hw hK;obtain ⟨xs,hq,hx⟩:=hg;obtain ⟨its,rv,p,hz⟩:=I.tuple hq;obtain ⟨f0,f1,f2,f3,f4,f5⟩:=hf it (by simp);have hl:=rv.length;exact wpAny_pyNext_tuple_end (I.ok.hd hc) st (show s.heap.IsTuple a its.toArray from p) (by simp;omega) fun h' eb=>⟨rfl,I.turned (t':=s.toks) (fun b o hb e=>eb b o hb e) f0 f1 f3 f4 f5⟩
 self:=fun _ _ _ _ _ st h=>wpAny_pyIter_tupleiter st h
theorem Zrm (it:Addr)(lo:Int)(n:Nat):Turn P w K tg (Itr lo n) [it] it (fun i h=>IsRangeIter h it (lo+(i:Nat)*1) ((n:Int) - (i:Nat)) 1) where
  mem:=by simp
  obj:=fun i h st b hb=>by
    have e:b=it:=by simpa using hb
    subst e;exact ⟨_,st,fun v z=>by
      have z':Data.fields _=Data.cell v:=z;cases z'⟩
  keep:=fun i h h' st k=>k it (by simp) _ st
  item:=by intro X hP hw hK hc i pins s σ H E I hf st hg;subst hP hw hK;obtain ⟨f0,f1,f2,f3,f4,f5⟩:=hf it (by simp);have W:=Walks.range (prog:=X.prog) (w:=X.w) (I.ok.hd hc) it lo 1 n;refine W.item i s _ _ hg st fun v h' tk hv st' kk=>?_;obtain ⟨t,rfl⟩:=hv;have I1:Inv X pins σ H {s with heap:=h',toks:=tk}:=I.turned (fun b o hb e=>kk b o (by simpa using hb) e) f0 f1 f3 f4 f5;refine ⟨_,rfl,Xad (s:={s with heap:=h',toks:=tk}) (n:="range_iterator") st' rfl rfl (by decide) ⟨.int (lo+i),H,I1,⟨t,?_⟩,⟨rfl,rfl⟩,st',fun b hb=>(hf b hb).1⟩⟩;rw [Int.mul_one]
  done:=by intro X hP hw hK hc i pins s σ H E I hf st hg;subst hP hw hK;obtain ⟨f0,f1,f2,f3,f4,f5⟩:=hf it (by simp);exact wpAny_pyNext_range_end (I.ok.hd hc) st (by have:n<=i:=hg;omega) fun h' eb=>⟨rfl,I.turned (t':=s.toks) (fun b o hb e=>eb b o hb e) f0 f1 f3 f4 f5⟩
  self:=fun _ _ _ _ _ st h=>wpAny_pyIter_rangeiter st h
def Zzd (K:AB)(tl:TE):TI:=fun σ H R=>tl σ H fun x H1=>∃a,x=.ref a/\(∃xs,SqL K H1 a xs)/\R (Itl K a) H1
def Xml (K:AB)(tl:TE):TI:=fun σ H R=>tl σ H fun x H1=>∃a,x=.ref a/\(∃xs,SqT K H1 a xs)/\R (Itt K a) H1
theorem Xji (hl:PE X l tl):PI X tg l (Zzd X.K tl):=by
 intro pins s σ H R I h;refine thn (hl pins s σ H _ I h) fun v s1 hz9=>?_;obtain ⟨x,H1,I1,r1,q1⟩:=hz9;obtain ⟨a,e,⟨xs,hq⟩,q⟩:=q1;subst e;cases r1;obtain ⟨its,rv,p,hz⟩:=I1.list hq;refine Ex p.isList ?_;refine ⟨s1.heap.objs.size,[s1.heap.objs.size],_,_,H1,rfl,I1.kept (t':=s1.toks) fun b o e=>Az _ e,Zud a _,⟨_,A9 _ rfl,rfl,rfl⟩,fun b hb=>?_,q⟩;have e:b=s1.heap.objs.size:=by simpa using hb
 subst e;exact I1.fpOk (AF _) (I1.hok.fresh (AF _))
theorem Xmm (hl:PE X l tl):PI X tg l (Xml X.K tl):=by
 intro pins s σ H R I h;refine thn (hl pins s σ H _ I h) fun v s1 hz9=>?_;obtain ⟨x,H1,I1,r1,q1⟩:=hz9;obtain ⟨a,e,⟨xs,hq⟩,q⟩:=q1;subst e;cases r1;obtain ⟨its,rv,p,hz⟩:=I1.tuple hq;refine wpAny_pyIter_tuple (show s1.heap.IsTuple a its.toArray from p) ?_;refine ⟨s1.heap.objs.size,[s1.heap.objs.size],_,_,H1,rfl,I1.kept (t':=s1.toks) fun b o e=>Az _ e,Zsk a _,⟨_,A9 _ rfl,rfl,rfl⟩,fun b hb=>?_,q⟩;have e:b=s1.heap.objs.size:=by simpa using hb
 subst e;exact I1.fpOk (AF _) (I1.hok.fresh (AF _))
theorem Xah {R:It->Hp->Prop}{lo hi:Int}{t u v:Tok}(I:Inv X pins σ H s)(h1:-(2 ^ 62)<=lo)(h2:lo<2 ^ 62)(h3:-(2 ^ 62)<=hi)(h4:hi<2 ^ 62)
    (q:R (Itr lo (hi - lo).toNat) H):Au (Ao X.prog X.w) X.A (pyIter (.ref s.heap.objs.size)) (PIE X pins σ tg R) E {s with heap:=s.heap.push {cls:=.type "range",data:=.fields #[.int lo t,.int hi u,.int 1 v]},toks:=tk}:=by
  refine wpAny_pyIter_range (IsRange.new ..) (small_one h1 h2 h3 h4) ?_;have I1:Inv X pins σ H {s with heap:=s.heap.push {cls:=.type "range",data:=.fields #[.int lo t,.int hi u,.int 1 v]},toks:=tk}:=I.kept fun b o e=>Az _ e;refine ⟨(s.heap.push {cls:=.type "range",data:=.fields #[.int lo t,.int hi u,.int 1 v]}).objs.size,[(s.heap.push {cls:=.type "range",data:=.fields #[.int lo t,.int hi u,.int 1 v]}).objs.size],_,_,H,rfl,
    I1.kept (t':=tk) fun b o e=>Az _ e,Zrm _ lo (hi - lo).toNat,?_,fun b hb=>?_,q⟩
  have e1:lo+((0:Nat):Int)*1=lo:=by simp
  have e2:(((hi - lo).toNat:Nat):Int) - ((0:Nat):Int)=Hw lo hi 1:=by rw [rangeSize_one];split<;>omega
  show IsRangeIter _ _ (lo+((0:Nat):Int)*1) ((((hi - lo).toNat:Nat):Int) - ((0:Nat):Int)) 1;rw [e1,e2];exact A9 _ rfl;have e:b=(s.heap.push {cls:=.type "range",data:=.fields #[.int lo t,.int hi u,.int 1 v]}).objs.size:=by simpa using hb
  subst e;exact I1.fpOk (AF _) (I1.hok.fresh (AF _))
def Zyv (ta:TA):TI:=fun σ H R=>ta σ H fun vs H1=>∃j:Int,vs=[.int j]/\-(2 ^ 62)<=j/\j<2 ^ 62/\R (Itr 0 j.toNat) H1
theorem Zxm {a:Expr}{ta:TA}(hg:Gl X "range")(hm:X.mg "range"=none)(ha:PA X [a] ta)(hs:Ac [a] X.env=[(false,AM a X.env)]:=by rfl):PI X tg (.Call (.Name "range" p) [a] [] pos) (Zyv ta):=by
 intro pins s σ H R I h;refine Call_ (Zlq I hg hm boot_range (Cy (thn (ha pos pins s σ H _ I h) fun us s1 hz9=>?_) hs rfl));obtain ⟨vs,H1,I1,r1,q1⟩:=hz9;obtain ⟨j,e,q1,q2,q⟩:=q1;subst e;cases r1 with
 | cons r rr =>cases rr;obtain ⟨t,rfl⟩:=r;exact call_range_1 (Xah I1 (by omega) (by omega) q1 q2 (by simpa using q))
def tFor (wi:TI)(g:TG)(tb:TS):TS:=fun D σ H=>wi σ H fun J H1=>∃W:Nat->Nat->St->Hp->Prop,(∃m,W 0 m σ H1)/\∀i m σ H,W i m σ H->
 (J.stop i H/\D.nx σ H)\/(J.go i H/\∃N:St->Hp->Prop,(∀σ' H',N σ' H'->∃m',m'<m/\W (i+1) m' σ' H')/\∀x H',J.yld i H x H'->g x σ H' fun σ2 H2=>tb {D with nx:=N,ct:=N,bk:=D.nx} σ2 H2)
def Zip (fp:List Addr)(h:AY):List (Addr×Obj):=fp.filterMap fun b=>(h.get? b).map fun o=>(b,o)
theorem Ju (hb:b∈fp)(e:h.get? b=some o):(b,o)∈Zip fp h:=BN.mpr ⟨b,hb,by rw [e];rfl⟩
theorem Zmx {p:Addr×Obj}(hp:p∈Zip fp h):p.1∈fp/\h.get? p.1=some p.2:=by
 obtain ⟨b,hb,e⟩:=BN.mp hp;cases q:h.get? b with
 | none=>rw [q] at e;cases e
 | some o =>rw [q] at e;have e':(b,o)=p:=AR e;subst e';exact ⟨hb,q⟩
theorem Inv.pinned (I:Inv X pins σ H s)(hf:∀b∈fp,Zks X pins H b)(ho:∀b∈fp,∃o,s.heap.get? b=some o/\∀v,o.data≠.cell v):Inv X (pins++Zip fp s.heap) σ H s:=I.pins_of fun p hp=>(An.mp hp).elim (fun z=>I.pin p (Ag _ z)) fun z=>by obtain ⟨hb,e⟩:=Zmx z;obtain ⟨f0,f1,f2,_⟩:=hf p.1 hb;obtain ⟨o,e',d⟩:=ho p.1 hb;rw [e] at e';cases e';exact ⟨e,f0,f1,f2,d⟩
theorem Inv.unpinned (I:Inv X (pins++pl) σ H s):Inv X pins σ H s:=I.pins_of fun p hp=>I.pin p (Ag _ (As _ hp))
theorem Xoz {wi:TI}{g:TG}{tb:TS}(hp:Hi (Ao X.prog X.w) X.A X.env X.xe)(hc:X.calm=true)(hi:PI X tg iter wi)(hg:PG X tg g)(hb:PSs X body tb)
  (hs:∀x,Aw iter X.env x=pure x:=by intro _;rfl):PS X (.For tg iter body [] pos) (tFor wi g tb):=by
 intro pins s σ H D I h;refine wpAny_For (thn (hi pins s σ H _ I h) fun v s1 h1=>thn h1 fun itv s2 h2=>?_) hs;obtain ⟨it,fp,tn,J,H2,e,I2,T,st2,f2,W,⟨m0,w0⟩,turn⟩:=h2;subst e;have stat:∀{H':Hp},(∀b∈fp,H' b=none)->∀b∈fp,Zks X pins H' b:=fun hn b hb=>⟨hn b hb,(f2 b hb).2⟩;refine codeAny_forLoop_any (fun n s'=>∃i σ' H',Inv X pins σ' H' s'/\tn i s'.heap/\(∀b∈fp,H' b=none)/\W i n σ' H') ?_ m0 ⟨0,σ,H2,I2,st2,fun b hb=>(f2 b hb).1,w0⟩;rintro n s3 ⟨i,σ3,H3,I3,st3,fr3,w3⟩;rcases turn i n σ3 H3 w3 with ⟨stop,qn⟩ | ⟨go,N,hN,step⟩
 ·refine C4 hp (thn (T.done X rfl rfl rfl hc i pins s3 σ3 H3 X.xe I3 (stat fr3) st3 stop) fun r s4 ⟨hr,I4⟩=>?_);subst hr;exact DN ⟨σ3,H3,I4,qn⟩
 ·refine C4 hp (thn (T.item X rfl rfl rfl hc i pins s3 σ3 H3 X.xe I3 (stat fr3) st3 go) fun r s4 ⟨u,hr,h4⟩=>?_);subst hr;refine C4 hp (thn h4 fun _ s5 hz9=>?_);obtain ⟨x,H5,I5,r5,y5,st5,fr5⟩:=hz9;have I5':=I5.pinned (stat fr5) (T.obj _ _ st5);refine C4 hp (thn (hg _ s5 σ3 H5 x u _ I5' r5 (step x H5 y5)) fun _ s6 hz9=>?_);obtain ⟨σ6,H6,I6,q6⟩:=hz9;refine C4 hp (thn (hb _ s6 σ6 H6 _ I6 q6) fun f s7 q7=>?_);have Ff:∀{σ7:St} {H7:Hp},Inv X (pins++Zip fp s5.heap) σ7 H7 s7->N σ7 H7->∃m,m<n/\∃i σ' H',Inv X pins σ' H' s7/\tn i s7.heap/\(∀b∈fp,H' b=none)/\W i m σ' H':=fun {σ7 H7} I7 n7=>by obtain ⟨m',hm,w7⟩:=hN σ7 H7 n7;refine ⟨m',hm,i+1,σ7,H7,I7.unpinned,T.keep _ _ _ st5 fun b hb o e=>(I7.pin (b,o) (Ag _ (Ag _ (Ju hb e)))).1,fun b hb=>?_,w7⟩;obtain ⟨o,e,d⟩:=T.obj _ _ st5 b hb;exact (I7.pin (b,o) (Ag _ (Ag _ (Ju hb e)))).2.1
  cases f with
  | next=>obtain ⟨σ7,H7,I7,n7⟩:=q7;exact Ff I7 n7
  | cont=>obtain ⟨σ7,H7,I7,n7⟩:=q7;exact Ff I7 n7
  | brk=>obtain ⟨σ7,H7,I7,q7⟩:=q7;exact ⟨σ7,H7,I7.unpinned,q7⟩
  | ret v=>obtain ⟨x7,σ7,H7,I7,r7,q7⟩:=q7;exact ⟨x7,σ7,H7,I7.unpinned,r7,q7⟩
abbrev R2:=V->V->Hp->VK->Prop
def OpR (X:Cx)(f:Value->Value->Sem Value)(r:R2):Prop:=
 ∀(pins:List (Addr×Obj)) (s:Ab) (σ:St) (H:Hp) (x y:V) (v u:Value) (Q:VK),Inv X pins σ H s->RelV x v->RelV y u->r x y H Q->
  Au (Ao X.prog X.w) X.A (f v u) (EP X pins σ Q) X.xe s
def Zbg (X:Cx)(f:Value)(r:List V->Hp->VK->Prop):Prop:=
 ∀(pins:List (Addr×Obj)) (s:Ab) (σ:St) (H:Hp) (xs:List V) (us:List Value) (Q:VK),Inv X pins σ H s->Jj xs us->r xs H Q->
  Au (Ao X.prog X.w) X.A (call f us) (EP X pins σ Q) X.xe s
def tOp (r:R2)(ta tb:TE):TE:=fun σ H Q=>ta σ H fun x H1=>tb σ H1 fun y H2=>r x y H2 Q
def rI (C:Int->Int->Prop)(g:Int->Int->V):R2:=fun x y H Q=>∃i j,x=.int i/\y=.int j/\C i j/\Q (g i j) H
def rI0 (g:Int->Int->V):R2:=fun x y H Q=>∃i j,x=.int i/\y=.int j/\Q (g i j) H
section
variable {a b:Expr}
theorem binT (ha:PE X a ta)(hb:PE X b tb){R:V->V->Hp->Prop}(I:Inv X pins σ H s)
  (h:ta σ H fun x H1=>tb σ H1 fun y H2=>R x y H2) {Q:Value->Ab->Prop} {f:Value->Value->Sem Value}
  (hf:∀v u s2 x y H2,Inv X pins σ H2 s2->RelV x v->RelV y u->R x y H2->Au (Ao X.prog X.w) X.A (f v u) Q X.xe s2) :
  Au (Ao X.prog X.w) X.A (AM a X.env) (fun v s₁=>Au (Ao X.prog X.w) X.A (AM b X.env) (fun u s₂=>Au (Ao X.prog X.w) X.A (f v u) Q X.xe s₂) X.xe s₁) X.xe s:=by
 refine thn (ha pins s σ H _ I h) fun v s1 hz9=>?_;obtain ⟨x,H1,I1,r1,q1⟩:=hz9;refine thn (hb pins s1 σ H1 _ I1 q1) fun u s2 hz9=>?_;obtain ⟨y,H2,I2,r2,q2⟩:=hz9;exact hf v u s2 x y H2 I2 r1 r2 q2
theorem pe_op {op:HH}(ho:OpR X (BS op) r)(ha:PE X a ta)(hb:PE X b tb):PE X (.BinOp a op b pos) (tOp r ta tb):=by intro pins s σ H Q I h;exact wpAny_BinOp (binT ha hb I h fun v u s2 x y H2 I2 rx ry q=>ho pins s2 σ H2 x y v u Q I2 rx ry q)
theorem opI {C:Int->Int->Prop}{g:Int->Int->Int}
  (rule:∀(i j:Int) (t u:Tok) (s:Ab) (Q:Value->Ab->Prop) (E:Value->Ab->Prop),C i j->Q (.int (g i j) s.toks) {s with toks:=s.toks+1}->Au (Ao X.prog X.w) X.A (f (.int i t) (.int j u)) Q E s) :
  OpR X f (rI C fun i j=>.int (g i j)):=by
 intro pins s σ H x y v u Q I rx ry h;obtain ⟨i,j,rfl,rfl,hc,q⟩:=h;obtain ⟨t,rfl⟩:=rx;obtain ⟨t',rfl⟩:=ry;exact rule i j t t' s _ _ hc ⟨.int (g i j),H,I.tok _,⟨_,rfl⟩,q⟩
theorem opI0 {g:Int->Int->Int}
  (rule:∀(i j:Int) (t u:Tok) (s:Ab) (Q:Value->Ab->Prop) (E:Value->Ab->Prop),Q (.int (g i j) s.toks) {s with toks:=s.toks+1}->Au (Ao X.prog X.w) X.A (f (.int i t) (.int j u)) Q E s) :
  OpR X f (rI0 fun i j=>.int (g i j)):=by
 intro pins s σ H x y v u Q I rx ry h;obtain ⟨i,j,rfl,rfl,q⟩:=h;obtain ⟨t,rfl⟩:=rx;obtain ⟨t',rfl⟩:=ry;exact rule i j t t' s _ _ ⟨.int (g i j),H,I.tok _,⟨_,rfl⟩,q⟩
theorem opB0 {g:Int->Int->Bool}
  (rule:∀(i j:Int) (t u:Tok) (s:Ab) (Q:Value->Ab->Prop) (E:Value->Ab->Prop),Q (.bool (g i j)) s->Au (Ao X.prog X.w) X.A (f (.int i t) (.int j u)) Q E s) :
  OpR X f (rI0 fun i j=>.bl (g i j)):=by
 intro pins s σ H x y v u Q I rx ry h;obtain ⟨i,j,rfl,rfl,q⟩:=h;obtain ⟨t,rfl⟩:=rx;obtain ⟨t',rfl⟩:=ry;exact rule i j t t' s _ _ ⟨.bl (g i j),H,I,rfl,q⟩
def CPow (i j:Int):Prop:=0<=j/\j<=1000000/\i.natAbs<2 ^ 64
def Xkz (i j:Int):Prop:=(-(2 ^ 64)<i/\i<2 ^ 64)\/(-(2 ^ 64)<j/\j<2 ^ 64)
theorem Xkz.ok {i j:Int}(h:Xkz i j):IntMulOk i j:=by rcases h with ⟨h1,h2⟩ | ⟨h1,h2⟩;exact .of_left (HP h1 h2);exact .of_right (HP h1 h2)
theorem Xpm:OpR X (BS .Add) (rI0 fun i j=>.int (i+j)):=opI0 fun _ _ _ _ _ _ _ q=>add_int q
theorem Xdq:OpR X (BS .Sub) (rI0 fun i j=>.int (i - j)):=opI0 fun _ _ _ _ _ _ _ q=>sub_int q
theorem Xpy:OpR X (BS .Mult) (rI Xkz fun i j=>.int (i*j)):=opI fun _ _ _ _ _ _ _ hc q=>mul_int q hc.ok
theorem Zai:OpR X (BS .Mod) (rI (fun _ j=>0<j) fun i j=>.int (i % j)):=opI fun i j _ _ _ _ _ hc q=>by have h1:(0:Int)<j:=hc;exact mod_int' (by omega) (by rw [Int.fmod_eq_emod_of_nonneg i (by omega)];exact q)
theorem Zee:OpR X (BS .Pow) (rI CPow fun i j=>.int (i ^ j.toNat)):=opI fun _ _ _ _ _ _ _ hc q=>pow_int_small hc.1 hc.2.1 hc.2.2 q
end
def scal:V->V->Bool
 | .non,.non=>true | .non,.int _=>true | .int _,.non=>true | .non,.bl _=>true | .bl _,.non=>true | .non,.str _=>true | .str _,.non=>true
 | .int _,.int _=>true | .bl _,.bl _=>true | .str _,.str _=>true | .byt _,.byt _=>true
 | .int _,.str _=>true | .str _,.int _=>true | .bl _,.str _=>true | .str _,.bl _=>true
 | _,_=>false
def rEq:R2:=fun x y H Q=>scal x y=true/\Q (.bl (decide (x=y))) H
def rNe:R2:=fun x y H Q=>scal x y=true/\Q (.bl (!decide (x=y))) H
theorem Ztq {i j:Int}:decide (V.int i=V.int j)=(i==j):=by rw [BW];simp
theorem Xdm {i j:Bool}:decide (V.bl i=V.bl j)=(i==j):=by rw [BW];simp
theorem Zuf {i j:Str}:decide (V.str i=V.str j)=(i==j):=by rw [BW];simp
theorem Zwp {i j:Array UInt8}:decide (V.byt i=V.byt j)=(i.toList==j.toList):=by rw [BW];cases i;cases j;simp
section
variable {a b:Expr}
theorem Ye {Q:VK}{k k':Bool}(I:Inv X pins σ H s)(q:Q (.bl k) H)(e:k=k'):EP X pins σ Q (.bool k') s:=by subst e;exact ⟨.bl k,H,I,rfl,q⟩
theorem op_eq:OpR X (AA .Eq) rEq:=by
 intro pins s σ H x y v u Q I rx ry h;obtain ⟨hs,q⟩:=h;cases x with
 | non =>
  cases rx;cases y with
  | non=>cases ry;exact PySem.EqNone.eq_none_none (Ye I q (by simp))
  | bl j=>cases ry;exact PySem.EqNone.eq_none_bool (Ye I q (by simp))
  | int j=>obtain ⟨t',rfl⟩:=ry;exact PySem.EqNone.eq_none_int (Ye I q (by simp))
  | str j=>obtain ⟨t',rfl⟩:=ry;exact PySem.EqNone.eq_none_str (Ye I q (by simp))
  | _=>exact absurd (show false=true from hs) Ar
 | bl i =>
  cases rx;cases y with
  | non=>cases ry;exact PySem.EqNone.eq_bool_none (Ye I q (by simp))
  | bl j=>cases ry;exact eq_bool (Ye I q Xdm)
  | str j=>obtain ⟨t',rfl⟩:=ry;exact PySem.EqMixed.eq_bool_str (Ye I q (by simp))
  | _=>exact absurd (show false=true from hs) Ar
 | int i =>
  obtain ⟨t,rfl⟩:=rx;cases y with
  | non=>cases ry;exact PySem.EqNone.eq_int_none (Ye I q (by simp))
  | int j=>obtain ⟨t',rfl⟩:=ry;exact eq_int (Ye I q Ztq)
  | str j=>obtain ⟨t',rfl⟩:=ry;exact PySem.EqMixed.eq_int_str (Ye I q (by simp))
  | _=>exact absurd (show false=true from hs) Ar
 | str i =>
  obtain ⟨t,rfl⟩:=rx;cases y with
  | non=>cases ry;exact PySem.EqNone.eq_str_none (Ye I q (by simp))
  | bl j=>cases ry;exact PySem.EqMixed.eq_str_bool (Ye I q (by simp))
  | int j=>obtain ⟨t',rfl⟩:=ry;exact PySem.EqMixed.eq_str_int (Ye I q (by simp))
  | str j=>obtain ⟨t',rfl⟩:=ry;exact eq_str (Ye I q Zuf)
  | _=>exact absurd (show false=true from hs) Ar
 | byt i =>
  obtain ⟨t,rfl⟩:=rx;cases y with
  | byt j=>obtain ⟨t',rfl⟩:=ry;exact PySem.W.eq_bytes (Ye I q Zwp)
  | _=>exact absurd (show false=true from hs) Ar
 | _=>cases y<;>exact absurd (show false=true from hs) Ar
theorem op_ne:OpR X (AA .NotEq) rNe:=by
 intro pins s σ H x y v u Q I rx ry h;obtain ⟨hs,q⟩:=h;cases x with
 | non =>
  cases rx;cases y with
  | non=>cases ry;exact PySem.EqNone.ne_none_none (Ye I q (by simp))
  | bl j=>cases ry;exact PySem.EqNone.ne_none_bool (Ye I q (by simp))
  | int j=>obtain ⟨t',rfl⟩:=ry;exact PySem.EqNone.ne_none_int (Ye I q (by simp))
  | str j=>obtain ⟨t',rfl⟩:=ry;exact PySem.EqNone.ne_none_str (Ye I q (by simp))
  | _=>exact absurd (show false=true from hs) Ar
 | bl i =>
  cases rx;cases y with
  | non=>cases ry;exact PySem.EqNone.ne_bool_none (Ye I q (by simp))
  | bl j=>cases ry;exact ne_bool (Ye I q (congrArg not Xdm))
  | str j=>obtain ⟨t',rfl⟩:=ry;exact PySem.EqMixed.ne_bool_str (Ye I q (by simp))
  | _=>exact absurd (show false=true from hs) Ar
 | int i =>
  obtain ⟨t,rfl⟩:=rx;cases y with
  | non=>cases ry;exact PySem.EqNone.ne_int_none (Ye I q (by simp))
  | int j=>obtain ⟨t',rfl⟩:=ry;exact ne_int (Ye I q (congrArg not Ztq))
  | str j=>obtain ⟨t',rfl⟩:=ry;exact PySem.EqMixed.ne_int_str (Ye I q (by simp))
  | _=>exact absurd (show false=true from hs) Ar
 | str i =>
  obtain ⟨t,rfl⟩:=rx;cases y with
  | non=>cases ry;exact PySem.EqNone.ne_str_none (Ye I q (by simp))
  | bl j=>cases ry;exact PySem.EqMixed.ne_str_bool (Ye I q (by simp))
  | int j=>obtain ⟨t',rfl⟩:=ry;exact PySem.EqMixed.ne_str_int (Ye I q (by simp))
  | str j=>obtain ⟨t',rfl⟩:=ry;exact ne_str (Ye I q (congrArg not Zuf))
  | _=>exact absurd (show false=true from hs) Ar
 | byt i =>
  obtain ⟨t,rfl⟩:=rx;cases y with
  | byt j=>obtain ⟨t',rfl⟩:=ry;exact PySem.W.ne_bytes (Ye I q (congrArg not Zwp))
  | _=>exact absurd (show false=true from hs) Ar
 | _=>cases y<;>exact absurd (show false=true from hs) Ar
theorem Zxe:OpR X (AA .Lt) (rI0 fun i j=>.bl (decide (i<j))):=opB0 fun _ _ _ _ _ _ _ q=>lt_int q
theorem Zep:OpR X (AA .LtE) (rI0 fun i j=>.bl (decide (i<=j))):=opB0 fun _ _ _ _ _ _ _ q=>le_int q
theorem Zxs:OpR X (AA .Gt) (rI0 fun i j=>.bl (decide (j<i))):=opB0 fun _ _ _ _ _ _ _ q=>gt_int q
theorem op_ge:OpR X (AA .GtE) (rI0 fun i j=>.bl (decide (j<=i))):=opB0 fun _ _ _ _ _ _ _ q=>ge_int q
theorem Xrh:OpR X (AA .Is) (fun x y H Q=>y=.non/\Q (.bl (decide (x=.non))) H):=by
 intro pins s σ H x y v u Q I rx ry h;obtain ⟨rfl,q⟩:=h;cases ry;refine is_none_gen (Ye I q ?_);cases x<;>first
  | (cases rx;rfl)
  | (obtain ⟨t,rfl⟩:=rx;rfl)
theorem Xih:OpR X (AA .IsNot) (fun x y H Q=>y=.non/\Q (.bl (!decide (x=.non))) H):=by
 intro pins s σ H x y v u Q I rx ry h;obtain ⟨rfl,q⟩:=h;cases ry;refine isnot_none_gen (Ye I q ?_);cases x<;>first
  | (cases rx;rfl)
  | (obtain ⟨t,rfl⟩:=rx;rfl)
theorem OpR.or (h:OpR X f r)(h':OpR X f r'):OpR X f (fun x y H Q=>r x y H Q\/r' x y H Q):=by intro pins s σ H x y v u Q I rx ry q;rcases q with q | q;exact h pins s σ H x y v u Q I rx ry q;exact h' pins s σ H x y v u Q I rx ry q
theorem Xg (b:Expr)(h:op≠.In:=by decide)(h2:op≠.NotIn:=by decide):B3 op b=false:=by
 have e1:(op==CmpOp.In)=false:=by cases op<;>first | rfl | exact absurd rfl h
 have e2:(op==CmpOp.NotIn)=false:=by cases op<;>first | rfl | exact absurd rfl h2
 cases b<;>simp [B3,e1,e2]
theorem Xkn (ho:OpR X (AA op) r)(ha:PE X a ta)(hb:PE X b tb)(hm:B3 op b=false):PE X (.Compare a [op] [b] pos) (tOp r ta tb):=by intro pins s σ H Q I h;exact wpAny_Compare1 (binT ha hb I h fun v u s2 x y H2 I2 rx ry q=>ho pins s2 σ H2 x y v u Q I2 rx ry q) hm
def Zof (t:TE):TT:=fun σ H Q=>t σ H fun x H'=>∃k,x=.bl k/\Q k H'
theorem Xhl (ho:OpR X (AA op) r)(ha:PE X a ta)(hb:PE X b tb)(hm:B3 op b=false):PT X (.Compare a [op] [b] pos) (Zof (tOp r ta tb)):=by
  intro pins s σ H Q I h;refine wpAny_isTrue_Compare1 (thn (ha pins s σ H _ I h) fun v s1 ⟨x,H1,I1,r1,q1⟩=>thn (hb pins s1 σ H1 _ I1 q1) fun u s2 ⟨y,H2,I2,r2,q2⟩ =>
    thn (ho pins s2 σ H2 x y v u _ I2 r1 r2 q2) fun c s3 ⟨z,H3,I3,r3,k,e,q3⟩=>?_) hm
  subst e;cases r3;exact Bf ⟨H3,I3,q3⟩
def Zio (r r':R2)(ta tb tc:TE):TE:=fun σ H Q=>ta σ H fun x H1=>tb σ H1 fun y H2=>r x y H2 fun z H3=>∃k,z=.bl k/\
 (if k=true then tc σ H3 fun w' H4=>r' y w' H4 Q else Q (.bl false) H3)
theorem Xcy (ho:OpR X (AA op) r)(ho':OpR X (AA op') r')(ha:PE X a ta)(hb:PE X b tb)(hc:PE X c tc)
    (hm:D5 [op,op'] [b,c]=false:=by with_unfolding_all rfl):PE X (.Compare a [op,op'] [b,c] pos) (Zio r r' ta tb tc):=by
  intro pins s σ H Q I h;refine Compare_chain (thn (ha pins s σ H _ I h) fun v s1 ⟨x,H1,I1,r1,q1⟩=>chain_link (thn (hb pins s1 σ H1 _ I1 q1) fun u s2 ⟨y,H2,I2,r2,q2⟩ =>
    thn (ho pins s2 σ H2 x y v u _ I2 r1 r2 q2) fun d s3 ⟨z,H3,I3,r3,k,e,q3⟩=>?_)) hm
  subst e;cases r3;refine Bf ?_;cases k with
  | false=>exact ite_ff ⟨.bl false,H3,I3,rfl,q3⟩
  | true=>exact ite_tt (chain_last (thn (hc pins s3 σ H3 _ I3 q3) fun w' s4 ⟨z',H4,I4,r4,q4⟩=>ho' pins s4 σ H4 y z' u w' Q I4 r2 r4 q4))
theorem Xcx (ho:OpR X (AA op) r)(ho':OpR X (AA op') r')(ha:PE X a ta)(hb:PE X b tb)(hc:PE X c tc)
    (hm:D5 [op,op'] [b,c]=false:=by with_unfolding_all rfl):PT X (.Compare a [op,op'] [b,c] pos) (Zof (Zio r r' ta tb tc)):=by
  intro pins s σ H Q I h;refine isTrue_chain (thn (ha pins s σ H _ I h) fun v s1 ⟨x,H1,I1,r1,q1⟩=>test_link (thn (hb pins s1 σ H1 _ I1 q1) fun u s2 ⟨y,H2,I2,r2,q2⟩ =>
    thn (ho pins s2 σ H2 x y v u _ I2 r1 r2 q2) fun d s3 ⟨z,H3,I3,r3,k,e,q3⟩=>?_)) hm
  subst e;cases r3;refine Bf ?_;cases k with
  | false =>obtain ⟨k',e',q'⟩:=q3;cases e';exact ite_ff ⟨H3,I3,q'⟩
  | true =>refine ite_tt (test_last (thn (hc pins s3 σ H3 _ I3 q3) fun w' s4 ⟨z',H4,I4,r4,q4⟩=>thn (ho' pins s4 σ H4 y z' u w' _ I4 r2 r4 q4) fun d' s5 ⟨z2,H5,I5,r5,k2,e2,q5⟩=>?_));subst e2;cases r5;exact Bf ⟨H5,I5,q5⟩
theorem Zjf:(Ai:Nat)<2 ^ 63:=by rw [Bm];decide
theorem Zte:OpR X (BS .Add) (fun x y H Q=>∃i j,x=.str i/\y=.str j/\i.length+j.length<=Ai/\Q (.str (i++j)) H):=by intro pins s σ H x y v u Q I rx ry h;obtain ⟨i,j,rfl,rfl,hz,q⟩:=h;obtain ⟨t,rfl⟩:=rx;obtain ⟨t',rfl⟩:=ry;exact add_str (fun t' tk=>⟨.str (i++j),H,I.tok _,⟨_,rfl⟩,q⟩) hz
theorem vals1 {x:V}(r:Jj [x] us):∃u,us=[u]/\RelV x u:=by
 cases r with
 | cons r1 r2=>cases r2;exact ⟨_,rfl,r1⟩
theorem vals2 {x y:V}(r:Jj [x,y] us):∃u w',us=[u,w']/\RelV x u/\RelV y w':=by
 cases r with
 | cons r1 r2 =>
  cases r2 with
  | cons r3 r4=>cases r4;exact ⟨_,_,rfl,r1,r3⟩
theorem Zvu (hc:X.calm=true):Zbg X (.builtin "min") (fun xs H Q=>∃i j,xs=[.int i,.int j]/\Q (.int (if j<i then j else i)) H):=by intro pins s σ H xs us Q I r h;obtain ⟨i,j,rfl,q⟩:=h;obtain ⟨u,w',rfl,⟨t,rfl⟩,⟨t',rfl⟩⟩:=vals2 r;refine min_two_ints (I.ok.hd hc) fun h' tk k=>⟨_,H,I.kept k,?_,q⟩;by_cases hj:j<i;rw [if_pos hj,if_pos hj];exact ⟨_,rfl⟩;rw [if_neg hj,if_neg hj];exact ⟨_,rfl⟩
end
structure ObjM (h:AY)(x dx C:Addr)(mA:Str->Option Value):Prop where
 obj:h.get? x=some (G2 C dx)
 ns:h.Ns1 dx mA
 ne:dx≠x
theorem Zuy (n:h.Ns1 dx mA):∃od,h.get? dx=some od/\∀name,lookIn name od=some (mA name):=by
 obtain ⟨o,es,ep,ho,hd,hk,_,hm⟩:=n;refine ⟨o,ho,fun name=>?_⟩;have e:=hm name;unfold nsFind findBy at e;rw [<- Array.find?_toList] at e;unfold lookIn;rw [hd];dsimp only;split;rename_i y q;rw [q] at e;exact congrArg some e;rename_i q;rw [q] at e;have a:es.toList.any (·.refKey)=false:=by rw [List.any_eq_false];intro y hy;obtain ⟨z,t,hkey⟩:=hk y (DE.mp hy);simp [HZ,hkey]
 have a':¬es.toList.any (·.refKey)=true:=by rw [a];exact Ar
 rw [if_neg a'];exact congrArg some e
theorem ObjM.look {x:Addr}(I:ObjM h x dx C mA):∃od,PySem.W.InstAt h x (G2 C dx) C (some od)/\∀name,lookIn name od=some (mA name):=
 let ⟨od,ho,hl⟩:=Zuy I.ns
 ⟨od,⟨I.obj,rfl,rfl,ho⟩,hl⟩
section
variable {x f:Addr}{v:Value}
end
section
variable {fs:List (Str×V)}
theorem Xfc (hok:HOk P w H h)(e:H a=some (.ins C dx fs)):∃mA,ObjM h a dx C mA/\(∀f,Xfl (fs.lookup f) (mA f))/\PySem.Within mA (fs.map (·.1))/\fs.length<=1000/\H dx=some (.own a):=by obtain ⟨d,z,ne,ob,mA,n,r,q⟩:=(show Zar P w H h a (.ins C dx fs) from hok a _ e);exact ⟨mA,⟨ob,n,ne⟩,r,q,z,d⟩
end
structure Cls (K:AB)(C:Addr):Prop where
 pg:PySem.W.plainGet K C Cp=true
 hd:PySem.W.hasDictIn K C=true
 po:PySem.W.plainOver K C=true
 sa:B5 K (.ref C) "__setattr__"=some (some (.builtin "object.__setattr__"))
theorem Cls.get (c:Cls K C)(f:Str):PySem.W.plainGet K C f=true:=c.pg
structure Con (K:AB)(C:Addr)(f:Str)(v:V)(u:Value):Prop where
 at_:B5 K (.ref C) f=some (some u)
 rel:RelV v u
 get:FC K u "__get__"=some none
 cp:PySem.W.copiedNames.contains f=false
structure Meth (K:AB)(C:Addr)(m:Str)(f:Addr):Prop where
 at_:B5 K (.ref C) m=some (some (.ref f))
 fn:isFn K (.ref f)=true
 kp:DJ K (.ref f)=true
section
variable {fs:List (Str×V)}{f:Str}
end
section
variable {o value:Expr}{f:Str}{tpos:Pos}{tv:TE}
end
section
variable {c:Value}{b:Bool}
inductive TyOf (K:AB)(H:Hp):V->Value->Prop where
 | non:TyOf K H .non (.type "NoneType")
 | bl (x:Bool):TyOf K H (.bl x) (.type "bool")
 | int (i:Int):TyOf K H (.int i) (.type "int")
 | str (x:Str):TyOf K H (.str x) (.type "str")
 | flt (x:UInt64):TyOf K H (.flt x) (.type "float")
 | lst {a:Addr} {xs:List V} (e:H a=some (.lst xs)):TyOf K H (.ref a) (.type "list")
 | frz {a:Addr} {o:Obj} {xs:List V} (e:H a=some (.frz o (.lst xs))):TyOf K H (.ref a) (.type "list")
 | tup {a:Addr} {xs:List V} (e:H a=some (.tup xs)):TyOf K H (.ref a) (.type "tuple")
 | dK {a:Addr} {kvs:List (Key×V)} (e:H a=some (.dK kvs)):TyOf K H (.ref a) (.type "dict")
 | dT {a:Addr} {kvs:List (List Key×V)} (e:H a=some (.dT kvs)):TyOf K H (.ref a) (.type "dict")
 | ins {a C dx:Addr} {fs:List (Str×V)} (e:H a=some (.ins C dx fs)) (cl:Cls K C) (ha:B5 K (.ref C) "__class__"=some (some (.builtin "object.__class__")))
   (hn:FC K (.builtin "object.__class__") "__get__"=some (some (.builtin "getset_descriptor.__get__"))) (htk:PySem.W.takesIn K (.builtin "object.__class__")=some true)
   (hm:PySem.W.mroIn K C (.type "object")=some true):TyOf K H (.ref a) (.ref C)
theorem Zxg {x:V}{t:Value}(I:Inv X pins σ H s)(rx:RelV x u)(ty:TyOf X.K H x t)(e:CN X.K t c=some b)(h:∀tk,Q (.bool b) {s with toks:=tk}) :
  Au (Ao X.prog X.w) A (call (.builtin "isinstance") [u,c]) Q E s:=by
 cases ty with
 | non=>cases (show u=C1 from rx);exact Cr PySem.W.kitx_none I.kIn BM e (fun z=>nomatch z) h
 | bl y=>cases (show u=Bs y from rx);exact Cr PySem.W.kitx_bool I.kIn BM e (fun z=>nomatch z) h
 | int i=>obtain ⟨t,q⟩:=(show ∃t,u=Ea i t from rx);cases q;exact Cr PySem.W.kitx_int I.kIn BM e (fun z=>nomatch z) h
 | str y=>obtain ⟨t,q⟩:=(show ∃t,u=D9 y t from rx);cases q;exact Cr PySem.W.kitx_str I.kIn BM e (fun z=>nomatch z) h
 | flt y=>obtain ⟨t,q⟩:=(show ∃t,u=G5 y t from rx);cases q;exact Cr PySem.W.kitx_float I.kIn BM e (fun z=>nomatch z) h
 | @lst a xs ea =>cases (show u=Ba a from rx);obtain ⟨_,_,n,_,h1⟩:=(show Zar X.prog X.w H s.heap a (.lst xs) from I.hok a _ ea);exact Cr PySem.W.kitx_list I.kIn ⟨_,h1,rfl⟩ e (fun z=>nomatch z) h
 | @frz a ob xs ea =>cases (show u=Ba a from rx);obtain ⟨_,_,_,n,_,h1⟩:=(show Zar X.prog X.w H s.heap a (.frz ob (.lst xs)) from I.hok a _ ea);exact Cr PySem.W.kitx_list I.kIn ⟨_,h1,rfl⟩ e (fun z=>nomatch z) h
 | @tup a xs ea =>cases (show u=Ba a from rx);obtain ⟨_,_,_,p⟩:=(show Zar X.prog X.w H s.heap a (.tup xs) from I.hok a _ ea);obtain ⟨o,h1,h2,_⟩:=p;exact Cr PySem.W.kitx_tuple I.kIn ⟨o,h1,h2⟩ e (fun z=>nomatch z) h
 | @dK a kvs ea =>cases (show u=Ba a from rx);obtain ⟨_,_,vs,_,p⟩:=(show Zar X.prog X.w H s.heap a (.dK kvs) from I.hok a _ ea);obtain ⟨o,es,ep,h1,h2,_⟩:=p;exact Cr PySem.W.kitx_dict I.kIn ⟨o,h1,h2.1⟩ e (fun z=>nomatch z) h
 | @dT a kvs ea =>cases (show u=Ba a from rx);obtain ⟨_,_,xs,_,o,es,ep,h1,h2,_⟩:=(show Zar X.prog X.w H s.heap a (.dT kvs) from I.hok a _ ea);exact Cr PySem.W.kitx_dict I.kIn ⟨o,h1,h2.1⟩ e (fun z=>nomatch z) h
 | @ins a C dx fs ea cl ha hn htk hm =>cases (show u=Ba a from rx);obtain ⟨mA,O,_⟩:=Xfc I.hok ea;obtain ⟨od,J,_⟩:=O.look;exact Cr (PySem.W.kitx_own (cl.get _) cl.hd ha hn htk hm) I.kIn J e (fun z=>nomatch z) h
end
structure Zha (k:Nat)(A:AJ):Prop where
 hd:A.handled=none
 dp:A.depth+3*k+5<DT
 un:A.units+16*k+200<Bk
 gd:A.guards=some []
theorem Zha.mono {k:Nat}(r:Zha k A)(h:j<=k):Zha j A:=⟨r.hd,by have:=r.dp;omega,by have:=r.un;omega,r.gd⟩
theorem Zha.deeper {k:Nat}{A:AJ}(r:Zha (k+1) A)(env:Env):Zha k (A.deeper env):=⟨r.hd,by have:=r.dp;show A.depth+1+3*k+5<_;omega,by have:=r.un;show A.units+3+16*k+200<_;omega,r.gd⟩
theorem Zha.depth {k:Nat}{A:AJ}(r:Zha k A):A.depth<DT:=by have:=r.dp;omega
theorem Zha.units {k:Nat}{A:AJ}(r:Zha k A):A.units+64<Bk:=by have:=r.un;omega
def Ziu:TA:=fun _ H Q=>Q [] H
def Jx (ta:TE)(tr:TA):TA:=fun σ H Q=>ta σ H fun x H1=>tr σ H1 fun xs H2=>Q (x::xs) H2
theorem Xeo:PA X [] Ziu:=fun _ _ _ _ H Q I h=>Calls.spliced_nil ⟨[],H,I,.nil,h⟩
theorem Zvc (ha:PE X e te)(hr:PA X es t)(hs:Ac (e::es) X.env=(false,AM e X.env)::Ac es X.env:=by rfl):PA X (e::es) (Jx te t):=by intro pos pins s σ H Q I h;rw [hs];show Au _ _ (spliced ((false,AM e X.env)::AW pos (Ac es X.env))) _ _ s;refine Calls.spliced_cons (thn (ha pins s σ H _ I h) fun u s1 hz9=>?_);obtain ⟨x,H1,I1,r1,q1⟩:=hz9;exact thn (hr pos pins s1 σ H1 _ I1 q1) fun us s2 ⟨xs,H2,I2,r2,q2⟩=>⟨x::xs,H2,I2,.cons r1 r2,q2⟩
def tTup (t:TA):TE:=fun σ H Q=>t σ H fun xs H1=>xs.length<=Ai/\∀p,H1 p=none->Q (.ref p) (upd H1 p (.tup xs))
def Xky (t:TA):TE:=fun σ H Q=>t σ H fun xs H1=>xs.length<=Ai/\∀p,H1 p=none->Q (.ref p) (upd H1 p (.lst xs))
theorem Xmi {x1}(h:PA X es t):PE X (.Tuple es x1 pos) (tTup t):=by intro pins s σ H Q I hq;refine wpAny_Tuple_spliced (thn (h pos pins s σ H _ I hq) fun us s1 ⟨xs,H1,I1,r,z,q⟩=>⟨by rw [<- r.length];exact z,?_⟩);have hf:H1 s1.heap.objs.size=none:=I1.hok.fresh (AF _);refine ⟨.ref s1.heap.objs.size,upd H1 s1.heap.objs.size (.tup xs),I1.laid (t':=s1.toks) (fun b u e=>Az _ e) (AF _) ?_,rfl,q _ hf⟩;exact ⟨z,us,r,⟨_,A9 _ rfl,rfl,_,rfl⟩⟩
theorem Xmq (h:PA X es t):PE X (.List es pos) (Xky t):=by intro pins s σ H Q I hq;refine wpAny_List_spliced (thn (h pos pins s σ H _ I hq) fun us s1 ⟨xs,H1,I1,r,z,q⟩=>⟨by rw [<- r.length];exact z,?_⟩);have hf:H1 s1.heap.objs.size=none:=I1.hok.fresh (AF _);refine ⟨.ref s1.heap.objs.size,upd H1 s1.heap.objs.size (.lst xs),I1.laid (t':=s1.toks) (fun b u e=>Az _ e) (AF _) ?_,rfl,q _ hf⟩;exact ⟨z,us,0,r,A9 _ rfl⟩
abbrev Sp:=List V->Hp->VK->XK->Prop
abbrev CXT:=List Env->Hp->Ab->XK->Value->Ab->Prop
structure Xrq (P:Av)(w:AO)(K:AB)(mg:Str->Option Value)(base:AY)(A:AJ)(outer:List Env)(s:Ab)(H:Hp):Prop where
 frames:A.frames=some outer
 mod:Mod K mg base
 bs:∀b o,base.get? b=some o->s.heap.get? b=some o/\H b=none
 bsz:base.objs.size<=s.heap.objs.size
 funs:s.heap.FunFrames base outer
 frf:∀b∈frs outer,H b=none
 hok:HOk P w H s.heap
 bare:Da s.gens
def CE (outer:List Env)(P:Av)(w:AO)(H:Hp)(s:Ab)(Q:VK)(u:Value)(s':Ab):Prop:=
 ∃v H',s'.os=s.os/\Da s'.gens/\Un (frs outer) [] H H' s.heap s'.heap/\HOk P w H' s'.heap/\RelV v u/\Q v H'
def CR (CX:CXT)(outer:List Env)(P:Av)(w:AO)(H:Hp)(s:Ab)(Q:VK)(E:XK)(r:DL)(s':Ab):Prop:=
 match r with
 | .ok (.ret u)=>CE outer P w H s Q u s'
 | .ok _=>False
 | .error e=>CX outer H s E e s'
structure Zbr (P:Av)(w:AO)(K:AB)(mg:Str->Option Value)(base:AY)(CX:CXT)(k:Nat)(f:Addr)(fd:BB)(ps:List Str)(sp:Sp):Prop where
 len:∀vs H Q E,sp vs H Q E->vs.length=ps.length
 run:∀(A:AJ) (outer:List Env) (s:Ab) (H:Hp) (args:Args) (us:List Value) (vs:List V) (Q:VK) (E:XK),Zha k A->Xrq P w K mg base A outer s H->D7 s fd args (ps.zip us)->Jj vs us->sp vs H Q E->
  B8 (Ao P w) A (.call (.ref f) args) (CR CX outer P w H s Q E) s
theorem Zbr.imp {base:AY}{k:Nat}{f:Addr}{sp':Sp}(F:Zbr P w K mg base CX k f fd ps sp)
  (h:∀vs H Q E,sp' vs H Q E->sp vs H Q E):Zbr P w K mg base CX k f fd ps sp':=
 ⟨fun vs H Q E q=>F.len vs H Q E (h _ _ _ _ q),fun A outer s H args us vs Q E hr he hb hv hs=>F.run A outer s H args us vs Q E hr he hb hv (h _ _ _ _ hs)⟩
theorem Inv.env0 (I:Inv X pins σ H s):Xrq X.prog X.w X.K X.mg X.base X.A X.stack s H:=⟨I.ok.frames,I.ok.mod,I.bs,AN I.ok.bsz I.sz,I.stack,I.stkFree,I.hok,I.bare⟩
theorem Inv.after {Q:VK}(I:Inv X pins σ H s)(h:CE X.stack X.prog X.w H s Q u s'):EP X pins σ Q u s':=by obtain ⟨v,H',os,bare,un,hok,r,q⟩:=h;obtain ⟨hh,g,d,t,os'⟩:=s';obtain rfl:os'=s.os:=os;exact ⟨v,H',I.call (h':=hh) (g':=g) (d':=d) (t':=t) (ch:=[]) un hok bare (fun b z=>absurd z (by simp)),r,q⟩
def Zso (sp:Sp)(dvs:List V)(E:XK)(t:TA):TE:=fun σ H Q=>t σ H fun vs H1=>sp (vs++dvs) H1 Q E
def Binds (K:AB)(fd:BB)(ps:List Str)(ds:List Value):Prop:=
 ∀(s:Ab) (us:List Value),K.In s.heap->(us++ds).length=ps.length->D7 s fd ⟨us,[]⟩ (ps.zip (us++ds))
theorem Binds.all (h:∀us:List Value,us.length=ps.length->HF fd ⟨us,[]⟩=pure (ps.zip us)):Binds K fd ps []:=fun s us _ hl=>by rw [Cf] at hl ⊢;exact .of_eq (h us hl)
def Zfk (CX:CXT)(X:Cx)(E:XK):Prop:=∀(pins:List (Addr×Obj)) (σ:St) (H:Hp) (s:Ab) (e:Value) (s':Ab),Inv X pins σ H s->CX X.stack H s E e s'->X.xe e s'
section
variable {k:Nat}{f:Addr}{E:XK}{o:Expr}
theorem Xqg {Q:VK}(F:Zbr X.prog X.w X.K X.mg X.base CX k f fd ps sp)(hr:Zha k X.A)(hb:Binds X.K fd ps ds)(hd:Jj dvs ds)(hx:Zfk CX X E)
  (I:Inv X pins σ H s) (r:Jj vs us) (h:sp (vs++dvs) H Q E):Au (Ao X.prog X.w) X.A (call (.ref f) us) (EP X pins σ Q) X.xe s:=by
 have r2:Jj (vs++dvs) (us++ds):=r.append hd;have hl:(us++ds).length=ps.length:=by rw [<- r2.length];exact F.len _ _ _ _ h
 refine wpAny_call (ED (F.run X.A X.stack s H ⟨us,[]⟩ (us++ds) (vs++dvs) Q E hr I.env0 (hb s us I.kIn hl) r2 h) fun r s' hq=>?_);cases r with
 | error e=>exact hx pins σ H s e s' I hq
 | ok fl =>
  cases fl with
  | ret u=>exact I.after hq
  | next=>exact False.elim hq
  | brk=>exact False.elim hq
  | cont=>exact False.elim hq
theorem Xin (F:Zbr X.prog X.w X.K X.mg X.base CX k f fd ps sp)(hr:Zha k X.A)(hg:Gl X x)(hm:X.mg x=some (.ref f))(hk:DJ X.K (.ref f)=true)(hb:Binds X.K fd ps ds)(hd:Jj dvs ds)(hx:Zfk CX X E)
  (ha:PA X (e::es) t) (hdb:(x==("__debug__":Str))=false:=by decide) (he:Ac (e::es) X.env=(false,AM e X.env)::Ac es X.env:=by rfl) (hpl:(AW pos (Ac es X.env)).any (·.1)=false:=by rfl) :
  PE X (.Call (.Name x p) (e::es) [] pos) (Zso sp dvs E t):=by
 intro pins s σ H Q I h;refine Ei (Zky I hg hm ?_ hdb);refine PySem.W.callWith_K (h₀:=X.base) I.ok.mod.kin hk (thn (ha pos pins s σ H _ I h) fun us s1 ⟨vs,H1,I1,r,q⟩=>⟨I1.kIn,?_⟩) he hpl;exact Xqg F hr hb hd hx I1 r q
structure Mk (K:AB)(C f:Addr):Prop where
 makes:PySem.W.makesIn K C=true
 init:B5 K (.ref C) "__init__"=some (some (.ref f))
 fn:isFn K (.ref f)=true
 kp:DJ K (.ref C)=true
end
section
variable {k:Nat}{f:Addr}{E:XK}{kpos:Pos}{o:Expr}{tk:TA}
structure KBinds (K:AB)(fd:BB)(ps ks:List Str)(g:List Value->List Value->List Value)(gV:List V->List V->List V):Prop where
 to:∀(s:Ab) (us ws:List Value),K.In s.heap->(g us ws).length=ps.length->D7 s fd ⟨us,ks.zip ws⟩ (ps.zip (g us ws))
 rel:∀{vs:List V} {us:List Value} {zs:List V} {ws:List Value},Jj vs us->Jj zs ws->Jj (gV vs zs) (g us ws)
end
structure Xk (N P:List Str)(sc:Scope):Prop where
 kind:sc.kind=.function
 co:sc.isCoroutine=false
 gen:sc.isGenerator=false
 nd:N.Nodup
 pre:N.take P.length=P
 par:∀x∈P,sc.names.lookup x=some .local\/sc.names.lookup x=some .cell
 nofree:∀y∈sc.names,y.2≠.free
theorem Zms {Cm:Str->Option BU}{x:Str}:∀{binds:List (Str×Value)} {m:Str->Option Value},(∀v,(x,v)∉binds)->FG Cm binds m x=m x
 | [],_,_=>rfl
 | (n,v)::r,m,h=>by
  unfold FG;rw [Zms fun w hw=>h w (Bg _ hw)];split;have:x≠n:=by rintro rfl;exact h v BL
  simp [this];rfl
theorem Zmq {Cm:Str->Option BU}{x:Str}:∀{binds:List (Str×Value)} {m:Str->Option Value},(∀v,(x,v)∉binds)->FH Cm binds m x=m x
 | [],_,_=>rfl
 | (n,v)::r,m,h=>by
  unfold FH;rw [Zmq fun w hw=>h w (Bg _ hw)];split;rfl;have:x≠n:=by rintro rfl;exact h v BL
  simp [this]
theorem Zls {Cm:Str->Option BU}{x:Str}{v:Value}:∀{P:List Str} {vs:List Value} {i:Nat} {m:Str->Option Value},P.Nodup->P[i]?=some x->vs[i]?=some v->Cm x=some .local->
  FG Cm (P.zip vs) m x=some v
 | [],_,_,_,_,h,_,_=>by simp at h
 | _::_,[],_,_,_,_,h,_=>by simp at h
 | p::P,w::vs,0,m,nd,h1,h2,hk=>by simp at h1 h2;subst h1;subst h2;show FG Cm ((p,w)::P.zip vs) m p=_;unfold FG;rw [Zms fun v hv=>(A0.mp nd).1 (Er hv).1,if_pos hk];simp
 | p::P,w::vs,i+1,m,nd,h1,h2,hk=>by show FG Cm ((p,w)::P.zip vs) m x=_;unfold FG;exact Zls (i:=i) (A0.mp nd).2 (by simpa using h1) (by simpa using h2) hk
theorem Zlw {Cm:Str->Option BU}{x:Str}{v:Value}:∀{P:List Str} {vs:List Value} {i:Nat} {m:Str->Option Value},P.Nodup->P[i]?=some x->vs[i]?=some v->Cm x≠some .local->
  FH Cm (P.zip vs) m x=some v
 | [],_,_,_,_,h,_,_=>by simp at h
 | _::_,[],_,_,_,_,h,_=>by simp at h
 | p::P,w::vs,0,m,nd,h1,h2,hk=>by simp at h1 h2;subst h1;subst h2;show FH Cm ((p,w)::P.zip vs) m p=_;unfold FH;rw [Zmq fun v hv=>(A0.mp nd).1 (Er hv).1,if_neg hk];simp
 | p::P,w::vs,i+1,m,nd,h1,h2,hk=>by show FH Cm ((p,w)::P.zip vs) m x=_;unfold FH;exact Zlw (i:=i) (A0.mp nd).2 (by simpa using h1) (by simpa using h2) hk
def start (N:List Str)(vs:List V):St:=vs.map some++Aa (N.length - vs.length) none
def Zqb (CX:CXT)(P:Av)(w:AO)(K:AB)(mg:Str->Option Value)(base:AY)(N:List Str)(qual:Str)(scope:Scope)(f:Addr)(cd:Value)(A:AJ)(outer:List Env)(s:Ab)(H:Hp)(E:XK):Cx where
 prog:=P
 w:=w
 K:=K
 mg:=mg
 base:=base
 A:=A.deeper (C6 qual scope s.heap.objs.size f cd)
 N:=N
 s₀:=s
 H₀:=H
 env:=C6 qual scope s.heap.objs.size f cd
 outer:=outer
 stack:=C6 qual scope s.heap.objs.size f cd::outer
 ex:=[]
 calm:=true
 fn:=fun _=>true
 pn:=[]
 xe:=fun e s'=>Au (Ao P w) (A.deeper (C6 qual scope s.heap.objs.size f cd)) (FY (C6 qual scope s.heap.objs.size f cd) e) (fun _ s''=>CX outer H s E e s'') (fun e' s''=>CX outer H s E e' s'') s'
theorem Zqe (h:sc.names.lookup x=some .cell):∃c,(FF n sc.names []).lookup x=some c:=by have q:=PySem.W.cellsFrom_some sc.names n [] (.inl h);exact Option.isSome_iff_exists.mp q
theorem Zvp {base:AY}{f:Addr}{s1:Ab}{E:XK}
    (S:Xk N ps scope) (hd:A.handled=none) (e0:Xrq P w K mg base A outer s H) (hl:vs.length=ps.length) (r:Jj vs us)
    (x:InCallC s s.heap.objs.size (FG (C6 qual scope s.heap.objs.size f cd).kindOf (ps.zip us) fun _=>none) (FF (s.heap.objs.size+1) scope.names []) (FH (C6 qual scope s.heap.objs.size f cd).kindOf (ps.zip us) fun _=>none) s1) :
    Inv (Zqb CX P w K mg base N qual scope f cd A outer s H E) [] (start N vs) H s1:=by
  have hpl:ps.length<=N.length:=by have:=congrArg Ho S.pre;rw [BH] at this;omega
  obtain ⟨h1,tk,rfl,hk⟩:=x.done;have noA:∀b:Addr,b∉(Zqb CX P w K mg base N qual scope f cd A outer s H E).ex:=fun b z=>absurd (show b∈([]:List Addr) from z) (by simp);refine ⟨⟨e0.mod,S.kind,rfl,rfl,AF _,fun y z c h1 h2=>?_,fun y hy=>?_,fun y c _ h=>?_,fun _=>hd,Around.frames_deeper e0.frames,.inr ⟨rfl,rfl⟩,fun b z=>absurd z (noA b),e0.bs,e0.bsz,fun b _ _=>noA b,fun b z=>absurd z (noA b),e0.funs,e0.frf⟩,
    rfl,e0.bare,Un.kept hk,⟨_,x.toInCall.ns,fun i y v h1 h2 h3=>?_⟩,fun y c h=>⟨_,x.cell y c h⟩,e0.hok.fresh (AF _),fun y c h=>?_,fun p hp=>absurd (show p∈([]:List (Addr×Obj)) from hp) (by simp),e0.hok.kept hk,?_⟩
  exact name_of_addr x.apart (PySem.mem_of_lookup h1) (PySem.mem_of_lookup h2);have hy:scope.names.lookup y=some .cell\/scope.names.lookup y=some .free:=hy;rcases hy with hy | hy;exact Zqe hy;exact absurd rfl (S.nofree _ (PySem.mem_of_lookup hy));exact Fi (x.above y c (PySem.mem_of_lookup h));have hi:i<vs.length:=by unfold start at h2;by_cases hi:i<vs.length;exact hi;rw [B4 (by simpa using hi)] at h2;rw [Co] at h2;split at h2<;>cases h2
  have ha:vs[i]?=some v:=by
    unfold start at h2;rw [AT (by simpa using hi),Bu] at h2;cases e:vs[i]? with
    | none=>rw [e] at h2;cases h2
    | some a=>rw [e] at h2;cases h2;rfl
  obtain ⟨u,hu,rv⟩:=r.get ha;have hp:ps[i]?=some y:=by rw [<- S.pre,List.getElem?_take_of_lt (by omega)];exact h1
  have ndP:ps.Nodup:=by rw [<- S.pre];exact S.nd.sublist (List.take_sublist _ _)
  refine ⟨u,rv,?_⟩;rcases S.par y (A5 hp) with k | k;exact .inl ⟨k,Zls ndP hp hu k⟩;obtain ⟨c,e⟩:=Zqe (n:=s.heap.objs.size+1) k;refine .inr ⟨.inl k,c,e,?_⟩;have q:=x.cell y c e;rw [Zlw ndP hp hu (by show scope.names.lookup y≠_;rw [k];decide)] at q;exact q;exact e0.hok.fresh (Fi (x.above y c (PySem.mem_of_lookup h)));unfold start;show _=N.length;rw [AE,Al,DA];omega
theorem Xro {base:AY}{k:Nat}{f:Addr}{dV kV doc pm cdv ct oc:Value}
    {osl:Array (Option Value)} {N ps:List Str} {sp:Sp} (lk:K.lookup f=some ⟨oc,od,.func (FZ name qual params body scope dV kV doc pm an cdv ct),osl⟩) (hcd:Ek K cdv qual=true) (S:Xk N ps scope)
    (len:∀vs H Q E,sp vs H Q E->vs.length=ps.length)
    (hbody:∀(A:AJ) (outer:List Env) (s:Ab) (H:Hp) (vs:List V) (Q:VK) (E:XK),Zha k (A.deeper (C6 qual scope s.heap.objs.size f cdv))->sp vs H Q E->
      ∃t,PSs (Zqb CX P w K mg base N qual scope f cdv A outer s H E) body t/\t {nx:=fun _ H'=>Q .non H',rt:=Q} (start N vs) H) :
    Zbr P w K mg base CX (k+1) f (FZ name qual params body scope dV kV doc pm an cdv ct) ps sp:=by
  refine ⟨len,fun A outer s H args us vs Q E hr e0 hb r hsp=>?_⟩;have hl:=len _ _ _ _ hsp;have KX:K.In s.heap:=e0.mod.kin.keeps fun b o e=>(e0.bs b o e).1;have lim:s.heap.NoLimit:=e0.mod.nolimit.keeps fun b o e=>(e0.bs b o e).1;have hkind:∀y∈ps.zip us,scope.names.lookup y.1=some .local\/(scope.names.lookup y.1=some .cell/\((FF (s.heap.objs.size+1) scope.names []).lookup y.1).isSome=true):=fun ⟨n,v⟩ hy=>by
    rcases S.par n (Er hy).1 with q | q
    · exact .inl q
    · exact .inr ⟨q,PySem.W.cellsFrom_some _ _ _ (.inl q)⟩
  refine codeAny_call_function hr.depth (KX _ _ lk) rfl S.co S.gen rfl (PySem.W.codeRec_of KX hcd) (hb _ _ _ _ ?_);refine wpAny_newFunctionEnv_cells S.kind hkind fun env he s1 x=>?_;subst he;refine ⟨lim.keeps x.toInCall.keep,codeAny_func ?_⟩;obtain ⟨t,ht,hq⟩:=hbody A outer s H vs Q E (hr.deeper _) hsp;have I:Inv (Zqb CX P w K mg base N qual scope f cdv A outer s H E) [] (start N vs) H s1:=Zvp S hr.hd e0 hl r x;refine Ax (ht [] s1 (start N vs) H _ I hq) (fun fl s' hs=>?_) fun e s' hs=>hs;have fin:∀{σ':St} {H':Hp} {v:V} {u:Value},Inv (Zqb CX P w K mg base N qual scope f cdv A outer s H E) [] σ' H' s'->RelV v u->Q v H'->CE outer P w H s Q u s':=fun {σ' H' v u} J rv q=>⟨v,H',J.os,J.bare,J.base,J.hok,rv,q⟩;cases fl with
  | ret u =>obtain ⟨v,σ',H',J,rv,q⟩:=hs;exact fin J rv q
  | next =>obtain ⟨σ',H',J,q⟩:=hs;exact fin (v:=V.non) (u:=C1) J rfl q
  | brk =>obtain ⟨_,_,_,q⟩:=hs;exact False.elim q
  | cont =>obtain ⟨_,_,_,q⟩:=hs;exact False.elim q
section
variable {id T:String}{r:List V->Hp->VK->Prop}
def tCB (r:List V->Hp->VK->Prop)(t:TA):TE:=fun σ H Q=>t σ H fun vs H1=>r vs H1 Q
theorem Zzh (hc:Zbg X (.builtin id) r)(hg:Gl X x)(hm:X.mg x=none)(hv:Bc x=some (.builtin id))(ha:PA X (e::es) t)(hn:x≠"__name__":=by decide)(hdb:(x==("__debug__":Str))=false:=by decide)
  (he:Ac (e::es) X.env=(false,AM e X.env)::Ac es X.env:=by rfl) (hpl:(AW pos (Ac es X.env)).any (·.1)=false:=by rfl):PE X (.Call (.Name x p) (e::es) [] pos) (tCB r t):=by
 intro pins s σ H Q I h;refine Ei (Zlq I hg hm hv ?_ hn hdb);exact Hz (thn (ha pos pins s σ H _ I h) fun us s1 ⟨vs,H1,I1,r1,q1⟩=>hc pins s1 σ H1 vs us Q I1 r1 q1) he hpl
theorem Zvg (hc:Zbg X (.type T) r)(hg:Gl X x)(hm:X.mg x=none)(hv:Bc x=some (.type T))(ha:PA X (e::es) t)(hn:x≠"__name__":=by decide)(hdb:(x==("__debug__":Str))=false:=by decide)
  (he:Ac (e::es) X.env=(false,AM e X.env)::Ac es X.env:=by rfl) (hpl:(AW pos (Ac es X.env)).any (·.1)=false:=by rfl):PE X (.Call (.Name x p) (e::es) [] pos) (tCB r t):=by
 intro pins s σ H Q I h;refine Ei (Zlq I hg hm hv ?_ hn hdb);exact Cy (thn (ha pos pins s σ H _ I h) fun us s1 ⟨vs,H1,I1,r1,q1⟩=>hc pins s1 σ H1 vs us Q I1 r1 q1) he hpl
end
end L2
namespace HT
open PySem PyProof.Rows
variable {prog:Av}{w:AO}{A:AJ}{E:Value->Ab->Prop}{s:Ab}
section
open PySem.SeqAt
open PySem.AutoSeq1 (wpAny_loadPart')
open PySem.MeetsSeq PySem.MeetsSeq2 PySem.MeetsSeq3
def sIx (n d:Nat):Option Int->Nat
 | none=>d
 | some v=>if v<0 then (v+(n:Int)).toNat else min v.toNat n
theorem clip_eq (v:Int)(n d:Nat):(if v<0 then max (v+(n:Int)) 0 else min v (n:Int))=((sIx n d (some v):Nat):Int):=by show (if v<0 then max (v+(n:Int)) 0 else min v (n:Int))=(((if v<0 then (v+(n:Int)).toNat else min v.toNat n):Nat):Int);by_cases hv:v<0;simp only [if_pos hv];omega;simp only [if_neg hv];omega
end
end HT
namespace L2
open PySem PySem.Spec PyProof.Rows
variable {X:Cx}{e:Expr}{lo hi:Option Expr}{pos:Pos}{r:V->Option Int->Option Int->Hp->VK->Prop}{n j t':Nat}{i:Int}{α:Type}{pins:List (Addr×Obj)}{σ:St}{H:Hp}{s:Ab}{p:Addr}{xs ys:List V}{its its':List Value}{f:Array Value->Array Value}{r':List V->Hp->VK->Prop}{T:String}{v:Value}{es:List Expr}{name:Str}{prog:Av}{w:AO}{A:AJ}{E:Value->Ab->Prop}
abbrev TO:=St->Hp->(Option Int->Hp->Prop)->Prop
def PO (X:Cx)(e:Option Expr)(t:TO):Prop:=
 ∀(pins:List (Addr×Obj)) (s:Ab) (σ:St) (H:Hp) (Q:Option Int->Hp->Prop),Inv X pins σ H s->t σ H Q->
  Au (Ao X.prog X.w) X.A (evalPart e X.env) (fun u s'=>∃o H',Inv X pins σ H' s'/\GS u o/\Q o H') X.xe s
def Zkc:TO:=fun _ H Q=>Q none H
def Xar (t:TE):TO:=fun σ H Q=>t σ H fun x H1=>∃i,x=.int i/\Q (some i) H1
section
variable {te:TE}{tl th:TO}{p2:Pos}
theorem Xkj:PO X none Zkc:=by intro pins s σ H Q I h;rw [HR];exact AU ⟨none,H,I,.none,h⟩
theorem Xfp (h:PE X e te):PO X (some e) (Xar te):=by intro pins s σ H Q I hw;rw [evalPart_some];refine thn (h pins s σ H _ I hw) fun u s1 hz9=>?_;obtain ⟨x,H1,I1,r1,q1⟩:=hz9;obtain ⟨i,rfl,q⟩:=q1;obtain ⟨t,rfl⟩:=r1;exact ⟨some i,H1,I1,.int i t,q⟩
def SlR (X:Cx)(r:V->Option Int->Option Int->Hp->VK->Prop):Prop:=
 ∀(pins:List (Addr×Obj)) (s:Ab) (σ:St) (H:Hp) (x:V) (v vl vu:Value) (lo hi:Option Int) (sl:Addr) (Q:VK),Inv X pins σ H s->RelV x v->s.heap.IsSliceOf sl vl vu .none->GS vl lo->GS vu hi->r x lo hi H Q->
  ∃T id,Cu (.type T) "__getitem__"=pure (some (.builtin id))/\s.TypeIs v T/\Au (Ao X.prog X.w) X.A (getItem v (.ref sl)) (EP X pins σ Q) X.xe s
def tSl (r:V->Option Int->Option Int->Hp->VK->Prop)(te:TE)(tl th:TO):TE:=fun σ H Q=>te σ H fun x H1=>tl σ H1 fun l H2=>th σ H2 fun u H3=>r x l u H3 Q
theorem Xay (hr:SlR X r)(he:PE X e te)(hl:PO X lo tl)(hu:PO X hi th):PE X (.Subscript e (.Slice lo hi none p2) pos) (tSl r te tl th):=by intro pins s σ H Q I h;refine Subscript_ (thn (he pins s σ H _ I h) fun v s1 hz9=>?_);obtain ⟨x,H1,I1,r1,q1⟩:=hz9;refine wpAny_Slice (thn (hl pins s1 σ H1 _ I1 q1) fun vl s2 ⟨l,H2,I2,pl,q2⟩=>thn (hu pins s2 σ H2 _ I2 q2) fun vu s3 ⟨u,H3,I3,pu,q3⟩=>?_);rw [HR];refine AU ?_;have I4:Inv X pins σ H3 {s3 with heap:=s3.heap.push {cls:=.type "slice",data:=.fields #[vl,vu,.none]}}:=I3.kept (t':=s3.toks) fun b ob q=>Az _ q;obtain ⟨T,id,hT,ht,hg⟩:=hr pins {s3 with heap:=s3.heap.push {cls:=.type "slice",data:=.fields #[vl,vu,.none]}} σ H3 x v vl vu l u s3.heap.objs.size Q I4 r1 (G8 ..) pl pu q3;show Au (Ao X.prog X.w) X.A (HN e (.Slice lo hi none p2) v (.ref s3.heap.objs.size)) (EP X pins σ Q) X.xe {s3 with heap:=s3.heap.push {cls:=.type "slice",data:=.fields #[vl,vu,.none]}};exact tail_any (ops:=[.ref s3.heap.objs.size,v]) ht hT hg (by with_unfolding_all rfl)
def Xby (xs:List V)(lo hi:Option Int):List V:=(xs.drop (HT.sIx xs.length 0 lo)).take (HT.sIx xs.length xs.length hi - HT.sIx xs.length 0 lo)
theorem Zpb (xs:List V)(lo hi:Option Int):(Xby xs lo hi).length<=xs.length:=by
 unfold Xby
 rw [BH,Cc];omega
end
def ixN (n:Nat)(i:Int):Option Nat:=if 0<=i then (if i<n then some i.toNat else none) else if -(n:Int)<=i then some (i+n).toNat else none
def atI {α:Type}(xs:List α)(i:Int):Option α:=(ixN xs.length i).bind fun j=>xs[j]?
theorem Zow (h:ixN n i=some j):He i n=some j/\j<n/\-(n:Int)<=i/\i<n:=by unfold ixN at h;by_cases h0:0<=i;rw [if_pos h0] at h;by_cases h1:i<n;rw [if_pos h1] at h;have e:i.toNat=j:=AR h;exact ⟨by rw [Gv h0 h1,e],by omega,by omega,h1⟩;rw [if_neg h1] at h;cases h;rw [if_neg h0] at h;by_cases h1:-(n:Int)<=i;rw [if_pos h1] at h;have e:(i+n).toNat=j:=AR h;exact ⟨by rw [FX (by omega) h1,e],by omega,h1,by omega⟩;rw [if_neg h1] at h;cases h
theorem Zdf {xs:List α}{v:α}(h:atI xs i=some v):∃j,He i xs.length=some j/\xs[j]?=some v/\j<xs.length/\-(xs.length:Int)<=i/\i<xs.length:=by
 unfold atI at h;cases e:ixN xs.length i with
 | none=>rw [e] at h;cases h
 | some j =>rw [e] at h;obtain ⟨h1,h2,h3,h4⟩:=Zow e;exact ⟨j,h1,h,h2,h3,h4⟩
def Zdg (b:Expr):Prop:=∀o i,subscripted b false o i=operate [o,i] (getItem o i)
def IxR (X:Cx)(r:R2):Prop:=
 ∀(value slice:Expr) (pins:List (Addr×Obj)) (s:Ab) (σ:St) (H:Hp) (x y:V) (v u:Value) (Q:VK),Inv X pins σ H s->RelV x v->RelV y u->r x y H Q->
  subscripted slice false v u=operate [v,u] (getItem v u)->Au (Ao X.prog X.w) X.A (HN value slice v u) (EP X pins σ Q) X.xe s
def MtR (X:Cx)(id:String)(r:V->List V->Hp->VK->Prop):Prop:=
 ∀(pins:List (Addr×Obj)) (s:Ab) (σ:St) (H:Hp) (x:V) (xs:List V) (v:Value) (us:List Value) (Q:VK),Inv X pins σ H s->RelV x v->Jj xs us->r x xs H Q->
  Au (Ao X.prog X.w) X.A (call (.builtin id) (v::us)) (EP X pins σ Q) X.xe s
section
variable {a b:Expr}{ta tb:TE}
theorem IxR.or {r r':R2}(h:IxR X r)(h':IxR X r'):IxR X (fun x y H Q=>r x y H Q\/r' x y H Q):=by intro value slice pins s σ H x y v u Q I rx ry q hs;rcases q with q | q;exact h value slice pins s σ H x y v u Q I rx ry q hs;exact h' value slice pins s σ H x y v u Q I rx ry q hs
theorem pe_ix {r:R2}(hr:IxR X r)(ha:PE X a ta)(hb:PE X b tb)(hs:Zdg b):PE X (.Subscript a b pos) (tOp r ta tb):=by intro pins s σ H Q I h;exact Subscript_ (binT ha hb I h fun v u s2 x y H2 I2 rx ry q=>hr a b pins s2 σ H2 x y v u Q I2 rx ry q (hs _ _))
def rIxL (K:AB):R2:=fun x y H Q=>∃p xs i v,x=.ref p/\y=.int i/\SqL K H p xs/\atI xs i=some v/\Q v H
def rIxT (K:AB):R2:=fun x y H Q=>∃p xs i v,x=.ref p/\y=.int i/\SqT K H p xs/\atI xs i=some v/\Q v H
def rIxS:R2:=fun x y H Q=>∃z i c,x=.str z/\y=.int i/\z.length<=Ai/\atI z.cps.toList i=some c/\Q (.str ⟨#[c]⟩) H
theorem Xha:IxR X (rIxL X.K):=by
 intro value slice pins s σ H x y v u Q I rx ry h hs;obtain ⟨p,xs,i,z,rfl,rfl,hq,he,q⟩:=h;cases rx;obtain ⟨t,rfl⟩:=ry;obtain ⟨its,r,pl,hz⟩:=I.list hq;obtain ⟨j,h1,h2,h3,h4,h5⟩:=Zdf he;obtain ⟨w,ew,rw'⟩:=r.get h2;have hl:=r.length;have hn:=Zjf;have fin:EP X pins σ Q w s:=⟨z,H,I,rw',q⟩;by_cases h0:0<=i;have hj:i.toNat=j:=by rw [Gv h0 h5] at h1;exact AR h1
 exact item_listR pl.isList h0 (by omega) (by rw [hj];simpa using ew) fin hs;have hj:(i+(its.toArray.size:Int)).toNat=j:=by rw [FX (by omega) h4] at h1;rw [AI,<- hl];exact AR h1
 exact FW (x:=w) pl.isList.typeIs GZ.lookup
  (wpAny_getItem_list_neg (Q:=fun r s'=>r=w/\EP X pins σ Q r s') pl.isList (by omega) (by rw [AI]<;>omega) (by omega) (by rw [hj];simpa using ew) ⟨rfl,fin⟩) hs
theorem Xnj:IxR X (rIxT X.K):=by
 intro value slice pins s σ H x y v u Q I rx ry h hs;obtain ⟨p,xs,i,z,rfl,rfl,hq,he,q⟩:=h;cases rx;obtain ⟨t,rfl⟩:=ry;obtain ⟨its,r,pl,hz⟩:=I.tuple hq;obtain ⟨j,h1,h2,h3,h4,h5⟩:=Zdf he;obtain ⟨w,ew,rw'⟩:=r.get h2;have hl:=r.length;have hn:=Zjf;have fin:EP X pins σ Q w s:=⟨z,H,I,rw',q⟩;exact FW (x:=w) pl.typeIs slot_tuple_getitem.lookup
  (getItem_tuple (j:=j) (Q:=fun r s'=>r=w/\EP X pins σ Q r s') pl (by omega) (by omega) (by rw [AI,<- hl];exact h1) (by simpa using ew) ⟨rfl,fin⟩) hs
theorem Xon:IxR X rIxS:=by
  intro value slice pins s σ H x y v u Q I rx ry h hs;obtain ⟨z,i,c,rfl,rfl,hz,he,q⟩:=h;obtain ⟨t,rfl⟩:=rx;obtain ⟨t',rfl⟩:=ry;obtain ⟨j,h1,h2,h3,h4,h5⟩:=Zdf he;have hl:z.cps.toList.length=z.length:=by simp [DX]
  rw [hl] at h1 h4 h5;have hn:=Zjf;exact tail_any (Cv s z t) slot_str_getitem.lookup (getItem_str (c:=c) (by
    have e1:decide (i < -(2 ^ 63:Int))=false:=decide_eq_false (by omega);have e2:decide (i>=2 ^ 63)=false:=decide_eq_false (by omega);rw [e1,e2,Bool.or_false]) (by rw [h1];simpa using h2) ⟨.str ⟨#[c]⟩,H,I.tok _,⟨_,rfl⟩,q⟩) hs
def rIx (K:AB):R2:=fun x y H Q=>rIxL K x y H Q\/rIxT K x y H Q\/rIxS x y H Q
theorem Xqz:IxR X (rIx X.K):=Xha.or (Xnj.or Xon)
theorem Zrw (its:List Value)(n j:Nat)(u:Value):D0 (·.setIfInBounds j u) {cls:=.type "list",data:=.seq its.toArray n}={cls:=.type "list",data:=.seq (its.set j u).toArray n}:=by simp [D0]
theorem Inv.lst {pins:List (Addr×Obj)}{σ:St}{H:Hp}{s:Ab}{p:Addr}{xs:List V}(I:Inv X pins σ H s)(h:H p=some (.lst xs)) :
  ∃(its:List Value) (n:Nat),Jj xs its/\s.heap.get? p=some {cls:=.type "list",data:=.seq its.toArray n}/\xs.length<=Ai:=by
 obtain ⟨z,its,n,r,e⟩:=I.hok p _ h;exact ⟨its,n,r,e,z⟩
theorem Inv.lstUpd {n':Nat}{f:Obj->Obj}(I:Inv X pins σ H s)(h:H p=some (.lst xs))
  (ho:s.heap.get? p=some {cls:=.type "list",data:=.seq its.toArray n}) (hf:f {cls:=.type "list",data:=.seq its.toArray n}={cls:=.type "list",data:=.seq its'.toArray n'}) (r:Jj ys its') (hz:ys.length<=Ai) (t:Nat) :
  Inv X pins σ (upd H p (.lst ys)) {s with heap:=s.heap.update p f,toks:=t}:=by
 have e:(s.heap.update p f).get? p=some {cls:=.type "list",data:=.seq its'.toArray n'}:=by rw [DB f ho (by rw [hf]<;>rfl),hf]
 refine I.write (x:=p) (e:=p) (by rw [h];trivial) (.inl rfl) (fun b u hb q=>(B7 _ _ (Ne.symm hb)).trans q) ⟨_,e⟩ ?_;exact ⟨hz,its',n',r,e⟩
def Xhi:V->V->V->Hp->(Hp->Prop)->Prop:=fun o i v H Q=>∃p xs k j,o=.ref p/\i=.int k/\H p=some (.lst xs)/\ixN xs.length k=some j/\Q (upd H p (.lst (xs.set j v)))
theorem set_list:PSet X Xhi:=by
 intro pins s σ H o i v ov iv u Q I ro ri rv h;obtain ⟨p,xs,k,j,rfl,rfl,hp,hj,q⟩:=h;cases ro;obtain ⟨t,rfl⟩:=ri;obtain ⟨its,n,r,ho,hz⟩:=I.lst hp;obtain ⟨h1,h2,h3,h4⟩:=Zow hj;have hl:=r.length;have hn:=Zjf;have I':Inv X pins σ (upd H p (.lst (xs.set j v))) {s with heap:=s.heap.update p (D0 (·.setIfInBounds j u))}:=I.lstUpd hp ho (Zrw its n j u) (r.set rv j) (by rw [CM];exact hz) s.toks;by_cases h0:0<=k;have hk:k.toNat=j:=by rw [Gv h0 h4] at h1;exact AR h1
 exact PySem.W.ki_setAt ho h0 (by omega) (by rw [AI,<- hl];exact h4) (by rw [hk];exact ⟨_,I',q⟩);have hk:(k+(its.toArray.size:Int)).toNat=j:=by rw [FX (by omega) h3] at h1;rw [AI,<- hl];exact AR h1
 exact PySem.W.ki_setBack ho (by omega) (by rw [AI,<- hl];exact h3) (by omega) (by rw [hk];exact ⟨_,I',q⟩)
theorem Zlo (lo hi:Option Int)(n:Nat):(CZ lo hi none n).1=((HT.sIx n 0 lo:Nat):Int)/\(CZ lo hi none n).2.1=((HT.sIx n n hi:Nat):Int)/\(CZ lo hi none n).2.2=1:=by
 refine ⟨?_,?_,rfl⟩;cases lo with
 | none=>simp [CZ,HT.sIx]
 | some i =>simp only [CZ,HT.sIx,FL,show (1:Int) > 0 by decide,if_true];by_cases h:i<0;simp only [h,if_true]<;>omega;simp only [h,if_false]<;>omega
 cases hi with
 | none=>simp [CZ,HT.sIx]
 | some i =>simp only [CZ,HT.sIx,FL,show (1:Int) > 0 by decide,if_true];by_cases h:i<0;simp only [h,if_true]<;>omega;simp only [h,if_false]<;>omega
theorem Zkd (its:List Value)(lo hi:Option Int):slicePick its.toArray lo hi none=((its.drop (HT.sIx its.length 0 lo)).take (HT.sIx its.length its.length hi - HT.sIx its.length 0 lo)).toArray:=by obtain ⟨h1,h2,h3⟩:=Zlo lo hi its.toArray.size;unfold slicePick;rw [h1,h2,h3];simp only [sliceRange_one,pick_run,AI]<;>rfl
def rSlL (K:AB):V->Option Int->Option Int->Hp->VK->Prop:=fun x lo hi H Q=>∃a xs,x=.ref a/\SqL K H a xs/\∀p,H p=none->Q (.ref p) (upd H p (.lst (Xby xs lo hi)))
theorem Xgu:SlR X (rSlL X.K):=by intro pins s σ H x v vl vu lo hi sl Q I rx hs pl pu h;obtain ⟨a,xs,rfl,hx,q⟩:=h;cases rx;obtain ⟨its,r,ht,hz⟩:=I.list hx;have hlen:=r.length;refine ⟨"list",_,GZ.lookup,ht.isList.typeIs,?_⟩;refine wpAny_getItem_list_slice ht.isList hs pl pu .none (by simp) ?_ (by rw [AI]<;>omega);rw [Zkd,<- hlen];refine ⟨.ref s.heap.objs.size,_,I.laid (t':=s.toks) (o:=.lst (Xby xs lo hi)) (fun b ob q=>Az _ q) (AF _) ?_,rfl,q _ (I.hok.fresh (AF _))⟩;exact ⟨AN (Zpb xs lo hi) hz,_,0,(r.drop (HT.sIx xs.length 0 lo)).take (HT.sIx xs.length xs.length hi - HT.sIx xs.length 0 lo),A9 _ rfl⟩
theorem Zmm:Zbg X (.builtin "len") (fun xs H Q=>∃p ys,xs=[.ref p]/\(SqL X.K H p ys\/SqT X.K H p ys)/\Q (.int ys.length) H):=by intro pins s σ H xs us Q I r h;obtain ⟨p,ys,rfl,hq,q⟩:=h;obtain ⟨u,rfl,rx⟩:=vals1 r;cases rx;have hn:=Zjf;rcases hq with hq | hq;obtain ⟨its,r',pl,hz⟩:=I.list hq;have hlen:=r'.length;exact Calls.call_len_list pl.isList (by simp only [AI]<;>omega) ⟨.int ys.length,H,I.tok _,⟨s.toks+1,by rw [AI,hlen]⟩,q⟩;obtain ⟨its,r',pl,hz⟩:=I.tuple hq;have hlen:=r'.length;exact len_tuple pl (by simp only [AI]<;>omega) ⟨.int ys.length,H,I.tok _,⟨s.toks+1,by rw [AI,hlen]⟩,q⟩
theorem Zmz:Zbg X (.builtin "len") (fun xs H Q=>∃z,xs=[.str z]/\z.length<=Ai/\Q (.int z.length) H):=by intro pins s σ H xs us Q I r h;obtain ⟨z,rfl,hz,q⟩:=h;obtain ⟨u,rfl,t,rfl⟩:=vals1 r;have hn:=Zjf;exact len_str (by omega) ⟨.int z.length,H,I.tok _,⟨_,rfl⟩,q⟩
theorem Zbg.or {f:Value}{r:List V->Hp->VK->Prop}(h:Zbg X f r)(h':Zbg X f r'):Zbg X f (fun xs H Q=>r xs H Q\/r' xs H Q):=by intro pins s σ H xs us Q I rs q;rcases q with q | q;exact h pins s σ H xs us Q I rs q;exact h' pins s σ H xs us Q I rs q
def tyV (K:AB)(T:String)(x:V)(H:Hp):Prop:=match x with
 | .str _=>T="str"
 | .int _=>T="int"
 | .ref p=>(T="list"/\∃xs,SqL K H p xs)\/(T="tuple"/\∃o,K.lookup p=some o/\o.cls=.type "tuple"/\o.dict=none)\/
   (T="dict"/\((∃kvs,H p=some (.dK kvs))\/∃kvs,H p=some (.dT kvs)))\/(T="set"/\∃S n,H p=some (.set S n))
 | _=>False
theorem Xnd {x:V}(I:Inv X pins σ H s)(r:RelV x v)(ty:tyV X.K T x H) :
  s.TypeIs v T/\∀a,v=.ref a->∃ob,s.heap.get? a=some ob/\ob.dict=none:=by
 cases x with
 | str z =>obtain ⟨t,rfl⟩:=r;cases (show T="str" from ty);exact ⟨Cv s z t,fun _ e=>nomatch e⟩
 | int i =>obtain ⟨t,rfl⟩:=r;cases (show T="int" from ty);exact ⟨GN s i t,fun _ e=>nomatch e⟩
 | ref p =>
  cases r;rcases ty with ⟨rfl,xs,hq⟩ | ⟨rfl,o,hk,hc,hd⟩ | ⟨rfl,hk⟩ | ⟨rfl,S,n,hk⟩;obtain ⟨its,_,pl,_⟩:=I.list hq;refine ⟨pl.isList.typeIs,fun a e=>?_⟩;cases e;obtain ⟨o,n,e,c,hd,_⟩:=pl;exact ⟨o,e,hd⟩;refine ⟨⟨o,I.kIn p o hk,hc⟩,fun a e=>?_⟩;cases e;exact ⟨o,I.kIn _ o hk,hd⟩;have z:∃o,s.heap.get? p=some o/\o.ExactDict:=by rcases hk with ⟨kvs,hk⟩ | ⟨kvs,hk⟩;obtain ⟨_,_,_,_,o,_,_,e,ex,_⟩:=I.hok p _ hk;exact ⟨o,e,ex⟩;obtain ⟨_,_,_,_,o,_,_,e,ex,_⟩:=I.hok p _ hk;exact ⟨o,e,ex⟩
  obtain ⟨o,e,ex⟩:=z;refine ⟨⟨o,e,ex.1⟩,fun a e2=>?_⟩;cases e2;exact ⟨o,e,ex.2.1⟩;obtain ⟨o,_,_,_,e,ex,_⟩:=I.hok p _ hk;refine ⟨⟨o,e,ex.1⟩,fun a e2=>?_⟩;cases e2;exact ⟨o,e,ex.2.1⟩
 | _=>exact False.elim ty
def tBM (K:AB)(T:String)(r:V->List V->Hp->VK->Prop)(to:TE)(t:TA):TE:=fun σ H Q=>to σ H fun x H1=>tyV K T x H1/\t σ H1 fun xs H2=>r x xs H2 Q
variable {o:Expr}{to:TE}{t:TA}{apos cpos:Pos}{id:String}{r:V->List V->Hp->VK->Prop}
theorem pe_bm (pa:PlainAttrs T)(slot:Slot T name id)(hty:typeOf (.builtin id)=pure (.type "method_descriptor"))(hm:MtR X id r)(ho:PE X o to)(ha:PA X (e::es) t)
    (hbase:Bl o name X.env (AM o X.env)=AM o X.env:=by rfl)
    (hfew:((AW cpos (Ac (e::es) X.env)).all (fun x=>!x.1)&&(CF cpos (BI [] X.env)).all (fun x=>x.1.isSome)
      && decide ((e::es).length+([]:List Bi).length+(if ([]:List Bi).isEmpty then 0 else 1)<30))=true:=by rfl)
    (hline:(apos.endLine==cpos.line)=true:=by rfl) (hs:Ac (e::es) X.env=(false,AM e X.env)::Ac es X.env:=by rfl) (hplain:(AW cpos (Ac es X.env)).any (·.1)=false:=by rfl) :
    PE X (.Call (.Attribute o name apos) (e::es) [] cpos) (tBM X.K T r to t):=by
  intro pins s σ H Q I h;refine wpAny_Call_method_late hbase hfew hline rfl (thn (ho pins s σ H _ I h) fun v s1 hz9=>?_);obtain ⟨x,H1,I1,r1,ty,q1⟩:=hz9;obtain ⟨h1,h2⟩:=Xnd I1 r1 ty;refine ⟨T,id,pa,slot,hty,h1,h2,?_⟩;have hA:=ha cpos pins s1 σ H1 _ I1 q1;rw [hs] at hA ⊢;refine Calls.callWith_builtin (by show (false||(AW cpos (Ac es X.env)).any (·.1))=false;rw [hplain]<;>rfl) (Fp ?_);exact thn hA fun us s2 ⟨vs,H2,I2,r2,q2⟩=>hm pins s2 σ H2 x vs v us Q I2 r1 r2 q2
end
def MtM (X:Cx)(id:String)(r:V->List V->Hp->VK->Prop):Prop:=
 ∀(pins:List (Addr×Obj)) (s:Ab) (σ:St) (H:Hp) (x:V) (xs:List V) (v:Value) (us:List Value) (Q:VK),Inv X pins σ H s->RelV x v->Jj xs us->r x xs H Q->
  Au (Ao X.prog X.w) X.A (call (.builtin id) (v::us)) (EP X pins σ Q) X.xe s
theorem Jj.one:∀{x:V} {us:List Value},Jj [x] us->∃u,us=[u]/\RelV x u
 | _,_,.cons r .nil=>⟨_,rfl,r⟩
theorem Jj.zero:∀{us:List Value},Jj [] us->us=[]
 | _,.nil=>rfl
theorem Jj.rep {xs:List V}{us:List Value}(h:Jj xs us):∀k:Nat,Jj (Aa k xs).flatten (Aa k us).flatten
 | 0=>.nil
 | k+1=>by rw [A4,A4,Bv,Bv];exact Jj.append h (Jj.rep h k)
theorem foldl_rep (its:List Value):∀(k:Nat) (acc:List Value),
  EK (fun x1 x2=>x1++x2) acc.toArray (Aa k its.toArray)=(acc++(Aa k its).flatten).toArray
 | 0,acc=>by simp
 | k+1,acc=>by
  have e:acc.toArray++its.toArray=(acc++its).toArray:=by simp
  have e2:(acc++its)++(Aa k its).flatten=acc++(Aa (k+1) its).flatten:=by rw [A4,Bv,CG]
  rw [<- e2,<- foldl_rep its k (acc++its),<- e,A4,Eu]
section
variable {l b:Addr}{zs:List V}
theorem Inv.lset (I:Inv X pins σ H s)(hH:H l=some (.lst xs))
  (e:s.heap.get? l=some {cls:=.type "list",data:=.seq its.toArray n}) (hf:f its.toArray=its'.toArray) (hv:Jj ys its') (hz:ys.length<=Ai) :
  Inv X pins σ (upd H l (.lst ys)) {s with heap:=s.heap.update l (D0 f),toks:=t'}:=by
 have q:=PySem.IsL.update e f;rw [hf] at q;refine I.write (x:=l) (e:=l) (by rw [hH];exact trivial) (.inl rfl) (fun b' u hb hu=>(B7 s.heap (D0 f) (Ne.symm hb)).trans hu) ⟨_,q⟩ ?_;exact ⟨hz,its',_,hv,q⟩
theorem Inv.lnew (I:Inv X pins σ H s)(hv:Jj ys its)(hz:ys.length<=Ai) :
  Inv X pins σ (upd H s.heap.objs.size (.lst ys)) {s with heap:=s.heap.push {cls:=.type "list",data:=.seq its.toArray},toks:=t'}:=
 I.laid (fun _ _ q=>Az _ q) (AF _) ⟨hz,its,0,hv,A9 _ rfl⟩
theorem Inv.fresh (I:Inv X pins σ H s):H s.heap.objs.size=none:=I.hok.fresh (AF _)
theorem Inv.lstM (I:Inv X pins σ H s)(hH:H l=some (.lst xs)):xs.length<=Ai/\∃(its:List Value) (n:Nat),Jj xs its/\xs.length=its.length/\s.heap.get? l=some {cls:=.type "list",data:=.seq its.toArray n}:=by obtain ⟨z,its,n,r,e⟩:=I.hok l _ hH;exact ⟨z,its,n,r,r.length,e⟩
theorem Xcs (h:n<=Ai):CK n=false:=by unfold CK;exact decide_eq_false (by omega)
end
def Zhm:V->List V->Hp->VK->Prop:=fun x vs H Q=>∃l xs y,x=.ref l/\vs=[y]/\H l=some (.lst xs)/\xs.length<Ai/\Q .non (upd H l (.lst (xs++[y])))
theorem Zia:MtM X "list.append" Zhm:=by intro pins s σ H x vs v us Q I rx rv h;obtain ⟨l,xs,y,rfl,rfl,hH,hz,q⟩:=h;cases rx;obtain ⟨u,rfl,ru⟩:=rv.one;obtain ⟨z,its,n,r,hl,e⟩:=I.lstM hH;refine CP F.slot_list_append ⟨_,e,rfl⟩ F.entry_list_append (F.args_list_append_2 _ _) (PySem.list_append l its.toArray n u (by rw [AI];omega)) ⟨e,?_⟩;refine ⟨.non,_,I.lset (its':=its++[u]) hH e (by simp) (r.append (.cons ru .nil)) ?_,rfl,q⟩;rw [AE,Fk];omega
def rCat:R2:=fun x y H Q=>∃l b xs zs,x=.ref l/\y=.ref b/\H l=some (.lst xs)/\H b=some (.lst zs)/\xs.length+zs.length<=Ai/\∀p,H p=none->Q (.ref p) (upd H p (.lst (xs++zs)))
theorem Xpe:OpR X (BS .Add) rCat:=by
 intro pins s σ H x y v u Q I rx ry h;obtain ⟨l,b,xs,zs,rfl,rfl,hH,hB,hz,q⟩:=h;cases rx;cases ry;obtain ⟨z,its,n,r,hl,e⟩:=I.lstM hH;obtain ⟨z2,its2,n2,r2,hl2,e2⟩:=I.lstM hB;refine PySem.P.add_list e e2 ?_ (by rw [AI,AI];omega);have ea:its.toArray++its2.toArray=(its++its2).toArray:=by simp
 rw [ea];exact ⟨.ref _,_,I.lnew (t':=s.toks) (r.append r2) (by rw [AE];omega),rfl,q _ I.fresh⟩
def rRep:R2:=fun x y H Q=>∃l k xs,x=.ref l/\y=.int k/\H l=some (.lst xs)/\-(2 ^ 63)<=k/\k<2 ^ 63/\xs.length*k.toNat<=Ai/\
 ∀p,H p=none->Q (.ref p) (upd H p (.lst (Aa k.toNat xs).flatten))
theorem len_rep (xs:List α)(k:Nat):(Aa k xs).flatten.length=k*xs.length:=by
 induction k with
 | zero=>simp
 | succ k ih=>rw [A4,Bv,AE,ih,Ez,Hn]
theorem Xmd:OpR X (BS .Mult) rRep:=by
  intro pins s σ H x y v u Q I rx ry h;obtain ⟨l,k,xs,rfl,rfl,hH,h1,h2,hz,q⟩:=h;cases rx;obtain ⟨t,rfl⟩:=ry;obtain ⟨z,its,n,r,hl,e⟩:=I.lstM hH;have hlen:its.toArray.size*k.toNat<=Ai:=by rw [AI,<- hl];exact hz
  have hcap:¬its.toArray.size*k.toNat > (2 ^ 63 - 1) / 8:=by
    have:(Ai:Nat)<=(2 ^ 63 - 1) / 8:=by decide
    omega
  have hfit:¬(!Builtin.List.listFitsIndex k)=true:=by rw [fitsIndex_both h1 h2];exact Ar
  have hlong:¬CK (its.toArray.size*k.toNat)=true:=by rw [Xcs hlen];exact Ar
  have hnew:EK (fun x1 x2=>x1++x2) #[] (Aa (if its.toArray.isEmpty=true then 0 else k.toNat) its.toArray)=(Aa k.toNat its).flatten.toArray:=by
    have f0:∀m:Nat,EK (fun x1 x2=>x1++x2) #[] (Aa m its.toArray)=(Aa m its).flatten.toArray:=fun m=>by have:=foldl_rep its m [];rw [Es] at this;exact this
    rw [f0];cases its with
    | nil=>simp
    | cons a r'=>rw [if_neg (by simp)]
  refine wpAny_binaryOp_repeat_ref (T:="list") (U:="int") (by decide) ⟨_,e,rfl⟩ (fun s'=>GN s' k t) noFill_list_mul F.fills_int_mul G9 repeat_list F.slot_int_index.lookup
    (CP G9 (GN s k t) F.entry_int_rmul (F.args_int_rmul_2 _ _) (int___rmul___int_list k t l its.toArray n)
      ⟨e,rfl,⟨_,e,rfl⟩,CP F.slot_list_mul ⟨_,e,rfl⟩ F.entry_list_mul (F.args_list_mul_2 _ _) (Ib l its.toArray n k t hfit hcap hlong) ⟨e,?_⟩⟩)
  rw [hnew];exact ⟨.ref _,_,I.lnew (t':=s.toks) (r.rep k.toNat) (by rw [len_rep,Nat.mul_comm];exact hz),rfl,q _ I.fresh⟩
end L2
namespace Att
open PySem PySem.W PySem.Calls PyProof.Rows
variable {P:Params}{h:AY}{l:OpenLaw}{n:Nat}{args:List WData}{vals:List Value}{q prog:Av}{loose:List Str}{XP:(Str->Option Value)->AY->Prop}{YP:AO->AY->Prop}{d:DefRec}{w:AO}{A:AJ}{E:Value->Ab->Prop}{s:Ab}{K:AB}
theorem Zie :∀(ns:List Int) (vs:List Value),WellAll P h vs (ns.map WData.int)->Gg vs ns:=by
 intro ns
 induction ns with
 | nil =>intro vs w;rw [G6] at w;cases w;exact .nil
 | cons n ns ih =>
  intro vs w;rw [AG] at w;cases w with
  | cons a b =>cases a;exact .cons _ _ (ih _ b)
theorem Zvo (hn:l.most=some n)
  (hpre:l.row.toRowW.claim.pre args=true) (hwl:WellAll P h vals args) :
  ∃a vs ns,vals=[Ba a]/\args=[WData.list (ns.map WData.int)]/\h.get? a=some {cls:=.type "list",data:=.seq vs.toArray}/\Gg vs ns/\ns.length<=n:=by
 have hsh:WShape.hasAll [] args [.list .int]=true:=(pre_splitW hpre).1;have hc:l.pre.holds [] {args:=args}=true:=(pre_splitW hpre).2;obtain ⟨d,r,rfl,h1,h2⟩:=hasAllW_cons hsh;obtain rfl:=hasAllW_nil h2;obtain ⟨xs,rfl,h3⟩:=hasW_list h1;obtain ⟨ns,rfl⟩:=items_int h3;have hlen:ns.length<=n:=by
  unfold OpenLaw.pre at hc;have h4:(WTm.not (.lt (.lit (.int (n:Int))) (.len (.arg 0)))).holds [] {args:=[.list (ns.map .int)]}=true:=by have h4:=(holds_andW hc).1;rw [hn] at h4;exact h4
  have h5:=condW_of h4 (w_not (w_lt w_lit (w_len_list (w_arg rfl))));rw [Al] at h5;refine Nat.le_of_not_lt fun q=>?_;have q':(n:Int)<((ns.length:Nat):Int):=by omega
  first
   | (rw [decide_eq_true q'] at h5;exact absurd h5 (by decide))
   | (simp at h5;omega)
 cases hwl with
 | cons w1 w2 =>
  cases w2;cases w1 with
  | list ho hall=>exact ⟨_,_,ns,rfl,rfl,ho,Zie ns _ hall,hlen⟩
theorem Zxt (l:OpenLaw)(args:List WData):l.row.toRowW.claim.post args (.bool true) args=true:=
 postW_of (r:=l.row.toRowW) (X:=(true==true))
  (show WShape.has [] (.bool true) .bool=true by first | rfl | decide | simp [WShape.has,WShape.arms,WShape.armsAll])
  (show (WTm.eq .res (.lit (.bool true))).value [] {args:=args,res:=some (.bool true),after:=args}=some (.bool (true==true)) from w_eq_bool (w_res rfl) w_lit) rfl
theorem attach_call 
    (hn:l.most=some n) (hdf:d.params.defaults=[])
    (call:∀(w:AO) (s₀ s₁:Ab) (mg mb:Str->Option Value) (fa:Addr) (o:Obj) (pm cd doc:Value) (a:Addr) (vs:List Value) (ns:List Int),
      Ground q loose [] XP w s₀ mg mb s₁.heap->YP w s₁.heap->
      s₁.heap.get? fa=some o->o.data=.func (docDef d.name d.params d.body d.scope pm cd doc)->s₁.heap.CodeRec cd d.name->mg d.name=some (.ref fa)->
      s₁.heap.get? a=some {cls:=.type "list",data:=.seq vs.toArray}->Gg vs ns->ns.length<=n->s₁.gens=#[]->
      B8 (Ao l.prog w) EE (.call (.ref fa) ⟨[.ref a],[]⟩) (fun r s'=>r=.ok (.ret (.bool true))/\OldK s₁.heap s'.heap/\s'.os=s₁.os/\Da s'.gens) s₁) :
    WalkO q loose XP YP l.row.toRowW d [] (fun f vs=>PySem.call f vs):=by
  intro w s₀ s₁ mg mb G Y fa o pm cd doc dV kV ho hd hcd hD hmg hg args vals as hpre hlay hrd hwl hlo;obtain rfl:dV=.none:=Dflts.none hD hdf;obtain rfl:kV=.none:=Dflts.noKw hD;obtain ⟨a,vs,ns,rfl,rfl,hobj,hints,hlen⟩:=Zvo hn hpre hwl;refine enter_call (ED (call w s₀ s₁ mg mb fa o pm cd doc a vs ns G Y ho (fd_plain hd) hcd hmg hobj hints hlen hg) fun r s' hq=>?_);obtain ⟨rfl,h2,h3,h4⟩:=hq;exact ⟨.inl ⟨.bool true,.bool true,[],rfl,fun _=>rfl,.bool true,Zxt l _,fun _=>⟨Hq,fun _ hm=>(nomatch hm)⟩⟩,h2,h3,h4⟩
end Att
namespace L2
open PySem PySem.Spec PyProof.Rows
variable {P q prog:Av}{w:AO}{K:AB}{mg mb m m':Str->Option Value}{CX:CXT}{a b tg iter elt:Expr}{fd:BB}{x qual name y:Str}{sp:Sp}{s₁ s s2 s₀ s':Ab}{vs its bmB:List Value}{ns:List Int}{l f p e C T it:Addr}{n j i x1 tk t':Nat}{loose N ps N2:List Str}{XP:(Str->Option Value)->AY->Prop}{YP:AO->AY->Prop}{d od an dx:Option Addr}{X:Cx}{st s1 b₀:Stmt}{oc u ev fl:Value}{osl:Array (Option Value)}{pos p2 apos cpos pos' px py spos np:Pos}{H H2 H' H₀:Hp}{op:HH}{es as ifs:List Expr}{env:Env}{c:Const}{ks:List Bi}{ops:List FU}{gs:List Fy}{sc scope esc:Scope}{pins pn pins':List (Addr×Obj)}{σ:St}{E E':Value->Ab->Prop}{t:TA}{Q:Unit->Ab->Prop}{g:Int->Int->V}{xs ys:List V}{v:V}{z:Option Value}{lo hi:Option Expr}{te to:TE}{r:List V->Hp->VK->Prop}{op':FU}{r':R2}{tt:TGs}{body suite:List Stmt}{wi:TI}{A A':AJ}{tc:TT}{fp ch own:List Addr}{h' h:AY}{tn:Nat->AY->Prop}{RR:Value->Addr->DL->Ab->Prop}{o oT:Obj}{α:Type}{M:Model}{g':Array Dj}{d':GG}{ts:Array Value}{outer:List Env}{newId:String}{tb:XK->TS}
theorem Zno:∀{vs:List Value} {ns:List Int},Gg vs ns->Jj (ns.map V.int) vs
 | _,_,.nil=>.nil
 | _,_,.cons n t h=>.cons ⟨t,rfl⟩ (Zno h)
def Only (H:Hp):Prop:=∀b,H b=none\/∃o xs,H b=some (.frz o (.lst xs))
theorem Xcv {k:Nat}{fa a:Addr}
    (KX:K.In s₁.heap) (hns:s₁.heap.Ns Ad mg) (hb:s₁.heap.Ns El mb) (hbb:∀x:Str,x≠"__name__"->mb x=Bc x) (hlim:s₁.heap.NoLimit) (hg:s₁.gens=#[])
    (ha:s₁.heap.get? a=some {cls:=.type "list",data:=.seq vs.toArray}) (hi:Gg vs ns) (hl:ns.length<=Ai) (hr:Zha k EE)
    (F:∀base:AY,K.In base->base.Ns Ad mg->Zbr P w K mg base CX k fa fd [x] sp) (hbind:∀(s:Ab) (u:Value),D7 s fd ⟨[u],[]⟩ [(x,u)])
    (hsp:∀H:Hp,Only H->SqL K H a (ns.map V.int)->sp [.ref a] H (fun v _=>v=.bl true) fun _ _ _=>False)
    (hCX:∀H e s',CX [] H s₁ (fun _ _ _=>False) e s'->False) :
    B8 (Ao P w) EE (.call (.ref fa) ⟨[.ref a],[]⟩) (fun r s'=>r=.ok (.ret (.bool true))/\OldK s₁.heap s'.heap/\s'.os=s₁.os/\Da s'.gens) s₁:=by
  have rv:=Zno hi;have lenV:=hi.length;have core:∀H:Hp,Only H->SqL K H a (ns.map V.int)->HOk P w H s₁.heap->(∀b,H b≠none->b=a)->(H a≠none->K.lookup a=none)->
      B8 (Ao P w) EE (.call (.ref fa) ⟨[.ref a],[]⟩) (fun r s'=>r=.ok (.ret (.bool true))/\OldK s₁.heap s'.heap/\s'.os=s₁.os/\Da s'.gens) s₁:=by
    intro H hO hS hok hA hK;have base_of:∀{b:Addr} {o:Obj},s₁.heap.get? b=some o->H b=none->(Xcz s₁.heap H).get? b=some o:=fun e n=>Xam e n;have noA:∀{b:Addr} {o:Obj} {es:Array DictEntry} {ep:Nat},s₁.heap.get? b=some o->o.data=.dict es ep->H b=none:=fun {b o es ep} e d=>by
      cases q:H b with
      | none=>rfl
      | some u =>have e':b=a:=hA b (by rw [q];simp);subst e';rw [ha] at e;cases e;have d':Data.seq vs.toArray _=Data.dict es ep:=d;cases d'
    have nsK:∀{b:Addr} {m:Str->Option Value},s₁.heap.Ns b m->(Xcz s₁.heap H).Ns b m:=fun {b m} ⟨o,es,ep,e,d,r⟩=>⟨o,es,ep,base_of e (noA e d),d,r⟩;have hKb:K.In (Xcz s₁.heap H):=fun b o e=>base_of (KX b o e) (by
      cases q:H b with
      | none=>rfl
      | some u =>
        have e':b=a:=hA b (by rw [q];simp);subst e';rw [hK (by rw [q];simp)] at e;cases e)
    have hM:Mod K mg (Xcz s₁.heap H):=⟨hKb,nsK hns,⟨mb,nsK hb,hbb⟩,let ⟨mc,h1,h2⟩:=hlim;⟨mc,nsK h1,h2⟩⟩;have e0:Xrq P w K mg (Xcz s₁.heap H) EE [] s₁ H:=⟨rfl,hM,fun b o e=>Xjv e,Nat.le_of_eq (Zxd _ _),trivial,fun b hb=>absurd (show b∈([]:List Addr) from hb) (by simp),hok,.of_eq hg⟩;refine ED ((F _ hKb (nsK hns)).run EE [] s₁ H ⟨[.ref a],[]⟩ [.ref a] [.ref a] _ _ hr e0 (hbind s₁ (.ref a)) (.cons rfl .nil) (hsp H hO hS)) fun r s' h=>?_;cases r with
    | error e=>exact (hCX H e s' h).elim
    | ok fl =>
      cases fl with
      | next=>exact False.elim h
      | brk=>exact False.elim h
      | cont=>exact False.elim h
      | ret u =>
        obtain ⟨v,H',os,bare,un,hok',r',q⟩:=h;have q':v=.bl true:=q;subst q';obtain rfl:u=Bs true:=r';refine ⟨rfl,OldK.of_keep fun b o e=>?_,os,bare⟩;cases q:H b with
        | none=>exact un.keep b o e q (by intro z;exact absurd (show b∈([]:List Addr) from z) (by simp)) (by simp)
        | some u =>
          rcases hO b with z | ⟨ob,xs,z⟩
          · rw [q] at z;cases z
          · have z2:=un.frzs b ob _ z;obtain ⟨e1,_⟩:=hok b _ z;obtain ⟨e2,_⟩:=hok' b _ z2;rw [e] at e1;cases e1;exact e2
  cases hk:K.lookup a with
  | some o =>have e:=KX a o hk;rw [ha] at e;cases e;refine core (fun _=>none) (fun _=>.inl rfl) (.inr ⟨_,vs.toArray,_,hk,rfl,rfl,rfl,by rw [AI,lenV];exact hl,by simpa using rv⟩) (fun b u z=>by have z':(none:Option HO)=some u:=z;cases z') (fun b z=>absurd rfl z) fun z=>absurd rfl z
  | none =>
    refine core (fun b=>if b=a then some (.frz {cls:=.type "list",data:=.seq vs.toArray} (.lst (ns.map V.int))) else none) (fun b=>?_) (.inl (.inr ⟨{cls:=.type "list",data:=.seq vs.toArray},if_pos rfl⟩)) (fun b u z=>?_) (fun b z=>?_) fun _=>hk
    · by_cases hb:b=a
      · exact .inr ⟨_,_,if_pos hb⟩
      · exact .inl (if_neg hb)
    · by_cases hb:b=a
      · have z':=(if_pos hb).symm.trans z;cases z';subst hb;exact ⟨ha,by rw [Al];exact hl,vs,_,rv,ha⟩
      · have z':=(if_neg hb).symm.trans z;cases z'
    · by_cases hb:b=a
      · exact hb
      · exact absurd (if_neg hb) z
abbrev KOf {K:AB}{h:AY}(_:K.In h):AB:=K
theorem Xjp {l:PySem.W.OpenLaw}{k:Nat}{d:DefRec}{K:Params->AB}{CX:AO->CXT}{sp:AO->Sp}
    (hn:l.most=some n) (hn2:n<=Ai) (hdf:d.params.defaults=[]) (hr:Zha k EE)
    (hY:∀(w:AO) (h:AY),YP w h->(K w.params).In h)
    (F:∀(w:AO) (mg:Str->Option Value) (fa:Addr) (h:AY),(K w.params).In h->h.Ns Ad mg->mg d.name=some (.ref fa)->
      ∃fd:BB,(∀(s:Ab) (u:Value),D7 s fd ⟨[u],[]⟩ [(x,u)])/\
        ∀base:AY,(K w.params).In base->base.Ns Ad mg->Zbr l.prog w (K w.params) mg base (CX w) k fa fd [x] (sp w))
    (hsp:∀(w:AO) (H:Hp) (a:Addr) (ns:List Int),ns.length<=n->Only H->SqL (K w.params) H a (ns.map V.int)->sp w [.ref a] H (fun v _=>v=.bl true) fun _ _ _=>False)
    (hCX:∀(w:AO) (H:Hp) (s:Ab) (e:Value) (s':Ab),CX w [] H s (fun _ _ _=>False) e s'->False) :
    PySem.W.WalkO q loose XP YP l.row.toRowW d [] (fun f vs=>PySem.call f vs):=by
  refine Att.attach_call hn hdf fun w s₀ s₁ mg mb fa o pm cd doc a vs ns G Y ho hd hcd hmg hobj hints hlen hg=>?_;have KX:=hY w _ Y;obtain ⟨fd,hb,hF⟩:=F w mg fa _ KX G.T.g hmg;exact Xcv KX G.T.g G.T.b G.T.builtins G.T.nolimit hg hobj hints (AN hlen hn2) hr hF hb (fun H hO hS=>hsp w H a ns hlen hO hS) fun H e s'=>hCX w H s₁ e s'
def Zdr (s:Stmt):D8:=match s with
 | .FunctionDef _ a _ _ _ _ _ _ _ _=>a
 | _=>{posonlyargs:=[],args:=[],vararg:=none,kwonlyargs:=[],kw_defaults:=[],kwarg:=none,defaults:=[]}
def Zae (s:Stmt):List Stmt:=match s with
 | .FunctionDef _ _ b _ _ _ _ _ _ _=>b
 | _=>[]
def Zk (s:Stmt):Scope:=match s with
 | .FunctionDef _ _ _ _ _ _ sc _ _ _=>sc
 | _=>{kind:=.function,names:=[],isGenerator:=false,isCoroutine:=false}
abbrev CX0:CXT:=fun _ _ _ _ _ _=>False
abbrev E0:XK:=fun _ _ _=>False
theorem Zaf :Zfk CX0 X E0:=fun _ _ _ _ _ _ _ h=>h.elim
structure Fun (K:AB)(x qual:Str)(st:Stmt)(f:Addr)(fd:BB):Prop where
 ex:∃(oc:Value) (od:Option Addr) (kV doc pm:Value) (an:Option Addr) (cdv ct:Value) (osl:Array (Option Value)),
  fd=FZ x qual (Zdr st) (Zae st) (Zk st) .none kV doc pm an cdv ct/\K.lookup f=some ⟨oc,od,.func fd,osl⟩/\Ek K cdv qual=true
 kp:DJ K (.ref f)=true
section
variable {base:AY}
theorem Fun.ok {k:Nat}(F:Fun K x qual st f fd)(S:Xk N ps (Zk st))(len:∀vs H Q E,sp vs H Q E->vs.length=ps.length)
    (hbody:∀(cdv:Value) (A:AJ) (outer:List Env) (s:Ab) (H:Hp) (vs:List V) (Q:VK) (E:XK),Zha k (A.deeper (C6 qual (Zk st) s.heap.objs.size f cdv))->sp vs H Q E->
      ∃t,PSs (Zqb CX0 P w K mg base N qual (Zk st) f cdv A outer s H E).nox (Zae st) t/\t {nx:=fun _ H'=>Q .non H',rt:=Q} (start N vs) H):Zbr P w K mg base CX0 (k+1) f fd ps sp:=by
  obtain ⟨oc,od,kV,doc,pm,an,cdv,ct,osl,rfl,lk,hcd⟩:=F.ex;refine Xro lk hcd S len fun A outer s H vs Q E hr hsp=>?_;obtain ⟨t,h,q⟩:=hbody cdv A outer s H vs Q E hr hsp;exact ⟨t,h.nox,q⟩
theorem Fun.binds (F:Fun K x qual st f fd)
  (h:∀(kV doc pm:Value) (an:Option Addr) (cdv ct:Value) (us:List Value),us.length=ps.length->HF (FZ x qual (Zdr st) (Zae st) (Zk st) .none kV doc pm an cdv ct) ⟨us,[]⟩=pure (ps.zip us)):Binds K fd ps []:=by
 obtain ⟨oc,od,kV,doc,pm,an,cdv,ct,osl,rfl,lk,hcd⟩:=F.ex;exact .all (h kV doc pm an cdv ct)
theorem Jd {kV doc pm cdv ct:Value}(l:K.lookup f=some ⟨oc,od,.func (FZ x qual (Zdr st) (Zae st) (Zk st) .none kV doc pm an cdv ct),osl⟩)
  (c:Ek K cdv qual=true) (k:DJ K (.ref f)=true):Fun K x qual st f (FZ x qual (Zdr st) (Zae st) (Zk st) .none kV doc pm an cdv ct):=⟨⟨oc,od,kV,doc,pm,an,cdv,ct,osl,rfl,l,c⟩,k⟩
theorem pv (i:Nat)(hN:X.N[i]?=some x:=by rfl)(hv:autoParam (Vis X.env.scope x) aT3._auto_1)(hd:(x==("__debug__":Str))=false:=by decide)
  (hcd:(x==("__classdict__":Str))=false:=by decide):PE X (.Name x pos) (Ztk i):=Xog hN hv hd hcd
end
def Xt (H H':Hp):Prop:=∀b o,H b=some o->H' b=some o
theorem Xt.refl (H:Hp):Xt H H:=fun _ _ h=>h
theorem Xt.trans {H1:Hp}(a:Xt H H1)(b:Xt H1 H2):Xt H H2:=fun c o h=>b c o (a c o h)
theorem Xt.free (e:Xt H H')(h:H' l=CB):H l=CB:=by
 cases q:H l with
 | none=>rfl
 | some o =>rw [e l o q] at h;cases h
theorem Xn :Ac (.BinOp a op b pos::es) env=(false,AM (.BinOp a op b pos) env)::Ac es env:=rfl
theorem Zc {k:Nat}:Ac (.Constant c k pos::es) env=(false,AM (.Constant c k pos) env)::Ac es env:=rfl
theorem Za :Ac (.Name x pos::es) env=(false,AM (.Name x pos) env)::Ac es env:=rfl
theorem Xc :Ac (.Subscript a b pos::es) env=(false,AM (.Subscript a b pos) env)::Ac es env:=rfl
theorem Yl :Ac (.Call a as ks pos::es) env=(false,AM (.Call a as ks pos) env)::Ac es env:=rfl
theorem Zin :Ac (.List as pos::es) env=(false,AM (.List as pos) env)::Ac es env:=rfl
theorem Zko {k:Nat}:Ac (.Tuple as k pos::es) env=(false,AM (.Tuple as k pos) env)::Ac es env:=rfl
theorem Zpw :Ac (.Compare a ops as pos::es) env=(false,AM (.Compare a ops as pos) env)::Ac es env:=rfl
theorem Zab :Ac (.ListComp a gs sc pos::es) env=(false,AM (.ListComp a gs sc pos) env)::Ac es env:=rfl
theorem Zck :Zdg (.Subscript a b pos):=fun _ _=>rfl
theorem Zap :Zdg (.Name x pos):=fun _ _=>rfl
theorem Zi {k:Nat}:Zdg (.Constant c k pos):=fun _ _=>rfl
theorem plain_bin :Zdg (.BinOp a op b pos):=fun _ _=>rfl
theorem Zry :Zdg (.Call a es ks pos):=fun _ _=>rfl
def Zyq:R2:=fun x y H Q=>rI0 (fun i j=>.int (i+j)) x y H Q\/(∃i j,x=.str i/\y=.str j/\i.length+j.length<=Ai/\Q (.str (i++j)) H)\/rCat x y H Q
def Xai:R2:=fun x y H Q=>rI Xkz (fun i j=>.int (i*j)) x y H Q\/rRep x y H Q
def Xma (_ j:Int):Prop:=0<j/\j<2 ^ 200
theorem Zy:OpR X (BS .Add) Zyq:=Xpm.or (Zte.or Xpe)
theorem Ja:OpR X (BS .Mult) Xai:=Xpy.or Xmd
theorem log2_small {j:Int}(h1:0<j)(h2:j<2 ^ 200):j.natAbs.log2<9000:=by
 have h3:j.natAbs<2 ^ 200:=by omega
 exact DU ((HD (by omega)).mpr h3) (by decide)
theorem Zqm:OpR X (BS .FloorDiv) (rI Xma fun i j=>.int (i / j)):=opI fun i j _ _ _ _ _ hc q=>by have h1:(0:Int)<j:=hc.1;have h2:j<2 ^ 200:=hc.2;exact floordiv_int (by omega) (by rw [Int.fdiv_eq_ediv_of_nonneg i (by omega)];exact q) (.inl (PyProof.noPylong_of_log2 (log2_small h1 h2)))
mutual
inductive Dn (K:AB)(H:Hp):V->DZ->Prop
 | non:Dn K H .non .none
 | bl (b:Bool):Dn K H (.bl b) (.bool b)
 | int (i:Int):Dn K H (.int i) (.int i)
 | str (x:Str):Dn K H (.str x) (.str x)
 | lst {a:Addr} {xs:List V} {ds:List DZ}:SqL K H a xs->DnA K H xs ds->Dn K H (.ref a) (.list ds)
 | tup {a:Addr} {xs:List V} {ds:List DZ}:SqT K H a xs->DnA K H xs ds->Dn K H (.ref a) (.tuple ds)
inductive DnA (K:AB)(H:Hp):List V->List DZ->Prop
 | nil:DnA K H [] []
 | cons {x:V} {d:DZ} {xs:List V} {ds:List DZ}:Dn K H x d->DnA K H xs ds->DnA K H (x::xs) (d::ds)
end
mutual
theorem Dn.reads (I:Inv X pins σ H s):∀{x:V} {d:DZ} {u:Value},Dn X.K H x d->RelV x u->∃as,Reads s.heap u d as
 | _,_,_,.non,r=>by cases (show _=C1 from r);exact ⟨_,.none⟩
 | _,_,_,.bl b,r=>by cases (show _=Bs b from r);exact ⟨_,.bool b⟩
 | _,_,_,.int i,r=>by obtain ⟨t,q⟩:=(show ∃t,_=Ea i t from r);cases q;exact ⟨_,.int i t⟩
 | _,_,_,.str x,r=>by obtain ⟨t,q⟩:=(show ∃t,_=D9 x t from r);cases q;exact ⟨_,.str x t⟩
 | _,_,_,.lst (a:=a) h ra,r=>by cases (show _=Ba a from r);obtain ⟨its,rv,pl,_⟩:=I.list h;obtain ⟨as,q⟩:=DnA.reads I ra rv;obtain ⟨o,ho,hc,n,hd⟩:=pl.isList;exact ⟨_,.list ho hc hd q⟩
 | _,_,_,.tup (a:=a) h ra,r=>by cases (show _=Ba a from r);obtain ⟨its,rv,pl,_⟩:=I.tuple h;obtain ⟨as,q⟩:=DnA.reads I ra rv;obtain ⟨o,ho,hc,n,hd⟩:=pl;exact ⟨_,.tuple ho hc hd q⟩
theorem DnA.reads (I:Inv X pins σ H s):∀{xs:List V} {ds:List DZ} {us:List Value},DnA X.K H xs ds->Jj xs us->∃as,ReadsAll s.heap us ds as
 | _,_,_,.nil,.nil=>⟨_,.nil⟩
 | _,_,_,.cons h ra,.cons r rs=>by obtain ⟨as,q⟩:=Dn.reads I h r;obtain ⟨bs,q'⟩:=DnA.reads I ra rs;exact ⟨_,.cons q q'⟩
end
def rEqD (K:AB):R2:=fun x y H Q=>∃dx dy,Dn K H x dx/\Dn K H y dy/\CQ dx=true/\CQ dy=true/\Q (.bl (Do dx dy)) H
def rNeD (K:AB):R2:=fun x y H Q=>∃dx dy,Dn K H x dx/\Dn K H y dy/\CQ dx=true/\CQ dy=true/\Q (.bl (!PyData.eqv dx dy)) H
def Zfq (K:AB):R2:=fun x y H Q=>rEq x y H Q\/rEqD K x y H Q
def Xgw (K:AB):R2:=fun x y H Q=>rNe x y H Q\/rNeD K x y H Q
theorem Xnh (hu:X.A.units+64<Bk):OpR X (AA .Eq) (rEqD X.K):=by intro pins s σ H x y v u Q I rx ry h;obtain ⟨dx,dy,h1,h2,s1,s2,q⟩:=h;obtain ⟨as,ra⟩:=h1.reads I rx;obtain ⟨bs,rb⟩:=h2.reads I ry;exact eq_dataH ra rb s1 s2 hu ⟨.bl _,H,I,rfl,q⟩
theorem Xpk (hu:X.A.units+64<Bk):OpR X (AA .NotEq) (rNeD X.K):=by intro pins s σ H x y v u Q I rx ry h;obtain ⟨dx,dy,h1,h2,s1,s2,q⟩:=h;obtain ⟨as,ra⟩:=h1.reads I rx;obtain ⟨bs,rb⟩:=h2.reads I ry;exact ne_dataH ra rb s1 s2 hu ⟨.bl _,H,I,rfl,q⟩
theorem Yu (hu:X.A.units+64<Bk):OpR X (AA .Eq) (Zfq X.K):=op_eq.or (Xnh hu)
theorem Zmj (hu:X.A.units+64<Bk):OpR X (AA .NotEq) (Xgw X.K):=op_ne.or (Xpk hu)
def Zcl (K:AB):List V->Hp->VK->Prop:=fun xs H Q=>(∃p ys,xs=[.ref p]/\(SqL K H p ys\/SqT K H p ys)/\Q (.int ys.length) H)\/∃z,xs=[.str z]/\z.length<=Ai/\Q (.int z.length) H
def Xll (K:AB):List V->Hp->VK->Prop:=fun xs H Q=>∃x c t b,xs=[x,.ty c]/\TyOf K H x t/\CN K t (.type c)=some b/\Q (.bl b) H
def Xlo (lo:Int)(n:Nat):List V:=(A7 n).map fun (k:Nat)=>V.int (lo+(k:Int))
theorem Yh:Zbg X (.builtin "len") (Zcl X.K):=Zmm.or Zmz
theorem Zny:Zbg X (.builtin "isinstance") (Xll X.K):=by intro pins s σ H xs us Q I r h;obtain ⟨x,c,t,b,rfl,ty,e,q⟩:=h;obtain ⟨u,w',rfl,rx,ry⟩:=vals2 r;cases (show w'=EF c from ry);exact Zxg I rx ty e fun tk=>⟨.bl b,H,I.tok _,rfl,q⟩
structure Def (P:Av)(w:AO)(K:AB)(mg:Str->Option Value)(base:AY)(CX:CXT)(k:Nat)(x:Str)(ps:List Str)(sp:Sp):Prop where
 ex:∃f fd,mg x=some (.ref f)/\DJ K (.ref f)=true/\Binds K fd ps []/\Zbr P w K mg base CX k f fd ps sp
theorem Xaa {k:Nat}{E:XK}{p:Pos}{e:Expr}(D:Def X.prog X.w X.K X.mg X.base CX k x ps sp)(hr:Zha k X.A)(hg:Gl X x)(hx:Zfk CX X E)
  (ha:PA X (e::es) t) (hdb:(x==("__debug__":Str))=false:=by decide) (he:Ac (e::es) X.env=(false,AM e X.env)::Ac es X.env:=by rfl) (hpl:(AW pos (Ac es X.env)).any (·.1)=false:=by rfl) :
  PE X (.Call (.Name x p) (e::es) [] pos) (Zso sp [] E t):=by
 obtain ⟨f,fd,m,kp,b,F⟩:=D.ex;exact Xin F hr hg m kp b .nil hx ha hdb he hpl
section
variable {Q:VK}{D:Ends}
theorem rd_I {C:Int->Int->Prop}{i j:Int}(c:C i j)(q:Q (g i j) H):rI C g (.int i) (.int j) H Q:=⟨i,j,rfl,rfl,c,q⟩
theorem rd_I0 {i j:Int}(q:Q (g i j) H):rI0 g (.int i) (.int j) H Q:=⟨i,j,rfl,rfl,q⟩
theorem Xnc {i j:Int}(q:Q (.int (i+j)) H):Zyq (.int i) (.int j) H Q:=.inl ⟨i,j,rfl,rfl,q⟩
theorem Xrk {i j:Int}(c:Xkz i j)(q:Q (.int (i*j)) H):Xai (.int i) (.int j) H Q:=.inl ⟨i,j,rfl,rfl,c,q⟩
theorem Xka {E:XK}(q:t σ H fun vs H1=>sp vs H1 Q E):Zso sp [] E t σ H Q:=by
 show t σ H fun vs H1=>sp (vs++[]) H1 Q E;have e:(fun vs H1=>sp (vs++[]) H1 Q E)=fun vs H1=>sp vs H1 Q E:=by funext vs H1;rw [Cf]
 rw [e];exact q
theorem Xdy {i:Int}(h:SqL K H p xs)(e:atI xs i=some v)(q:Q v H):rIx K (.ref p) (.int i) H Q:=.inl ⟨p,xs,i,v,rfl,rfl,h,e,q⟩
theorem Xpn {i:Int}(h:SqT K H p xs)(e:atI xs i=some v)(q:Q v H):rIx K (.ref p) (.int i) H Q:=.inr (.inl ⟨p,xs,i,v,rfl,rfl,h,e,q⟩)
theorem Znw (h:SqL K H p ys)(q:Q (.int ys.length) H):Zcl K [.ref p] H Q:=.inl ⟨p,ys,rfl,.inl h,q⟩
theorem Xgj (h:SqT K H p ys)(q:Q (.int ys.length) H):Zcl K [.ref p] H Q:=.inl ⟨p,ys,rfl,.inr h,q⟩
theorem Xhz {z:Str}(h:z.length<=Ai)(q:Q (.int z.length) H):Zcl K [.str z] H Q:=.inr ⟨z,rfl,h,q⟩
theorem Xoj {y:V}(h:H l=some (.lst xs))(hz:xs.length<Ai)(q:Q .non (upd H l (.lst (xs++[y])))):Zhm (.ref l) [y] H Q:=⟨l,xs,y,rfl,rfl,h,hz,q⟩
theorem Zvl {a:Addr}{lo hi:Option Int}(h:SqL K H a xs)(q:∀p,H p=none->Q (.ref p) (upd H p (.lst (Xby xs lo hi)))):rSlL K (.ref a) lo hi H Q:=⟨a,xs,rfl,h,q⟩
theorem Xql {a b:Addr}{zs:List V}(h1:H a=some (.lst xs))(h2:H b=some (.lst zs))(hz:xs.length+zs.length<=Ai)(q:∀p,H p=none->Q (.ref p) (upd H p (.lst (xs++zs)))):Zyq (.ref a) (.ref b) H Q:=.inr (.inr ⟨a,b,xs,zs,rfl,rfl,h1,h2,hz,q⟩)
theorem Xmb {k:Int}(h:H l=some (.lst xs))(h1:-(2 ^ 63)<=k)(h2:k<2 ^ 63)(hz:xs.length*k.toNat<=Ai)(q:∀p,H p=none->Q (.ref p) (upd H p (.lst (Aa k.toNat xs).flatten))):Xai (.ref l) (.int k) H Q:=.inr ⟨l,k,xs,rfl,rfl,h,h1,h2,hz,q⟩
theorem Xqc {x:V}{c:String}{t:Value}{b:Bool}(h:TyOf K H x t)(e:CN K t (.type c)=some b)(q:Q (.bl b) H):Xll K [x,.ty c] H Q:=⟨x,c,t,b,rfl,h,e,q⟩
end
structure QE (X:Cx)(e:Expr)(t:TE):Prop where
 out:PE X e t
structure QT (X:Cx)(e:Expr)(t:TT):Prop where
 out:PT X e t
structure QW (X:Cx)(e:Expr)(t:TT):Prop where
 out:PW X e t
structure QA (X:Cx)(es:List Expr)(t:TA):Prop where
 out:PA X es t
structure QO (X:Cx)(e:Option Expr)(t:TO):Prop where
 out:PO X e t
structure QG (X:Cx)(e:Expr)(t:TG):Prop where
 out:PG X e t
structure QGs (X:Cx)(es:List Expr)(t:TGs):Prop where
 out:PGs X es t
structure QI (X:Cx)(tg iter:Expr)(wi:TI):Prop where
 out:PI X tg iter wi
structure QS (X:Cx)(st:Stmt)(t:TS):Prop where
 out:PS X st t
structure QSs (X:Cx)(st:List Stmt)(t:TS):Prop where
 out:PSs X st t
section
variable {c e st o:Expr}{rest:List Expr}{ta tb tc ts:TE}{tA tB':TT}{p:Pos}
theorem Xqj {i:Int}:QE X (.Constant (.int i) j pos) (tC (.int i)):=⟨Xnf⟩
theorem qe_bl {i:Bool}:QE X (.Constant (.bool i) j pos) (tC (.bl i)):=⟨pe_bl⟩
theorem Xou :QE X (.Constant .none j pos) (tC .non):=⟨Xnk⟩
theorem Xdu :QE X (.Constant (.str x) j pos) (tC (.str x)):=⟨Xqv⟩
theorem qv (i:Nat)(hN:X.N[i]?=some x:=by rfl)(hv:autoParam (Vis X.env.scope x) aT3._auto_1)(hd:(x==("__debug__":Str))=false:=by decide)
  (hcd:(x==("__classdict__":Str))=false:=by decide):QE X (.Name x pos) (Ztk i):=⟨pv i hN hv hd hcd⟩
theorem Zor (hg:Gl X x)(hm:X.mg x=some u)(r:RelV v u)(hd:(x==("__debug__":Str))=false:=by decide):QE X (.Name x pos) (tC v):=⟨Xkr hg hm r hd⟩
theorem Zwh (hg:Gl X x)(hm:X.mg x=none)(hv:Bc x=some u)(r:RelV v u)(hn:x≠"__name__":=by decide)(hd:(x==("__debug__":Str))=false:=by decide):QE X (.Name x pos) (tC v):=⟨Xfm hg hm hv r hn hd⟩
theorem qe_op {r:R2}(ho:OpR X (BS op) r)(ha:QE X a ta)(hb:QE X b tb):QE X (.BinOp a op b pos) (tOp r ta tb):=⟨pe_op ho ha.out hb.out⟩
theorem Xgp {op:FU}{r:R2}(ho:OpR X (AA op) r)(ha:QE X a ta)(hb:QE X b tb)(hm:B3 op b=false):QE X (.Compare a [op] [b] pos) (tOp r ta tb):=⟨Xkn ho ha.out hb.out hm⟩
theorem Xey {op:FU}{r:R2}(ho:OpR X (AA op) r)(ha:QE X a ta)(hb:QE X b tb)(hm:B3 op b=false):QT X (.Compare a [op] [b] pos) (Zof (tOp r ta tb)):=⟨Xhl ho ha.out hb.out hm⟩
theorem Zza {op:FU}{r:R2}(ho:OpR X (AA op) r)(ho':OpR X (AA op') r')(ha:QE X a ta)(hb:QE X b tb)(hc:QE X c tc)(hm:D5 [op,op'] [b,c]=false:=by with_unfolding_all rfl):QE X (.Compare a [op,op'] [b,c] pos) (Zio r r' ta tb tc):=⟨Xcy ho ho' ha.out hb.out hc.out hm⟩
theorem Xcd {op:FU}{r:R2}(ho:OpR X (AA op) r)(ho':OpR X (AA op') r')(ha:QE X a ta)(hb:QE X b tb)(hc:QE X c tc)(hm:D5 [op,op'] [b,c]=false:=by with_unfolding_all rfl):QT X (.Compare a [op,op'] [b,c] pos) (Zof (Zio r r' ta tb tc)):=⟨Xcx ho ho' ha.out hb.out hc.out hm⟩
theorem Xms {op:BoolOp}(h:QE X a ta):QE X (.BoolOp op [a] pos) ta:=⟨Xqf h.out⟩
theorem Xnz (ha:QE X a ta)(hb:QE X (.BoolOp .And (b::rest) pos) tb):QE X (.BoolOp .And (a::b::rest) pos) (Xbr ta tb):=⟨Xpp ha.out hb.out⟩
theorem qe_or (ha:QE X a ta)(hb:QE X (.BoolOp .Or (b::rest) pos) tb):QE X (.BoolOp .Or (a::b::rest) pos) (tOrV ta tb):=⟨pe_or ha.out hb.out⟩
theorem Xpg (ha:QE X a ta):QE X (.UnaryOp .Not a pos) (Xaf ta):=⟨Xls ha.out⟩
theorem Zyh (hc:QT X c tA)(ha:QE X a ta)(hb:QE X b tb):QE X (.IfExp c a b pos) (tIf tA ta tb):=⟨Zzc hc.out ha.out hb.out⟩
theorem Xmt (h:QE X e te)(he:∀whole,isTrue e X.env whole=(do let v <- whole;EA e.pos;Cj [v] (truthy v)):=by intro _;rfl):QT X e (tB te):=⟨Xqd h.out he⟩
theorem Xmh (ha:QT X a tA):QT X (.UnaryOp .Not a pos) (tNot tA):=⟨Xlu ha.out⟩
theorem Xhr (ha:QT X a tA):QW X (.BoolOp .And [a] pos) tA:=⟨Xgo ha.out⟩
theorem Xow (ha:QT X a tA):QW X (.BoolOp .Or [a] pos) tA:=⟨Xmf ha.out⟩
theorem Xpf (ha:QT X a tA)(hb:QW X (.BoolOp .And (b::rest) pos) tB'):QW X (.BoolOp .And (a::b::rest) pos) (tAnd tA tB'):=⟨Xpt ha.out hb.out⟩
theorem qw_or (ha:QT X a tA)(hb:QW X (.BoolOp .Or (b::rest) pos) tB'):QW X (.BoolOp .Or (a::b::rest) pos) (tOr tA tB'):=⟨pw_or ha.out hb.out⟩
theorem qt_w (h:QW X a tA):QT X a tA:=⟨h.out.pt⟩
theorem Zdj:QA X [] Ziu:=⟨Xeo⟩
theorem Jr (ha:QE X e te)(hr:QA X es t)(hs:Ac (e::es) X.env=(false,AM e X.env)::Ac es X.env):QA X (e::es) (Jx te t):=⟨Zvc ha.out hr.out hs⟩
theorem Xoy (h:QA X es t):QE X (.Tuple es x1 pos) (tTup t):=⟨Xmi h.out⟩
theorem Xdr (h:QA X es t):QE X (.List es pos) (Xky t):=⟨Xmq h.out⟩
theorem qe_ix {r:R2}(hr:IxR X r)(ha:QE X a ta)(hb:QE X b tb)(hs:Zdg b):QE X (.Subscript a b pos) (tOp r ta tb):=⟨pe_ix hr ha.out hb.out hs⟩
theorem Xfv:QO X none Zkc:=⟨Xkj⟩
theorem Xgr (h:QE X e te):QO X (some e) (Xar te):=⟨Xfp h.out⟩
theorem Zql {r:V->Option Int->Option Int->Hp->VK->Prop}{tl th:TO}(hr:SlR X r)(he:QE X e te)(hl:QO X lo tl)(hu:QO X hi th):QE X (.Subscript e (.Slice lo hi none p2) pos) (tSl r te tl th):=⟨Xay hr he.out hl.out hu.out⟩
theorem Xbq {k:Nat}{E:XK}(D:Def X.prog X.w X.K X.mg X.base CX k x ps sp)(hr:Zha k X.A)(hg:Gl X x)(hx:Zfk CX X E)
  (ha:QA X (e::es) t) (hdb:(x==("__debug__":Str))=false:=by decide) (he:Ac (e::es) X.env=(false,AM e X.env)::Ac es X.env:=by rfl) (hpl:(AW pos (Ac es X.env)).any (·.1)=false:=by rfl) :
  QE X (.Call (.Name x p) (e::es) [] pos) (Zso sp [] E t):=⟨Xaa D hr hg hx ha.out hdb he hpl⟩
theorem Zhd {id:String}(hc:Zbg X (.builtin id) r)(hg:Gl X x)(hm:X.mg x=none)(hv:Bc x=some (.builtin id))(ha:QA X (e::es) t)(hn:x≠"__name__":=by decide)(hdb:(x==("__debug__":Str))=false:=by decide)
  (he:Ac (e::es) X.env=(false,AM e X.env)::Ac es X.env:=by rfl) (hpl:(AW pos (Ac es X.env)).any (·.1)=false:=by rfl):QE X (.Call (.Name x p) (e::es) [] pos) (tCB r t):=⟨Zzh hc hg hm hv ha.out hn hdb he hpl⟩
theorem Zxq {T:String}(hc:Zbg X (.type T) r)(hg:Gl X x)(hm:X.mg x=none)(hv:Bc x=some (.type T))(ha:QA X (e::es) t)(hn:x≠"__name__":=by decide)(hdb:(x==("__debug__":Str))=false:=by decide)
  (he:Ac (e::es) X.env=(false,AM e X.env)::Ac es X.env:=by rfl) (hpl:(AW pos (Ac es X.env)).any (·.1)=false:=by rfl):QE X (.Call (.Name x p) (e::es) [] pos) (tCB r t):=⟨Zvg hc hg hm hv ha.out hn hdb he hpl⟩
theorem Zrt {T id:String}{r:V->List V->Hp->VK->Prop}(pa:PlainAttrs T)(slot:Slot T name id)(hty:typeOf (.builtin id)=pure (.type "method_descriptor"))(hm:MtR X id r)(ho:QE X o to)(ha:QA X (e::es) t)
    (hbase:Bl o name X.env (AM o X.env)=AM o X.env:=by rfl)
    (hfew:((AW cpos (Ac (e::es) X.env)).all (fun x=>!x.1)&&(CF cpos (BI [] X.env)).all (fun x=>x.1.isSome)
      && decide ((e::es).length+([]:List Bi).length+(if ([]:List Bi).isEmpty then 0 else 1)<30))=true:=by rfl)
    (hline:(apos.endLine==cpos.line)=true:=by rfl) (hs:Ac (e::es) X.env=(false,AM e X.env)::Ac es X.env:=by rfl) (hplain:(AW cpos (Ac es X.env)).any (·.1)=false:=by rfl) :
    QE X (.Call (.Attribute o name apos) (e::es) [] cpos) (tBM X.K T r to t):=⟨pe_bm pa slot hty hm ho.out ha.out hbase hfew hline hs hplain⟩
theorem Zov (hN:X.N.Nodup)(hi:X.N[i]?=some x)(hx:Loc X.env.scope x)(hf:autoParam (X.fn x=true\/X.env.scope.names.lookup x=some .local) aT0._auto_1):QG X (.Name x pos) (Zcb i):=⟨Xkv hN hi hx hf⟩
theorem Xei {k:Nat}(hc:X.calm=true)(h:QGs X es tt)(hn:(AV es X.env).length=n:=by rfl)(hst:(AV es X.env).findIdx? (·.1)=none:=by rfl):QG X (.Tuple es k pos) (Zdq X.K n tt):=⟨Xqq hc h.out hn hst⟩
theorem Zwd:QGs X [] Xlh:=⟨Xjl⟩
theorem Zqy {tt:TG}{u:TGs}(h1:QG X e tt)(h2:QGs X es u)(hs:(AV (e::es) X.env).map (·.2)=BE e X.env::(AV es X.env).map (·.2):=by rfl):QGs X (e::es) (Zsa tt u):=⟨Zyp h1.out h2.out hs⟩
theorem Xjr (hl:QE X e te):QI X tg e (Zzd X.K te):=⟨Xji hl.out⟩
theorem Xpo (hl:QE X e te):QI X tg e (Xml X.K te):=⟨Xmm hl.out⟩
theorem Zum (hg:Gl X "range")(hm:X.mg "range"=none)(ha:QA X [a] t)(hs:Ac [a] X.env=[(false,AM a X.env)]:=by rfl):QI X tg (.Call (.Name "range" p) [a] [] pos) (Zyv t):=⟨Zxm hg hm ha.out hs⟩
variable {ss other:List Stmt}{u v:TS}
theorem Xjb:QSs X [] Zzw:=⟨Xgg⟩
theorem Zzu (h1:QS X s1 u)(h2:QSs X ss v):QSs X (s1::ss) (tSeq u v):=⟨Xcg h1.out h2.out⟩
theorem Xjn (h1:QS X s1 u):QSs X [s1] u:=⟨Xhd h1.out⟩
theorem Xjs (he:QE X e te)(hs:BP e none pos.line X.env=pure false:=by rfl):QS X (.Expr e pos) (Zzf te):=⟨Xhs he.out hs⟩
theorem Xre (he:QE X e te):QS X (.Return (some e) pos) (tRet te):=⟨Xpx he.out⟩
theorem qs_if (hc:QT X c tA)(ha:QSs X body u)(hb:QSs X other v):QS X (.If c body other pos) (tIfS tA u v):=⟨ps_if hc.out ha.out hb.out⟩
theorem Zuw {g:TG}(he:QE X e te)(hg:QG X tg g)(hs:Du [tg] e pos.line X.env=pure false:=by rfl)(hw:Dv [tg] e X.env=pure none:=by rfl)(h1:(AV [tg] X.env).map (·.2)=[BE tg X.env]:=by rfl):QS X (.Assign [tg] e pos) (Zkg te g):=⟨Xqi he.out hg.out hs hw h1⟩
theorem Xnp (hN:X.N.Nodup)(hi:X.N[i]?=some x)(hx:Loc X.env.scope x)(he:QE X e te)(hs:BP e (some (.Name x pos')) pos.line X.env=pure false:=by rfl)(hf:autoParam (X.fn x=true\/X.env.scope.names.lookup x=some .local) aT0._auto_1) :
  QS X (.Assign [.Name x pos'] e pos) (Zkg te (Zcb i)):=⟨Xoh hN hi hx he.out hs hf⟩
theorem Xrc {g:TG}(hp:Hi (Ao X.prog X.w) X.A X.env X.xe)(hc:X.calm=true)(hi:QI X tg iter wi)(hg:QG X tg g)(hb:QSs X body u)(hs:∀x,Aw iter X.env x=pure x:=by intro _;rfl):QS X (.For tg iter body [] pos) (tFor wi g u):=⟨Xoz hp hc hi.out hg.out hb.out hs⟩
end
theorem Fun.okQ {base:AY}{k:Nat}(F:Fun K x qual st f fd)(S:Xk N ps (Zk st))(len:∀vs H Q E,sp vs H Q E->vs.length=ps.length)
    (hbody:∀(cdv:Value) (A:AJ) (outer:List Env) (s:Ab) (H:Hp) (vs:List V) (Q:VK) (E:XK),Zha k (A.deeper (C6 qual (Zk st) s.heap.objs.size f cdv))->sp vs H Q E->
      ∃t,QSs (Zqb CX0 P w K mg base N qual (Zk st) f cdv A outer s H E).nox (Zae st) t/\t {nx:=fun _ H'=>Q .non H',rt:=Q} (start N vs) H):Zbr P w K mg base CX0 (k+1) f fd ps sp:=
  F.ok S len fun cdv A outer s H vs Q E hr h=>by obtain ⟨t,ht,q⟩:=hbody cdv A outer s H vs Q E hr h;exact ⟨t,ht.out,q⟩
@[reducible] def Cx.blk (X:Cx)(N2:List Str)(x:Str)(sc:Scope)(cl:List (Str×Addr))(C:Addr)(s0:Ab)(H0:Hp)(fp:List Addr):Cx:=
 {X with N:=N2++[x],s₀:=s0,H₀:=H0,env:=BR sc cl C X.env,outer:=X.stack,ex:=fp,fn:=fun _=>false,pn:=[],xe:=fun _ _=>False}
structure BlkOk (sc esc:Scope)(x:Str)(N N2:List Str):Prop where
 kind:sc.kind=.function
 cell:∀y∈sc.names,y.2≠.cell
 loc:∀y∈sc.names,y.2=.local->sc.names.lookup y.1=some .local
 own:sc.names.lookup x=some .local
 free:∀y∈sc.names,y.2=.free->esc.names.lookup y.1=some .cell\/esc.names.lookup y.1=some .free
 out:∀y∈N2,sc.names.lookup y≠some .local
 nd:N.Nodup
 nd2:N2.Nodup
 len:N2.length=N.length
 ren:∀p∈N.zip N2,p.2=p.1\/sc.names.lookup p.2=none
theorem lookup_mem {l:List (Str×BU)}{k:BU}(h:(y,k)∈l):l.lookup y≠none:=by
 induction l with
 | nil=>simp at h
 | cons p r ih =>
  obtain ⟨n,k'⟩:=p;cases hy:y==n with
  | true=>rw [AS,hy];simp
  | false =>rw [AS,hy];rcases Af.mp h with e | e;cases e;simp at hy;exact ih e
def Xx (cells:List (Str×Addr)):List (Str×BU)->List (Str×Addr)->List (Str×Addr)
 | [],cs=>cs
 | (n,k)::r,cs=>Xx cells r (if k=.free then (n,(cells.lookup n).getD 0)::cs else cs)
theorem Zav (h:∀y∈sc.names,y.2=.free->∃c,env.cells.lookup y.1=some c):Fe sc env=pure (Xx env.cells sc.names []):=by
  unfold Fe;generalize sc.names=l at h ⊢;have key:∀(l:List (Str×BU)) (cs:List (Str×Addr)),(∀y∈l,y.2=.free->∃c,env.cells.lookup y.1=some c)->
      (forIn l cs fun (y:Str×BU) (r:List (Str×Addr))=>(do
        let (name,kind):=y
        if kind==.free then
          let c <- cellOf env name
          pure (Dh ((name,c)::r))
        else pure (Dh r):Sem (ForInStep (List (Str×Addr)))))=pure (Xx env.cells l cs):=by
    intro l
    induction l with
    | nil=>intro cs _;rfl
    | cons y r ih =>
      intro cs hy;obtain ⟨n,k⟩:=y;rw [List.forIn_cons];have hr:∀y∈r,y.2=.free->∃c,env.cells.lookup y.1=some c:=fun y h'=>hy y (Bg _ h');by_cases hk:k=.free;subst hk;obtain ⟨c,hc⟩:=hy _ BL rfl;have e:cellOf env n=pure c:=by unfold cellOf;rw [show env.cells.lookup n=some c from hc]
      simp only [beq_self_eq_true,if_true,e];rw [Xx,if_pos rfl,show env.cells.lookup n=some c from hc];exact ih _ hr;have hb:(k==Bp)=false:=by simpa using hk
      rw [Xx,if_neg hk];simp only [hb,if_false,A8];exact ih _ hr
  have q:=key l [] h;exact (congrArg (fun z:Sem (List (Str×Addr))=>z >>= fun r=>pure r) q).trans rfl
theorem Znk {cells:List (Str×Addr)}:∀{l:List (Str×BU)} {cs:List (Str×Addr)} {y:Str} {c:Addr},(∀z∈l,z.2=.free->∃c,cells.lookup z.1=some c)->(∀c,cs.lookup y=some c->cells.lookup y=some c)->
  (Xx cells l cs).lookup y=some c->cells.lookup y=some c
 | [],_,_,_,_,h0,h=>h0 _ h
 | (n,k)::r,cs,y,c,hl,h0,h=>by
  rw [Xx] at h;refine Znk (l:=r) (fun z hz=>hl z (Bg _ hz)) (fun c' hc'=>?_) h;by_cases hk:k=.free;rw [if_pos hk] at hc';obtain ⟨c0,e0⟩:=hl _ BL hk;cases hy:y==n with
  | true =>
   have e:y=n:=by simpa using hy
   subst e;rw [AS,hy] at hc';have e1:(cells.lookup y).getD 0=c':=by simpa using hc'
   have e2:cells.lookup y=some c0:=e0;rw [e2] at e1 ⊢;simpa using e1
  | false =>rw [AS,hy] at hc';exact h0 _ hc'
  rw [if_neg hk] at hc';exact h0 _ hc'
theorem Zmw {cells:List (Str×Addr)}:∀{l:List (Str×BU)} {cs:List (Str×Addr)} {y:Str},(∃c,cs.lookup y=some c)->∃c,(Xx cells l cs).lookup y=some c
 | [],_,_,h=>h
 | (n,k)::r,cs,y,h=>by
  rw [Xx];refine Zmw ?_;split;cases hy:y==n with
  | true=>exact ⟨_,by rw [AS,hy]⟩
  | false=>rw [AS,hy];exact h
  exact h
theorem Zjx {cells:List (Str×Addr)}:∀{l:List (Str×BU)} {cs:List (Str×Addr)} {y:Str},(y,Bp)∈l->∃c,(Xx cells l cs).lookup y=some c
 | (n,k)::r,cs,y,h=>by rw [Xx];rcases Af.mp h with e | e;cases e;refine Zmw ?_;rw [if_pos rfl];exact ⟨_,by rw [AS,beq_self_eq_true]⟩;exact Zjx e
theorem Zdh {env:Env}:∀{names:List (Str×BU)} {y:Str} {k:BU},(∀z∈names,z.2≠.cell)->(k=.cell\/k=.free)->
  (names.map fun (n,k)=>if (k==Bp&&env.scope.kind==.function&&env.kindOf n==some .cell) then (n,Ge) else (n,k)).lookup y=some k->(y,Bp)∈names
 | [],_,_,_,_,hz=>by simp at hz
 | (n,k0)::r,y,k,hc,hk,h=>by
  rw [AG] at h;cases hy:y==n with
  | true =>
   have e:y=n:=by simpa using hy
   subst e;by_cases hf:k0=.free;subst hf;exact BL;have hb:(k0==Bp)=false:=by simpa using hf
   simp only [hb,C3,A8,if_false,AS,beq_self_eq_true] at h;have e1:k0=k:=by simpa using h
   subst e1;rcases hk with z | z;exact absurd z (hc _ BL);exact absurd z hf
  | false =>refine Bg _ (Zdh (env:=env) (k:=k) (fun z hz=>hc z (Bg _ hz)) hk ?_);by_cases hc':(k0==Bp&&env.scope.kind==.function&&env.kindOf n==some .cell)=true;simp only [hc',if_true,AS,hy] at h;exact h;simp only [hc',A8,if_false,AS,hy] at h;exact h
theorem Zhj {env:Env}:∀{names:List (Str×BU)} {y:Str},
  (names.map fun (n,k)=>if (k==Bp&&env.scope.kind==.function&&env.kindOf n==some .cell) then (n,Ge) else (n,k)).lookup y=some .local->names.lookup y=some .local
 | [],_,h=>by simp at h
 | (n,kn)::r,y,h=>by
  rw [AG] at h;cases hy:y==n with
  | true =>rw [AS,hy];by_cases hc:(kn==Bp&&env.scope.kind==.function&&env.kindOf n==some .cell)=true;simp only [hc,if_true,AS,hy] at h;cases h;simp only [hc,A8,if_false,AS,hy] at h;exact h
  | false =>rw [AS,hy];refine Zhj (env:=env) ?_;by_cases hc:(kn==Bp&&env.scope.kind==.function&&env.kindOf n==some .cell)=true;simp only [hc,if_true,AS,hy] at h;exact h;simp only [hc,A8,if_false,AS,hy] at h;exact h
section
variable {R:DL->Ab->Prop}
def Zoz (ifs:List Expr)(env:Env):Sem Bool:=forIn ifs true fun c r=>if r=true then do let ok <- isTrue c env (AM c env);pure (Dh ok) else pure (Dh r)
theorem Zsd {it ac:Value}(W:Nat->Ab->Prop)
    (turn:∀n s,W n s->Au (Ao P w) A (pyNext it) (fun r s₁=>match r with
      | none=>R (.ok .next) s₁
      | some v=>Au (Ao P w) A (C5 tg it v) (fun _ s₁'=>Au (Ao P w) A (BE tg env v) (fun _ s₂ =>
          Au (Ao P w) A (Zoz ifs env) (fun ok s₃ =>
            if ok=true then Au (Ao P w) A (AM elt env) (fun z s₄ =>
              Au (Ao P w) A (call (.builtin "list.append") [ac,z]) (fun _ s₅=>∃m,m<n/\W m s₅) (fun _ _=>False) s₄) (fun _ _=>False) s₃
            else ∃m,m<n/\W m s₃) (fun _ _=>False) s₂) (fun _ _=>False) s₁') (fun _ _=>False) s₁) (fun _ _=>False) s)
    (n:Nat) (h:W n s) :
    B8 (Ao P w) A (.compLoop (.ListComp elt [⟨tg,iter,ifs,0⟩] scope pos) 0 it ac env) R s:=by
  refine codeAny_loop rfl W (fun n s hI=>?_) n h;show Au _ A ((compTurn (.ListComp elt [⟨tg,iter,ifs,0⟩] scope pos) 0 it ac env).onRaise (fun z=>do Dc z env;Hy z)) _ _ s;refine wpAny_noted ?_;rw [HS];refine Aj (CS (Aj (Ax (turn n s hI) (fun r s₁ h₁=>?_) fun _ _ h'=>h'.elim)));cases r with
  | none=>exact AU h₁
  | some v =>
    refine Aj (Ax h₁ (fun _ s₁' h₁'=>?_) fun _ _ h'=>h'.elim);refine Aj (Ax h₁' (fun _ s₂ h₂=>Aj (Ax h₂ (fun ok s₃ h₃=>?_) fun _ _ h'=>h'.elim)) fun _ _ h'=>h'.elim);cases ok with
    | false=>exact AU (Ep rfl h₃)
    | true =>exact Aj (Aj (Ax h₃ (fun x s₄ h₄=>Aj (Ax h₄ (fun _ s₅ h₅=>AU (AU ⟨rfl,h₅⟩)) fun _ _ h'=>h'.elim)) fun _ _ h'=>h'.elim))
end
def PIf (X:Cx)(ifs:List Expr)(t:TT):Prop:=
 ∀(pins:List (Addr×Obj)) (s:Ab) (σ:St) (H:Hp) (Q:Bool->Hp->Prop),Inv X pins σ H s->t σ H Q->Au (Ao X.prog X.w) X.A (Zoz ifs X.env) (TP X pins σ Q) X.xe s
def Zya:TT:=fun _ H Q=>Q true H
theorem Zox :PIf X [] Zya:=fun _ _ _ H _ I h=>AU ⟨H,I,h⟩
structure QIf (X:Cx)(ifs:List Expr)(t:TT):Prop where
 out:PIf X ifs t
section
variable {c:Expr}
theorem Xis:QIf X [] Zya:=⟨Zox⟩
variable {a D:Addr}{Q:VK}{R:Hp->Prop}
end
@[reducible] def Cx.blkN (X:Cx)(N2 xs:List Str)(sc:Scope)(cl:List (Str×Addr))(C:Addr)(s0:Ab)(H0:Hp)(fp:List Addr):Cx:=
 {X with N:=N2++xs,s₀:=s0,H₀:=H0,env:=BR sc cl C X.env,outer:=X.stack,ex:=fp,fn:=fun _=>false,pn:=[],xe:=fun _ _=>False}
structure Zll (sc esc:Scope)(xs N N2:List Str):Prop where
 kind:sc.kind=.function
 cell:∀y∈sc.names,y.2≠.cell
 loc:∀y∈sc.names,y.2=.local->sc.names.lookup y.1=some .local
 free:∀y∈sc.names,y.2=.free->esc.names.lookup y.1=some .cell\/esc.names.lookup y.1=some .free
 out:∀y∈N2,sc.names.lookup y≠some .local
 nd:N.Nodup
 len:N2.length=N.length
 ren:∀p∈N.zip N2,p.2=p.1\/sc.names.lookup p.2=none
def Zaw (k:Nat)(g:TG)(wi:TI)(tc:TT)(te:TE):TE:=fun σ H Q=>wi σ H fun J H1=>∀D,H1 D=none->∃W:Nat->Nat->Hp->Prop,(∃m,W 0 m (upd H1 D (.lst [])))/\∀i m H,W i m H->
  (J.stop i H/\Q (.ref D) H)\/(J.go i H/\∃N:Hp->Prop,(∀H',N H'->∃m',m'<m/\W (i+1) m' H')/\∀x H',J.yld i H x H'->∀os:St,os.length=k->g x (σ++os) H' fun σ' Hg=>(∃os',os'.length=k/\σ'=σ++os')/\tc σ' Hg fun b H2 =>
    if b=true then te σ' H2 fun v H3=>∃ys,H3 D=some (.lst ys)/\ys.length<Ai/\N (upd H3 D (.lst (ys++[v])))
    else N H2)
section
variable {xs:List Str}{g:TG}
theorem Zjr {s1:Ab}(B:Zll sc X.env.scope xs X.N N2)(I:Inv X pins σ H s)(hf:∀b∈fp,Zks X pins H b)
    (hfl:∀b∈fp,b<s.heap.objs.size) (hn:h'.Ns s.heap.objs.size m) (hk:∀b o,s.heap.get? b=some o->h'.get? b=some o) (e1:s1={s with heap:=h',toks:=tk}) :
    Inv (X.blkN N2 xs sc (Xx X.env.cells sc.names []) s.heap.objs.size s H fp) [] (σ++Aa xs.length none) H s1:=by
  subst e1;have hcl:∀y∈sc.names,y.2=.free->∃c,X.env.cells.lookup y.1=some c:=fun y hy hf=>I.ok.has y.1 (B.free y hy hf);have look:∀y c,(Xx X.env.cells sc.names []).lookup y=some c->X.env.cells.lookup y=some c:=fun y c h=>Znk hcl (fun _ z=>by simp at z) h;have isfree:∀y,(Ci sc X.env).names.lookup y=some .cell\/(Ci sc X.env).names.lookup y=some .free->(y,Bp)∈sc.names:=fun y hy=>by rcases hy with hy | hy;exact Zdh (env:=X.env) B.cell (.inl rfl) hy;exact Zdh (env:=X.env) B.cell (.inr rfl) hy
  refine ⟨⟨I.ok.mod,B.kind,I.ok.glob,I.ok.blt,AF _,fun y z c h1 h2=>I.ok.inj y z c (look y c h1) (look z c h2),fun y hy=>Zjx (isfree y hy),fun _ _ h=>(by cases h),I.ok.hd,I.ok.frames,.inl rfl,fun b hb=>?_,fun b o e=>?_,AN I.ok.bsz I.sz,fun b o e hb=>?_,fun b hb hs=>?_,I.stack,I.stkFree⟩,
    rfl,I.bare,Un.kept hk,⟨_,hn,fun i y v h1 h2 h3=>?_⟩,fun y c h=>?_,I.hok.fresh (AF _),fun y c h=>I.freeC y c (look y c h),fun p hp=>absurd (show p∈([]:List (Addr×Obj)) from hp) (by simp),I.hok.kept hk,?_⟩
  exact ⟨Be (hfl b hb),fun y c h=>(hf b hb).2.2.2.2.1 y c (look y c h)⟩;exact I.bs b o e;rcases (hf b hb).2.2.2.1 with z | z;exact I.ok.noex b o e z;exact absurd (Aq (AL e) (AN I.ok.bsz z)) (AZ _);rcases Af.mp (I.stkSub b hs) with z | z;exact (hf b hb).2.1 z;exact (hf b hb).2.2.1 z;have hlen:=I.len;have hl2:=B.len;have h1:(N2++xs)[i]?=some y:=h1;have h2:(σ++Aa xs.length none)[i]?=some (some v):=h2;have hi:i<X.N.length:=by by_cases hi:i<X.N.length;exact hi;rw [B4 (by omega)] at h2;have hm:=A5 h2;rw [C2] at hm;exact absurd hm.2 (by intro z;cases z)
  rw [AT (by omega)] at h1;rw [AT (by omega)] at h2;have h3':(Ci sc X.env).names.lookup y=some .cell\/(Ci sc X.env).names.lookup y=some .free:=by rcases h3 with z | z;exact absurd (Zhj (env:=X.env) z) (B.out y (A5 h1));exact z
  have hfr:=isfree y h3';have h1:X.N[i]?=some y:=by obtain ⟨z,hz⟩:∃z,X.N[i]?=some z:=⟨X.N[i],AH hi⟩;rcases B.ren (z,y) (A5 (List.getElem?_zip_eq_some.mpr ⟨hz,h1⟩)) with e | e;rw [hz,show y=z from e];exact absurd e (lookup_mem hfr)
  obtain ⟨m3,hn3,hl3⟩:=I.loc;have hv:X.env.scope.names.lookup y=some .cell\/X.env.scope.names.lookup y=some .free:=B.free (y,.free) hfr rfl;obtain ⟨u,ru,lk⟩:=hl3 i y v h1 h2 (.inr hv);refine ⟨u,ru,.inr ⟨h3',?_⟩⟩;rcases lk with ⟨k1,_⟩ | ⟨k1,c,ec,zc⟩;rcases hv with q | q;rw [show X.env.kindOf y=X.env.scope.names.lookup y from rfl,q] at k1;cases k1;rw [show X.env.kindOf y=X.env.scope.names.lookup y from rfl,q] at k1;cases k1;obtain ⟨c',e'⟩:=Zjx (cells:=X.env.cells) (cs:=[]) hfr;have e2:=look y c' e';rw [ec] at e2;cases e2;obtain ⟨o,ho,hd⟩:=zc;exact ⟨c,e',o,hk _ _ ho,hd⟩;obtain ⟨v,o,ho,hd⟩:=I.cell y c (look y c h);exact ⟨v,o,hk _ _ ho,hd⟩;show (σ++Aa xs.length none).length=(N2++xs).length;rw [AE,AE,I.len,B.len,DA]
def Tk (H H':Hp):Prop:=∀b p q,H b=some (.tbl p q)->H' b=some (.tbl p q)
theorem Zrj {J:It}{Q:VK}(hc:X.calm=true)(B:Zll sc X.env.scope xs X.N N2)
    (hg:∀cl C s0 H0 fp,Tk X.H₀ H0->PG (X.blkN N2 xs sc cl C s0 H0 fp) tg g) (ht:∀cl C s0 H0 fp,Tk X.H₀ H0->PIf (X.blkN N2 xs sc cl C s0 H0 fp) ifs tc) (he:∀cl C s0 H0 fp,Tk X.H₀ H0->PE (X.blkN N2 xs sc cl C s0 H0 fp) elt te)
    (I2:Inv X pins σ H2 s2) (T:Turn X.prog X.w X.K tg J fp it tn) (st2:tn 0 s2.heap) (f2:∀b∈fp,Zks X pins H2 b)
    (hw:∀D,H2 D=none->∃W:Nat->Nat->Hp->Prop,(∃m,W 0 m (upd H2 D (.lst [])))/\∀i m H,W i m H->
      (J.stop i H/\Q (.ref D) H)\/(J.go i H/\∃N:Hp->Prop,(∀H',N H'->∃m',m'<m/\W (i+1) m' H')/\∀x H',J.yld i H x H'->∀os:St,os.length=xs.length->g x (σ++os) H' fun σ' Hg=>(∃os',os'.length=xs.length/\σ'=σ++os')/\tc σ' Hg fun b H2 =>
        if b=true then te σ' H2 fun v H3=>∃ys,H3 D=some (.lst ys)/\ys.length<Ai/\N (upd H3 D (.lst (ys++[v])))
        else N H2))
    (fin:∀(D C:Addr) (H':Hp) (s':Ab) (m:Str->Option Value),Inv X pins σ H' s'->s'.heap.Ns C m->Zks X pins H' C->Q (.ref D) H'->RR (.ref D) C (.ok .next) s') :
    Au (Ao X.prog X.w) X.A (G1 []) (fun acc s₃=>Au (Ao X.prog X.w) X.A (Fd sc X.env.globals (Xx X.env.cells sc.names []) [] X.env.qual none .none (some X.env)) (fun cenv s₄ =>
      B8 (Ao X.prog X.w) X.A (.compStart (.ListComp elt [⟨tg,iter,ifs,0⟩] sc pos) 0 (.ref it) acc {cenv with scope:=Ci sc X.env}) (RR acc cenv.locals) s₄) E s₃) E s2:=by
  refine GY (Gr B.cell (by intro y hy;simp at hy) (fun h₁ hns₁ hsb₁=>?_) B.kind);have hD:H2 s2.heap.objs.size=none:=I2.fresh;obtain ⟨W,⟨m0,w0⟩,turn⟩:=hw _ hD;have I3:Inv X pins σ (upd H2 s2.heap.objs.size (.lst [])) {s2 with heap:=s2.heap.push {cls:=.type "list",data:=.seq ([]:List Value).toArray}}:=I2.lnew (its:=[]) (t':=s2.toks) .nil (BC _);have fne:∀b∈fp,b<s2.heap.objs.size:=fun b hb=>by obtain ⟨o,ho,_⟩:=T.obj _ _ st2 b hb;exact AL ho
  generalize hs3:({s2 with heap:=s2.heap.push {cls:=.type "list",data:=.seq ([]:List Value).toArray}}:Ab)=s3 at I3;have hs3h:s3.heap=s2.heap.push {cls:=.type "list",data:=.seq ([]:List Value).toArray}:=by rw [<- hs3]
  have f3:∀b∈fp,Zks X pins (upd H2 s2.heap.objs.size (.lst [])) b:=fun b hb=>⟨by rw [Xl (Be (fne b hb))];exact (f2 b hb).1,(f2 b hb).2⟩;have fl3:∀b∈fp,b<s3.heap.objs.size:=fun b hb=>by rw [hs3h,GL];exact Gj (fne b hb)
  have keep3:∀b o,s3.heap.get? b=some o->h₁.get? b=some o:=fun b o e=>by rw [hs3h] at e;refine hsb₁.extBut b o ?_ (Az _ e);exact Be (AL e)
  have hns3:h₁.Ns s3.heap.objs.size (fun z=>([]:List (Str×Value)).reverse.lookup z):=by rw [hs3h];exact hns₁
  have I4:=Zjr (xs:=xs) (sc:=sc) (s1:={s3 with heap:=h₁,toks:=s3.toks+([]:List (Str×Value)).length}) B I3 f3 fl3 hns3 keep3 rfl;have st4:tn 0 h₁:=T.keep _ _ _ st2 fun b hb o e=>keep3 b o (by rw [hs3h];exact Az _ e);have stat:∀{H':Hp},(∀b∈fp,H' b=none)->∀b∈fp,Zks (X.blkN N2 xs sc (Xx X.env.cells sc.names []) s3.heap.objs.size s3 (upd H2 s2.heap.objs.size (.lst [])) fp) [] H' b:=fun hn b hb =>
    ⟨hn b hb,(I4.ok.exf b hb).1,I4.ok.exfs b hb,.inl hb,(I4.ok.exf b hb).2,fun p hp=>absurd (show p∈([]:List (Addr×Obj)) from hp) (by simp)⟩
  have tk:Tk X.H₀ (upd H2 s2.heap.objs.size (.lst [])):=fun b p q h=>I3.base.tbls b p q h;have loop:∀s4:Ab,s4={s3 with heap:=h₁,toks:=s3.toks+([]:List (Str×Value)).length}->
      B8 (Ao X.prog X.w) X.A (.compLoop (.ListComp elt [⟨tg,iter,ifs,0⟩] sc pos) 0 (.ref it) (.ref s2.heap.objs.size) (BR sc (Xx X.env.cells sc.names []) s3.heap.objs.size X.env)) (RR (.ref s2.heap.objs.size) s3.heap.objs.size) s4:=by
    rintro s4 rfl;refine Zsd (fun n s'=>∃(i:Nat) (o:St) (H':Hp),o.length=xs.length/\Inv (X.blkN N2 xs sc (Xx X.env.cells sc.names []) s3.heap.objs.size s3 (upd H2 s2.heap.objs.size (.lst [])) fp) [] (σ++o) H' s'/\tn i s'.heap/\(∀b∈fp,H' b=none)/\W i n H') ?_ m0
      ⟨0,Aa xs.length none,_,by simp,I4,st4,fun b hb=>(f3 b hb).1,w0⟩
    rintro n s5 ⟨i,o,H5,ol5,I5,st5,fr5,w5⟩;rcases turn i n H5 w5 with ⟨stop,qn⟩ | ⟨go,N,hN,step⟩;refine thn (T.done (X.blkN N2 xs sc (Xx X.env.cells sc.names []) s3.heap.objs.size s3 (upd H2 s2.heap.objs.size (.lst [])) fp) rfl rfl rfl hc i [] s5 (σ++o) H5 _ I5 (stat fr5) st5 stop) fun r s6 ⟨hr,I6⟩=>?_;subst hr;obtain ⟨m6,hn6,_⟩:=I6.loc;refine fin _ _ H5 s6 m6 ?_ hn6 (I3.fpOk (AF _) I6.free) qn;exact I3.call' (ch:=fp) I6.os I6.base I6.hok I6.bare fun b hb=>⟨(f3 b hb).2.2.2.1,(f3 b hb).2.1,(f3 b hb).2.2.2.2.1,(f3 b hb).2.2.2.2.2⟩;refine thn (T.item (X.blkN N2 xs sc (Xx X.env.cells sc.names []) s3.heap.objs.size s3 (upd H2 s2.heap.objs.size (.lst [])) fp) rfl rfl rfl hc i [] s5 (σ++o) H5 _ I5 (stat fr5) st5 go) fun r s6 ⟨u,hr,h6⟩=>?_;subst hr;refine thn h6 fun _ s7 hz9=>?_;obtain ⟨v,H7,I7,r7,y7,st7,fr7⟩:=hz9;have I7':=I7.pinned (stat fr7) (T.obj _ _ st7);refine thn (hg _ _ _ _ _ tk _ s7 _ H7 v u _ I7' r7 (step v H7 y7 o ol5)) fun _ s8 ⟨σ8,H8,I8,⟨os',ol8,e8⟩,q8⟩=>?_;subst e8;have Ff:∀{H9:Hp} {s9:Ab},Inv (X.blkN N2 xs sc (Xx X.env.cells sc.names []) s3.heap.objs.size s3 (upd H2 s2.heap.objs.size (.lst [])) fp) ([]++Zip fp s7.heap) (σ++os') H9 s9->N H9->
        ∃m,m<n/\∃(i:Nat) (o:St) (H':Hp),o.length=xs.length/\Inv (X.blkN N2 xs sc (Xx X.env.cells sc.names []) s3.heap.objs.size s3 (upd H2 s2.heap.objs.size (.lst [])) fp) [] (σ++o) H' s9/\tn i s9.heap/\(∀b∈fp,H' b=none)/\W i m H':=fun {H9 s9} I9 n9=>by
      obtain ⟨m',hm,w9⟩:=hN H9 n9;refine ⟨m',hm,i+1,os',H9,ol8,I9.unpinned,T.keep _ _ _ st7 fun b hb o e=>(I9.pin (b,o) (Ag _ (Ag _ (Ju hb e)))).1,fun b hb=>?_,w9⟩;obtain ⟨o,e,d⟩:=T.obj _ _ st7 b hb;exact (I9.pin (b,o) (Ag _ (Ag _ (Ju hb e)))).2.1
    refine thn (ht _ _ _ _ _ tk _ s8 _ H8 _ I8 q8) fun ok s9 ⟨H9,I9,q9⟩=>?_;cases ok with
    | false =>rw [if_neg Ar] at q9 ⊢;exact Ff I9 q9
    | true =>rw [if_pos rfl] at q9 ⊢;refine thn (he _ _ _ _ _ tk _ s9 _ H9 _ I9 q9) fun ue s10 hz9=>?_;obtain ⟨ve,H10,I10,r10,ys,hy,hz,q10⟩:=hz9;refine thn (Zia _ s10 _ H10 (.ref s2.heap.objs.size) [ve] (.ref s2.heap.objs.size) [ue] (fun _ H'=>N H') I10 rfl (.cons r10 .nil) ⟨_,ys,ve,rfl,rfl,hy,hz,q10⟩) fun _ s11 hz9=>?_;obtain ⟨_,H11,I11,_,q11⟩:=hz9;exact Ff I11 q11
  have fin':B8 (Ao X.prog X.w) X.A (.compStart (.ListComp elt [⟨tg,iter,ifs,0⟩] sc pos) 0 (.ref it) (.ref s2.heap.objs.size) (BR sc (Xx X.env.cells sc.names []) s3.heap.objs.size X.env)) (RR (.ref s2.heap.objs.size) s3.heap.objs.size) {s3 with heap:=h₁,toks:=s3.toks+([]:List (Str×Value)).length}:=Ga (loop _ rfl) (T.self _ 0 _ _ _ st4 (loop _ rfl));exact fin'
theorem Xdf (hc:X.calm=true)(B:Zll sc X.env.scope xs X.N N2)(hi:PI X tg iter wi)(hg:∀cl C s0 H0 fp,Tk X.H₀ H0->PG (X.blkN N2 xs sc cl C s0 H0 fp) tg g)(ht:∀cl C s0 H0 fp,Tk X.H₀ H0->PIf (X.blkN N2 xs sc cl C s0 H0 fp) ifs tc)(he:∀cl C s0 H0 fp,Tk X.H₀ H0->PE (X.blkN N2 xs sc cl C s0 H0 fp) elt te)
  (hs:∀v,Aw iter X.env v=pure v:=by intro _;rfl):PE X (.ListComp elt [⟨tg,iter,ifs,0⟩] sc pos) (Zaw xs.length g wi tc te):=by
 intro pins s σ H Q I h;rw [HQ];have hcl:∀y∈sc.names,y.2=.free->∃c,X.env.cells.lookup y.1=some c:=fun y hy hf=>I.ok.has y.1 (B.free y hy hf);refine Fu (use:=none) rfl hs (Zav hcl) B.kind B.loc (thn (hi pins s σ H _ I h) fun v s1 h1=>thn h1 fun itv s2 h2=>?_);obtain ⟨it,fp,tn,J,H2,e,I2,T,st2,f2,hw⟩:=h2;subst e;refine Zrj (RR:=fun acc C=>compPost (Ao X.prog X.w) X.A X.xe none (EP X pins σ Q) acc C) hc B hg ht he I2 T st2 f2 hw ?_;intro D C H' s' m I' hn hC q;obtain ⟨c0,c1,c2,c3,c4,c5⟩:=hC;refine ⟨m,hn,fun h'' hs''=>⟨.ref D,H',?_,rfl,q⟩⟩;exact I'.turned (t':=s'.toks) (fun b o hb e=>hs''.extBut b o hb e) c0 c1 c3 c4 c5
theorem Xco (hc:X.calm=true)(B:Zll sc X.env.scope xs X.N N2)(hi:PI X tg iter wi)(hg:∀cl C s0 H0 fp,Tk X.H₀ H0->PG (X.blkN N2 xs sc cl C s0 H0 fp) tg g)(ht:∀cl C s0 H0 fp,Tk X.H₀ H0->PIf (X.blkN N2 xs sc cl C s0 H0 fp) ifs tc)(he:∀cl C s0 H0 fp,Tk X.H₀ H0->PE (X.blkN N2 xs sc cl C s0 H0 fp) elt te)
    (hy:X.N[i]?=some y) (hl:X.env.scope.names.lookup y=some .local) (hsw:BP (.ListComp elt [⟨tg,iter,ifs,0⟩] sc pos) (some (.Name y py)) spos.line X.env=pure true:=by rfl)
    (hs:∀v,Aw iter X.env v=pure v:=by intro _;rfl):PS X (.Assign [.Name y py] (.ListComp elt [⟨tg,iter,ifs,0⟩] sc pos) spos) (Zkg (Zaw xs.length g wi tc te) (Zcb i)):=by
  intro pins s σ H D I h;have hx:=Gi (env:=X.env) _ _ _ _ hsw;rw [hx];refine Aj (CS ?_);refine Aj ?_;show Au _ X.A (do let _ <- Ed (.ListComp elt [⟨tg,iter,ifs,0⟩] sc pos) sc X.env _ (G1 []) false (AM iter X.env) (some (BE (.Name y py) X.env))) _ _ s;have hcl:∀y∈sc.names,y.2=.free->∃c,X.env.cells.lookup y.1=some c:=fun y hy hf=>I.ok.has y.1 (B.free y hy hf);refine Aj (Ax (Fu (use:=some (BE (.Name y py) X.env)) (Q:=fun _ s'=>SP X pins D .next s') rfl hs (Zav hcl) B.kind B.loc
    (thn (hi pins s σ H _ I h) fun v s1 h1=>thn h1 fun itv s2 h2=>?_)) (fun _ s' hq=>AU (AU hq)) fun _ _ e=>e)
  obtain ⟨it,fp,tn,J,H2,e,I2,T,st2,f2,hw⟩:=h2;subst e;refine Zrj (Q:=fun v H1=>Zcb i v σ H1 D.nx) (RR:=fun acc C=>compPost (Ao X.prog X.w) X.A X.xe (some (BE (.Name y py) X.env)) (fun _ s'=>SP X pins D .next s') acc C) hc B hg ht he I2 T st2 f2 hw ?_;intro E C H' s' m I' hn hC q;obtain ⟨c0,c1,c2,c3,c4,c5⟩:=hC;show Au _ X.A (BE (.Name y py) X.env (.ref E)) _ _ _;refine Ey (Zht (v:=.ref E) I' B.nd hy (.inl hl) rfl (fun s8 I8 ⟨a,sb,ha⟩=>?_) (.inr hl));have hCa:C≠a:=by rcases ha with z | z;rw [z];exact c1;exact fun z'=>c4 _ _ z z'.symm
  refine ⟨m,hn.sameBut sb hCa,fun h'' hs''=>⟨_,H',?_,q⟩⟩;exact I8.turned (t':=s8.toks) (fun b o hb e=>hs''.extBut b o hb e) c0 c1 c3 c4 c5
end
section
variable {c:Expr}{xs:List Str}{g:TG}
theorem Zwo (esc:Scope)(N N2 xs:List Str)(B:Zll sc esc xs N N2)(hi:QI X tg iter wi)(hg:∀cl C s0 H0 fp,Tk X.H₀ H0->QG (X.blkN N2 xs sc cl C s0 H0 fp) tg g)(ht:∀cl C s0 H0 fp,Tk X.H₀ H0->QIf (X.blkN N2 xs sc cl C s0 H0 fp) ifs tc)(he:∀cl C s0 H0 fp,Tk X.H₀ H0->QE (X.blkN N2 xs sc cl C s0 H0 fp) elt te)
  (hesc:X.env.scope=esc:=by rfl) (hN:X.N=N:=by rfl) (hc:X.calm=true:=by rfl) (hs:∀v,Aw iter X.env v=pure v:=by intro _;rfl):QE X (.ListComp elt [⟨tg,iter,ifs,0⟩] sc pos) (Zaw xs.length g wi tc te):=by
 subst hesc hN;exact ⟨Xdf hc B hi.out (fun cl C s0 H0 fp z=>(hg cl C s0 H0 fp z).out) (fun cl C s0 H0 fp z=>(ht cl C s0 H0 fp z).out) (fun cl C s0 H0 fp z=>(he cl C s0 H0 fp z).out) hs⟩
theorem Xbf (esc:Scope)(N N2 xs:List Str)(B:Zll sc esc xs N N2)(hi:QI X tg iter wi)(hg:∀cl C s0 H0 fp,QG (X.blkN N2 xs sc cl C s0 H0 fp) tg g)(ht:∀cl C s0 H0 fp,QIf (X.blkN N2 xs sc cl C s0 H0 fp) ifs tc)(he:∀cl C s0 H0 fp,QE (X.blkN N2 xs sc cl C s0 H0 fp) elt te)
  (hesc:X.env.scope=esc:=by rfl) (hN:X.N=N:=by rfl) (hc:X.calm=true:=by rfl) (hs:∀v,Aw iter X.env v=pure v:=by intro _;rfl):QE X (.ListComp elt [⟨tg,iter,ifs,0⟩] sc pos) (Zaw xs.length g wi tc te):=
 Zwo esc N N2 xs B hi (fun cl C s0 H0 fp _=>hg cl C s0 H0 fp) (fun cl C s0 H0 fp _=>ht cl C s0 H0 fp) (fun cl C s0 H0 fp _=>he cl C s0 H0 fp) hesc hN hc hs
theorem Zwm (esc:Scope)(N N2 xs:List Str)(B:Zll sc esc xs N N2)(hy:N[i]?=some y)(hl:esc.names.lookup y=some .local)(hi:QI X tg iter wi)(hg:∀cl C s0 H0 fp,Tk X.H₀ H0->QG (X.blkN N2 xs sc cl C s0 H0 fp) tg g)(ht:∀cl C s0 H0 fp,Tk X.H₀ H0->QIf (X.blkN N2 xs sc cl C s0 H0 fp) ifs tc)(he:∀cl C s0 H0 fp,Tk X.H₀ H0->QE (X.blkN N2 xs sc cl C s0 H0 fp) elt te)
  (hesc:X.env.scope=esc:=by rfl) (hN:X.N=N:=by rfl) (hc:X.calm=true:=by rfl) (hsw:BP (.ListComp elt [⟨tg,iter,ifs,0⟩] sc pos) (some (.Name y py)) spos.line X.env=pure true:=by rfl)
  (hs:∀v,Aw iter X.env v=pure v:=by intro _;rfl):QS X (.Assign [.Name y py] (.ListComp elt [⟨tg,iter,ifs,0⟩] sc pos) spos) (Zkg (Zaw xs.length g wi tc te) (Zcb i)):=by
 subst hesc hN;exact ⟨Xco hc B hi.out (fun cl C s0 H0 fp z=>(hg cl C s0 H0 fp z).out) (fun cl C s0 H0 fp z=>(ht cl C s0 H0 fp z).out) (fun cl C s0 H0 fp z=>(he cl C s0 H0 fp z).out) hy hl hsw hs⟩
theorem Zyl (esc:Scope)(N N2 xs:List Str)(B:Zll sc esc xs N N2)(hy:N[i]?=some y)(hl:esc.names.lookup y=some .local)(hi:QI X tg iter wi)(hg:∀cl C s0 H0 fp,QG (X.blkN N2 xs sc cl C s0 H0 fp) tg g)(ht:∀cl C s0 H0 fp,QIf (X.blkN N2 xs sc cl C s0 H0 fp) ifs tc)(he:∀cl C s0 H0 fp,QE (X.blkN N2 xs sc cl C s0 H0 fp) elt te)
  (hesc:X.env.scope=esc:=by rfl) (hN:X.N=N:=by rfl) (hc:X.calm=true:=by rfl) (hsw:BP (.ListComp elt [⟨tg,iter,ifs,0⟩] sc pos) (some (.Name y py)) spos.line X.env=pure true:=by rfl)
  (hs:∀v,Aw iter X.env v=pure v:=by intro _;rfl):QS X (.Assign [.Name y py] (.ListComp elt [⟨tg,iter,ifs,0⟩] sc pos) spos) (Zkg (Zaw xs.length g wi tc te) (Zcb i)):=
 Zwm esc N N2 xs B hy hl hi (fun cl C s0 H0 fp _=>hg cl C s0 H0 fp) (fun cl C s0 H0 fp _=>ht cl C s0 H0 fp) (fun cl C s0 H0 fp _=>he cl C s0 H0 fp) hesc hN hc hsw hs
variable {Q:VK}{D:Ends}
variable {e o i':Expr}{ti:TE}{tb:TS}
theorem Xec {t:TSet}(ho:QE X o to)(hi:QE X i' ti)(hs:PSet X t)
    (ha:∀v,BE (.Subscript o i' pos) X.env v=(do
      let ov <- Cj [v] (AM o X.env)
      let iv <- Cj [v,ov] (AM i' X.env)
      EA pos
      Cj [v,ov,iv] (E9 ov iv v)
      G0 [v,ov,iv] []):=by intro _;rfl):QG X (.Subscript o i' pos) (Zru to ti t):=⟨Xpj ho.out hi.out hs ha⟩
variable {p p':Pos}{Q:VK}
end
theorem range_any (bs:List Bool):(A7 bs.length).any (fun i=>bs.getD i false)=bs.any id:=by
 refine BW.mpr ⟨fun h=>Eg.mpr ?_,fun h=>Eg.mpr ?_⟩
 all_goals obtain ⟨i,hi,h⟩:=Eg.mp h
 ·have hl:i<bs.length:=Bj.mp hi;refine ⟨bs[i],Ce hl,?_⟩;simpa [Bh,hl] using h
 ·obtain ⟨j,hj,e⟩:=DG.mp hi;refine ⟨j,Bj.mpr hj,?_⟩;have e2:bs.getD j false=bs[j]:=by simp [Bh,hj]
  rw [e2,e];exact h
theorem range_all (bs:List Bool):(A7 bs.length).all (fun i=>bs.getD i false)=bs.all id:=by
 refine BW.mpr ⟨fun h=>Bb.mpr fun b hb=>?_,fun h=>Bb.mpr fun i hi=>?_⟩;have h:=Bb.mp h;obtain ⟨i,hi,e⟩:=DG.mp hb;have q:=h i (Bj.mpr hi);have e2:bs.getD i false=bs[i]:=by simp [Bh,hi]
 rw [e2,e] at q;exact q;have hl:i<bs.length:=Bj.mp hi;have e2:bs.getD i false=bs[i]:=by simp [Bh,hl]
 rw [e2];exact Bb.mp h _ (Ce hl)
def Xax (K:AB):List V->Hp->VK->Prop:=fun xs H Q=>∃(p:Addr) (bs:List Bool),xs=[.ref p]/\SqL K H p (bs.map V.bl)/\Q (.bl (bs.any id)) H
def Zzm (K:AB):List V->Hp->VK->Prop:=fun xs H Q=>∃(p:Addr) (bs:List Bool),xs=[.ref p]/\SqL K H p (bs.map V.bl)/\Q (.bl (bs.all id)) H
section
theorem Xer {bs:List Bool}(rv:Jj (bs.map V.bl) its):TruthOf prog w A (fun i v=>its.toArray[i]?=some v) (fun i=>bs.getD i false):=by
  intro i v s Q E hv hQ;have hl:=rv.length;rw [Al] at hl;have hv':its[i]?=some v:=by simpa using hv
  have hi:i<its.length:=(Ah.mp hv').1;obtain ⟨u,e,ru⟩:=rv.get (i:=i) (x:=V.bl (bs.getD i false)) (by
    rw [Bu,AH (by omega)];simp [Bh,show i<bs.length by omega])
  rw [hv'] at e;cases e;cases (show v=Bs (bs.getD i false) from ru);exact Bf hQ
theorem Zuc (hc:X.calm=true):Zbg X (.builtin "any") (Xax X.K):=by intro pins s σ H xs us Q I r h;obtain ⟨p,bs,rfl,hq,q⟩:=h;obtain ⟨u,rfl,rx⟩:=vals1 r;cases rx;obtain ⟨its,rv,pl,hz⟩:=I.list hq;have hl:=pl.isList;have hlen:=rv.length;rw [Al] at hlen;obtain ⟨oa,hoa,_⟩:=id hl;have hlt:p<s.heap.objs.size:=AL hoa;refine call_any_walk (Ex pl.isList ⟨_,_,_,_,_,_,fun i=>bs.getD i false,rfl,Hh (A:=X.A.in1) (I.ok.hd hc) s.heap.objs.size p (Be hlt) its.toArray,⟨⟨_,A9 _ rfl,rfl,rfl⟩,hl.push _⟩,Xer rv,fun h' tk hk=>⟨.bl (bs.any id),H,I.kept (old_kept hk),?_,q⟩⟩);show Bs _=Bs _;rw [AI,<- hlen,range_any]
theorem Zvq (hc:X.calm=true):Zbg X (.builtin "all") (Zzm X.K):=by intro pins s σ H xs us Q I r h;obtain ⟨p,bs,rfl,hq,q⟩:=h;obtain ⟨u,rfl,rx⟩:=vals1 r;cases rx;obtain ⟨its,rv,pl,hz⟩:=I.list hq;have hl:=pl.isList;have hlen:=rv.length;rw [Al] at hlen;obtain ⟨oa,hoa,_⟩:=id hl;have hlt:p<s.heap.objs.size:=AL hoa;refine call_all_walk (Ex pl.isList ⟨_,_,_,_,_,_,fun i=>bs.getD i false,rfl,Hh (A:=X.A.in1) (I.ok.hd hc) s.heap.objs.size p (Be hlt) its.toArray,⟨⟨_,A9 _ rfl,rfl,rfl⟩,hl.push _⟩,Xer rv,fun h' tk hk=>⟨.bl (bs.all id),H,I.kept (old_kept hk),?_,q⟩⟩);show Bs _=Bs _;rw [AI,<- hlen,range_all]
variable {Q:VK}
theorem Xie {bs:List Bool}(h:SqL K H p (bs.map V.bl))(q:Q (.bl (bs.any id)) H):Xax K [.ref p] H Q:=⟨p,bs,rfl,h,q⟩
theorem Xkm {bs:List Bool}(h:SqL K H p (bs.map V.bl))(q:Q (.bl (bs.all id)) H):Zzm K [.ref p] H Q:=⟨p,bs,rfl,h,q⟩
end
def Xoq (K:AB)(neg:Bool):R2:=fun x y H Q=>∃d xs,Dn K H y (.list xs)/\Dn K H x d/\DR xs=true/\d.canLay0=true/\d.depth<=20/\Q (.bl (if neg then !(xs.any fun z=>Do z d) else xs.any fun z=>Do z d)) H
def rIsA (neg:Bool):R2:=fun x y H Q=>(y=.non/\Q (.bl (if neg then !decide (x=.non) else decide (x=.non))) H)\/∃b c,x=.bl b/\y=.bl c/\Q (.bl (if neg then !(b==c) else b==c)) H
section
theorem Zwu (hu:X.A.units+64<Bk):OpR X (AA .In) (Xoq X.K false):=by intro pins s σ H x y v u Q I rx ry h;obtain ⟨d,xs,h1,h2,c1,c2,dd,q⟩:=h;obtain ⟨as,ra⟩:=h1.reads I ry;obtain ⟨bs,rb⟩:=h2.reads I rx;exact SeqAt.in_list_reads ra rb c1 c2 (by have:=Nat.min_le_right (Ee xs) d.depth;omega) ⟨.bl _,H,I,rfl,q⟩
theorem Zqc:OpR X (AA .Is) (rIsA false):=by intro pins s σ H x y v u Q I rx ry h;rcases h with ⟨rfl,q⟩ | ⟨b,c,rfl,rfl,q⟩;exact Xrh pins s σ H x .non v u Q I rx ry ⟨rfl,q⟩;cases (show v=Bs b from rx);cases (show u=Bs c from ry);refine wpAny_is_plain (by cases b<;>cases c<;>rfl) ⟨.bl (b==c),H,I,?_,q⟩;cases b<;>cases c<;>rfl
theorem Xhn:OpR X (AA .IsNot) (rIsA true):=by intro pins s σ H x y v u Q I rx ry h;rcases h with ⟨rfl,q⟩ | ⟨b,c,rfl,rfl,q⟩;exact Xih pins s σ H x .non v u Q I rx ry ⟨rfl,q⟩;cases (show v=Bs b from rx);cases (show u=Bs c from ry);refine wpAny_isNot_plain (by cases b<;>cases c<;>rfl) ⟨.bl (!(b==c)),H,I,?_,q⟩;cases b<;>cases c<;>rfl
variable {Q:VK}
end
def Dk {α:Type}:Sem α->Prop
 | .pure _=>True
 | .raise _=>True
 | .unsupported _=>True
 | .finish _=>True
 | .rule _ k=>Dk (k ())
 | .at _ k=>Dk (k ())
 | .load _ _ k=>∀o,Dk (k o)
 | .update _ _ f k=>(∀o:Obj,o.isFreed=false->(f o).isFreed=false/\(f o).dict=o.dict)/\Dk (k ())
 | .alloc _ k=>∀a,Dk (k a)
 | .loadIfAlive _ k=>∀o,Dk (k o)
 | .point _ k=>Dk (k ())
 | .fresh k=>∀a,Dk (k a)
 | .ask k=>∀a,Dk (k a)
 | .choose _ _ k=>∀a,Dk (k a)
 | .os _ _ k=>∀a,Dk (k a)
 | .handled _ k=>∀a,Dk (k a)
 | .stack k=>∀a,Dk (k a)
 | .thread k=>∀a,Dk (k a)
 | .register _ _=>False
 | .call ..=>False
 | .newGen ..=>False
 | .genState ..=>False
 | .resume ..=>False
 | .yield ..=>False
 | .fork ..=>False
 | .await ..=>False
theorem Dk.bind {α β:Type}{f:α->Sem β}(hf:∀a,Dk (f a)){t:Sem α}(h:Dk t):Dk (t.bind f):=by
 induction t with
 | pure a=>exact hf a
 | raise _=>trivial
 | unsupported _=>trivial
 | finish _=>trivial
 | rule _ k ih=>exact ih () h
 | «at» _ k ih=>exact ih () h
 | load _ _ k ih=>exact fun o=>ih o (h o)
 | update _ _ _ k ih=>exact ⟨h.1,ih () h.2⟩
 | alloc _ k ih=>exact fun o=>ih o (h o)
 | loadIfAlive _ k ih=>exact fun o=>ih o (h o)
 | point _ k ih=>exact ih () h
 | register _ _ _=>exact h.elim
 | fresh k ih=>exact fun o=>ih o (h o)
 | ask k ih=>exact fun o=>ih o (h o)
 | choose _ _ k ih=>exact fun o=>ih o (h o)
 | os _ _ k ih=>exact fun o=>ih o (h o)
 | call _ _ _ _ _ _=>exact h.elim
 | handled _ k ih=>exact fun o=>ih o (h o)
 | newGen _ _ _=>exact h.elim
 | genState _ _ _=>exact h.elim
 | resume _ _ _ _ _=>exact h.elim
 | yield _ _ _ _ _=>exact h.elim
 | stack k ih=>exact fun o=>ih o (h o)
 | fork _ _ _=>exact h.elim
 | thread k ih=>exact fun o=>ih o (h o)
 | await _ _ _ _ _ _=>exact h.elim
def Zby (s:Ab)(e:Addr)(d:Option Addr):Prop:=∃o,s.heap.get? e=some o/\o.dict=d
theorem Zpa {a:Addr}{f:Obj->Obj}(he:h.get? e=some o)(hf:∀o:Obj,o.isFreed=false->(f o).isFreed=false/\(f o).dict=o.dict):∃o',(h.update a f).get? e=some o'/\o'.dict=o.dict:=by by_cases q:a=e;subst q;have nf:o.isFreed=false:=(Heap.get?_some_iff.mp he).2;exact ⟨f o,DB f he (hf o nf).1,(hf o nf).2⟩;exact ⟨o,by rw [B7 _ _ q];exact he,rfl⟩
theorem Dk.wp {α:Type}{M:Model}{Γ:PySem.Ctx}{e:Addr}{d:Option Addr}{t:Sem α}{Q:α->Pos->Ab->Prop}{E:Value->Pos->Ab->Prop}{p:Pos}{s:Ab}(hk:Dk t)(h:Sem.wp M Γ t Q E p s)(hd:Zby s e d) :
  Sem.wp M Γ t (fun a p' s'=>Q a p' s'/\Zby s' e d) (fun x p' s'=>E x p' s'/\Zby s' e d) p s:=by
 induction t generalizing p s with
 | pure a=>exact ⟨h,hd⟩
 | raise _=>exact ⟨h,hd⟩
 | unsupported _=>exact h.elim
 | finish _=>exact h.elim
 | rule _ k ih=>exact ih () hk h hd
 | «at» _ k ih=>exact ih () hk h hd
 | load _ _ k ih =>obtain ⟨o,h1,h2⟩:=h;exact ⟨o,h1,ih o (hk o) h2 hd⟩
 | update a _ f k ih =>obtain ⟨o,h1,h2⟩:=hd;obtain ⟨o',g1,g2⟩:=Zpa (a:=a) h1 hk.1;exact ⟨h.1,ih () hk.2 h.2 ⟨o',g1,g2.trans h2⟩⟩
 | alloc _ k ih =>obtain ⟨o,h1,h2⟩:=hd;exact ih _ (hk _) h ⟨o,Az _ h1,h2⟩
 | loadIfAlive _ k ih=>exact ih _ (hk _) h hd
 | point _ k ih=>exact ih () hk h hd
 | register _ _ _=>exact hk.elim
 | fresh k ih=>exact ih _ (hk _) h hd
 | ask k ih=>exact ih _ (hk _) h hd
 | choose _ _ k ih=>exact ⟨h.1,ih _ (hk _) h.2 hd⟩
 | os _ _ k ih=>exact ih _ (hk _) h hd
 | call _ _ _ _ _ _=>exact hk.elim
 | handled _ k ih=>exact ih _ (hk _) h hd
 | newGen _ _ _=>exact hk.elim
 | genState _ _ _=>exact hk.elim
 | resume _ _ _ _ _=>exact hk.elim
 | yield _ _ _ _ _=>exact hk.elim
 | stack k ih=>exact ih _ (hk _) h hd
 | fork _ _ _=>exact hk.elim
 | thread k ih=>exact ih _ (hk _) h hd
 | await _ _ _ _ _ _=>exact hk.elim
theorem Dk.any {t:Sem α}{Q:α->Ab->Prop}(hk:Dk t)(h:Au M A t Q E s)(hd:Zby s e d):Au M A t (fun a s'=>Q a s'/\Zby s' e d) (fun x s'=>E x s'/\Zby s' e d) s:=fun Γ p hΓ=>hk.wp (h Γ p hΓ) hd
theorem Znx (v:Value):Dk (fieldsOf v):=by
 unfold fieldsOf;cases v<;>first | trivial | skip
 refine Dk.bind (t:=PySem.load _) (fun o=>?_) (fun _=>trivial);cases o.data<;>trivial
theorem Zhf (v:Value)(i:Nat):Dk (field v i):=Dk.bind (fun vs=>by
  cases vs[i]?<;>trivial) (Znx v)
theorem Xbs (f:Array Value->Array Value)(o:Obj)(h:o.isFreed=false):(E7 f o).isFreed=false/\(E7 f o).dict=o.dict:=by rcases o with ⟨c,d,data,sl⟩;cases data<;>exact ⟨h,rfl⟩
theorem Zfa (v:Value)(i:Nat)(x:Value):Dk (HE v i x):=by
 unfold HE;cases v<;>first | trivial | skip
 rename_i a;show Dk (updateField a i x);unfold updateField;refine Dk.bind (t:=PySem.load _) (fun o=>?_) (fun _=>trivial);cases o.data<;>first | trivial | skip
 rename_i vs;show Dk (if i<vs.size then _ else _);split;exact ⟨fun o h=>Xbs _ o h,trivial⟩;trivial
theorem Zdc (e:Value)(f:Option Addr):Dk (EQ e f):=Dk.bind (fun tb=>by
  show Dk (if (tb != C1)=true then _ else _);split;exact Zfa _ _ _
  · trivial) (Zhf e 1)
theorem Zxk (env:Env)(outer:List Env):Dk (HG env outer):=by unfold HG;split;trivial;split;trivial;refine Dk.bind (fun _=>?_) (Zhf _ _);trivial
theorem Xim (env:Env)(b:Bool):∀l:List Env,Dk (keptBack env b l)
 | []=>by show Dk (if (env.scope.isGenerator||env.scope.isCoroutine)=true then _ else _);split;trivial;refine Dk.bind (t:=underTheClaimsCaller) (fun _=>?_) (Dk.bind (t:=PySem.stack) (fun _=>?_) fun _=>trivial);trivial;trivial
 | _::_=>trivial
theorem Zrd:∀l:List Env,Dk (readyFrames l)
 | []=>trivial
 | env::outer=>by
  unfold readyFrames;cases env.frame with
  | none=>trivial
  | some f =>refine Dk.bind (t:=PySem.load f) (fun o=>?_) fun _=>trivial;split;trivial;refine Dk.bind (fun b=>?_) (Zxk env outer);refine Dk.bind (fun k=>?_) (Xim env b outer);refine Dk.bind (t:=PySem.update f _) (fun _=>Zrd outer) ⟨fun o h=>by rcases o with ⟨c,d,data,sl⟩;cases data<;>exact ⟨h,rfl⟩,trivial⟩
theorem Ziz (l:List Env):Dk (frameObject l):=by
 cases l with
 | nil=>trivial
 | cons e l =>refine Dk.bind (fun _=>?_) (Zrd (e::l));trivial
theorem Zta (env:Env):Dk (PySem.frameOf env):=by unfold PySem.frameOf;refine Dk.bind (t:=frameEnvs) (fun l=>?_) (Dk.bind (t:=PySem.stack) (fun _=>?_) fun _=>trivial);refine Dk.bind (fun o=>?_) (Ziz _);cases o<;>trivial;trivial
theorem Xbx (f:Addr)(b:Bool):Dk (F0 f b):=by unfold F0;refine Dk.bind (t:=PySem.stack) (fun acts=>?_) fun _=>trivial;split<;>trivial
theorem Zma (ty:String)(vs:List Value):Dk (newFields ty vs):=by
 have h:Dk (newObjAsIs (.type ty) (.fields vs.toArray)):=by unfold newObjAsIs;refine Dk.bind (t:=PySem.alloc _) (fun _=>?_) fun _=>trivial;trivial
 show Dk (if vs.toArray.size > Ai+2 then _ else _);split;trivial;exact h
theorem Zuu (e:Value)(env:Env):Dk (Dc e env):=by
 unfold Dc;cases env.frame with
 | none=>trivial
 | some f =>
  have last:∀head:Value,Dk (do HE e 1 (<- HX head (<- PySem.frameOf env) .none (CL f) .none (<- F0 f (head != .none)))):=fun head =>
   Dk.bind (fun fr=>Dk.bind (fun pl=>Dk.bind (fun b=>Zfa _ _ _) (Zma _ _)) (Xbx _ _)) (Zta env)
  refine Dk.bind (fun head=>?_) (Zhf e 1);split;refine Dk.bind (fun x=>?_) (Zhf head 3);split;trivial;exact Dk.bind (fun _=>last head) (Zfa _ _ _);exact last head
theorem Zsf (env:Env)(e:Value):Dk (FY env e):=Dk.bind (fun _=>Zdc _ _) (Zuu e env)
theorem Zar.ob {P:Av}{w:AO}{H:Hp}{h:AY}{a:Addr}{o:HO}(x:Zar P w H h a o):∃ob,h.get? a=some ob:=by
 cases o with
 | lst xs=>obtain ⟨_,its,n,_,e⟩:=x;exact ⟨_,e⟩
 | tup xs=>obtain ⟨_,its,_,ob,e,_⟩:=x;exact ⟨ob,e⟩
 | dK kvs=>obtain ⟨_,_,vs,_,ob,es,ep,e,_⟩:=x;exact ⟨ob,e⟩
 | dT kvs=>obtain ⟨_,_,xs,_,ob,es,ep,e,_⟩:=x;exact ⟨ob,e⟩
 | set S n=>obtain ⟨ob,es,ep,t,e,_⟩:=x;exact ⟨ob,e⟩
 | ins C dx fs=>obtain ⟨_,_,_,e,_⟩:=x;exact ⟨_,e⟩
 | own y=>exact x
 | xd fs=>obtain ⟨mA,⟨od,es,ep,e,_⟩,_⟩:=x;exact ⟨od,e⟩
 | rng lo hi=>obtain ⟨t,u,v,e⟩:=x;exact ⟨_,e⟩
 | frz ob u=>obtain ⟨e,_⟩:=x;exact ⟨_,e⟩
 | tbl p q=>obtain ⟨_,e,_⟩:=x;exact ⟨_,e⟩
 | met f y=>exact ⟨_,x⟩
 | ext φ=>obtain ⟨_,⟨ob,e⟩,_⟩:=x;exact ⟨ob,e⟩
theorem Inv.step' (I:Inv X pins σ H s)
  (hch:∀b∈ch,X.s₀.heap.get? b=none/\b≠X.env.locals/\(∀x c,X.env.cells.lookup x=some c->c≠b)/\∀p∈X.pn++pins,p.1≠b)
  (keep:∀b o,b≠X.env.locals->b∉X.fs->b∉ch->s.heap.get? b=some o->H b=none->h'.get? b=some o)
  (slot:∀b o,b≠X.env.locals->b∈X.fs->b∉ch->s.heap.get? b=some o->H b=none->∃sl,h'.get? b=some {o with slots:=sl}) (free:∀b o,b∉ch->s.heap.get? b=some o->H b=none->H' b=none)
  (there:∀b o,b∉ch->s.heap.get? b=some o->∃o',h'.get? b=some o')
  (tups:∀b xs,H b=some (.tup xs)->H' b=some (.tup xs)) (frzs:∀b o u,H b=some (.frz o u)->H' b=some (.frz o u)) (tbls:∀b p n,H b=some (.tbl p n)->H' b=some (.tbl p n))
  (ns:∀m,s.heap.Ns X.env.locals m->h'.Ns X.env.locals m) (hok:HOk X.prog X.w H' h') (hg:Da g') :
  Inv X pins σ H' {s with heap:=h',gens:=g',drawn:=d',toks:=t'}:=by
 have neL:∀b o,X.s₀.heap.get? b=some o->b≠X.env.locals:=fun b o e=>Be (Aq (AL e) I.ok.above);have neC:∀b o,X.s₀.heap.get? b=some o->b∉X.ex->b∉ch:=fun b o e hx hb=>by have z:=(hch b hb).1;rw [z] at e;cases e
 have cellK:∀x c,X.env.cells.lookup x=some c->∀v,s.heap.IsCell c v->h'.IsCell c v:=fun x c e v ⟨o,ho,hd⟩=>by have nch:c∉ch:=fun z=>(hch c z).2.2.1 x c e rfl;by_cases hc:c∈X.fs;obtain ⟨sl,q⟩:=slot c o (I.cne x c e) hc nch ho (I.freeC x c e);exact ⟨_,q,hd⟩;exact ⟨o,keep c o (I.cne x c e) hc nch ho (I.freeC x c e),hd⟩
 refine ⟨I.ok,I.os,hg,⟨fun b o e n hb hx=>?_,fun b o e n hb hx=>?_,fun b o e n hx=>?_,fun b o e hx=>?_,fun b xs e=>tups b xs (I.base.tups b xs e),fun b o xs e=>frzs b o xs (I.base.frzs b o xs e),fun b p n e=>tbls b p n (I.base.tbls b p n e)⟩,?_,fun x c e=>?_,?_,fun x c e=>?_,fun p hp=>?_,hok,I.len⟩;exact keep b o (neL b o e) hb (neC b o e hx) (I.base.keep b o e n hb hx) (I.base.free b o e n hx);obtain ⟨sl,e1⟩:=I.base.slot b o e n hb hx;obtain ⟨sl',e2⟩:=slot b _ (neL b o e) hb (neC b o e hx) e1 (I.base.free b o e n hx);exact ⟨sl',e2⟩;obtain ⟨o',e1⟩:=I.base.there b o e hx;exact free b o' (neC b o e hx) e1 (I.base.free b o e n hx);obtain ⟨o',e1⟩:=I.base.there b o e hx;exact there b o' (neC b o e hx) e1;obtain ⟨m,hn,hl⟩:=I.loc;refine ⟨m,ns m hn,fun i x v e1 e2 e3=>?_⟩;obtain ⟨u,r,l⟩:=hl i x v e1 e2 e3;refine ⟨u,r,?_⟩;rcases l with l | ⟨k,c,e,z⟩;exact .inl l;exact .inr ⟨k,c,e,cellK x c e _ z⟩;obtain ⟨v,z⟩:=I.cell x c e;exact ⟨v,cellK x c e v z⟩;obtain ⟨m,⟨o,_,_,ho,_⟩,_⟩:=I.loc;exact free _ o (fun z=>(hch _ z).2.1 rfl) ho I.free;obtain ⟨v,o,ho,hd⟩:=I.cell x c e;exact free c o (fun z=>(hch c z).2.2.1 x c e rfl) ho (I.freeC x c e);obtain ⟨e,n,ne,nf,d⟩:=I.pin p hp;have nch:p.1∉ch:=fun z=>(hch p.1 z).2.2.2 p hp rfl;exact ⟨keep p.1 p.2 ne nf nch e n,free p.1 p.2 nch e n,ne,nf,d⟩
def Zju (h:AY)(e:Addr)(cls:Value)(own:List Addr)(z:Option Value):Prop:=
 ∃oe vs a0,h.get? e=some oe/\oe.cls=cls/\oe.data=.fields vs/\vs[0]?=some a0/\
  ((z=none/\own=[e]/\vs[1]?=some .none)\/∃T oT ts fl,z=some fl/\own=[e,T]/\vs[1]?=some (.ref T)/\T≠e/\h.get? T=some oT/\oT.data=.fields ts/\ts[3]?=some fl)
def Zcu (X:Cx)(pins:List (Addr×Obj))(H:Hp)(own:List Addr):Prop:=
 ∀b∈own,H b=none/\X.s₀.heap.get? b=none/\b≠X.env.locals/\(∀x c,X.env.cells.lookup x=some c->c≠b)/\∀p∈X.pn++pins,p.1≠b
def CXE0 (P:Av)(w:AO):CXT:=fun outer H s E ev s' =>
 ∃e T cls H',ev=.ref e/\s'.os=s.os/\Da s'.gens/\Un (frs outer) [] H H' s.heap s'.heap/\HOk P w H' s'.heap/\(∃B,s'.heap.FunFrames B outer)/\Zju s'.heap e cls [e,T] (some .none)/\
  s.heap.get? e=none/\s.heap.get? T=none/\H' e=none/\H' T=none/\E cls none H'
def ER0 (X:Cx)(E:XK)(ev:Value)(s':Ab):Prop:=
 ∃pins e own cls z σ H,ev=.ref e/\Inv X pins σ H s'/\Zju s'.heap e cls own z/\(z=none\/z=some .none\/∃L,X.env.frame=some L/\z=some (CL L))/\Zcu X pins H own/\E cls none H
theorem Inv.noteOf (I:Inv X pins σ H s):∀b∈frs X.stack,∃o,s.heap.get? b=some o/\∀vs,o.data≠.fields vs:=fun b hb=>(I.stack.mem hb).2
theorem Inv.hide (I:Inv X pins σ H s)(own:List Addr):(CU s.heap (own++frs X.stack)).StaysIn s.heap/\s.heap.FunFrames (CU s.heap (own++frs X.stack)) X.stack:=⟨fun _ _ q=>PySem.W.of_hideAll _ q,PySem.W.funFrames_hide I.stack fun _ he _ ha=>Ag _ (BN.mpr ⟨_,he,ha⟩)⟩
structure Kept (X:Cx)(own:List Addr)(h h':AY):Prop where
 st:(CU h (own++frs X.stack)).StaysIn h'
 fr:h'.FunFrames (CU h (own++frs X.stack)) X.stack
 up:h.UpToSlots h'
theorem Kept.get {own:List Addr}{h h':AY}(k:Kept X own h h'){b:Addr}{o:Obj}(e:h.get? b=some o)(n1:b∉own)(n2:b∉frs X.stack):h'.get? b=some o:=k.st b o (EY _ e fun z=>(An.mp z).elim n1 n2)
theorem Kept.hok {own:List Addr}{h':AY}(k:Kept X own s.heap h')(I:Inv X pins σ H s)(oo:∀b∈own,H b=none):HOk X.prog X.w H h':=fun a o e=>by
 refine (I.hok a o e).stay (fun b u hb q=>?_) (fun _ q=>q) (fun _ _ q=>q) fun _ _ _ q=>q;have tr:∃u',H b=some u':=by rcases hb with rfl | hb;exact ⟨_,e⟩;exact ⟨_,hb⟩
 obtain ⟨u',eu⟩:=tr;exact k.get q (fun z=>by rw [oo b z] at eu;cases eu) (fun z=>by rw [I.stkFree b z] at eu;cases eu)
theorem Kept.there (k:Kept X own s.heap h')(I:Inv X pins σ H s){b:Addr}(e:s.heap.get? b=some o)(n1:b∉own):∃sl,h'.get? b=some {o with slots:=sl}:=by by_cases n2:b∈frs X.stack;obtain ⟨o',e',hd⟩:=I.noteOf b n2;rw [e] at e';cases e';exact k.up b o e hd;exact ⟨o.slots,k.get e n1 n2⟩
theorem Kept.inv (k:Kept X own s.heap h')(I:Inv X pins σ H s)(oo:Zcu X pins H own):Inv X pins σ H {s with heap:=h',toks:=t'}:=by
 refine I.step' (g':=s.gens) (d':=s.drawn) (ch:=own) (fun b hb=>(oo b hb).2) (fun b o h1 h2 h3 e n=>?_) (fun b o _ _ h3 e n=>k.there I e h3) (fun _ _ _ _ n=>n) (fun b o h3 e=>?_) (fun _ _ e=>e) (fun _ _ _ e=>e) (fun _ _ _ e=>e)
  (fun m hm=>k.up.ns hm) (k.hok I fun b hb=>(oo b hb).1) I.bare
 exact k.get e h3 fun z=>(Af.mp (I.stkSub b z)).elim h1 h2;obtain ⟨sl,q⟩:=k.there I e h3;exact ⟨_,q⟩
theorem Kept.new (k:Kept X own s.heap h')(hn:(CU s.heap (own++frs X.stack)).get? T=none)(hT:h'.get? T=some oT)(hd:oT.data=.fields ts)(no:T∉own):s.heap.get? T=none:=by
 cases q:s.heap.get? T with
 | none=>rfl
 | some o =>
  have nf:T∉frs X.stack:=fun z=>by obtain ⟨_,o',e',hd'⟩:=k.fr.mem z;rw [hT] at e';cases e';exact hd' ts hd
  rw [EY _ q fun z=>(An.mp z).elim no nf] at hn;cases hn
theorem Zsj {E:XK}{R:Value->Ab->Prop}(h:ER0 X E ev s')
    (hP:X.prog=P) (hw:X.w=w) (hs:X.s₀=s₀) (hH:X.H₀=H₀) (ho:X.outer=outer) (hx:X.ex=[]) (hst:X.stack=X.env::outer) (hf:X.env.frame=some X.env.locals) :
    Au (Ao P w) X.A (FY X.env ev) (fun _ s''=>CXE0 P w outer H₀ s₀ E ev s'') R s':=by
  obtain ⟨pins,e,own,cls,z,σ,H,rfl,I,x,hz,oo,q⟩:=h;subst hP hw hs hH ho;have hfr:X.A.frames=some (X.env::X.outer):=by rw [<- hst];exact I.ok.frames
  obtain ⟨hkb,hfl⟩:=I.hide own;obtain ⟨B,hB⟩:∃B,B=CU s'.heap (own++frs X.stack):=⟨_,rfl⟩;rw [<- hB] at hkb hfl;have hen:B.get? e=none:=by rw [hB];refine CD _ (As _ ?_);obtain ⟨_,_,_,_,_,_,_,(⟨_,r,_⟩ | ⟨_,_,_,_,_,r,_⟩)⟩:=x<;>(rw [r];simp)
  have fin:∀(h':AY) (a0:Value),B.StaysIn h'->h'.FunFrames B X.stack->h'.TracedW B e cls a0->s'.heap.UpToSlots h'->
      CXE0 X.prog X.w X.outer X.H₀ X.s₀ E (.ref e) {s' with heap:=h'}:=fun h' a0 k1 k2 k3 k4=>by
    have k2':h'.FunFrames B X.outer:=by rw [hst] at k2;exact k2.2.2
    subst hB;have K:Kept X own s'.heap h':=⟨k1,k2,k4⟩;obtain ⟨oe,vs,T,oT,ts,he,⟨hc,h0⟩,hd,h1,hnT,hTe,hT,hdT,h3⟩:=k3;have eo:e∈own:=by obtain ⟨_,_,_,_,_,_,_,(⟨_,r,_⟩ | ⟨_,_,_,_,_,r,_⟩)⟩:=x<;>(rw [r];simp)
    have newT:X.s₀.heap.get? T=none/\H T=none:=by
      by_cases no:T∈own;exact ⟨(oo T no).2.1,(oo T no).1⟩;have hn:=K.new hnT hT hdT no;refine ⟨?_,?_⟩;cases qq:X.s₀.heap.get? T with
      | none=>rfl
      | some o =>obtain ⟨o',e'⟩:=I.base.there T o qq (by rw [hx];simp);rw [hn] at e';cases e'
      cases qq:H T with
      | none=>rfl
      | some o =>obtain ⟨o',e'⟩:∃o',s'.heap.get? T=some o':=(I.hok T o qq).ob;rw [hn] at e';cases e'
    have neL:∀b o,X.s₀.heap.get? b=some o->b≠X.env.locals:=fun b o e=>Be (Aq (AL e) I.ok.above);have neO:∀b o,X.s₀.heap.get? b=some o->b∉own:=fun b o e z=>by rw [(oo b z).2.1] at e;cases e
    have nx:∀b:Addr,b∉X.ex:=fun b z=>by rw [hx] at z;simp at z
    refine ⟨e,T,cls,H,rfl,I.os,I.bare,⟨fun b o e n hb _=>?_,fun b o e n hb _=>?_,fun b o e n _=>I.base.free b o e n (nx b),fun b o e _=>?_,I.base.tups,I.base.frzs,I.base.tbls⟩,K.hok I fun b hb=>(oo b hb).1,⟨CU s'.heap (own++frs X.stack),?_⟩,
      ⟨oe,vs,a0,he,hc,hd,h0,.inr ⟨T,oT,ts,.none,rfl,rfl,h1,hTe,hT,hdT,h3⟩⟩,(oo e eo).2.1,newT.1,(oo e eo).1,newT.2,q⟩
    exact K.get (I.base.keep b o e n hb (nx b)) (neO b o e) fun z=>(Af.mp (I.stkSub b z)).elim (neL b o e) hb;obtain ⟨sl,e1⟩:=I.base.slot b o e n hb (nx b);obtain ⟨sl',e2⟩:=K.there I e1 (neO b o e);exact ⟨sl',e2⟩;obtain ⟨o',e1⟩:=I.base.there b o e (nx b);obtain ⟨sl',e2⟩:=K.there I e1 (neO b o e);exact ⟨_,e2⟩;exact k2'
  rw [hst] at hfl;obtain ⟨oe,vs,a0,he,hc,hd,h0,r⟩:=x;subst hc;rcases r with ⟨_,_,h1⟩ | ⟨T,oT,ts,fl,rfl,ro,h1,hTe,hT,hdT,h3⟩;exact wpAny_leaving_firstW hfr hfl hf he hkb hen hd h1 h0 fun h' L=>fin h' a0 L.1 (by rw [hst];exact L.2.1) L.2.2.1 L.2.2.2;have hnT:B.get? T=none:=by rw [hB];exact CD _ (As _ (by rw [ro];simp))
  have tr:s'.heap.TracedAtW B e oe.cls a0 fl:=⟨oe,vs,T,oT,ts,he,⟨rfl,h0⟩,hd,h1,hnT,hTe,hT,hdT,h3⟩;rcases hz with hz | hz | ⟨L,hL,hz⟩;cases hz;cases hz;exact wpAny_leaving_nextW hfr hfl hf tr hkb hen fun h' L=>fin h' a0 L.1 (by rw [hst];exact L.2.1) L.2.2.1 L.2.2.2;cases hz;unfold FY;refine Aj (FV hL tr ?_);exact wpAny_landsW ⟨hkb,hen,hfl,tr⟩ fun h' F up=>fin h' a0 F.1 (by rw [hst];exact F.2.2.1) F.2.2.2 up
def CXE (P:Av)(w:AO):CXT:=fun outer H s E ev s'=>∃e dx,ev=.ref e/\Zby s' e dx/\CXE0 P w outer H s (fun cls _ H'=>E cls dx H') ev s'
def ER (X:Cx)(E:XK)(ev:Value)(s':Ab):Prop:=∃e dx,ev=.ref e/\Zby s' e dx/\ER0 X (fun cls _ H'=>E cls dx H') ev s'
theorem Ztx {E:XK}{R:Value->Ab->Prop}(h:ER X E ev s')
  (hP:X.prog=P) (hw:X.w=w) (hs:X.s₀=s₀) (hH:X.H₀=H₀) (ho:X.outer=outer) (hx:X.ex=[]) (hst:X.stack=X.env::outer) (hf:X.env.frame=some X.env.locals) :
  Au (Ao P w) X.A (FY X.env ev) (fun _ s''=>CXE P w outer H₀ s₀ E ev s'') R s':=by
 obtain ⟨e,dx,rfl,hd,h⟩:=h;exact Ax ((Zsf X.env (.ref e)).any (Zsj (R:=R) h hP hw hs hH ho hx hst hf) hd) (fun _ s'' q=>⟨e,dx,rfl,q.2,q.1⟩) fun _ _ q=>q.1
theorem Inv.ownNew (I:Inv X pins σ H s)(hx:X.ex=[]){b:Addr}(hb:s.heap.get? b=none):H b=none/\X.s₀.heap.get? b=none/\b≠X.env.locals/\(∀x c,X.env.cells.lookup x=some c->c≠b)/\∀p∈X.pn++pins,p.1≠b:=by
 refine ⟨?_,?_,?_,fun x c e z=>?_,fun p hp z=>?_⟩;cases q:H b with
 | none=>rfl
 | some o =>obtain ⟨ob,e⟩:=(I.hok b o q).ob;rw [hb] at e;cases e
 cases q:X.s₀.heap.get? b with
 | none=>rfl
 | some o =>obtain ⟨o',e⟩:=I.base.there b o q (by rw [hx];simp);rw [hb] at e;cases e
 rintro rfl;obtain ⟨m,⟨o,_,_,ho,_⟩,_⟩:=I.loc;rw [hb] at ho;cases ho;obtain ⟨v,o,ho,_⟩:=I.cell x c e;rw [z,hb] at ho;cases ho;have e:=(I.pin p hp).1;rw [z,hb] at e;cases e
theorem PSs.weak {st:List Stmt}{t:TS}(h:PSs (X.wish E') st t)(hE:∀e s,E' e s->X.xe e s):PSs X st t:=fun pins s σ H D I hw =>
 Ax (h pins s σ H D (I.wish E') hw) (fun _ _ q=>q.unwish) hE
theorem Fun.okE {base:AY}{k:Nat}(F:Fun K x qual st f fd)(S:Xk N ps (Zk st))(len:∀vs H Q E,sp vs H Q E->vs.length=ps.length)
    (hbody:∀(cdv:Value) (A:AJ) (outer:List Env) (s:Ab) (H:Hp) (vs:List V) (Q:VK) (E:XK),Zha k (A.deeper (C6 qual (Zk st) s.heap.objs.size f cdv))->sp vs H Q E->
      ∃t,PSs ((Zqb (CXE P w) P w K mg base N qual (Zk st) f cdv A outer s H E).wish (ER (Zqb (CXE P w) P w K mg base N qual (Zk st) f cdv A outer s H E) E)) (Zae st) t/\t {nx:=fun _ H'=>Q .non H',rt:=Q} (start N vs) H):Zbr P w K mg base (CXE P w) (k+1) f fd ps sp:=by
  obtain ⟨oc,od,kV,doc,pm,an,cdv,ct,osl,rfl,lk,hcd⟩:=F.ex;refine Xro lk hcd S len fun A outer s H vs Q E hr hsp=>?_;obtain ⟨t,h,q⟩:=hbody cdv A outer s H vs Q E hr hsp;exact ⟨t,h.weak fun e s' x=>Ztx x rfl rfl rfl rfl rfl rfl rfl rfl,q⟩
theorem Xph {E:XK}(hx:X.ex=[]:=by rfl):Zfk (CXE0 X.prog X.w) (X.wish (ER0 X E)) E:=fun pins σ H s ev s' I h=>by obtain ⟨e,T,cls,H',rfl,os,bare,un,hok,fr,x,ne,nT,hH1,hH2,q⟩:=h;have J:Inv X pins σ H s:=I.unwish;have I':Inv X pins σ H' s':=J.call' (ch:=[]) os un hok bare (by simp);refine ⟨pins,e,[e,T],cls,some .none,σ,H',rfl,I',x,.inr (.inl rfl),fun b hb=>?_,q⟩;simp only [Af,or_false,Cb] at hb;rcases hb with rfl | rfl;exact ⟨hH1,(J.ownNew hx ne).2⟩;exact ⟨hH2,(J.ownNew hx nT).2⟩
theorem Zlb {E:XK}(hx:X.ex=[]:=by rfl):Zfk (CXE X.prog X.w) (X.wish (ER X E)) E:=fun pins σ H s ev s' I h=>by obtain ⟨e,dx,rfl,hd,h⟩:=h;exact ⟨e,dx,rfl,hd,Xph (X:=X) (E:=fun cls _ H'=>E cls dx H') hx pins σ H s (.ref e) s' (I.unwish.wish _) h⟩
abbrev bmV:List Value:=[.type "ValueError",.type "Exception",.type "BaseException",.type "object"]
theorem Xrn (X:K.In h)(q:EZ K C bmB newId=true) :
  ∃bm N nm q bs hdct sn sub ab col dd k0 k1 k2 k3 k5 mN,h.get? C=some (excClassObj nm q C N bs bm hdct sn sub ab col dd k0 k1 k2 k3 k5 newId)/\h.Ns N mN/\mN "__init__"=none/\OwnTail h bmB bm:=by
 unfold EZ at q;split at q
 next dct cls slots look =>
  split at q
  next _ above z0 z1 z2 z3 maker z5 isMro isSlots =>
   rw [Ae,Ae,Ae,Ae,Ae] at q;obtain ⟨⟨⟨⟨⟨q1,q2⟩,q3⟩,q4⟩,q5⟩,q6⟩:=q;have same:=beq_iff_eq.mp q1;have mk:=beq_iff_eq.mp q2;have nodel:=(Bool.not_eq_true' _).mp q3;subst same mk;have all6:slots=#[z0,z1,z2,z3,some (.builtin maker),z5]:=Array.ext' isSlots;rcases cls with ⟨c1,c2,c3,c4,c5,c6,c7,c8,c9,c10,c11⟩;cases (show c11=false from nodel);cases (show c3=_ from isMro);cases all6;exact ⟨_,c4,c1,c5,c2,c6,c7,c8,c9,c10,dct,z0,z1,z2,z3,z5,_,X _ _ look,.of_isNs (PySem.W.isNs_of_in X q5),PySem.W.nsMap_none_of_in X q5 (beq_iff_eq.mp q6),PySem.W.tail_of_in X q4⟩
  next=>cases q
 next=>cases q
def Zqv (cls:Value)(E:XK)(t:TA):TS:=fun _ σ H=>t σ H fun vs H1=>vs.length<=Ai/\E cls none H1
theorem Xbo {e:Expr}{E:XK}(hq:EZ X.K C bmV "ValueError.__new__"=true)(hm:X.mg x=some (.ref C))(ha:PA (X.wish (ER X E)) (e::es) t)(hg:Gl X x:=by rfl)(hc:X.calm=true:=by rfl)(hx:X.ex=[]:=by rfl)
  (hdb:(x==("__debug__":Str))=false:=by decide) (he:Ac (e::es) X.env=(false,AM e X.env)::Ac es X.env:=by rfl) (hpl:(AW cpos (Ac es X.env)).any (·.1)=false:=by rfl) :
  PS (X.wish (ER X E)) (.Raise (some (.Call (.Name x np) (e::es) [] cpos)) none pos) (Zqv (.ref C) E t):=by
 intro pins s σ H D I h;obtain ⟨bm,N,nm,q,bs,hdct,sn,sub,ab,col,dd,k0,k1,k2,k3,k5,mN,hC,hN,hni,T⟩:=Xrn (h:=X.base) I.ok.mod.kin hq;refine wpAny_Raise_call_subT (C:=C) (nm:=nm) (q:=q) (N:=N) (bs:=bs) (bm:=bm) (hdct:=hdct) (sn:=sn) (sub:=sub) (ab:=ab) (col:=col) (dd:=dd) (k0:=k0) (k1:=k1) (k2:=k2) (k3:=k3) (k5:=k5)
  PySem.F.excBase_ValueError (mN:=mN) (T.hasType PySem.F.excBase_ValueError.hasBase) (I.ok.hd hc) (by rw [show Ac (e::es) (X.wish (ER X E)).env=(false,AM e X.env)::Ac es X.env from he];show (false||(AW cpos (Ac es X.env)).any (·.1))=false;rw [hpl];rfl) hni (Zky I hg hm ⟨rfl,?_⟩ hdb)
 have hA:=ha cpos pins s σ H _ I h;rw [show Ac (e::es) (X.wish (ER X E)).env=(false,AM e X.env)::Ac es X.env from he] at hA ⊢;refine Fp (thn hA fun us s2 ⟨vs,H2,I2,r2,hl,q2⟩=>⟨rfl,by rw [<- r2.length];exact hl,I2.bk _ _ hC,hN.keeps I2.bk,T.keeps I2.bk,fun h' e hm=>?_⟩);obtain ⟨t,he',htn,ht⟩:=hm.there;have J2:Inv X pins σ H2 s2:=I2.unwish;have I3:Inv X pins σ H2 {s2 with heap:=h'}:=J2.kept (t':=s2.toks) hm.keeps;refine ⟨e,none,rfl,⟨_,he',rfl⟩,pins,e,[e],.ref C,none,σ,H2,rfl,I3,⟨_,_,_,he',rfl,rfl,rfl,.inl ⟨rfl,rfl,rfl⟩⟩,.inl rfl,fun b hb=>?_,q2⟩;rw [Ak.mp hb];exact J2.ownNew hx hm.new
theorem Zju.mem {cls:Value}(x:Zju h e cls own z):e∈own:=by obtain ⟨_,_,_,_,_,_,_,(⟨_,r,_⟩ | ⟨_,_,_,_,_,r,_⟩)⟩:=x<;>(rw [r];simp)
theorem Zjj {cls a0:Value}(I:Inv X pins σ H s)(oo:Zcu X pins H own)(eo:e∈own)(hx:X.ex=[])(K:Kept X own s.heap h')
  (tr:h'.TracedAtW (CU s.heap (own++frs X.stack)) e cls a0 fl):∃T,Zju h' e cls [e,T] (some fl)/\Zcu X pins H [e,T]:=by
 obtain ⟨oe,vs,T,oT,ts,he,⟨hc,h0⟩,hd,h1,hnT,hTe,hT,hdT,h3⟩:=tr;refine ⟨T,⟨oe,vs,a0,he,hc,hd,h0,.inr ⟨T,oT,ts,fl,rfl,rfl,h1,hTe,hT,hdT,h3⟩⟩,fun b hb=>?_⟩;simp only [Af,or_false,Cb] at hb;rcases hb with rfl | rfl;exact oo _ eo;by_cases no:b∈own;exact oo _ no;exact I.ownNew hx (K.new hnT hT hdT no)
theorem Xfn {cls:Value}{R:Value->Ab->Prop}(I:Inv X pins σ H s)(x:Zju s.heap e cls own z)
  (hz:z=none\/z=some .none\/∃L,X.env.frame=some L/\z=some (CL L)) (oo:Zcu X pins H own) (hx:X.ex=[]) (hfr:A'.frames=some X.stack) (hst:X.stack=X.env::X.outer) (hf:X.env.frame=some X.env.locals)
  (k:∀s2 T,Inv X pins σ H s2->Zju s2.heap e cls [e,T] (some (CL X.env.locals))->Zcu X pins H [e,T]->Q () s2):Au (Ao X.prog X.w) A' (Dc (.ref e) X.env) Q R s:=by
 obtain ⟨hkb,hfl⟩:=I.hide own;obtain ⟨B,hB⟩:∃B,B=CU s.heap (own++frs X.stack):=⟨_,rfl⟩;rw [<- hB] at hkb hfl;have eo:=x.mem;have hen:B.get? e=none:=by rw [hB];exact CD _ (As _ eo)
 have fin:∀(h':AY) (a0:Value),Heap.NotedW B X.stack e cls a0 (CL X.env.locals) s.heap h'->Q () {s with heap:=h'}:=fun h' a0 N=>by subst hB;obtain ⟨k1,k2,k3,k4⟩:=N;have K:Kept X own s.heap h':=⟨k1,k2,k4⟩;obtain ⟨T,x',oo'⟩:=Zjj I oo eo hx K k3;exact k _ T (K.inv I oo (t':=s.toks)) x' oo'
 obtain ⟨oe,vs,a0,he,hc,hd,h0,r⟩:=x;subst hc;rw [hst] at hfr hfl;rcases r with ⟨_,_,h1⟩ | ⟨T,oT,ts,fl,rfl,ro,h1,hTe,hT,hdT,h3⟩;unfold Dc;simp only [hf];refine (Aj (Gs he hd h1 ?_));rw [if_neg (by decide)];exact wpAny_entryW hfr hfl hf he hkb hen hd (EI.mp h1).1 h0 fun h' N=>fin h' a0 (by rw [hst];exact N);have hnT:B.get? T=none:=by rw [hB];exact CD _ (As _ (by rw [ro];simp))
 have tr:s.heap.TracedAtW B e oe.cls a0 fl:=⟨oe,vs,T,oT,ts,he,⟨rfl,h0⟩,hd,h1,hnT,hTe,hT,hdT,h3⟩;rcases hz with hz | hz | ⟨L,hL,hz⟩;cases hz;cases hz;exact wpAny_noteFrame_onW hfr hfl hf tr hkb hen fun h' N=>fin h' a0 (by rw [hst];exact N);cases hz;obtain rfl:X.env.locals=L:=AR (hf.symm.trans hL);refine FV hf tr ?_;subst ro;exact k s T I ⟨oe,vs,a0,he,rfl,hd,h0,.inr ⟨T,oT,ts,_,rfl,rfl,h1,hTe,hT,hdT,h3⟩⟩ oo
theorem Xfb {cls:Value}{R:Value->Ab->Prop}(I:Inv X pins σ H s)(x:Zju s.heap e cls [e,T] (some fl))(oo:Zcu X pins H [e,T])(hx:X.ex=[])
  (k:∀s2 T',Inv X pins σ H s2->Zju s2.heap e cls [e,T'] (some .none)->Zcu X pins H [e,T']->Q () s2):Au (Ao X.prog X.w) A' (EQ (.ref e) none) Q R s:=by
 obtain ⟨hkb,hfl⟩:=I.hide [e,T];have eo:=x.mem;obtain ⟨oe,vs,a0,he,hc,hd,h0,r⟩:=x;rcases r with ⟨z,_⟩ | ⟨T',oT,ts,fl',z,ro,h1,hTe,hT,hdT,h3⟩;cases z;cases z;have hnT:(CU s.heap ([e,T]++frs X.stack)).get? T'=none:=CD _ (As _ (by rw [ro];simp));refine wpAny_setFlight_noneW hkb hfl ⟨oe,vs,T',oT,ts,he,⟨hc,h0⟩,hd,h1,hnT,hTe,hT,hdT,h3⟩ fun h' k1 k2 k3 k4=>?_;have K:Kept X [e,T] s.heap h':=⟨k1,k2,fun b o q hn=>⟨o.slots,k4 b o q hn⟩⟩;obtain ⟨T2,x',oo'⟩:=Zjj I oo eo hx K k3;exact k _ T2 (K.inv I oo (t':=s.toks)) x' oo'
theorem Zpk {cls:Value}{R:Value->Ab->Prop}(I:Inv X pins σ H s)(x:Zju s.heap e cls own z)
  (hz:z=none\/z=some .none\/∃L,X.env.frame=some L/\z=some (CL L)) (oo:Zcu X pins H own) (hx:X.ex=[]) (hfr:A'.frames=some X.stack) (hst:X.stack=X.env::X.outer) (hf:X.env.frame=some X.env.locals) (hd:Zby s e dx)
  (k:∀s2 T,Inv X pins σ H s2->Zju s2.heap e cls [e,T] (some (CL X.env.locals))->Zcu X pins H [e,T]->Zby s2 e dx->Q () s2):Au (Ao X.prog X.w) A' (Dc (.ref e) X.env) Q R s:=
 Ax ((Zuu (.ref e) X.env).any (Xfn (R:=R) (Q:=fun _ s2=>∃T,Inv X pins σ H s2/\Zju s2.heap e cls [e,T] (some (CL X.env.locals))/\Zcu X pins H [e,T]) I x hz oo hx hfr hst hf fun s2 T a b c=>⟨T,a,b,c⟩) hd)
  (fun _ s2 ⟨⟨T,a,b,c⟩,d⟩=>k s2 T a b c d) fun _ _ q=>q.1
theorem Zrb {cls:Value}{R:Value->Ab->Prop}(I:Inv X pins σ H s)(x:Zju s.heap e cls [e,T] (some fl))(oo:Zcu X pins H [e,T])(hx:X.ex=[])(hd:Zby s e dx)
  (k:∀s2 T',Inv X pins σ H s2->Zju s2.heap e cls [e,T'] (some .none)->Zcu X pins H [e,T']->Zby s2 e dx->Q () s2):Au (Ao X.prog X.w) A' (EQ (.ref e) none) Q R s:=
 Ax ((Zdc (.ref e) none).any (Xfb (R:=R) (Q:=fun _ s2=>∃T',Inv X pins σ H s2/\Zju s2.heap e cls [e,T'] (some .none)/\Zcu X pins H [e,T']) I x oo hx fun s2 T a b c=>⟨T,a,b,c⟩) hd)
  (fun _ s2 ⟨⟨T,a,b,c⟩,d⟩=>k s2 T a b c d) fun _ _ q=>q.1
def exO (e:Addr)(cls:Value)(dx:Option Addr):HO:=.ext fun h=>∃o vs,h.get? e=some o/\o.cls=cls/\o.data=.fields vs/\o.dict=dx
theorem Inv.track {cls:Value}(I:Inv X pins σ H s)(x:Zju s.heap e cls own z)(oo:Zcu X pins H own)(hdx:Zby s e dx):Inv X pins σ (upd H e (exO e cls dx)) s:=by
 have eo:=x.mem;obtain ⟨oe,vs,a0,he,hc,hd,h0,r⟩:=x;obtain ⟨o2,he2,hd2⟩:=hdx;cases AR (he.symm.trans he2);have hn:=(oo e eo).1;have ne:∀b u,H b=some u->b≠e:=fun b u q z=>by rw [z,hn] at q;cases q
 rcases s with ⟨hp,g,d,tk,os⟩;refine I.step' (h':=hp) (g':=g) (t':=tk) (d':=d) (ch:=[e]) (fun b hb=>by rw [Ak.mp hb];exact (oo e eo).2) (fun b o _ _ _ q _=>q) (fun b o _ _ _ q _=>⟨o.slots,q⟩) (fun b o hb q n=>?_) (fun b o _ q=>⟨o,q⟩)
  (fun b xs q=>by rw [Xl (ne _ _ q)];exact q) (fun b o u q=>by rw [Xl (ne _ _ q)];exact q) (fun b p n q=>by rw [Xl (ne _ _ q)];exact q) (fun m hm=>hm) (fun a o q=>?_) I.bare
 rw [Xl (fun z=>hb (by simp [z]))];exact n;by_cases ea:a=e;subst ea;rw [Ym] at q;cases q;exact ⟨⟨oe,vs,he,hc,hd,hd2⟩,⟨oe,he⟩,fun h1 h2 ⟨o,vs,q1,q2⟩ kk=>⟨o,vs,kk o q1,q2⟩⟩;rw [Xl ea] at q;exact (I.hok a o q).stay (fun b u _ q=>q) (fun b q=>by rw [Xl (ne _ _ q)];exact q) (fun b xs q=>by rw [Xl (ne _ _ q)];exact q) fun b ob u q=>by rw [Xl (ne _ _ q)];exact q
theorem Inv.gone (I:Inv X pins σ H s)(hn':h'.Ns X.env.locals m')(hs:BD X.env.locals s.heap h'):Inv X pins (Aa X.N.length none) H {s with heap:=h',toks:=t'}:=by obtain ⟨m,hn,hl⟩:=id I.loc;obtain ⟨oL,_,_,hoL,_⟩:=id hn;have lt:∀b o,X.s₀.heap.get? b=some o->b≠X.env.locals:=fun b o e=>Be (Aq (AL e) I.ok.above);refine ⟨I.ok,I.os,I.bare,⟨fun b o e n hb hx=>?_,fun b o e n hb hx=>?_,I.base.free,fun b o e hx=>?_,I.base.tups,I.base.frzs,I.base.tbls⟩,⟨m',hn',fun j y v' e1 e2 e3=>?_⟩,fun y c e=>?_,I.free,I.freeC,fun p hp=>?_,fun b ob e=>?_,by simp⟩;exact (hs.2 b (lt b o e)).trans (I.base.keep b o e n hb hx);obtain ⟨sl,e1⟩:=I.base.slot b o e n hb hx;exact ⟨sl,(hs.2 b (lt b o e)).trans e1⟩;obtain ⟨o',e1⟩:=I.base.there b o e hx;exact ⟨o',(hs.2 b (lt b o e)).trans e1⟩;rw [Co] at e2;split at e2<;>cases e2;obtain ⟨w',z⟩:=I.cell y c e;exact ⟨w',z.sameBut hs (I.cne y c e)⟩;obtain ⟨e,n,ne,nf,d⟩:=I.pin p hp;exact ⟨(hs.2 p.1 ne).trans e,n,ne,nf,d⟩;refine (I.hok b ob e).stay (fun c w' hc q=>(hs.2 c ?_).trans q) (fun _ q=>q) (fun _ _ q=>q) fun _ _ _ q=>q;rintro rfl;rcases hc with hc | hc;rw [<- hc,I.free] at e;cases e;rw [I.free] at hc;cases hc
theorem Cx.Ok.setPn (ok:X.Ok)(pn:List (Addr×Obj)):({X with pn:=pn}:Cx).Ok:=⟨ok.mod,ok.kind,ok.glob,ok.blt,ok.above,ok.inj,ok.has,ok.cab,ok.hd,ok.frames,ok.stk,ok.exf,ok.bs,ok.bsz,ok.noex,ok.exfs,ok.funs,ok.frf⟩
theorem Cx.Ok.unsetPn (ok:({X with pn:=pn}:Cx).Ok):X.Ok:=⟨ok.mod,ok.kind,ok.glob,ok.blt,ok.above,ok.inj,ok.has,ok.cab,ok.hd,ok.frames,ok.stk,ok.exf,ok.bs,ok.bsz,ok.noex,ok.exfs,ok.funs,ok.frf⟩
theorem Inv.inpin (I:Inv X pins σ H s):Inv {X with pn:=X.pn++pins} [] σ H s:=⟨I.ok.setPn _,I.os,I.bare,I.base,I.loc,I.cell,I.free,I.freeC,fun p hp=>I.pin p (by simpa using hp),I.hok,I.len⟩
theorem Inv.outpin (I:Inv {X with pn:=X.pn++pins} pins' σ H s):Inv X pins σ H s:=⟨I.ok.unsetPn,I.os,I.bare,I.base,I.loc,I.cell,I.free,I.freeC,fun p hp=>I.pin p (As _ hp),I.hok,I.len⟩
abbrev Cx.hand (X:Cx)(e:Addr):Cx:={X with A:=X.A.mark (some (.ref e)),calm:=false,xe:=fun _ _=>False}
theorem Inv.hand (I:Inv X pins σ H s)(e:Addr):Inv (X.hand e) pins σ H s:=
  ⟨⟨I.ok.mod,I.ok.kind,I.ok.glob,I.ok.blt,I.ok.above,I.ok.inj,I.ok.has,I.ok.cab,(fun z=>by cases z),I.ok.frames,I.ok.stk,I.ok.exf,I.ok.bs,I.ok.bsz,I.ok.noex,I.ok.exfs,I.ok.funs,I.ok.frf⟩,
    I.os,I.bare,I.base,I.loc,I.cell,I.free,I.freeC,I.pin,I.hok,I.len⟩
theorem Inv.unhand (I:Inv (X.hand e) pins σ H s)(hd:X.calm=true->X.A.handled=none):Inv X pins σ H s:=
  ⟨⟨I.ok.mod,I.ok.kind,I.ok.glob,I.ok.blt,I.ok.above,I.ok.inj,I.ok.has,I.ok.cab,hd,I.ok.frames,I.ok.stk,I.ok.exf,I.ok.bs,I.ok.bsz,I.ok.noex,I.ok.exfs,I.ok.funs,I.ok.frf⟩,
    I.os,I.bare,I.base,I.loc,I.cell,I.free,I.freeC,I.pin,I.hok,I.len⟩
def tTry (K:AB)(c:Value)(i N:Nat)(tb:XK->TS)(th:TS):TS:=fun D σ H=>∃E:XK,tb E D σ H/\∀cls dx H' e,E cls dx H'->H' e=none->ET K cls c=some true/\
 ∀σ':St,σ'.length=N->th {nx:=fun _ H2=>D.nx (Aa N none) H2,rt:=D.rt,bk:=fun _ H2=>D.bk (Aa N none) H2,ct:=fun _ H2=>D.ct (Aa N none) H2} (σ'.set i (some (.ref e))) (upd H' e (exO e cls dx))
theorem Xqt {c n:Str}{hpos:Pos}{th:TS}(hm:X.mg c=some (.ref C))
  (hb:∀(E:XK) (pn:List (Addr×Obj)),PSs (({X with pn:=pn}:Cx).wish (ER {X with pn:=pn} E)) body (tb E)) (hh:∀e:Addr,PSs (X.hand e) (b₀::suite) th)
  (hN:X.N.Nodup) (hi:X.N[i]?=some n) (hl:X.env.scope.names.lookup n=some .local) (hg:Gl X c:=by rfl) (hx:X.ex=[]:=by rfl) (hst:X.stack=X.env::X.outer:=by rfl) (hf:X.env.frame=some X.env.locals:=by rfl) (hdb:(c==("__debug__":Str))=false:=by decide) :
  PS X (.Try body [.ExceptHandler (some (.Name c np)) (some n) (b₀::suite) hpos] [] [] pos) (tTry X.K (.ref C) i X.N.length tb th):=by
 intro pins s σ H D I h;obtain ⟨E,h1,h2⟩:=h;refine wpAny_Try_except (Ax (hb E (X.pn++pins) [] s σ H D (I.inpin.wish _) h1) (fun f s1 q=>?_) fun ev s1 q=>?_)
 ·have q1:SP ({X with pn:=X.pn++pins}:Cx) [] D f s1:=q.unwish;have q':SP X pins D f s1:=by
   cases f with
   | next=>obtain ⟨σ',H',I',z⟩:=q1;exact ⟨σ',H',I'.outpin,z⟩
   | brk=>obtain ⟨σ',H',I',z⟩:=q1;exact ⟨σ',H',I'.outpin,z⟩
   | cont=>obtain ⟨σ',H',I',z⟩:=q1;exact ⟨σ',H',I'.outpin,z⟩
   | ret u=>obtain ⟨v,σ',H',I',r,z⟩:=q1;exact ⟨v,σ',H',I'.outpin,r,z⟩
  cases f with
  | next=>exact DN q'
  | brk=>exact q'
  | cont=>exact q'
  | ret u=>exact q'
 ·obtain ⟨e0,dx,rfl,hdx,pins',e,own,cls,z,σ1,H1,ee,I1,x,hz,oo,qE⟩:=q;cases ee;have J1:Inv X pins σ1 H1 s1:=I1.outpin;have oo1:Zcu X pins H1 own:=fun b hb=>let ⟨a1,a2,a3,a4,a5⟩:=oo b hb;⟨a1,a2,a3,a4,fun p hp=>a5 p (As _ hp)⟩
  obtain ⟨hmat,hth⟩:=h2 cls dx H1 e0 qE (oo e0 x.mem).1;refine Zpk J1 x hz oo1 hx I.ok.frames hst hf hdx fun s2 T I2 x2 oo2 hd2=>?_;refine Zrb I2 x2 oo2 hx hd2 fun s3 T3 I3 x3 oo3 hd3=>?_;refine wpAny_handleBy_cons (codeAny_handlers_test ?_) (by intro q;cases q);refine Zky (X:=X.hand e0) (I3.hand e0) hg hm ?_ hdb;have ty:PySem.W.Looks (Ao X.prog X.w) s3.heap (typeOf (.ref e0)) cls:=by obtain ⟨oe,vs,a0,he,hc,_⟩:=x3;subst hc;exact (PySem.W.Looks.ld he).andThen .now
  refine (PySem.W.exm_one I3.kIn ty hmat).here ?_;refine (codeAny_handlers_suite_as ?_);refine Zrb (X:=X.hand e0) (I3.hand e0) x3 oo3 hx hd3 fun s4 T4 I4 x4 oo4 hd4=>?_;have I5:=I4.track x4 oo4 hd4;refine Zli (X:=X.hand e0) I5 hN hi (.inl hl) (v:=.ref e0) rfl (fun s5 I6=>?_) (.inr hl);refine Ax (hh e0 pins s5 _ _ _ I6 (hth σ1 J1.len)) (fun f s6 q=>?_) fun _ _ z=>z.elim;have fin:∀{σ':St} {H':Hp} {Qf:Ab->Prop},Inv (X.hand e0) pins σ' H' s6->(∀s7,Inv X pins (Aa X.N.length none) H' s7->Qf s7)->Au (Ao X.prog X.w) X.A (do bindName X.env n .none;unbindBehindTheSuite X.env n hpos) (fun _ s7=>Qf s7) X.xe s6:=fun {σ' H' Qf} J k=>by have J':Inv X pins σ' H' s6:=J.unhand I.ok.hd;obtain ⟨m,hn,_⟩:=J'.loc;exact wpAny_nameGoes hl hn (by rw [I.ok.kind];rfl) fun h' m' hn' hs=>k _ (J'.gone hn' hs)
  cases f with
  | next=>obtain ⟨σ',H',I',z⟩:=q;exact fin I' fun s7 J=>⟨_,_,J,z⟩
  | brk=>obtain ⟨σ',H',I',z⟩:=q;exact fin I' fun s7 J=>⟨_,_,J,z⟩
  | cont=>obtain ⟨σ',H',I',z⟩:=q;exact fin I' fun s7 J=>⟨_,_,J,z⟩
  | ret u=>obtain ⟨v,σ',H',I',r,z⟩:=q;exact fin I' fun s7 J=>⟨v,_,_,J,r,z⟩
end L2
namespace L2
open PySem PySem.Spec
variable {prog:Av}{w:AO}{A:AJ}{E:Value->Ab->Prop}{h:AY}{g:Array Dj}{d:GG}{t:Nat}{os:Gb}{o:Obj}{vs:Array Value}{ct:Tok}{Q:Option Value->Ab->Prop}{nameV:Value}
section
variable {a C:Addr}
open PySem.W (Looks)
theorem Zzk {R:DL->Ab->Prop}(hx:h.get? a=some o)(hc:o.cls=.ref C)(hsub:Looks (Ao prog w) h (CO (.ref C) (.type "object")) true)(hq:R (.ok (.ret (.ref C))) ⟨h,g,d,t,os⟩) :
  B8 (Ao prog w) A (.call (.builtin "getset_descriptor.__get__") ⟨[.builtin "object.__class__",.ref a,.ref C],[]⟩) R ⟨h,g,d,t,os⟩:=by
 have isGs:(⟨h,g,d,t,os⟩:Ab).TypeIs (.builtin "object.__class__") "getset_descriptor":=DM;refine Gz Fo.plain F.entry_gs_get (Fo.check _ _ _ _ _ _ _ _ isGs (F.args_gs_get _ _ _) ?_);have ho:(".".intercalate ("object.__class__".cutAt '.').dropLast)="object":=F.owner_object_class
 repeat (any_goals (first | assumption | (with_reducible refine CC hx ?_;rw [hc]) | (rw [ho];with_reducible refine hsub.here ?_) | wp_step))
 refine Ep (Code.quiet_builtin _ (by decide +kernel)) (codeAny_builtin F.entry_object_class ?_)
 repeat (any_goals (first | assumption | (with_reducible refine CC hx ?_;rw [hc]) | wp_step))
theorem Zrn {Q:Fin->Ab->Prop}(hx:h.get? a=some o)(hc:o.cls=.ref C)(hd:o.data=.fields vs)(hlk:Looks (Ao prog w) h (Cu (.ref C) "__class__") (some (.builtin "object.__class__")))(hsub:Looks (Ao prog w) h (CO (.ref C) (.type "object")) true)(hq:Q (.done (.ret (.ref C))) ⟨h,g,d,t,os⟩) :
  Au (Ao prog w) A (Builtin.«object.__getattribute__» ⟨[.ref a,.str "__class__" ct],[]⟩) Q E ⟨h,g,d,t,os⟩:=by
 have isGs:(⟨h,g,d,t,os⟩:Ab).TypeIs (.builtin "object.__class__") "getset_descriptor":=DM;have known:=Ep DM (Ep Fo.lookup F.slot_gs_set.lookup);obtain ⟨f5,f6,f7⟩:=known
 repeat (any_goals (first | assumption | (with_reducible refine CC hx ?_;rw [hc]) | with_reducible refine hlk.here ?_ | wp_step))
 refine Zzk hx hc hsub ?_
 repeat (any_goals first | assumption | wp_step)
theorem Zsv {Q:Unit->Ab->Prop}(hx:h.get? a=some o)(hc:o.cls=.ref C)(hsb:Looks (Ao prog w) h (CO (.ref C) (.type "BaseException")) true)(hq:Q () ⟨h,g,d,t,os⟩) :
  Au (Ao prog w) A (Hf "BaseException.__getattribute__" ⟨[.ref a,nameV],[]⟩) Q E ⟨h,g,d,t,os⟩:=by
 have hk:builtinKind "BaseException.__getattribute__"=some .slot/\splitId "BaseException.__getattribute__"=some ("BaseException","__getattribute__"):=⟨by decide +kernel,by decide +kernel⟩;have hag:=F.args_bexc_ga (.ref a) nameV;simp only [Hf,hk.1,hk.2];refine Aj ?_
 ·unfold isInstance
  repeat (first | (with_reducible refine CC hx ?_;rw [hc]) | with_reducible refine hsb.here ?_ | wp_step)
  exact hq
theorem Zvn {R:DL->Ab->Prop}(hx:h.get? a=some o)(hc:o.cls=.ref C)(hd:o.data=.fields vs)(hlk:Looks (Ao prog w) h (Cu (.ref C) "__class__") (some (.builtin "object.__class__")))(hsub:Looks (Ao prog w) h (CO (.ref C) (.type "object")) true)
  (hsb:Looks (Ao prog w) h (CO (.ref C) (.type "BaseException")) true) (hq:R (.ok (.ret (.ref C))) ⟨h,g,d,t,os⟩) :
  B8 (Ao prog w) A (.call (.builtin "BaseException.__getattribute__") ⟨[.ref a,.str "__class__" ct],[]⟩) R ⟨h,g,d,t,os⟩:=
 Gz PySem.F.attr_ValueError.ga.plain F.entry_bexc_ga (Zsv hx hc hsb (Zrn hx hc hd hlk hsub hq))
theorem Xks {Q:Value->Ab->Prop}(hx:h.get? a=some o)(hc:o.cls=.ref C)(hd:o.data=.fields vs)(hga:Looks (Ao prog w) h (Cu (.ref C) "__getattribute__") (some (.builtin "BaseException.__getattribute__")))(hge:Looks (Ao prog w) h (Cu (.ref C) "__getattr__") none)(hlk:Looks (Ao prog w) h (Cu (.ref C) "__class__") (some (.builtin "object.__class__")))(hsub:Looks (Ao prog w) h (CO (.ref C) (.type "object")) true)
  (hsb:Looks (Ao prog w) h (CO (.ref C) (.type "BaseException")) true) (hq:Q (.ref C) ⟨h,g,d,t,os⟩):Au (Ao prog w) A (getAttrBy (.ref a) (.str "__class__" ct) false) Q E ⟨h,g,d,t,os⟩:=by
 have f3:=PySem.F.attr_ValueError.ga.bind (.ref a);have hz2:(DO "BaseException.__getattribute__"==DO "object.__getattribute__")=false:=by decide +kernel
 have hz1:(onTheHeap (Ba C)&&DO "BaseException.__getattribute__"==DO "object.__getattribute__")=false:=by rw [hz2];rfl
 repeat (any_goals (first | assumption | (with_reducible refine CC hx ?_;rw [hc]) | with_reducible refine hga.here ?_ | with_reducible refine hge.here ?_ | wp_step))
 refine Zvn hx hc hd hlk hsub hsb ?_
 repeat (any_goals first | assumption | wp_step)
theorem Zxw (hx:h.get? a=some o)(hc:o.cls=.ref C)(hd:o.data=.fields vs)(hga:Looks (Ao prog w) h (Cu (.ref C) "__getattribute__") (some (.builtin "BaseException.__getattribute__")))(hge:Looks (Ao prog w) h (Cu (.ref C) "__getattr__") none)(hlk:Looks (Ao prog w) h (Cu (.ref C) "__class__") (some (.builtin "object.__class__")))(hsub:Looks (Ao prog w) h (CO (.ref C) (.type "object")) true)
  (hsb:Looks (Ao prog w) h (CO (.ref C) (.type "BaseException")) true) (hq:Q (some (.ref C)) ⟨h,g,d,t+1,os⟩):Au (Ao prog w) A (getAttr? (.ref a) "__class__") Q E ⟨h,g,d,t,os⟩:=by
 unfold getAttr? getAttrBy?
 repeat (any_goals (first | assumption | with_reducible apply Xks hx hc hd hga hge hlk hsub hsb | wp_step))
end
end L2
namespace L2
open PySem PySem.Spec PyProof.Rows
variable {X:Cx}{a C f:Addr}{b:Bool}{e:Expr}{es:List Expr}{te td ty:TE}{pos cpos:Pos}{K:AB}{σ:St}{H H':Hp}{x:Str}{body suite:List Stmt}{b₀ st:Stmt}{i t':Nat}{tbq:XK->TS}{P:Av}{w:AO}{mg:Str->Option Value}{fd:BB}{N ps:List Str}{κ:Type}{o:Option V}{u r:Value}{y:V}{kvs:List (List Key×V)}{xs:List (List Key×Addr×Value)}{h h':AY}{ks:List Key}{pins:List (Addr×Obj)}{s:Ab}{A:AJ}{E Q:Value->Ab->Prop}{vs:List (Key×Value)}
abbrev TJ:=St->Hp->(Hp->Prop)->Prop
def PJ (X:Cx)(es:List Expr)(t:TJ):Prop:=
 ∀(out:Str) (pins:List (Addr×Obj)) (s:Ab) (σ:St) (H:Hp) (Q:VK),Inv X pins σ H s->out.length+2000*es.length<=Ai->t σ H (fun H1=>∀z,Q (.str z) H1)->
  Au (Ao X.prog X.w) X.A (joinParts out (B0 es X.env)) (EP X pins σ Q) X.xe s
structure QJ (X:Cx)(es:List Expr)(t:TJ):Prop where
 out:PJ X es t
def jNil:TJ:=fun _ H Q=>Q H
def Zsr (te:TE)(t:TJ):TJ:=fun σ H Q=>te σ H fun x H1=>∃y,x=.str y/\y.length<=2000/\t σ H1 Q
def tJs (t:TJ):TE:=fun σ H Q=>t σ H fun H1=>∀z,Q (.str z) H1
section
variable {a b:Expr}{t:TJ}
theorem Xpc:PJ X [] jNil:=by intro out pins s σ H Q I hz q;exact joinParts_nil ⟨.str out,H,I.tok _,⟨_,rfl⟩,q out⟩ (by simpa using hz)
theorem Xfs (he:PE X e te)(hr:PJ X es t)(hv:B0 (e::es) X.env=AM e X.env::B0 es X.env):PJ X (e::es) (Zsr te t):=by intro out pins s σ H Q I hz q;rw [hv];refine joinParts_cons (thn (he pins s σ H _ I q) fun v s1 hz9=>?_);obtain ⟨x,H1,I1,r1,y,ex,hl,q1⟩:=hz9;subst ex;obtain ⟨tk,rfl⟩:=r1;have e1:(out++y).length=out.length+y.length:=strLen_append ..;rw [AK] at hz;exact ⟨by omega,hr (out++y) pins s1 σ H1 Q I1 (by omega) q1⟩
theorem Xna:QJ X [] jNil:=⟨Xpc⟩
theorem Zwz (he:QE X e te)(hr:QJ X es t)(hv:B0 (e::es) X.env=AM e X.env::B0 es X.env:=by rfl):QJ X (e::es) (Zsr te t):=⟨Xfs he.out hr.out hv⟩
theorem qe_js (h:QJ X (a::b::es) t)(hn:es.length<=100:=by decide)(hv:B0 (a::b::es) X.env=AM a X.env::AM b X.env::B0 es X.env:=by rfl):QE X (.JoinedStr (a::b::es) pos) (tJs t):=⟨fun pins s σ H Q I q =>
  JoinedStr_many (by
    have hz:(Cp).length+2000*(a::b::es).length<=Ai:=by have e0:(Cp).length=0:=rfl;rw [e0,AK,AK,Bm];omega
    have q':=h.out Cp pins s σ H Q I hz q;rw [hv] at q';exact q')⟩
end
open PySem.W (Looks)
structure Zly (K:AB)(C:Addr):Prop where
 exc:EZ K C bmV "ValueError.__new__"=true
 ty:DH K (.ref C)=some (.type "type")
 cl:∃c,E1 K C=some c
 ga:B5 K (.ref C) "__getattribute__"=some (some (.builtin "BaseException.__getattribute__"))
 ge:B5 K (.ref C) "__getattr__"=some none
 lk:B5 K (.ref C) "__class__"=some (some (.builtin "object.__class__"))
 so:BG K (.ref C) (.type "object")=some true
 sb:BG K (.ref C) (.type "BaseException")=some true
 se:BG K (.ref C) (.ref C)=some true
section
variable {D e:Addr}
structure Zse (K:AB)(C:Addr):Prop where
 ob:∃dd cd sl,K.lookup C=some ⟨.type "type",dd,.cls cd,sl⟩
 ty:DH K (.ref C)=some (.type "type")
 cl:∃c,E1 K C=some c
 ga:B5 K (.ref C) "__getattribute__"=some (some (.builtin "BaseException.__getattribute__"))
 ge:B5 K (.ref C) "__getattr__"=some none
 lk:B5 K (.ref C) "__class__"=some (some (.builtin "object.__class__"))
 so:BG K (.ref C) (.type "object")=some true
 sb:BG K (.ref C) (.type "BaseException")=some true
 se:BG K (.ref C) (.ref C)=some true
theorem Zly.ob (E:Zly K C):∃dd cd sl,K.lookup C=some ⟨.type "type",dd,.cls cd,sl⟩:=by
 have q:=E.exc;unfold EZ at q;split at q
 next dct cls slots look=>exact ⟨_,_,_,look⟩
 next=>cases q
theorem Zly.k (E:Zly K C):Zse K C:=⟨E.ob,E.ty,E.cl,E.ga,E.ge,E.lk,E.so,E.sb,E.se⟩
theorem Zse.kitC (E:Zse K C)(h:BG K (.ref D) (.ref C)=some b):kitCls K (.ref D) (.ref C)=some b:=by obtain ⟨c,hc⟩:=E.cl;show (if ((E1 K C).isSome&&DH K (.ref C)==some (.type "type"))=true then BG K (.ref D) (.ref C) else none)=some b;rw [hc,E.ty,if_pos (by simp)];exact h
theorem Zse.exm (E:Zse K C)(h:BG K (.ref D) (.ref C)=some b):ET K (.ref D) (.ref C)=some b:=by unfold ET;rw [E.sb,if_pos (by simp)];exact E.kitC h
theorem Zse.kit (E:Zse K C):PySem.W.KitX K (.ref e) (.ref C) (fun h=>∃o vs,h.get? e=some o/\o.cls=.ref C/\o.data=.fields vs) where
 ty:=fun M h X ⟨o,vs,he,hc,hd⟩=>by rw [<- hc];exact (Looks.ld he).andThen .now
 it:=fun M h X _=>(PySem.W.kit_cls X (E.kitC E.se)).2.1
 ne:=fun h tq dd its n sl X htq=>by
  refine D6.mpr fun same=>?_;have e:C=tq:=by have:=beq_iff_eq.mp same;cases this;rfl
  subst e;obtain ⟨dd2,cd2,sl2,look⟩:=E.ob;have hC:=X _ _ look;rw [htq] at hC;have z:EF "tuple"=EF "type":=congrArg Obj.cls (AR hC);exact absurd z (by decide)
 ca:=fun {prog w A E' Q s} X ⟨o,vs,he,hc,hd⟩ hq=>by obtain ⟨h,g,d,t,os⟩:=s;exact Zxw he hc hd (EB X E.ga) (EB X E.ge) (EB X E.lk) (PySem.W.looks_subIn X E.so) (PySem.W.looks_subIn X E.sb) hq
end
def rIsX (K:AB):List V->Hp->VK->Prop:=fun xs H Q=>∃(e D C:Addr) (b:Bool),xs=[.ref e,.ref C]/\(∃dx,H e=some (exO e (.ref D) dx))/\Zse K D/\CN K (.ref D) (.ref C)=some b/\Q (.bl b) H
section
theorem Zzs:Zbg X (.builtin "isinstance") (rIsX X.K):=by intro pins s σ H xs us Q I r h;obtain ⟨e,D,C,b,rfl,⟨dx,he⟩,hE,hk,q⟩:=h;obtain ⟨ho,hvs,q1,q2,q3,_⟩:=(I.hok e _ he).1;obtain ⟨u,w',rfl,rx,ry⟩:=vals2 r;cases rx;cases ry;exact Cr hE.kit I.kIn ⟨ho,hvs,q1,q2,q3⟩ hk (by intro z;cases z) fun tk=>⟨.bl b,H,I.tok _,rfl,q⟩
variable {Q:VK}{D:Ends}
variable {a b c d:Expr}{ta tb tc:TE}
variable {t:TA}{np hpos:Pos}
theorem Zyc {E:XK}(hq:EZ X.K C bmV "ValueError.__new__"=true)(hm:X.mg x=some (.ref C))(ha:QA (X.wish (ER X E)) (e::es) t)(hg:Gl X x:=by rfl)(hc:X.calm=true:=by rfl)(hx:X.ex=[]:=by rfl)
  (hdb:(x==("__debug__":Str))=false:=by decide) (he:Ac (e::es) X.env=(false,AM e X.env)::Ac es X.env:=by rfl) (hpl:(AW cpos (Ac es X.env)).any (·.1)=false:=by rfl) :
  QS (X.wish (ER X E)) (.Raise (some (.Call (.Name x np) (e::es) [] cpos)) none pos) (Zqv (.ref C) E t):=⟨Xbo hq hm ha.out hg hc hx hdb he hpl⟩
theorem Xra {c n:Str}{th:TS}(hm:X.mg c=some (.ref C))
  (hN:X.N.Nodup) (hi:X.N[i]?=some n) (hl:X.env.scope.names.lookup n=some .local)
  (hb:∀(E:XK) (pn:List (Addr×Obj)),QSs (({X with pn:=pn}:Cx).wish (ER {X with pn:=pn} E)) body (tbq E)) (hh:∀e:Addr,QSs (X.hand e) (b₀::suite) th)
  (hg:Gl X c:=by rfl) (hx:X.ex=[]:=by rfl) (hst:X.stack=X.env::X.outer:=by rfl) (hf:X.env.frame=some X.env.locals:=by rfl) (hdb:(c==("__debug__":Str))=false:=by decide) :
  QS X (.Try body [.ExceptHandler (some (.Name c np)) (some n) (b₀::suite) hpos] [] [] pos) (tTry X.K (.ref C) i X.N.length tbq th):=
 ⟨Xqt hm (fun E pn=>(hb E pn).out) (fun e=>(hh e).out) hN hi hl hg hx hst hf hdb⟩
end
theorem Fun.okEQ {base:AY}{qual:Str}{k:Nat}{sp:Sp}(F:Fun K x qual st f fd)(S:Xk N ps (Zk st))(len:∀vs H Q E,sp vs H Q E->vs.length=ps.length)
    (hbody:∀(cdv:Value) (A:AJ) (outer:List Env) (s:Ab) (H:Hp) (vs:List V) (Q:VK) (E:XK),Zha k (A.deeper (C6 qual (Zk st) s.heap.objs.size f cdv))->sp vs H Q E->
      ∃t,QSs ((Zqb (CXE P w) P w K mg base N qual (Zk st) f cdv A outer s H E).wish (ER (Zqb (CXE P w) P w K mg base N qual (Zk st) f cdv A outer s H E) E)) (Zae st) t/\t {nx:=fun _ H'=>Q .non H',rt:=Q} (start N vs) H):Zbr P w K mg base (CXE P w) (k+1) f fd ps sp:=
  F.okE S len fun cdv A outer s H vs Q E hr h=>by obtain ⟨t,ht,q⟩:=hbody cdv A outer s H vs Q E hr h;exact ⟨t,ht.out,q⟩
structure Pl (n:Nat)(x:Str):Prop where
 len:x.length<=n
 asc:∀c∈x.cps.toList,c<128
def rSlS:V->Option Int->Option Int->Hp->VK->Prop:=fun x _ _ H Q=>∃z n,x=.str z/\Pl n z/\n<=1000/\∀y,Pl n y->Q (.str y) H
theorem Zgo:SlR X rSlS:=by
 intro pins s σ H x v vl vu lo hi sl Q I rx hs pl pu h;obtain ⟨z,n,rfl,hz,hn,q⟩:=h;obtain ⟨tk,rfl⟩:=rx;refine ⟨"str",_,PySem.F.slot_str_getitem.lookup,Cv _ z tk,?_⟩;have hp:∀{v:Value} {o:Option Int},GS v o->∃p:Option (Int×Tok),v=partValue p/\p.map (·.1)=o:=fun h=>by
  cases h with
  | none=>exact ⟨none,rfl,rfl⟩
  | int i t=>exact ⟨some (i,t),rfl,rfl⟩
 obtain ⟨l,rfl,el⟩:=hp pl;obtain ⟨u,rfl,eu⟩:=hp pu;refine Fz (l:=l) (u:=u) (st:=none) hs rfl ?_;unfold sliceMade;split;exact ⟨.str z,H,I,⟨_,rfl⟩,q _ hz⟩;have hq:Pl n ⟨((BX z l u none).filterMap (z.cps[·]?)).toArray⟩:=by refine ⟨?_,fun c hc=>?_⟩;have h1:((BX z l u none).filterMap (z.cps[·]?)).length<=(BX z l u none).length:=Cg ..;have h2:(BX z l u none).length<=z.length:=E6 _ _ _;exact AN h1 (AN h2 hz.len);obtain ⟨i,_,hi⟩:=BN.mp (show c∈(BX z l u none).filterMap (z.cps[·]?) from hc);exact hz.asc c (A5 (i:=i) (by simpa using hi))
 have:=hq.len;exact ⟨AN hq.len (by rw [Bm];omega),.str _,H,I.tok _,⟨_,rfl⟩,q _ hq⟩
section
variable [DecidableEq κ]
def Zto (kvs:List (κ×V))(k:κ):Option V:=(kvs.find? fun kv=>decide (kv.1=k)).map (·.2)
def putK (kvs:List (κ×V))(k:κ)(v:V):List (κ×V):=
 if (kvs.any fun kv=>decide (kv.1=k))=true then kvs.map (fun kv=>if kv.1=k then (kv.1,v) else kv) else kvs++[(k,v)]
theorem Zkv {p:κ×V}{r:List (κ×V)}{k:κ}(e:p.1=k):Zto (p::r) k=some p.2:=by simp [Zto,Di,e]
theorem Zlj {p:κ×V}{r:List (κ×V)}{k:κ}(e:¬p.1=k):Zto (p::r) k=Zto r k:=by simp [Zto,Di,e]
theorem Zkn (k:κ):∀kvs:List (κ×V),(kvs.any fun kv=>decide (kv.1=k))=(Zto kvs k).isSome
 | []=>rfl
 | p::r=>by rw [CH];by_cases e:p.1=k;simp only [Zkv e,decide_eq_true e,Bool.true_or,Option.isSome_some];rw [Zlj e,decide_eq_false e,GV];exact Zkn k r
theorem Zhz (kvs:List (κ×V))(k:κ)(v:V):(putK kvs k v).length<=kvs.length+1:=by unfold putK;split;rw [Al];omega;rw [AE,AK,GD];omega
theorem Xfl.isSome_eq {u:Option Value}(r:Xfl o u):o.isSome=u.isSome:=by
 cases o with
 | none=>cases u with
  | none=>rfl
  | some _=>exact (show False from r).elim
 | some _=>cases u with
  | none=>exact (show False from r).elim
  | some _=>rfl
theorem KV.val {kvs:List (κ×V)}{vs:List (κ×Value)}(r:KV kvs vs)(k:κ):Xfl (Zto kvs k) (E8 vs k):=by
 unfold KV at r
 induction r with
 | nil=>exact BM
 | @cons p q ps qs h t ih =>
  obtain ⟨h1,h2⟩:=h;by_cases e:p.1=k;have e':q.1=k:=h1.symm.trans e;have b:E8 (q::qs) k=some q.2:=by simp [E8,Di,e']
  rw [Zkv e,b];exact h2;have e':¬q.1=k:=fun z=>e (h1.trans z);have b:E8 (q::qs) k=E8 qs k:=by simp [E8,Di,e']
  rw [Zlj e,b];exact ih
theorem KV.any {kvs:List (κ×V)}{vs:List (κ×Value)}(r:KV kvs vs)(k:κ):(kvs.any fun kv=>decide (kv.1=k))=vs.any fun kv=>decide (kv.1=k):=by
 unfold KV at r
 induction r with
 | nil=>rfl
 | cons h t ih=>rw [CH,CH,ih,h.1]
theorem KV.repl {kvs:List (κ×V)}{vs:List (κ×Value)}(r:KV kvs vs)(k:κ)(ry:RelV y u) :
  KV (kvs.map fun kv=>if kv.1=k then (kv.1,y) else kv) (vs.map fun kv=>if kv.1=k then (kv.1,u) else kv):=by
 unfold KV at r ⊢
 induction r with
 | nil=>exact .nil
 | @cons p q ps qs h t ih =>rw [AG,AG];refine .cons ?_ ih;obtain ⟨h1,h2⟩:=h;by_cases e:p.1=k;rw [if_pos e,if_pos (h1.symm.trans e)];exact ⟨h1,ry⟩;rw [if_neg e,if_neg (fun z=>e (h1.trans z))];exact ⟨h1,h2⟩
theorem KV.put {kvs:List (κ×V)}{vs:List (κ×Value)}(r:KV kvs vs)(k:κ)(ry:RelV y u):KV (putK kvs k y) (stored vs k u):=by unfold putK stored;rw [r.any k];by_cases e:(vs.any fun kv=>decide (kv.1=k))=true;rw [if_pos e,if_pos e];exact r.repl k ry;rw [if_neg e,if_neg e];exact Paired.snoc r ⟨rfl,ry⟩
theorem KV.length {kvs:List (κ×V)}{vs:List (κ×Value)}(r:KV kvs vs):kvs.length=vs.length:=Paired.length r
end
theorem Xjj {k:Key}(r:RelV (kV k) u):(Zas P w).is k u=true:=by
 cases k with
 | inl i=>obtain ⟨t,e⟩:=(show ∃t,u=Ea i t from r);subst e;exact Zpd P w i t
 | inr x=>obtain ⟨t,e⟩:=(show ∃t,u=D9 x t from r);subst e;exact Zph P w x t
theorem Znc {P:Av}{w:AO}:∀{ks:List Key} {us:List Value},Jj (ks.map kV) us->ItemsAre (Zas P w) ks us
 | [],_,r=>by rw [G6] at r;cases r;exact .nil
 | k::ks,_,r=>by
  rw [AG] at r;cases r with
  | cons h t=>exact .cons (Xjj h) (Znc t)
abbrev KT (H:Hp):List (List Key×V)->List (List Key×Addr×Value)->Prop:=Paired fun p q=>p.1=q.1/\H q.2.1=some (.tup (p.1.map kV))/\RelV p.2 q.2.2
theorem KT.val (r:KT H kvs xs)(k:List Key):Xfl (Zto kvs k) ((FJ xs k).map (·.2)):=by
 induction r with
 | nil=>exact BM
 | @cons p q ps qs h t ih =>
  obtain ⟨h1,_,h2⟩:=h;by_cases e:p.1=k;have e':q.1=k:=h1.symm.trans e;have b:FJ (q::qs) k=some q.2:=by simp [FJ,Di,e']
  rw [Zkv e,b];exact h2;have e':¬q.1=k:=fun z=>e (h1.trans z);have b:FJ (q::qs) k=FJ qs k:=by simp [FJ,Di,e']
  rw [Zlj e,b];exact ih
theorem KT.repl (r:KT H kvs xs)(k:List Key)(ry:RelV y u) :
  KT H (kvs.map fun kv=>if kv.1=k then (kv.1,y) else kv) (xs.map (putAt k u)):=by
 induction r with
 | nil=>exact .nil
 | @cons p q ps qs h t ih =>rw [AG,AG];refine .cons ?_ ih;obtain ⟨h1,h2,h3⟩:=h;unfold putAt;by_cases e:p.1=k;rw [if_pos e,if_pos (h1.symm.trans e)];exact ⟨h1,h2,ry⟩;rw [if_neg e,if_neg (fun z=>e (h1.trans z))];exact ⟨h1,h2,h3⟩
theorem KT.put (r:KT H kvs xs)(k:List Key){b:Addr}(hb:H b=some (.tup (k.map kV)))(ry:RelV y u) :
  KT H (putK kvs k y) (storedH xs k b u):=by
 have e:(kvs.any fun kv=>decide (kv.1=k))=(FJ xs k).isSome:=by rw [Zkn,(r.val k).isSome_eq,Fv]
 unfold putK storedH;rw [e];by_cases q:(FJ xs k).isSome=true;rw [if_pos q,if_pos q];exact r.repl k ry;rw [if_neg q,if_neg q];exact Paired.snoc r ⟨rfl,hb,ry⟩
theorem KT.keeps (r:KT H kvs xs)(ht:∀b ys,H b=some (.tup ys)->H' b=some (.tup ys)):KT H' kvs xs:=Paired.mapP r fun _ _ z=>⟨z.1,ht _ _ z.2.1,z.2.2⟩
theorem Xmn {u:HO}(ok:HOk P w H h)(e:Rd H a u):Zar P w H h a u:=e.ok ok
theorem Xqx {kvs:List (Key×V)}(ok:HOk P w H h)(e:Rd H a (.dK kvs)):kvs.length<=Ai/\(a==Cw)=false/\∃vs,KV kvs vs/\h.DictOf (Zas P w) a vs:=show Zar P w H h a (.dK kvs) from Xmn ok e
theorem dk_of {kvs:List (Key×V)}(ok:HOk P w H h)(e:H a=some (.dK kvs)):kvs.length<=Ai/\(a==Cw)=false/\∃vs,KV kvs vs/\h.DictOf (Zas P w) a vs:=Xqx ok (.inl e)
theorem Zuo (ok:HOk P w H h)(e:H a=some (.tup (ks.map kV))):(EO (Zas P w)).is h ks a:=by obtain ⟨_,its,r,o,h1,h2,n,h3⟩:=(show Zar P w H h a (.tup (ks.map kV)) from ok a _ e);exact ⟨o,its.toArray,n,h1,h2,h3,by simpa using Znc r⟩
theorem Xok (ok:HOk P w H h)(e:Rd H a (.dT kvs)):kvs.length<=Ai/\(a==Cw)=false/\
  ∃xs,KT H kvs xs/\h.DictOfH (EO (Zas P w)) a xs:=by
 obtain ⟨z,y,xs,r,o,es,ep,h1,h2,h3,h4,h5⟩:=(show Zar P w H h a (.dT kvs) from Xmn ok e);refine ⟨z,y,xs,r,o,es,ep,h1,h2,h3,h4,fun x hx=>?_,h5⟩;have all:∀{l:List (List Key×V)} {m:List (List Key×Addr×Value)},KT H l m->∀x∈m,(EO (Zas P w)).is h x.1 x.2.1:=by
  intro l m q
  induction q with
  | nil=>intro x hx;exact nomatch hx
  | @cons p q ps qs hq t ih =>intro x hx;rcases Af.mp hx with e | hx;subst e;exact Zuo ok (by rw [<- hq.1];exact hq.2.1);exact ih x hx
 exact all r x hx
theorem dt_of (ok:HOk P w H h)(e:H a=some (.dT kvs)):kvs.length<=Ai/\(a==Cw)=false/\
  ∃xs,KT H kvs xs/\h.DictOfH (EO (Zas P w)) a xs:=Xok ok (.inl e)
def Xoo (H:Hp)(a:Addr)(y:V)(r:Option V):Prop:=
 (∃kvs k,Rd H a (.dK kvs)/\y=kV k/\r=Zto kvs k)\/∃kvs k b,Rd H a (.dT kvs)/\y=.ref b/\H b=some (.tup (k.map kV))/\r=Zto kvs k
def Xlc (H:Hp)(a:Addr)(y v:V)(H':Hp):Prop:=
 (∃kvs k,H a=some (.dK kvs)/\y=kV k/\kvs.length<Ai/\H'=upd H a (.dK (putK kvs k v)))\/
 ∃kvs k b,H a=some (.dT kvs)/\y=.ref b/\H b=some (.tup (k.map kV))/\kvs.length<Ai/\H'=upd H a (.dT (putK kvs k v))
theorem Xoo.k {H:Hp}{a:Addr}{kvs:List (Key×V)}{k:Key}(e:H a=some (.dK kvs)):Xoo H a (kV k) (Zto kvs k):=.inl ⟨kvs,k,.inl e,rfl,rfl⟩
theorem Xlc.k {H:Hp}{a:Addr}{kvs:List (Key×V)}{k:Key}{v:V}(e:H a=some (.dK kvs))(hl:kvs.length<Ai):Xlc H a (kV k) v (upd H a (.dK (putK kvs k v))):=.inl ⟨kvs,k,e,rfl,hl,rfl⟩
section
variable {v:V}
theorem Inv.big (I:Inv X pins σ H s):Cw<s.heap.objs.size:=by have h:Ad<s.heap.objs.size:=(I.mod.glob.keeps I.bk).lt;exact DU (by decide) h
theorem d_in (hu:A.units+1<Bk)(I:Inv X pins σ H s)(g:Xoo H a y o)(ry:RelV y u)(h:∀s',Inv X pins σ H s'->Q (.bool o.isSome) s') :
  Au (Ao X.prog X.w) A (AA .In u (.ref a)) Q E s:=by
 rcases g with ⟨kvs,k,e,ey,l⟩ | ⟨kvs,k,b,e,ey,eb,l⟩;subst ey;obtain ⟨z,hd,vs,rel,dd⟩:=Xqx I.hok e;refine wpAny_in_of (Xjj ry) hd dd.mapOf ?_;rw [<- (rel.val k).isSome_eq,<- l];exact h _ (I.tok _);subst ey;cases (show u=Ba b from ry);obtain ⟨z,hd,xs,rel,dd⟩:=Xok I.hok e;refine wpAny_in_heap (GO hu) (Zuo I.hok eb) hd dd ?_;have q:=(rel.val k).isSome_eq;rw [Fv] at q;rw [<- q,<- l];exact h _ (I.tok _)
theorem Ztt {ob:HO}(I:Inv X pins σ H s)(mu:Mut (H a))(hs:BD a s.heap h')(he:∃q,h'.get? a=some q)(new:Zar X.prog X.w (upd H a ob) h' a ob) :
  Inv X pins σ (upd H a ob) {s with heap:=h',toks:=t'}:=
 I.write (x:=a) (e:=a) mu (.inl rfl) (fun b q hb z=>(hs.2 b hb).trans z) he new
theorem Xnn {kvs:List (Key×V)}(z:kvs.length<=Ai)(hd:(a==Cw)=false)(rel:KV kvs vs)(dd:h'.DictOf (Zas P w) a vs) :
  Zar P w H' h' a (.dK kvs):=⟨z,hd,vs,rel,dd⟩
theorem Zux {Q:Unit->Ab->Prop}(hu:A.units+1<Bk)(I:Inv X pins σ H s)(g:Xlc H a y v H')(ry:RelV y u)(rv:RelV v r)(h:∀s',Inv X pins σ H' s'->Q () s') :
  Au (Ao X.prog X.w) A (E9 (.ref a) u r) Q E s:=by
 rcases g with ⟨kvs,k,e,ey,l,eH⟩ | ⟨kvs,k,b,e,ey,eb,l,eH⟩;subst ey eH;obtain ⟨z,hd,vs,rel,dd⟩:=dk_of I.hok e;have hz:vs.length<=Ai:=by rw [<- rel.length];exact z
 have hl:(putK kvs k v).length<=Ai:=by have:=Zhz kvs k v;omega
 refine wpAny_setItem_pairs (hsz:=hz) (Xjj ry) dd fun h' dd' hs=>h _ ?_;have he:∃q,h'.get? a=some q:=let ⟨q,_,_,hq,_⟩:=dd';⟨q,hq⟩
 exact Ztt I (by rw [e];exact BM) hs he (Xnn hl hd (rel.put k rv) dd');subst ey eH;cases (show u=Ba b from ry);obtain ⟨z,hd,xs,rel,dd⟩:=dt_of I.hok e;have hz:xs.length<=Ai:=by rw [<- Paired.length rel];exact z
 have hl:(putK kvs k v).length<=Ai:=by have:=Zhz kvs k v;omega
 refine wpAny_setItem_heap (hsz:=hz) (GO hu) (Zuo I.hok eb) dd fun h' dd' hs=>h _ ?_;obtain ⟨q,es,ep,hq,h2,h3,h4,_,h5⟩:=dd';refine Ztt I (by rw [e];exact BM) hs ⟨q,hq⟩ ⟨hl,hd,_,(rel.put k eb rv).keeps fun c ys ec=>?_,q,es,ep,hq,h2,h3,h4,h5⟩;rw [Xl (ne_of ec e (fun z=>nomatch z))];exact ec
variable {kvs:List (Key×V)}{k:Key}
end
def Xas (td ty tv:TE):TS:=fun D σ H=>tv σ H fun v H1=>td σ H1 fun x H2=>ty σ H2 fun y H3=>∃a H4,x=.ref a/\Xlc H3 a y v H4/\D.nx σ H4
section
variable {o i value:Expr}{pos' tpos:Pos}{tv:TE}
end
theorem Zyk (h:AY)(hb:Cw<h.objs.size):Zar P w H (h.push {cls:=.type "dict",data:=.dict #[]}) h.objs.size (.dK []):=⟨BC _,beq_eq_false_iff_ne.mpr (Ne.symm (Be hb)),[],.nil,HK h⟩
def Zxl:TE:=fun _ H Q=>∀p,H p=none->Q (.ref p) (upd H p (.dK []))
theorem Xag:PE X (.Dict [] [] pos) Zxl:=fun pins s σ H Q I h =>
 wpAny_Dict_empty ⟨.ref s.heap.objs.size,_,I.laid (a:=s.heap.objs.size) (o:=.dK []) (t':=s.toks) (fun _ _ q=>Az _ q) (AF _) (Zyk s.heap I.big),rfl,h _ (I.hok.fresh (AF _))⟩
structure M1 (X:Cx)(o:Expr)(m:Str)(apos:Pos)(e:Expr)(cpos:Pos):Prop where
  base:Bl o m X.env (AM o X.env)=AM o X.env
  few:((AW cpos (Ac [e] X.env)).all (fun x=>!x.1)&&(CF cpos (BI [] X.env)).all (fun x=>x.1.isSome)
    && decide (([e]:List Expr).length+([]:List Bi).length+(if ([]:List Bi).isEmpty then 0 else 1)<30))=true
  line:(apos.endLine==cpos.line)=true
  trees:AW cpos (Ac [e] X.env)=[(false,AM e X.env)]
structure M2 (X:Cx)(o:Expr)(m:Str)(apos:Pos)(e f:Expr)(cpos:Pos):Prop where
  base:Bl o m X.env (AM o X.env)=AM o X.env
  few:((AW cpos (Ac [e,f] X.env)).all (fun x=>!x.1)&&(CF cpos (BI [] X.env)).all (fun x=>x.1.isSome)
    && decide (([e,f]:List Expr).length+([]:List Bi).length+(if ([]:List Bi).isEmpty then 0 else 1)<30))=true
  line:(apos.endLine==cpos.line)=true
  trees:AW cpos (Ac [e,f] X.env)=[(false,AM e X.env),(false,AM f X.env)]
section
variable {d:V}
variable {o f:Expr}{apos:Pos}{tx:TE}{kvs:List (Key×V)}
end
end L2
namespace Dl
open PySem
variable {α β:Type}
set_option genInjectivity true in
inductive D where
 | non
 | bl (b:Bool)
 | int (i:Int)
 | str (x:Str)
 | lst (xs:List D)
 | tup (xs:List D)
 | scr (ns:List Int)
 | rng (lo hi:Int)
 | exc (c:String) (f:Option Int)
 | obj (c:String) (ns:List Str) (xs:List D)
 | dct (ks:List (Int ⊕ Str)) (xs:List D)
 | dtt (ks:List (List (Int ⊕ Str))) (xs:List D)
 | flst (xs:List D)
 | fdt (ks:List (List (Int ⊕ Str))) (xs:List D)
 | fobj (c:String) (ns:List Str) (xs:List D)
 | fdk (ks:List (Int ⊕ Str)) (xs:List D)
 deriving Inhabited
set_option genInjectivity true in
inductive R (α:Type) where
 | ok (a:α)
 | err (c:String) (f:Option Int)
 | bad
abbrev Env:=List (Option D)
set_option genInjectivity true in
inductive Fl where
 | nx (ρ:Env)
 | ret (d:D)
 | brk (ρ:Env)
 | cnt (ρ:Env)
def R.bind {α β:Type}:R α->(α->R β)->R β
 | .ok a,f=>f a
 | .err c x,_=>.err c x
 | .bad,_=>.bad
@[simp] theorem Zbz (a:α)(f:α->R β):(R.ok a).bind f=f a:=(rfl)
@[simp] theorem bind_err (c:String)(x:Option Int)(f:α->R β):(R.err c x:R α).bind f=.err c x:=(rfl)
@[simp] theorem bind_bad (f:α->R β):(R.bad:R α).bind f=.bad:=(rfl)
abbrev FE:=Env->R D
abbrev FT:=Env->R Bool
abbrev FA:=Env->R (List D)
abbrev FO:=Env->R (Option Int)
abbrev FS:=Env->R Fl
def fC (d:D):FE:=fun _=>.ok d
def fV (i:Nat):FE:=fun ρ=>match ρ[i]? with
 | some (some d)=>.ok d
 | _=>.bad
def oR {α:Type}:Option α->R α
 | some a=>.ok a
 | none=>.bad
@[simp] theorem oR_some (a:α):oR (some a)=.ok a:=(rfl)
@[simp] theorem oR_none :(oR (none:Option α))=.bad:=(rfl)
def f1 (g:D->Option D)(a:FE):FE:=fun ρ=>(a ρ).bind fun x=>oR (g x)
def f2 (g:D->D->Option D)(a b:FE):FE:=fun ρ=>(a ρ).bind fun x=>(b ρ).bind fun y=>oR (g x y)
def Zr:FA:=fun _=>.ok []
def Zb (a:FE)(r:FA):FA:=fun ρ=>(a ρ).bind fun x=>(r ρ).bind fun xs=>.ok (x::xs)
def fA (g:List D->Option D)(a:FA):FE:=fun ρ=>(a ρ).bind fun xs=>oR (g xs)
def Xe (F:List D->R D)(a:FA):FE:=fun ρ=>(a ρ).bind F
abbrev lim:Nat:=1000000
def Zaz (xs:List D):Option D:=if xs.length<=lim then some (.lst xs) else none
def Zdq (xs:List D):Option D:=if xs.length<=lim then some (.tup xs) else none
mutual
def flat:D->Bool
 | .lst _=>false
 | .tup xs=>Jg xs
 | .non=>true
 | .bl _=>true
 | .int _=>true
 | .str _=>true
 | .scr _=>true
 | .rng _ _=>true
 | .exc _ _=>true
 | .obj _ _ _=>false
 | .dct _ _=>false
 | .dtt _ _=>false
 | .flst _=>true
 | .fdt _ _=>true
 | .fobj _ _ _=>true
 | .fdk _ _=>true
def Jg:List D->Bool
 | []=>true
 | x::xs=>flat x&&Jg xs
end
def Yf (d:D):Option D:=if flat d then some d else none
def Jy:D->D->Option D
 | .int i,.int j=>some (.int (i+j))
 | .str x,.str y=>if x.length+y.length<=lim then some (.str (x++y)) else none
 | .lst xs,.lst ys=>if xs.length+ys.length<=lim/\Jg xs/\Jg ys then some (.lst (xs++ys)) else none
 | _,_=>none
def Zru:D->D->Option D
 | .int i,.int j=>some (.int (i - j))
 | _,_=>none
def short (i:Int):Bool:=decide (-(2 ^ 64)<i)&&decide (i<2 ^ 64)
def Zdv:D->D->Option D
 | .int i,.int j=>if short i||short j then some (.int (i*j)) else none
 | .lst xs,.int k=>if k<=1000000/\xs.length*k.toNat<=lim/\-1000000<=k/\Jg xs then some (.lst (Aa k.toNat xs).flatten) else none
 | _,_=>none
def Zfl:D->D->Option D
 | .int i,.int j=>if 0<j then some (.int (i % j)) else none
 | _,_=>none
def Xln:D->D->Option D
 | .int i,.int j=>if 0<j/\j<2 ^ 200 then some (.int (i / j)) else none
 | _,_=>none
def Zis:D->D->Option D
 | .int i,.int j=>if 0<=j/\j<=1000000/\i.natAbs<2 ^ 64 then some (.int (i ^ j.toNat)) else none
 | _,_=>none
def gLt:D->D->Option D
 | .int i,.int j=>some (.bl (decide (i<j)))
 | _,_=>none
def gLe:D->D->Option D
 | .int i,.int j=>some (.bl (decide (i<=j)))
 | _,_=>none
def gGt:D->D->Option D
 | .int i,.int j=>some (.bl (decide (j<i)))
 | _,_=>none
def gGe:D->D->Option D
 | .int i,.int j=>some (.bl (decide (j<=i)))
 | _,_=>none
mutual
def dep:D->Nat
 | .lst xs=>Zgy xs+1
 | .tup xs=>Zgy xs+1
 | .scr _=>100
 | .rng _ _=>100
 | .exc _ _=>100
 | .obj _ _ _=>100
 | .dct _ _=>100
 | .dtt _ _=>100
 | .flst _=>100
 | .fdt _ _=>100
 | .fobj _ _ _=>100
 | .fdk _ _=>100
 | .non=>0
 | .bl _=>0
 | .int _=>0
 | .str _=>0
def Zgy:List D->Nat
 | []=>0
 | x::xs=>max (dep x) (Zgy xs)
end
mutual
def eqv:D->D->Bool
 | .non,.non=>true
 | .bl a,.bl b=>a==b
 | .bl a,.int j=>(if a then 1 else 0)==j
 | .int i,.bl b=>i==(if b then 1 else 0)
 | .int i,.int j=>i==j
 | .str x,.str y=>x==y
 | .lst xs,.lst ys=>Xia xs ys
 | .tup xs,.tup ys=>Xia xs ys
 | _,_=>false
def Xia:List D->List D->Bool
 | [],[]=>true
 | x::xs,y::ys=>eqv x y&&Xia xs ys
 | _,_=>false
end
def gEq (a b:D):Option D:=if dep a<=20/\dep b<=20 then some (.bl (eqv a b)) else none
def gNe (a b:D):Option D:=if dep a<=20/\dep b<=20 then some (.bl (!eqv a b)) else none
def gIn (x:D):D->Option D
 | .lst ys=>if dep x<=20/\Zgy ys<=20 then some (.bl (ys.any fun y=>eqv y x)) else none
 | _=>none
def Zix:D->Bool
 | .non=>true
 | _=>false
def gIs (x:D):D->Option D
 | .non=>some (.bl (Zix x))
 | .bl c=>match x with
  | .bl b=>some (.bl (b==c))
  | _=>none
 | _=>none
def Zml (x:D):D->Option D
 | .non=>some (.bl (!Zix x))
 | .bl c=>match x with
  | .bl b=>some (.bl (!(b==c)))
  | _=>none
 | _=>none
def ixD (n:Nat)(i:Int):Option Nat:=if 0<=i then (if i<n then some i.toNat else none) else if -(n:Int)<=i then some (i+n).toNat else none
def atD {α:Type}(xs:List α)(i:Int):Option α:=(ixD xs.length i).bind fun j=>xs[j]?
def Xla (n d:Nat):Option Int->Nat
 | none=>d
 | some v=>if v<0 then (max (v+(n:Int)) 0).toNat else min v.toNat n
def cut {α:Type}(xs:List α)(lo hi:Option Int):List α:=(xs.drop (Xla xs.length 0 lo)).take (Xla xs.length xs.length hi - Xla xs.length 0 lo)
def gIx:D->D->Option D
 | .lst xs,.int i=>(atD xs i)
 | .tup xs,.int i=>(atD xs i)
 | .scr ns,.int i=>((atD ns i).map D.int)
 | .flst xs,.int i=>(atD xs i)
 | .str z,.int i=>if z.length<=lim then ((atD z.cps.toList i).map fun c=>D.str ⟨#[c]⟩) else none
 | _,_=>none
def gIxL (x y:D):Option D:=match x with
 | .lst _=>gIx x y
 | _=>none
def Zba:FO:=fun _=>.ok none
def Jw (a:FE):FO:=fun ρ=>(a ρ).bind fun d=>match d with
 | .int i=>.ok (some i)
 | _=>.bad
def fSl (g:D->Option Int->Option Int->Option D)(a:FE)(l h:FO):FE:=fun ρ=>(a ρ).bind fun x=>(l ρ).bind fun lo=>(h ρ).bind fun hi=>oR (g x lo hi)
def gSl:D->Option Int->Option Int->Option D
 | .lst xs,lo,hi=>if Jg xs then some (.lst (cut xs lo hi)) else none
 | .scr ns,lo,hi=>some (.lst ((cut ns lo hi).map D.int))
 | .flst xs,lo,hi=>if Jg xs then some (.lst (cut xs lo hi)) else none
 | _,_,_=>none
def plain (n:Nat)(z:Str):Bool:=decide (z.length<=n)&&z.cps.toList.all (fun c=>decide (c<128))
def Yn (z:Str)(lo hi:Option Int):Str:=if ((Ay lo hi 1 z.length).length==z.length)=true then z else ⟨((Ay lo hi 1 z.length).filterMap (z.cps[·]?)).toArray⟩
def Ziv:D->Option Int->Option Int->Option D
 | .str z,lo,hi=>if plain 1000 z then some (.str (Yn z lo hi)) else none
 | _,_,_=>none
def bools:List D->Option (List Bool)
 | []=>some []
 | .bl i::r=>(bools r).map (i::·)
 | _::_=>none
def Zcn:List D->Option D
 | [.lst xs]=>some (.int xs.length)
 | [.tup xs]=>some (.int xs.length)
 | [.scr xs]=>some (.int xs.length)
 | [.flst xs]=>some (.int xs.length)
 | [.str z]=>if z.length<=lim then some (.int z.length) else none
 | _=>none
def maxL:List Int->Int
 | []=>0
 | x::r=>r.foldl max x
def Xlg:List D->Option D
 | [.int i,.int j]=>some (.int (if j<i then j else i))
 | _=>none
def Xiv:List D->Option D
 | [.lst xs]=>(bools xs).bind fun bs=>some (.bl (bs.any id))
 | _=>none
def Xhu:List D->Option D
 | [.lst xs]=>(bools xs).bind fun bs=>some (.bl (bs.all id))
 | _=>none
def Ziy (lo:Int)(n:Nat):List D:=(A7 n).map fun (k:Nat)=>D.int (lo+(k:Int))
def Xpb:List D->Option D
 | [.lst xs]=>some (.lst xs)
 | _=>none
def Xem:D->String
 | .non=>"NoneType"
 | .bl _=>"bool"
 | .int _=>"int"
 | .str _=>"str"
 | .lst _=>"list"
 | .tup _=>"tuple"
 | .scr _=>"list"
 | .rng _ _=>"range"
 | .exc c _=>c
 | .obj c _ _=>c
 | .dct _ _=>"dict"
 | .dtt _ _=>"dict"
 | .flst _=>"list"
 | .fdt _ _=>"dict"
 | .fobj c _ _=>c
 | .fdk _ _=>"dict"
def Zus (c:String):D->Option D
 | .non=>some (.bl false)
 | .bl _=>some (.bl (c=="bool"||c=="int"))
 | .int _=>some (.bl (c=="int"))
 | .str _=>some (.bl (c=="str"))
 | .lst _=>some (.bl (c=="list"))
 | .tup _=>some (.bl (c=="tuple"))
 | .flst _=>some (.bl (c=="list"))
 | _=>none
def Zpn (tb:List (String×Bool)):D->Option D
 | .exc k _=>(tb.lookup k).map D.bl
 | _=>none
def cE (a:FE):FT:=fun ρ=>(a ρ).bind fun d=>match d with
 | .bl b=>.ok b
 | _=>.bad
def Zlc (a:FT):FT:=fun ρ=>(a ρ).bind fun b=>.ok (!b)
def Zxy (a b:FT):FT:=fun ρ=>(a ρ).bind fun x=>if x then b ρ else .ok false
def cOr (a b:FT):FT:=fun ρ=>(a ρ).bind fun x=>if x then .ok true else b ρ
def Ztl (a b:FE):FE:=fun ρ=>(a ρ).bind fun x=>match x with
 | .bl true=>b ρ
 | .bl false=>.ok (.bl false)
 | _=>.bad
def fOr (a b:FE):FE:=fun ρ=>(a ρ).bind fun x=>match x with
 | .bl true=>.ok (.bl true)
 | .bl false=>b ρ
 | _=>.bad
def Xlb:D->Option D
 | .bl b=>some (.bl (!b))
 | _=>none
def fIf (c:FT)(a b:FE):FE:=fun ρ=>(c ρ).bind fun x=>if x then a ρ else b ρ
def Je (g g':D->D->Option D)(a b c:FE):FE:=fun ρ=>(a ρ).bind fun x=>(b ρ).bind fun y=>(oR (g x y)).bind fun z=>match z with
 | .bl true=>(c ρ).bind fun w=>oR (g' y w)
 | .bl false=>.ok (.bl false)
 | _=>.bad
abbrev FB:=D->Env->R Env
def Xi (i:Nat):FB:=fun d ρ=>.ok (ρ.set i (some d))
def Zvz:List D->Env->R Env
 | [],ρ=>.ok ρ
 | _,_=>.bad
def Zdy (b:FB)(r:List D->Env->R Env):List D->Env->R Env
 | d::ds,ρ=>(b d ρ).bind fun ρ'=>r ds ρ'
 | _,_=>.bad
def Zxz (r:List D->Env->R Env):FB:=fun d ρ=>match d with
 | .tup ds=>r ds ρ
 | _=>.bad
def R.calm {α:Type}:R α->R α
 | .ok a=>.ok a
 | .err _ _=>.bad
 | .bad=>.bad
@[simp] theorem calm_ok (a:α):(R.ok a).calm=.ok a:=(rfl)
def Zfv (k:Nat)(b:FB)(c:FT)(e:FE)(ρ:Env):List D->R (List D)
 | []=>.ok []
 | x::xs=>(b x (ρ++Aa k none)).calm.bind fun ρ1=>(c ρ1).bind fun t=>if t then (e ρ1).bind fun y=>(Zfv k b c e ρ xs).bind fun ys=>.ok (y::ys) else Zfv k b c e ρ xs
def Zjg:FT:=fun _=>.ok true
abbrev FI:=Env->R (List D)
def Zbo (a:FE):FI:=fun ρ=>(a ρ).bind fun d=>match d with
 | .lst xs=>if xs.length<=lim then .ok xs else .bad
 | .scr ns=>if ns.length<=lim then .ok (ns.map D.int) else .bad
 | .flst xs=>if xs.length<=lim then .ok xs else .bad
 | _=>.bad
def Xlk (a:FE):FI:=fun ρ=>(a ρ).bind fun d=>match d with
 | .tup xs=>if xs.length<=lim then .ok xs else .bad
 | _=>.bad
def Zhp (a:FA):FI:=fun ρ=>(a ρ).bind fun ds=>match ds with
 | [.int j]=>if -1000000000<=j/\j<=1000000 then .ok (Ziy 0 j.toNat) else .bad
 | _=>.bad
def jRng2 (a:FA):FI:=fun ρ=>(a ρ).bind fun ds=>match ds with
 | [.int i,.int j]=>if -1000000000<=i/\i<=1000000000/\-1000000000<=j/\j<=1000000000/\(j - i).toNat<=lim then .ok (Ziy i (j - i).toNat) else .bad
 | _=>.bad
def Xnm:List D->Option D
 | [.bl b]=>some (.int (if b=true then 1 else 0))
 | _=>none
def Zmc (ds:List D):List D:=ds.mapIdx fun i d=>D.tup [.int (i:Int),d]
def Xcj (a:FE):FI:=fun ρ=>(a ρ).bind fun d=>match d with
 | .lst xs=>if xs.length<=lim then .ok (Zmc xs) else .bad
 | _=>.bad
def Zbq (n k:Nat)(it:FI)(b:FB)(c:FT)(e:FE):FE:=fun ρ=>if ρ.length=n then (it ρ).bind fun xs=>(Zfv k b c e ρ xs).calm.bind fun ys=>.ok (.lst ys) else .bad
def sNx:FS:=fun ρ=>.ok (.nx ρ)
def Xlw:FS:=fun _=>.bad
def Xp (a b:FS):FS:=fun ρ=>(a ρ).bind fun fl=>match fl with
 | .nx ρ'=>b ρ'
 | fl=>.ok fl
def Yw (i:Nat)(e:FE):FS:=fun ρ=>(e ρ).bind fun d=>.ok (.nx (ρ.set i (some d)))
def Ys (e:FE):FS:=fun ρ=>(e ρ).bind fun d=>.ok (.ret d)
def sIf (c:FT)(a b:FS):FS:=fun ρ=>(c ρ).bind fun x=>if x then a ρ else b ρ
def Zsw (i:Nat)(e:FE):FS:=fun ρ=>match ρ[i]? with
 | some (some (.lst xs))=>(e ρ).bind fun d=>if xs.length<lim then .ok (.nx (ρ.set i (some (.lst (xs++[d]))))) else .bad
 | _=>.bad
def Xqk (i:Nat)(k e:FE):FS:=fun ρ=>(e ρ).bind fun d=>match ρ[i]? with
 | some (some (.lst xs))=>(k ρ).bind fun z=>match z with
  | .int n=>if flat d=true/\Jg xs=true then match ixD xs.length n with
    | some j=>.ok (.nx (ρ.set i (some (.lst (xs.set j d)))))
    | none=>.bad
   else .bad
  | _=>.bad
 | _=>.bad
def Xhj (e:FE)(b:FB):FS:=fun ρ=>(e ρ).bind fun d=>(b d ρ).calm.bind fun ρ'=>.ok (.nx ρ')
def Zeb (b:FB)(s:FS):List D->Env->R Fl
 | [],ρ=>.ok (.nx ρ)
 | x::xs,ρ=>(b x ρ).calm.bind fun ρ1=>(s ρ1).bind fun fl=>match fl with
  | .nx ρ2=>Zeb b s xs ρ2
  | .cnt ρ2=>Zeb b s xs ρ2
  | .brk ρ2=>.ok (.nx ρ2)
  | .ret d=>.ok (.ret d)
def Znt (it:FI)(b:FB)(s:FS):FS:=fun ρ=>(it ρ).bind fun xs=>Zeb b s xs ρ
def Zqa (c:FT)(s:FS):Nat->Env->R Fl
 | 0,_=>.bad
 | n+1,ρ=>(c ρ).bind fun b=>if b then (s ρ).bind fun fl=>match fl with
  | .nx ρ2=>Zqa c s n ρ2
  | .cnt ρ2=>Zqa c s n ρ2
  | .brk ρ2=>.ok (.nx ρ2)
  | .ret d=>.ok (.ret d)
  else .ok (.nx ρ)
def Xnx (n:Nat)(c:FT)(s:FS):FS:=fun ρ=>Zqa c s n ρ
def Zed (c:String)(words:FA):FS:=fun ρ=>(words ρ).bind fun _=>.err c none
def strsOf:List D->Option (List Str)
 | []=>some []
 | .str i::r=>(strsOf r).map (i::·)
 | _::_=>none
def Zpg:D->D->Option D
 | .str s,.lst ds=>(strsOf ds).bind fun ts=>if (ts.map (·.length)).sum+ts.length*s.length<=lim then some (.str (Ap s ts)) else none
 | _,_=>none
def Zfr (a b:FE):FE:=fun ρ=>(a ρ).bind fun x=>match x with
 | .str s=>(b ρ).bind fun y=>oR (Zpg (.str s) y)
 | _=>.bad
def Xdp (cs:List String)(N i:Nat)(b h:FS):FS:=fun ρ=>match b ρ with
 | .err c x=>if cs.contains c then (h ((Aa N none).set i (some (.exc c x)))).calm.bind fun fl=>match fl with
   | .nx _=>.ok (.nx (Aa N none))
   | .brk _=>.ok (.brk (Aa N none))
   | .cnt _=>.ok (.cnt (Aa N none))
   | .ret d=>.ok (.ret d)
  else .bad
 | r=>r
abbrev FM:=Env->R (D×Env)
abbrev FMT:=Env->R (Bool×Env)
def run (N:Nat)(b:FS)(ds:List D):R D:=(b (ds.map some++Aa (N - ds.length) none)).bind fun fl=>match fl with
 | .nx _=>.ok .non
 | .ret d=>.ok d
 | _=>.bad
def Zjm:D->D->Option D
 | .str x,.str y=>some (.bl (!decide (y.cps.toList<x.cps.toList)))
 | _,_=>none
def Xip (x:Str)(n:Nat):Str:=⟨(Aa n x.cps.toList).flatten.toArray⟩
def Zth:D->D->Option D
 | .str x,.int n=>if 1<=n/\n<=1000/\x.length<=1000 then some (.str (Xip x n.toNat)) else none
 | _,_=>none
def Ztw (a:FE):FI:=fun ρ=>(a ρ).bind fun d=>match d with
 | .str z=>if z.length<=lim then .ok (z.cps.toList.map fun c=>D.str ⟨#[c]⟩) else .bad
 | _=>.bad
def keyD:D->Option (Int ⊕ Str)
 | .int i=>some (.inl i)
 | .str x=>some (.inr x)
 | _=>none
def Xes (ks:List (Int ⊕ Str))(k:Int ⊕ Str):Bool:=ks.any fun j=>decide (j=k)
def gDin (x y:D):Option D:=match keyD x,y with
 | some k,.dct ks _=>some (.bl (Xes ks k))
 | _,_=>none
def dPut (ks:List (Int ⊕ Str))(xs:List D)(k:Int ⊕ Str)(d:D):D:=if Xes ks k then .dct ks (CV (fun j x=>if j=k then d else x) ks xs) else .dct (ks++[k]) (xs++[d])
def Xas (i:Nat)(k e:FE):FS:=fun ρ=>(e ρ).bind fun d=>match ρ[i]? with
 | some (some (.dct ks xs))=>(k ρ).bind fun z=>match keyD z with
  | some q=>if flat d=true/\Jg xs=true/\ks.length<lim then .ok (.nx (ρ.set i (some (dPut ks xs q d)))) else .bad
  | none=>.bad
 | _=>.bad
def Zxf (n:Nat):List Nat:=(Fh 10 n).map EL
def Xbl (i:Int):List Nat:=if i<0 then 45::Zxf i.natAbs else Zxf i.natAbs
def Zen (i:Int):Str:=⟨(Xbl i).toArray⟩
def catO:Str->List D->Option D
 | out,[]=>some (.str out)
 | out,.str y::r=>if y.length<=2000 then catO (out++y) r else none
 | _,_=>none
def dval (cs:List Nat):Nat:=cs.foldl (fun acc c=>acc*10+(c - 48)) 0
def Xld (cs:List Nat):Bool:=!cs.isEmpty&&cs.all fun c=>decide (48<=c/\c<=57)
def Zgz:List Nat->Option Int
 | []=>none
 | c::cs=>if c=45 then (if Xld cs then some (-(dval cs:Int)) else none) else if Xld (c::cs) then some (dval (c::cs):Int) else none
def Zoc:List D->Option D
 | [.str x]=>if x.length<=600 then (Zgz x.cps.toList).map D.int else none
 | _=>none
def Zq (c:Nat):List Nat->List (List Nat)
 | []=>[[]]
 | x::r=>if x=c then []::Zq c r else match Zq c r with
  | []=>[[x]]
  | w::ws=>(x::w)::ws
def Jo (w:List Nat):D:=.str ⟨w.toArray⟩
def Zfi:D->D->Option D
 | .str x,.str y=>match y.cps.toList with
  | [c]=>some (.bl (decide (x.cps.toList[0]?=some c)))
  | _=>none
 | _,_=>none
def Zag:D->D->Option D
 | .str x,.str y=>match y.cps.toList with
  | [c]=>if c<128/\x.length<=100000 then some (.lst ((Zq c x.cps.toList).map Jo)) else none
  | _=>none
 | _,_=>none
def Zsq:D->D->Option D
 | .str x,.str y=>match y.cps.toList with
  | [c]=>if x.length<=100000 then some (.tup (if c∈x.cps.toList then [Jo (x.cps.toList.takeWhile fun d=>d != c),Jo [c],Jo ((x.cps.toList.dropWhile fun d=>d != c).drop 1)] else [.str x,Jo [],Jo []])) else none
  | _=>none
 | _,_=>none
def fSm (g:D->D->Option D)(a b:FE):FE:=fun ρ=>(a ρ).bind fun x=>match x with
 | .str s=>(b ρ).bind fun y=>oR (g (.str s) y)
 | _=>.bad
abbrev Pc:=Int×Str
def sLt (x y:Str):Bool:=decide (x.cps.toList<y.cps.toList)
def pcLt (p q:Pc):Bool:=if p.1=q.1 then (if p.2=q.2 then false else sLt p.2 q.2) else decide (p.1<q.1)
def ctLt:List Pc->List Pc->Bool
 | [],[]=>false
 | [],_::_=>true
 | _::_,[]=>false
 | p::c,q::d=>if p=q then ctLt c d else pcLt p q
def aVars:List Nat->FA
 | []=>Zr
 | j::r=>Zb (fV j) (aVars r)
def keyLs (fb:FE)(fr:Env):List D->R (List Int)
 | []=>.ok []
 | x::r=>(fb (some x::fr)).calm.bind fun k=>match k with
  | .int k=>(keyLs fb fr r).bind fun ks=>.ok (k::ks)
  | _=>.bad
abbrev Pr:=Int×(Int ⊕ Str)
def kLt:Int ⊕ Str->Int ⊕ Str->Bool
 | .inl a,.inl b=>decide (a<b)
 | .inr a,.inr b=>sLt a b
 | _,_=>false
def Xlt (p q:Pr):Bool:=if p.1=q.1 then kLt p.2 q.2 else decide (p.1<q.1)
def insP (c:Pr):List Pr->List Pr
 | []=>[c]
 | d::r=>if Xlt c d=true then c::d::r else d::insP c r
def sortP:List Pr->List Pr
 | []=>[]
 | c::r=>insP c (sortP r)
def prOfD:D->Option Pr
 | .tup [.int i,.int j]=>some (i,.inl j)
 | .tup [.int i,.str z]=>some (i,.inr z)
 | _=>none
def prsOf:List D->Option (List Pr)
 | []=>some []
 | d::r=>(prOfD d).bind fun c=>(prsOf r).bind fun cs=>some (c::cs)
def Xki (ks:List Int)(k:Int):List Int:=if k∈ks then ks else ks++[k]
def Ztr (ks:List Int):List Int->List Int
 | []=>ks
 | n::ns=>Ztr (Xki ks n) ns
end Dl
namespace Dl
def ilt (p q:Int):Bool:=decide (p<q)
def Xgy:List Int->List Int->Bool
 | [],[]=>false
 | [],_::_=>true
 | _::_,[]=>false
 | p::c,q::d=>if p=q then Xgy c d else ilt p q
end Dl
namespace Dl
open PySem
end Dl
namespace Dl
end Dl
namespace Dl
open PySem
end Dl
namespace Dl
end Dl
namespace Dl
open PySem
def Zmn (k:Nat)(b:FB)(e:FE)(ρ:Env):List D->R (List D)
 | []=>.ok []
 | x::xs=>(b x (ρ++Aa k none)).calm.bind fun ρ1=>(e ρ1).bind fun y=>(Zmn k b e ρ xs).bind fun ys=>.ok (y::ys)
def Zel (n k:Nat)(it:FI)(b:FB)(e:FE):FE:=fun ρ=>if ρ.length=n then (it ρ).bind fun xs=>(Zmn k b e ρ xs).bind fun ys=>.ok (.lst ys) else .bad
def Xap:D->Option D
 | .str z=>if plain 490 z then some (.str z) else none
 | _=>none
def Zkr:List D->Option D
 | [.int i]=>if i.natAbs<2 ^ 400 then some (.str (Zen i)) else none
 | [.str z]=>some (.str z)
 | _=>none
def Zfz:D->D->Option D
 | .str x,.str y=>match x.cps.toList with
  | [c]=>some (.bl (!decide (c∈y.cps.toList)))
  | _=>none
 | _,_=>none
def Zdk:D->D->Option D
 | .str x,.str y=>if 1<=y.length/\x.length<=100000 then some (.lst ((Txt.split x y).map D.str)) else none
 | _,_=>none
end Dl
namespace L2
open PySem PySem.Spec PyProof.Rows
open Dl (D R FE FT FA FO FS FI FB Fl)
variable {K:AB}{H H' H1 H2 H0 Hb Hc:Hp}{a Dd c0:Addr}{xs vs ys:List V}{C:String->Addr}{ds:List D}{A A':Nat->List Addr}{d d':D}{v:V}{ns:List Int}{E:XK}{Γ Δ Γ' Δ' Γ1 Δ1 Γl Δl Γk Δk Γ2 Δ2:List Nat}{m m1 m2 mr j i m3 n N x1 jj t':Nat}{S1 S2 S3:List (Nat×Bool)}{σ:St}{ρ:Yp}{α:Type}{er er':String->Option Int->Prop}{t:TA}{f:FA}{B Bx By B' l ch as:List Addr}{r:List V->Hp->VK->Prop}{g g':D->D->Option D}{ta te ts tk:TE}{tb:List (String×Bool)}{fa fb fe fc fk:FE}{P:List Value->Prop}{F:List D->R D}{y z x qual ty nm:Str}{Q:VK}{p pos p2 apos cpos pos' np hpos jp tpos cp p1:Pos}{gv:Int->Int->V}{Cd:Int->Int->Prop}{X:Cx}{lo hi:Option Expr}{tl th:TO}{fl fh:FO}{u:TS}{tc tA tB':TT}{r':R2}{J:It}{Rr:Hp->Prop}{es ifs elts:List Expr}{o':HO}{wi:TI}{fi:FI}{gs:TGs}{b e st o tg iter elt kx:Expr}{c T cn newId initId:String}{op op':FU}{fB:FT}{CX:CXT}{ps loose sn:List Str}{tt gg:TG}{fu:List D->Yp->R Yp}{sc:Scope}{fg:FB}{s1 b₀:Stmt}{ss body suite:List Stmt}{w:AO}{mg:Str->Option Value}{fd:BB}{dx dd:Option Addr}{cs:List String}{s:Ab}{tj:TJ}{pins:List (Addr×Obj)}{h' h:AY}{its bm bmB sub:List Value}{prog q:Av}{a₀:Array AQ}{XP:(Str->Option Value)->AY->Prop}{kwd:List (Str×Expr)}{os:Gb}{hdct ab:Bool}{col:Option Bool}{k0 k1 k2 k3 k5:Option Value}{env:Env}
def FzL (K:AB)(H:Hp)(a:Addr)(xs:List V):Prop:=
 (∃o,H a=some (.frz o (.lst xs)))\/∃(o:Obj) (its:Array Value) (n:Nat),K.lookup a=some o/\o.cls=.type "list"/\o.dict=none/\o.data=.seq its n/\its.size<=Ai/\Jj xs its.toList
theorem FzL.sq (h:FzL K H a xs):SqL K H a xs:=by rcases h with ⟨o,h⟩ | h;exact .inl (.inr ⟨o,h⟩);exact .inr h
def fnm (c:String):Str:=if c="TooMany" then "most" else "at"
def FOk (H:Hp)(c:String)(f:Option Int)(dx:Option Addr):Prop:=match f with
 | none=>True
 | some i=>∃d,dx=some d/\H d=some (.xd [(fnm c,.int i)])
section
variable (K:AB)(C:String->Addr)
mutual
def Rp (H:Hp):D->V->List Addr->Prop
 | .non,v,A=>v=.non/\A=[]
 | .bl b,v,A=>v=.bl b/\A=[]
 | .int i,v,A=>v=.int i/\A=[]
 | .str x,v,A=>v=.str x/\AC x=true/\A=[]
 | .lst ds,v,A=>∃a xs B,v=.ref a/\H a=some (.lst xs)/\RpA H ds xs B/\A=a::B
 | .tup ds,v,A=>∃a xs,v=.ref a/\H a=some (.tup xs)/\RpA H ds xs A
 | .scr ns,v,A=>∃a,v=.ref a/\FzL K H a (ns.map V.int)/\A=[]
 | .rng lo hi,v,A=>∃a,v=.ref a/\H a=some (.rng lo hi)/\A=[]
 | .exc c f,v,A=>∃e dx,v=.ref e/\H e=some (exO e (.ref (C c)) dx)/\FOk H c f dx/\A=[]
 | .obj c ns ds,v,A=>∃a dx xs B,v=.ref a/\H a=some (.ins (C c) dx (ns.zip xs))/\ns.length=ds.length/\RpA H ds xs B/\A=a::B
 | .dct ks ds,v,A=>∃a xs B,v=.ref a/\H a=some (.dK (ks.zip xs))/\ks.length=ds.length/\RpA H ds xs B/\A=a::B
 | .dtt ks ds,v,A=>∃a xs B,v=.ref a/\H a=some (.dT (ks.zip xs))/\ks.length=ds.length/\RpA H ds xs B/\A=a::B
 | .flst ds,v,A=>∃a o xs,v=.ref a/\H a=some (.frz o (.lst xs))/\RpA H ds xs []/\A=[]
 | .fdt ks ds,v,A=>∃a o xs,v=.ref a/\H a=some (.frz o (.dT (ks.zip xs)))/\ks.length=ds.length/\RpA H ds xs []/\A=[]
 | .fobj c ns ds,v,A=>∃a o dx xs,v=.ref a/\H a=some (.frz o (.ins (C c) dx (ns.zip xs)))/\ns.length=ds.length/\RpA H ds xs []/\A=[]
 | .fdk ks ds,v,A=>∃a o xs,v=.ref a/\H a=some (.frz o (.dK (ks.zip xs)))/\ks.length=ds.length/\RpA H ds xs []/\A=[]
def RpA (H:Hp):List D->List V->List Addr->Prop
 | [],xs,A=>xs=[]/\A=[]
 | d::ds,xs,A=>∃x r B B',xs=x::r/\Rp H d x B/\RpA H ds r B'/\A=B++B'
end
end
inductive IsM:HO->Prop where
 | lst {xs:List V}:IsM (.lst xs)
 | ins {C dx:Addr} {fs:List (Str×V)}:IsM (.ins C dx fs)
 | dct {kvs:List (Key×V)}:IsM (.dK kvs)
 | dtt {kvs:List (List Key×V)}:IsM (.dT kvs)
def Ext (W:Addr->Prop)(H H':Hp):Prop:=∀b o,H b=some o->H' b=some o\/(W b/\IsM o)
theorem Ext.same (h:Xt H H'):Ext (fun _=>False) H H':=fun b o q=>.inl (h b o q)
mutual
theorem Rp.ext {W:Addr->Prop}(h:Ext W H H'):∀{d:D} {v:V} {A:List Addr},(∀a∈A,¬W a)->Rp K C H d v A->Rp K C H' d v A
 | .non,_,_,_,r=>r
 | .bl _,_,_,_,r=>r
 | .int _,_,_,_,r=>r
 | .str _,_,_,_,r=>r
 | .lst ds,v,A,hw,r=>by obtain ⟨a,xs,B,e1,e2,e3,e4⟩:=r;subst e4;refine ⟨a,xs,B,e1,?_,RpA.ext h (fun b hb=>hw b (.tail _ hb)) e3,rfl⟩;rcases h a _ e2 with q | ⟨q,_⟩;exact q;exact absurd q (hw a (.head _))
 | .tup ds,v,A,hw,r=>by obtain ⟨a,xs,e1,e2,e3⟩:=r;refine ⟨a,xs,e1,?_,RpA.ext h hw e3⟩;rcases h a _ e2 with q | ⟨_,q⟩;exact q;cases q
 | .scr ns,v,A,_,r=>by obtain ⟨a,e1,e2,e3⟩:=r;refine ⟨a,e1,?_,e3⟩;rcases e2 with ⟨o,e2⟩ | e2;rcases h a _ e2 with q | ⟨_,q⟩;exact .inl ⟨o,q⟩;cases q;exact .inr e2
 | .rng lo hi,v,A,_,r=>by obtain ⟨a,e1,e2,e3⟩:=r;refine ⟨a,e1,?_,e3⟩;rcases h a _ e2 with q | ⟨_,q⟩;exact q;cases q
 | .exc c f,v,A,_,r=>by
  obtain ⟨a,dx,e1,e2,e3,e4⟩:=r;refine ⟨a,dx,e1,?_,?_,e4⟩;rcases h a _ e2 with q | ⟨_,q⟩;exact q;cases q;cases f with
  | none=>trivial
  | some i =>obtain ⟨d,z1,z2⟩:=e3;refine ⟨d,z1,?_⟩;rcases h d _ z2 with q | ⟨_,q⟩;exact q;cases q
 | .obj c ns ds,v,A,hw,r=>by obtain ⟨a,dx,xs,B,e1,e2,e0,e3,e4⟩:=r;subst e4;refine ⟨a,dx,xs,B,e1,?_,e0,RpA.ext h (fun b hb=>hw b (.tail _ hb)) e3,rfl⟩;rcases h a _ e2 with q | ⟨q,_⟩;exact q;exact absurd q (hw a (.head _))
 | .dct ks ds,v,A,hw,r=>by obtain ⟨a,xs,B,e1,e2,e0,e3,e4⟩:=r;subst e4;refine ⟨a,xs,B,e1,?_,e0,RpA.ext h (fun b hb=>hw b (.tail _ hb)) e3,rfl⟩;rcases h a _ e2 with q | ⟨q,_⟩;exact q;exact absurd q (hw a (.head _))
 | .dtt ks ds,v,A,hw,r=>by obtain ⟨a,xs,B,e1,e2,e0,e3,e4⟩:=r;subst e4;refine ⟨a,xs,B,e1,?_,e0,RpA.ext h (fun b hb=>hw b (.tail _ hb)) e3,rfl⟩;rcases h a _ e2 with q | ⟨q,_⟩;exact q;exact absurd q (hw a (.head _))
 | .flst ds,v,A,hw,r=>by obtain ⟨a,o,xs,e1,e2,e3,e4⟩:=r;refine ⟨a,o,xs,e1,?_,RpA.ext h (fun _ hb=>nomatch hb) e3,e4⟩;rcases h a _ e2 with q | ⟨_,q⟩;exact q;cases q
 | .fdt ks ds,v,A,hw,r=>by obtain ⟨a,o,xs,e1,e2,e0,e3,e4⟩:=r;refine ⟨a,o,xs,e1,?_,e0,RpA.ext h (fun _ hb=>nomatch hb) e3,e4⟩;rcases h a _ e2 with q | ⟨_,q⟩;exact q;cases q
 | .fobj c ns ds,v,A,hw,r=>by obtain ⟨a,o,dx,xs,e1,e2,e0,e3,e4⟩:=r;refine ⟨a,o,dx,xs,e1,?_,e0,RpA.ext h (fun _ hb=>nomatch hb) e3,e4⟩;rcases h a _ e2 with q | ⟨_,q⟩;exact q;cases q
 | .fdk ks ds,v,A,hw,r=>by obtain ⟨a,o,xs,e1,e2,e0,e3,e4⟩:=r;refine ⟨a,o,xs,e1,?_,e0,RpA.ext h (fun _ hb=>nomatch hb) e3,e4⟩;rcases h a _ e2 with q | ⟨_,q⟩;exact q;cases q
theorem RpA.ext {W:Addr->Prop}(h:Ext W H H'):∀{ds:List D} {vs:List V} {A:List Addr},(∀a∈A,¬W a)->RpA K C H ds vs A->RpA K C H' ds vs A
 | [],_,_,_,r=>r
 | d::ds,vs,A,hw,r=>by obtain ⟨x,l,B,B',e1,e2,e3,e4⟩:=r;subst e4;exact ⟨x,l,B,B',e1,Rp.ext h (fun a ha=>hw a (As _ ha)) e2,RpA.ext h (fun a ha=>hw a (Ag _ ha)) e3,rfl⟩
end
theorem Rp.same (h:Xt H H'){d:D}{v:V}{A:List Addr}(r:Rp K C H d v A):Rp K C H' d v A:=r.ext (Ext.same h) (fun _ _ q=>q)
theorem RpA.same (h:Xt H H'){d:List D}{v:List V}{A:List Addr}(r:RpA K C H d v A):RpA K C H' d v A:=r.ext (Ext.same h) (fun _ _ q=>q)
def Agree (W:List Addr)(H Hb:Hp):Prop:=(∀a∈W,Hb a=H a)/\∀b o,H b=some o->¬IsM o->Hb b=some o
theorem Agree.ext {W:List Addr}(h:Agree W H H'):Ext (fun a=>a∉W) H H':=fun b o q=>by by_cases hb:b∈W;exact .inl ((h.1 b hb).trans q);by_cases ho:IsM o;exact .inr ⟨hb,ho⟩;exact .inl (h.2 b o q ho)
theorem RpA.agree {W:List Addr}(h:Agree W H H'){A:List Addr}(hA:∀a∈A,a∈W)(r:RpA K C H ds vs A):RpA K C H' ds vs A:=r.ext h.ext fun a ha z=>z (hA a ha)
mutual
theorem Rp.isl:∀{d:D} {v:V} {A:List Addr},Rp K C H d v A->∀a∈A,∃o,H a=some o/\IsM o
 | .non,_,_,r,a,ha=>by rw [r.2] at ha;cases ha
 | .bl _,_,_,r,a,ha=>by rw [r.2] at ha;cases ha
 | .int _,_,_,r,a,ha=>by rw [r.2] at ha;cases ha
 | .str _,_,_,r,a,ha=>by rw [r.2.2] at ha;cases ha
 | .lst ds,_,_,r,a,ha=>by obtain ⟨b,xs,B,e1,e2,e3,e4⟩:=r;rw [e4] at ha;rcases Af.mp ha with z | z;rw [z];exact ⟨_,e2,.lst⟩;exact RpA.isl e3 a z
 | .tup ds,_,_,r,a,ha=>by obtain ⟨b,xs,e1,e2,e3⟩:=r;exact RpA.isl e3 a ha
 | .scr _,_,_,r,a,ha=>by obtain ⟨_,_,_,e⟩:=r;rw [e] at ha;cases ha
 | .rng _ _,_,_,r,a,ha=>by obtain ⟨_,_,_,e⟩:=r;rw [e] at ha;cases ha
 | .exc _ _,_,_,r,a,ha=>by obtain ⟨_,_,_,_,_,e⟩:=r;rw [e] at ha;cases ha
 | .obj c ns ds,_,_,r,a,ha=>by obtain ⟨b,dx,xs,B,e1,e2,e0,e3,e4⟩:=r;rw [e4] at ha;rcases Af.mp ha with z | z;rw [z];exact ⟨_,e2,.ins⟩;exact RpA.isl e3 a z
 | .dct ks ds,_,_,r,a,ha=>by obtain ⟨b,xs,B,e1,e2,e0,e3,e4⟩:=r;rw [e4] at ha;rcases Af.mp ha with z | z;rw [z];exact ⟨_,e2,.dct⟩;exact RpA.isl e3 a z
 | .dtt ks ds,_,_,r,a,ha=>by obtain ⟨b,xs,B,e1,e2,e0,e3,e4⟩:=r;rw [e4] at ha;rcases Af.mp ha with z | z;rw [z];exact ⟨_,e2,.dtt⟩;exact RpA.isl e3 a z
 | .flst ds,_,_,r,a,ha=>by obtain ⟨b,o,xs,e1,e2,e3,e4⟩:=r;rw [e4] at ha;cases ha
 | .fdt ks ds,_,_,r,a,ha=>by obtain ⟨b,o,xs,e1,e2,e0,e3,e4⟩:=r;rw [e4] at ha;cases ha
 | .fobj c ns ds,_,_,r,a,ha=>by obtain ⟨b,o,dx,xs,e1,e2,e0,e3,e4⟩:=r;rw [e4] at ha;cases ha
 | .fdk ks ds,_,_,r,a,ha=>by obtain ⟨b,o,xs,e1,e2,e0,e3,e4⟩:=r;rw [e4] at ha;cases ha
theorem RpA.isl:∀{ds:List D} {vs:List V} {A:List Addr},RpA K C H ds vs A->∀a∈A,∃o,H a=some o/\IsM o
 | [],_,_,r,a,ha=>by rw [r.2] at ha;cases ha
 | d::ds,_,_,r,a,ha=>by obtain ⟨x,l,B,B',e1,e2,e3,e4⟩:=r;rw [e4] at ha;rcases An.mp ha with z | z;exact Rp.isl e2 a z;exact RpA.isl e3 a z
end
mutual
theorem Rp.flat:∀{d:D} {v:V} {A:List Addr},Dl.flat d=true->Rp K C H d v A->A=[]
 | .non,_,_,_,r=>r.2
 | .bl _,_,_,_,r=>r.2
 | .int _,_,_,_,r=>r.2
 | .str _,_,_,_,r=>r.2.2
 | .lst _,_,_,h,_=>by simp [Dl.flat] at h
 | .tup ds,_,_,h,r=>by obtain ⟨b,xs,e1,e2,e3⟩:=r;exact RpA.flat (by simpa [Dl.flat] using h) e3
 | .scr _,_,_,_,r=>by obtain ⟨_,_,_,e⟩:=r;exact e
 | .rng _ _,_,_,_,r=>by obtain ⟨_,_,_,e⟩:=r;exact e
 | .exc _ _,_,_,_,r=>by obtain ⟨_,_,_,_,_,e⟩:=r;exact e
 | .obj _ _ _,_,_,h,_=>by simp [Dl.flat] at h
 | .dct _ _,_,_,h,_=>by simp [Dl.flat] at h
 | .dtt _ _,_,_,h,_=>by simp [Dl.flat] at h
 | .flst _,_,_,_,r=>by obtain ⟨_,_,_,_,_,_,e⟩:=r;exact e
 | .fdt _ _,_,_,_,r=>by obtain ⟨_,_,_,_,_,_,_,e⟩:=r;exact e
 | .fobj _ _ _,_,_,_,r=>by obtain ⟨_,_,_,_,_,_,_,_,e⟩:=r;exact e
 | .fdk _ _,_,_,_,r=>by obtain ⟨_,_,_,_,_,_,_,e⟩:=r;exact e
theorem RpA.flat:∀{ds:List D} {vs:List V} {A:List Addr},Dl.Jg ds=true->RpA K C H ds vs A->A=[]
 | [],_,_,_,r=>r.2
 | d::ds,_,_,h,r=>by obtain ⟨x,l,B,B',e1,e2,e3,e4⟩:=r;simp only [Dl.Jg,Ae] at h;rw [e4,Rp.flat h.1 e2,RpA.flat h.2 e3];rfl
end
theorem RpA.len:∀{ds:List D} {vs:List V} {A:List Addr},RpA K C H ds vs A->vs.length=ds.length
 | [],_,_,r=>by rw [r.1];rfl
 | d::ds,_,_,r=>by obtain ⟨x,l,B,B',e1,e2,e3,e4⟩:=r;rw [e1,AK,AK,RpA.len e3]
theorem RpA.get:∀{ds:List D} {vs:List V} {A:List Addr} {i:Nat} {d:D},RpA K C H ds vs A->ds[i]?=some d->∃v B,vs[i]?=some v/\Rp K C H d v B/\∀a∈B,a∈A
 | [],_,_,_,_,_,h=>by simp at h
 | d::ds,_,_,0,_,r,h=>by obtain ⟨x,l,B,B',e1,e2,e3,e4⟩:=r;simp only [List.getElem?_cons_zero,DD] at h;subst h e1 e4;exact ⟨x,B,rfl,e2,fun a ha=>As _ ha⟩
 | d::ds,_,_,i+1,_,r,h=>by obtain ⟨x,l,B,B',e1,e2,e3,e4⟩:=r;simp only [List.getElem?_cons_succ] at h;obtain ⟨v,B2,q1,q2,q3⟩:=RpA.get e3 h;subst e1 e4;exact ⟨v,B2,by simpa using q1,q2,fun a ha=>Ag _ (q3 a ha)⟩
theorem RpA.get':∀{ds:List D} {vs:List V} {A:List Addr} {i:Nat} {v:V},RpA K C H ds vs A->vs[i]?=some v->∃d B,ds[i]?=some d/\Rp K C H d v B/\∀a∈B,a∈A:=fun {ds vs A i v} r h=>by
 have hl:=r.len;have hi:i<ds.length:=by have:=(Ah.mp h).1;omega
 obtain ⟨v',B,q1,q2,q3⟩:=r.get (AH hi);rw [h] at q1;cases q1;exact ⟨_,B,AH hi,q2,q3⟩
theorem RpA.app:∀{ds es:List D} {vs ws:List V} {A B:List Addr},RpA K C H ds vs A->RpA K C H es ws B->RpA K C H (ds++es) (vs++ws) (A++B)
 | [],_,_,_,_,_,r,q=>by obtain ⟨e1,e2⟩:=r;subst e1 e2;exact q
 | d::ds,_,_,_,_,_,r,q=>by obtain ⟨x,l,B,B',e1,e2,e3,e4⟩:=r;subst e1 e4;exact ⟨x,_,B,_,rfl,e2,RpA.app e3 q,CG ..⟩
theorem RpA.one {A:List Addr}(r:Rp K C H d v A):RpA K C H [d] [v] A:=⟨v,[],A,[],rfl,r,⟨rfl,rfl⟩,(Cf _).symm⟩
theorem RpA.flatDrop {A:List Addr}:Dl.Jg ds=true->RpA K C H ds vs A->∀n,RpA K C H (ds.drop n) (vs.drop n) []:=by
 intro h r n
 induction ds generalizing vs A n with
 | nil=>rw [r.1];simp;exact ⟨rfl,rfl⟩
 | cons d ds ih =>
  have r0:=r;obtain ⟨x,l,B,B',e1,e2,e3,e4⟩:=r;cases n with
  | zero =>have z:=RpA.flat h r0;subst z;exact r0
  | succ n =>simp only [Dl.Jg,Ae] at h;subst e1;exact ih h.2 e3 n
theorem RpA.flatTake {A:List Addr}:Dl.Jg ds=true->RpA K C H ds vs A->∀n,RpA K C H (ds.take n) (vs.take n) []:=by
 intro h r n
 induction ds generalizing vs A n with
 | nil=>rw [r.1];simp;exact ⟨rfl,rfl⟩
 | cons d ds ih =>
  obtain ⟨x,l,B,B',e1,e2,e3,e4⟩:=r;simp only [Dl.Jg,Ae] at h;have z:=Rp.flat h.1 e2;subst e1 z;cases n with
  | zero=>exact ⟨rfl,rfl⟩
  | succ n=>exact ⟨x,_,[],_,rfl,e2,ih h.2 e3 n,rfl⟩
theorem Zsz (h:Dl.Jg ds=true):∀n,Dl.Jg (ds.drop n)=true:=by
 intro n
 induction ds generalizing n with
 | nil=>simp;rfl
 | cons d ds ih =>
  cases n with
  | zero=>exact h
  | succ n =>simp only [Dl.Jg,Ae] at h;exact ih h.2 n
theorem RpA.ints :RpA K C H (ns.map D.int) (ns.map V.int) []:=by
 induction ns with
 | nil=>exact ⟨rfl,rfl⟩
 | cons n ns ih=>exact ⟨_,_,[],[],rfl,⟨rfl,rfl⟩,ih,rfl⟩
theorem RpA.ofBools:∀{ds:List D} {vs:List V} {A:List Addr} {ns:List Bool},RpA K C H ds vs A->Dl.bools ds=some ns->vs=ns.map V.bl
 | [],_,_,ns,r,h=>by simp only [Dl.bools,DD] at h;rw [r.1,<- h];rfl
 | d::ds,_,_,ns,r,h=>by
  obtain ⟨x,l,B,B',e1,e2,e3,e4⟩:=r;cases d<;>simp only [Dl.bools] at h<;>try cases h
  obtain ⟨ms,h1,h2⟩:=AD.mp h;rw [e1,e2.1,RpA.ofBools e3 h1,<- h2];rfl
mutual
def toPy:D->DZ
 | .non=>.none
 | .bl b=>.bool b
 | .int i=>.int i
 | .str x=>.str x
 | .lst ds=>.list (Zfn ds)
 | .tup ds=>.tuple (Zfn ds)
 | .scr _=>.none
 | .rng _ _=>.none
 | .exc _ _=>.none
 | .obj _ _ _=>.none
 | .dct _ _=>.none
 | .dtt _ _=>.none
 | .flst _=>.none
 | .fdt _ _=>.none
 | .fobj _ _ _=>.none
 | .fdk _ _=>.none
def Zfn:List D->List DZ
 | []=>[]
 | d::ds=>toPy d::Zfn ds
end
mutual
theorem Rp.dn:∀{d:D} {v:V} {A:List Addr} {n:Nat},Dl.dep d<=n->n<100->Rp K C H d v A->Dn K H v (toPy d)/\(toPy d).canLay0=true/\(toPy d).depth=Dl.dep d
 | .non,_,_,_,_,_,r=>by rw [r.1];exact ⟨.non,rfl,rfl⟩
 | .bl _,_,_,_,_,_,r=>by rw [r.1];exact ⟨.bl _,rfl,rfl⟩
 | .int _,_,_,_,_,_,r=>by rw [r.1];exact ⟨.int _,rfl,rfl⟩
 | .str _,_,_,_,_,_,r=>by rw [r.1];exact ⟨.str _,by simpa [toPy,Dx] using r.2.1,by simp [toPy,E3,Dl.dep]⟩
 | .lst ds,_,_,n,h,hn,r=>by obtain ⟨a,xs,B,e1,e2,e3,e4⟩:=r;simp only [Dl.dep] at h;obtain ⟨q1,q2,q3⟩:=RpA.dn (n:=n) (by omega) hn e3;rw [e1];exact ⟨.lst (SqL.of e2) q1,by simpa [toPy,Dx] using q2,by simp [toPy,E3,Dl.dep,q3]⟩
 | .tup ds,_,_,n,h,hn,r=>by obtain ⟨a,xs,e1,e2,e3⟩:=r;simp only [Dl.dep] at h;obtain ⟨q1,q2,q3⟩:=RpA.dn (n:=n) (by omega) hn e3;rw [e1];exact ⟨.tup (SqT.of e2) q1,by simpa [toPy,Dx] using q2,by simp [toPy,E3,Dl.dep,q3]⟩
 | .scr _,_,_,n,h,hn,_=>by simp only [Dl.dep] at h;omega
 | .rng _ _,_,_,n,h,hn,_=>by simp only [Dl.dep] at h;omega
 | .exc _ _,_,_,n,h,hn,_=>by simp only [Dl.dep] at h;omega
 | .obj _ _ _,_,_,n,h,hn,_=>by simp only [Dl.dep] at h;omega
 | .dct _ _,_,_,n,h,hn,_=>by simp only [Dl.dep] at h;omega
 | .dtt _ _,_,_,n,h,hn,_=>by simp only [Dl.dep] at h;omega
 | .flst _,_,_,n,h,hn,_=>by simp only [Dl.dep] at h;omega
 | .fdt _ _,_,_,n,h,hn,_=>by simp only [Dl.dep] at h;omega
 | .fobj _ _ _,_,_,n,h,hn,_=>by simp only [Dl.dep] at h;omega
 | .fdk _ _,_,_,n,h,hn,_=>by simp only [Dl.dep] at h;omega
theorem RpA.dn:∀{ds:List D} {vs:List V} {A:List Addr} {n:Nat},Dl.Zgy ds<=n->n<100->RpA K C H ds vs A->DnA K H vs (Zfn ds)/\DR (Zfn ds)=true/\Ee (Zfn ds)=Dl.Zgy ds
 | [],_,_,_,_,_,r=>by rw [r.1];exact ⟨.nil,rfl,rfl⟩
 | d::ds,_,_,n,h,hn,r=>by obtain ⟨x,l,B,B',e1,e2,e3,e4⟩:=r;simp only [Dl.Zgy] at h;obtain ⟨q1,q2,q3⟩:=Rp.dn (n:=n) (by omega) hn e2;obtain ⟨p1,p2,p3⟩:=RpA.dn (n:=n) (by omega) hn e3;rw [e1];exact ⟨.cons q1 p1,by simp [Zfn,DR,q2,p2],by simp [Zfn,Ee,Dl.Zgy,q3,p3]⟩
end
mutual
theorem Zra:∀{d e:D},Dl.dep d<100->Dl.dep e<100->Do (toPy d) (toPy e)=Dl.eqv d e
 | .non,e,_,h=>by cases e<;>first | rfl | exact absurd h (AZ 100)
 | .bl _,e,_,h=>by cases e<;>first | rfl | exact absurd h (AZ 100)
 | .int _,e,_,h=>by cases e<;>first | rfl | exact absurd h (AZ 100)
 | .str _,e,_,h=>by cases e<;>first | rfl | exact absurd h (AZ 100)
 | .lst ds,e,h1,h=>by
  cases e with
  | lst es=>exact Zou (Dg h1) (Dg h)
  | _=>rfl
 | .tup ds,e,h1,h=>by
  cases e with
  | tup es=>exact Zou (Dg h1) (Dg h)
  | _=>rfl
 | .scr _,_,h,_=>absurd h (AZ 100)
 | .rng _ _,_,h,_=>absurd h (AZ 100)
 | .exc _ _,_,h,_=>absurd h (AZ 100)
 | .obj _ _ _,_,h,_=>absurd h (AZ 100)
 | .dct _ _,_,h,_=>absurd h (AZ 100)
 | .dtt _ _,_,h,_=>absurd h (AZ 100)
 | .flst _,_,h,_=>absurd h (AZ 100)
 | .fdt _ _,_,h,_=>absurd h (AZ 100)
 | .fobj _ _ _,_,h,_=>absurd h (AZ 100)
 | .fdk _ _,_,h,_=>absurd h (AZ 100)
theorem Zou:∀{d e:List D},Dl.Zgy d<100->Dl.Zgy e<100->GB (Zfn d) (Zfn e)=Dl.Xia d e
 | [],[],_,_=>rfl
 | [],_::_,_,_=>rfl
 | _::_,[],_,_=>rfl
 | d::ds,e::es,h1,h=>by have a1:Dl.dep d<100/\Dl.Zgy ds<100:=HI.mp h1;have a2:Dl.dep e<100/\Dl.Zgy es<100:=HI.mp h;show (Do (toPy d) (toPy e)&&GB (Zfn ds) (Zfn es))=(Dl.eqv d e&&Dl.Xia ds es);rw [Zra a1.1 a2.1,Zou a1.2 a2.2]
end
abbrev Yp:=Dl.Env
section
variable (K:AB)(C:String->Addr)
structure Zs (H0 Hb H:Hp)(Γ Δ:List Nat)(σ:St)(ρ:Yp)(A:Nat->List Addr):Prop where
 s0:Xt H0 Hb
 same:Xt Hb H
 len:σ.length=ρ.length
 rep:∀i d,ρ[i]?=some (some d)->∃v,σ[i]?=some (some v)/\Rp K C H d v (A i)
 nil:∀i,(∀d,ρ[i]?≠some (some d))->A i=[]
 loc:∀i∈Γ,∀a∈A i,H0 a=none
 top:∀i∈Γ,∀a r,A i=a::r->Hb a=none/\a∉r/\∀j,j≠i->a∉A j
 deep:∀i∈Δ,(A i).Nodup/\(∀j,j≠i->∀a∈A i,a∉A j)/\∀a∈A i,Hb a=none
def InS (A:Nat->List Addr)(S:List (Nat×Bool))(a:Addr):Prop:=∃p∈S,if p.2=true then a∈(A p.1).tail else a∈A p.1
def Res (m:Nat)(S:List (Nat×Bool))(H:Hp)(A:Nat->List Addr)(d:D)(v:V)(H':Hp):Prop:=
 ∃B,Rp K C H' d v B/\(∀a∈B,H a=none\/InS A S a)/\(m=1->∀a r,B=a::r->H a=none/\a∉r)/\(m=2->B.Nodup)
def ResA (m:Nat)(S:List (Nat×Bool))(H:Hp)(A:Nat->List Addr)(ds:List D)(vs:List V)(H':Hp):Prop:=
 ∃B,RpA K C H' ds vs B/\(∀a∈B,H a=none\/InS A S a)/\(m=2->B.Nodup)
def EC (E:XK)(c:String)(x:Option Int)(H:Hp):Prop:=∀dx,FOk H c x dx->E (.ref (C c)) dx H
def Yo {α:Type}(r:R α)(ok:α->Prop)(er:String->Option Int->Prop):Prop:=match r with
 | .ok a=>ok a
 | .err c x=>er c x
 | .bad=>False
def EOk (E:XK)(Γ Δ:List Nat)(m:Nat)(S:List (Nat×Bool))(t:TE)(f:FE):Prop:=∀(H0 Hb H:Hp) (σ:St) (ρ:Yp) (A:Nat->List Addr) (Q:VK),Zs K C H0 Hb H Γ Δ σ ρ A->
 Yo (f ρ) (fun d=>∀v H',Xt H H'->Res K C m S H A d v H'->Q v H') (fun c x=>∀H',Xt H H'->EC C E c x H')->t σ H Q
def AOk (E:XK)(Γ Δ:List Nat)(m:Nat)(S:List (Nat×Bool))(t:TA)(f:FA):Prop:=∀(H0 Hb H:Hp) (σ:St) (ρ:Yp) (A:Nat->List Addr) (Q:List V->Hp->Prop),Zs K C H0 Hb H Γ Δ σ ρ A->
 Yo (f ρ) (fun d=>∀v H',Xt H H'->ResA K C m S H A d v H'->Q v H') (fun c x=>∀H',Xt H H'->EC C E c x H')->t σ H Q
def TOk (E:XK)(Γ Δ:List Nat)(t:TT)(f:FT):Prop:=∀(H0 Hb H:Hp) (σ:St) (ρ:Yp) (A:Nat->List Addr) (Q:Bool->Hp->Prop),Zs K C H0 Hb H Γ Δ σ ρ A->
 Yo (f ρ) (fun b=>∀H',Xt H H'->Q b H') (fun c x=>∀H',Xt H H'->EC C E c x H')->t σ H Q
def OOk (E:XK)(Γ Δ:List Nat)(t:TO)(f:FO):Prop:=∀(H0 Hb H:Hp) (σ:St) (ρ:Yp) (A:Nat->List Addr) (Q:Option Int->Hp->Prop),Zs K C H0 Hb H Γ Δ σ ρ A->
 Yo (f ρ) (fun b=>∀H',Xt H H'->Q b H') (fun c x=>∀H',Xt H H'->EC C E c x H')->t σ H Q
def Zsu (E:XK)(mr:Nat)(Γl Δl Γ' Δ':List Nat)(H0 Hb:Hp)(D:Ends)(r:R Fl):Prop:=Yo r (fun fl=>match fl with
    | .nx ρ'=>∀σ' H' A',Zs K C H0 Hb H' Γ' Δ' σ' ρ' A'->D.nx σ' H'
    | .ret d=>∀v H',Xt H0 H'->Res K C mr [] H0 (fun _=>[]) d v H'->D.rt v H'
    | .brk ρ'=>∀σ' H' A',Zs K C H0 Hb H' Γl Δl σ' ρ' A'->D.bk σ' H'
    | .cnt ρ'=>∀σ' H' A',Zs K C H0 Hb H' Γl Δl σ' ρ' A'->D.ct σ' H')
  (fun c x=>∀H',Xt H0 H'->EC C E c x H')
def SOk (E:XK)(mr:Nat)(Γl Δl Γ Δ Γ' Δ':List Nat)(t:TS)(f:FS):Prop:=∀(H0 Hb H:Hp) (σ:St) (ρ:Yp) (A:Nat->List Addr) (D:Ends),Zs K C H0 Hb H Γ Δ σ ρ A->
 Zsu K C E mr Γl Δl Γ' Δ' H0 Hb D (f ρ)->t D σ H
end
section
variable {S:List (Nat×Bool)}
theorem Zs.mono (h:Zs K C H0 Hb H Γ Δ σ ρ A)(g:Xt H H'):Zs K C H0 Hb H' Γ Δ σ ρ A:=⟨h.s0,h.same.trans g,h.len,fun i d e=>let ⟨v,q1,q2⟩:=h.rep i d e;⟨v,q1,q2.same g⟩,h.nil,h.loc,h.top,h.deep⟩
theorem Zs.weak (h:Zs K C H0 Hb H Γ Δ σ ρ A)(h1:∀i∈Γ',i∈Γ)(h2:∀i∈Δ',i∈Δ):Zs K C H0 Hb H Γ' Δ' σ ρ A:=⟨h.s0,h.same,h.len,h.rep,h.nil,fun i hi=>h.loc i (h1 i hi),fun i hi=>h.top i (h1 i hi),fun i hi=>h.deep i (h2 i hi)⟩
theorem Zs.is (h:Zs K C H0 Hb H Γ Δ σ ρ A)(ha:a∈A j):∃o,H a=some o/\IsM o:=by by_cases q:∃d,ρ[j]?=some (some d);obtain ⟨d,q⟩:=q;obtain ⟨v,_,r⟩:=h.rep j d q;exact r.isl a ha;rw [h.nil j fun d e=>q ⟨d,e⟩] at ha;cases ha
theorem Zs.ne (h:Zs K C H0 Hb H Γ Δ σ ρ A)(ha:a∈A j)(hn:H a=none):False:=by obtain ⟨xs,q,_⟩:=h.is ha;rw [q] at hn;cases hn
theorem InS.mem (h:InS A S a):∃p∈S,a∈A p.1:=by obtain ⟨p,hp,q⟩:=h;refine ⟨p,hp,?_⟩;split at q;exact Fs q;exact q
theorem InS.mono (h:InS A S1 a)(hs:∀p∈S1,p∈S2):InS A S2 a:=let ⟨p,hp,q⟩:=h;⟨p,hs p hp,q⟩
theorem Yo.imp {r:R α}{ok ok':α->Prop}(h:Yo r ok er)(h1:∀a,ok a->ok' a)(h2:∀c x,er c x->er' c x):Yo r ok' er':=by
 cases r with
 | ok a=>exact h1 a h
 | err c x=>exact h2 c x h
 | bad=>exact h
theorem Yo.bind {α β:Type}{r:R α}{g:α->R β}{ok:β->Prop}{er:String->Option Int->Prop}(h:Yo (r.bind g) ok er):Yo r (fun a=>Yo (g a) ok er) er:=by
 cases r with
 | ok a=>exact h
 | err c x=>exact h
 | bad=>exact h
theorem Res.flat (r:Rp K C H' d v []):Res K C m S H A d v H':=⟨[],r,fun _ h=>(nomatch h),fun _ _ _ e=>(nomatch e),fun _=>BQ⟩
theorem Zsb (h:∀H,Rp K C H d v []):EOk K C E Γ Δ 2 [] (tC v) (Dl.fC d):=fun _ _ H _ _ _ _ _ p=>p v H (Xt.refl _) (Res.flat (h H))
theorem Xmy {ok:D->Prop}(h:Yo (Dl.fV i ρ) ok er):∃d,ρ[i]?=some (some d)/\ok d:=by unfold Dl.fV at h;split at h;rename_i d e;exact ⟨d,e,h⟩;exact h.elim
theorem eok_v :EOk K C E Γ Δ 0 [(i,false)] (Ztk i) (Dl.fV i):=fun H0 Hb H σ ρ A Q I p=>by obtain ⟨d,e,p⟩:=Xmy p;obtain ⟨v,e1,r⟩:=I.rep i d e;exact ⟨v,e1,p v H (Xt.refl _) ⟨A i,r,fun a ha=>.inr ⟨(i,false),.head _,ha⟩,(fun z=>nomatch z),(fun z=>nomatch z)⟩⟩
theorem Xqe (hi:i∈Δ):EOk K C E Γ Δ 2 [(i,false)] (Ztk i) (Dl.fV i):=fun H0 Hb H σ ρ A Q I p=>by obtain ⟨d,e,p⟩:=Xmy p;obtain ⟨v,e1,r⟩:=I.rep i d e;exact ⟨v,e1,p v H (Xt.refl _) ⟨A i,r,fun a ha=>.inr ⟨(i,false),.head _,ha⟩,(fun z=>nomatch z),fun _=>(I.deep i hi).1⟩⟩
theorem Xau {t:TE}{f:FE}(h:EOk K C E Γ Δ m S t f):EOk K C E Γ Δ 2 [] t (Dl.f1 Dl.Yf f):=fun H0 Hb H σ ρ A Q I p =>
  h H0 Hb H σ ρ A Q I (p.bind.imp (fun d q v H' g r=>by
    unfold Dl.Yf at q;split at q;rename_i hf;obtain ⟨B,r1,_⟩:=r;have e:=r1.flat hf;subst e;exact q v H' g (Res.flat r1)
    · exact q.elim) fun _ _ q=>q)
theorem Res.later {H3:Hp}(g1:Xt H0 H1)(g2:Xt H2 H3)(r:Res K C m S H1 A d v H2):Res K C m S H0 A d v H3:=by obtain ⟨B,r1,r2,r3,r4⟩:=r;exact ⟨B,r1.same g2,fun a ha=>(r2 a ha).imp (fun h=>g1.free h) id,fun hm a l e=>⟨g1.free (r3 hm a l e).1,(r3 hm a l e).2⟩,r4⟩
theorem Res.new (r:Rp K C H' d v B)(h1:B.Nodup)(h2:∀a∈B,H a=none):Res K C m S H A d v H':=⟨B,r,fun a ha=>.inl (h2 a ha),fun _ a l e=>by subst e;exact ⟨h2 a (.head _),(A0.mp h1).1⟩,fun _=>h1⟩
theorem Zer {o:Option α}{ok:α->Prop}(h:Yo (Dl.oR o) ok er):∃a,o=some a/\ok a:=by
 cases o with
 | none=>exact h.elim
 | some a=>exact ⟨a,rfl,h⟩
def GOk (K:AB)(C:String->Addr)(r:R2)(g:D->D->Option D):Prop:=
 ∀(H:Hp) (x y d:D) (vx vy:V) (Bx By:List Addr) (Q:VK),Rp K C H x vx Bx->Rp K C H y vy By->g x y=some d->(∀v H' B,Xt H H'->Rp K C H' d v B->B.Nodup->(∀a∈B,H a=none)->Q v H')->r vx vy H Q
def GAk (K:AB)(C:String->Addr)(r:List V->Hp->VK->Prop)(g:List D->Option D):Prop:=
 ∀(H:Hp) (xs:List D) (d:D) (vs:List V) (Bx:List Addr) (Q:VK),RpA K C H xs vs Bx->g xs=some d->(∀v H' B,Xt H H'->Rp K C H' d v B->B.Nodup->(∀a∈B,H a=none)->Q v H')->r vs H Q
theorem Zup {r:R2}{tb:TE}(hg:GOk K C r g)(ha:EOk K C E Γ Δ m1 S1 ta fa)(hb:EOk K C E Γ Δ m2 S2 tb fb):EOk K C E Γ Δ 2 [] (tOp r ta tb) (Dl.f2 g fa fb):=
  fun H0 Hb H σ ρ A Q I p=>ha H0 Hb H σ ρ A _ I (p.bind.imp (fun x q vx H1 g1 r1=>hb H0 Hb H1 σ ρ A _ (I.mono g1) (q.bind.imp (fun y q vy H2 g2 r2=>by
    obtain ⟨d,e,q⟩:=Zer q;obtain ⟨Bx,r1,_⟩:=r1;obtain ⟨By,r2,_⟩:=r2;exact hg H2 x y d vx vy Bx By Q (r1.same g2) r2 e fun v H' B g3 r3 h1 h2=>q v H' (g1.trans (g2.trans g3)) (Res.new r3 h1 fun a ha=>(g1.trans g2).free (h2 a ha))) fun c x q H' g'=>q H' (g1.trans g'))) fun c x q H' g'=>q H' g')
theorem Zaj {d:α}{P:Prop}(e:(none:Option α)=some d):P:=nomatch e
theorem Zty {F:List D->Option D}(hn:F []=none)(hc:∀x y r,F (x::y::r)=none):∀{ds:List D} {d:D},F ds=some d->∃x,ds=[x]
 | [],_,e=>Zaj (hn.symm.trans e)
 | [x],_,_=>⟨x,rfl⟩
 | x::y::r,_,e=>Zaj ((hc x y r).symm.trans e)
theorem Xjd {y:D}(e:Dl.gIx (.lst ds) y=some d):∃i,y=.int i/\atI ds i=some d:=by
 cases y with
 | int i=>exact ⟨i,rfl,e⟩
 | _=>exact Zaj e
theorem Xhh {y:D}(e:Dl.gIx (.tup ds) y=some d):∃i,y=.int i/\atI ds i=some d:=by
 cases y with
 | int i=>exact ⟨i,rfl,e⟩
 | _=>exact Zaj e
theorem Xfr {y:D}(e:Dl.gIx (.scr ns) y=some d):∃i,y=.int i/\(atI ns i).map D.int=some d:=by
 cases y with
 | int i=>exact ⟨i,rfl,e⟩
 | _=>exact Zaj e
theorem Xgh {y:D}(e:Dl.gIx (.str z) y=some d):∃i,y=.int i/\z.length<=Dl.lim/\(atI z.cps.toList i).map (fun c=>D.str ⟨#[c]⟩)=some d:=by
 cases y with
 | int i =>have e':(if z.length<=Dl.lim then ((Dl.atD z.cps.toList i).map fun c=>D.str ⟨#[c]⟩) else none)=some d:=e;by_cases h:z.length<=Dl.lim;rw [if_pos h] at e';exact ⟨i,rfl,h,e'⟩;rw [if_neg h] at e';exact Zaj e'
 | _=>exact Zaj e
theorem Xaj {y:D}(e:Dl.gIx (.flst ds) y=some d):∃i,y=.int i/\atI ds i=some d:=by
 cases y with
 | int i=>exact ⟨i,rfl,e⟩
 | _=>exact Zaj e
theorem Xof {x y:D}(e:Dl.gIx x y=some d):∃i,y=.int i/\((∃ds,x=.lst ds/\atI ds i=some d)\/(∃ds,x=.tup ds/\atI ds i=some d)\/(∃ns,x=.scr ns/\(atI ns i).map D.int=some d)\/(∃z,x=.str z/\z.length<=Dl.lim/\(atI z.cps.toList i).map (fun c=>D.str ⟨#[c]⟩)=some d)\/∃ds,x=.flst ds/\atI ds i=some d):=by
 cases x with
 | lst ds=>exact (Xjd e).imp fun _ h=>⟨h.1,.inl ⟨ds,rfl,h.2⟩⟩
 | tup ds=>exact (Xhh e).imp fun _ h=>⟨h.1,.inr (.inl ⟨ds,rfl,h.2⟩)⟩
 | scr ns=>exact (Xfr e).imp fun _ h=>⟨h.1,.inr (.inr (.inl ⟨ns,rfl,h.2⟩))⟩
 | str z=>exact (Xgh e).imp fun _ h=>⟨h.1,.inr (.inr (.inr (.inl ⟨z,rfl,h.2⟩)))⟩
 | flst ds=>exact (Xaj e).imp fun _ h=>⟨h.1,.inr (.inr (.inr (.inr ⟨ds,rfl,h.2⟩)))⟩
 | _=>exact Zaj e
theorem Zrh {β:Type}{ds:List α}{xs:List β}{i:Int}{d:α}{v:β}(hl:xs.length=ds.length)(e:atI ds i=some d)(h1:He i ds.length=some j)(hv:xs[j]?=some v):atI xs i=some v:=by
 unfold atI at e ⊢;rw [hl];cases hx:ixN ds.length i with
 | none=>rw [hx] at e;cases e
 | some k =>obtain ⟨z1,_⟩:=Zow hx;rw [h1] at z1;cases z1;exact hv
theorem Xmo {x y:D}{vx vy:V}(rx:Rp K C H x vx Bx)(ry:Rp K C H y vy By)(e:Dl.gIx x y=some d)(q:∀v B,Rp K C H d v B->(∀a∈B,a∈Bx)->((∃ds,x=.lst ds)->∀a∈B,a∈Bx.tail)->Q v H):rIx K vx vy H Q:=by obtain ⟨i,rfl,h⟩:=Xof e;cases ry.1;rcases h with ⟨ds,rfl,e'⟩ | ⟨ds,rfl,e'⟩ | ⟨ns,rfl,e'⟩ | ⟨z,rfl,hz,e'⟩ | ⟨ds,rfl,e'⟩;obtain ⟨a,xs,B,rfl,e2,e3,rfl⟩:=rx;obtain ⟨j,h1,h2,_⟩:=Zdf e';obtain ⟨v,B',q1,q2,q3⟩:=e3.get h2;exact Xdy (SqL.of e2) (v:=v) (Zrh e3.len e' h1 q1) (q v B' q2 (fun a ha=>.tail _ (q3 a ha)) fun _ a ha=>q3 a ha);obtain ⟨a,xs,rfl,e2,e3⟩:=rx;obtain ⟨j,h1,h2,_⟩:=Zdf e';obtain ⟨v,B',q1,q2,q3⟩:=e3.get h2;exact Xpn (SqT.of e2) (v:=v) (Zrh e3.len e' h1 q1) (q v B' q2 q3 fun z=>by obtain ⟨_,z⟩:=z;cases z);obtain ⟨a,rfl,e2,rfl⟩:=rx;obtain ⟨n,h1,rfl⟩:=AD.mp e';obtain ⟨j,h2,h3,_⟩:=Zdf h1;exact .inl ⟨a,ns.map V.int,i,.int n,rfl,rfl,e2.sq,Zrh (Al _) h1 h2 (by rw [Bu,h3];rfl),q (.int n) [] ⟨rfl,rfl⟩ (fun _ h=>(nomatch h)) fun _ _ h=>(nomatch h)⟩;obtain ⟨rfl,e2,rfl⟩:=rx;obtain ⟨c,h1,rfl⟩:=AD.mp e';refine .inr (.inr ⟨z,i,c,rfl,rfl,AN hz (by decide),h1,q _ [] ⟨rfl,?_,rfl⟩ (fun _ h=>(nomatch h)) fun _ _ h=>(nomatch h)⟩);obtain ⟨j,_,h3,_⟩:=Zdf h1;have hm:c∈z.cps:=DE.mp (A5 h3);have ho:z.cps.all (·<0x110000)=true:=e2;have:=(D3.mp ho) c hm;unfold AC;simpa using this;obtain ⟨a,o,xs,rfl,e2,e3,rfl⟩:=rx;obtain ⟨j,h1,h2,_⟩:=Zdf e';obtain ⟨v,B',q1,q2,q3⟩:=e3.get h2;exact Xdy (FzL.sq (.inl ⟨o,e2⟩)) (v:=v) (Zrh e3.len e' h1 q1) (q v B' q2 q3 fun z=>by obtain ⟨_,z⟩:=z;cases z)
theorem Xmv {tb:TE}(ha:EOk K C E Γ Δ m1 S1 ta fa)(hb:EOk K C E Γ Δ m2 S2 tb fb):EOk K C E Γ Δ 0 S1 (tOp (rIx K) ta tb) (Dl.f2 Dl.gIx fa fb):=
  fun H0 Hb H σ ρ A Q I p=>ha H0 Hb H σ ρ A _ I (p.bind.imp (fun x q vx H1 g1 r1=>hb H0 Hb H1 σ ρ A _ (I.mono g1) (q.bind.imp (fun y q vy H2 g2 r2=>by
    obtain ⟨d,e,q⟩:=Zer q;obtain ⟨Bx,r1,r1',_⟩:=r1;obtain ⟨By,r2,_⟩:=r2;exact Xmo (r1.same g2) r2 e fun v B r3 h _=>q v H2 (g1.trans g2) ⟨B,r3,fun a ha=>r1' a (h a ha),(fun z=>nomatch z),(fun z=>nomatch z)⟩) fun c x q H' g'=>q H' (g1.trans g'))) fun c x q H' g'=>q H' g')
def gIxL (x y:D):Option D:=match x with
 | .lst _=>Dl.gIx x y
 | _=>none
theorem sameNew {p:Addr}(h:H p=none)(o:HO):Xt H (upd H p o):=fun b u q=>by rw [Xl (Xw q h)];exact q
abbrev Out (K:AB)(C:String->Addr)(H:Hp)(d:D)(Q:VK):Prop:=∀v H' B,Xt H H'->Rp K C H' d v B->B.Nodup->(∀a∈B,H a=none)->Q v H'
theorem Out.flat (q:Out K C H d Q)(r:Rp K C H d v []):Q v H:=q v H [] (Xt.refl _) r BQ (fun _ h=>nomatch h)
theorem Out.lst {ds:List D}{vs:List V}{p:Addr}(q:Out K C H (.lst ds) Q)(r:RpA K C H ds vs [])(hp:H p=none):Q (.ref p) (upd H p (.lst vs)):=q _ _ [p] (sameNew hp _) ⟨p,vs,[],rfl,Ym,r.same (sameNew hp _),rfl⟩ (by simp) (fun a ha=>by rw [Ak.mp ha];exact hp)
theorem Out.tup {ds:List D}{vs:List V}{p:Addr}(q:Out K C H (.tup ds) Q)(r:RpA K C H ds vs [])(hp:H p=none):Q (.ref p) (upd H p (.tup vs)):=q _ _ [] (sameNew hp _) ⟨p,vs,rfl,Ym,r.same (sameNew hp _)⟩ BQ (fun _ h=>nomatch h)
theorem Zde (h:n<=Dl.lim):n<=Ai:=AN h (by decide)
theorem Zhg (h:n<Dl.lim):n<Ai:=Aq h (by decide)
theorem Zhl (h1:AC x=true)(h2:AC y=true):AC (x++y)=true:=by unfold AC at *;show (x.cps++y.cps).all _=true;rw [Array.all_append,h1,h2];rfl
theorem RpA.nil:RpA K C H [] [] []:=⟨rfl,rfl⟩
theorem RpA.flat' {A:List Addr}(h:Dl.Jg ds=true)(r:RpA K C H ds vs A):RpA K C H ds vs []:=by have e:=RpA.flat h r;subst e;exact r
theorem RpA.rep {ds:List D}{vs:List V}(r:RpA K C H ds vs []):∀n,RpA K C H (Aa n ds).flatten (Aa n vs).flatten []
 | 0=>RpA.nil
 | n+1=>by rw [A4,A4,Bv,Bv];exact r.app (RpA.rep r n)
theorem Xa:GOk K C Zyq Dl.Jy:=by intro H x y d vx vy Bx By Q rx ry e q;unfold Dl.Jy at e;split at e;cases e;obtain ⟨rfl,_⟩:=rx;obtain ⟨rfl,_⟩:=ry;exact Xnc (Out.flat q ⟨rfl,rfl⟩);split at e;rename_i hz;cases e;obtain ⟨rfl,h1,_⟩:=rx;obtain ⟨rfl,h2,_⟩:=ry;exact .inr (.inl ⟨_,_,rfl,rfl,Zde hz,Out.flat q ⟨rfl,Zhl h1 h2,rfl⟩⟩);cases e;split at e;rename_i hz;cases e;obtain ⟨a,xs,B,rfl,e2,e3,_⟩:=rx;obtain ⟨a',xs',B',rfl,e2',e3',_⟩:=ry;obtain ⟨hz,f1,f2⟩:=hz;refine Xql e2 e2' (by rw [e3.len,e3'.len];exact Zde hz) fun p hp=>?_;exact Out.lst q ((e3.flat' f1).app (e3'.flat' f2)) hp;cases e;cases e
theorem Znq {g:Int->Int->D}{f:D->D->Option D}(hf:∀x y d,f x y=some d->∃i j,x=.int i/\y=.int j/\d=g i j)(hr:∀H i j,Rp K C H (g i j) (gv i j) []):GOk K C (rI0 gv) f:=by intro H x y d vx vy Bx By Q rx ry e q;obtain ⟨i,j,rfl,rfl,rfl⟩:=hf x y d e;obtain ⟨rfl,_⟩:=rx;obtain ⟨rfl,_⟩:=ry;exact rd_I0 (Out.flat q (hr H i j))
theorem Xjy {g:Int->Int->D}{f:D->D->Option D}(hf:∀x y d,f x y=some d->∃i j,x=.int i/\y=.int j/\d=g i j/\Cd i j)(hr:∀H i j,Rp K C H (g i j) (gv i j) []):GOk K C (rI Cd gv) f:=by intro H x y d vx vy Bx By Q rx ry e q;obtain ⟨i,j,rfl,rfl,rfl,hc⟩:=hf x y d e;obtain ⟨rfl,_⟩:=rx;obtain ⟨rfl,_⟩:=ry;exact rd_I hc (Out.flat q (hr H i j))
theorem rpI {i:Int}:Rp K C H (.int i) (.int i) []:=⟨rfl,rfl⟩
theorem rpB {i:Bool}:Rp K C H (.bl i) (.bl i) []:=⟨rfl,rfl⟩
theorem Zwc:GOk K C (rI0 fun i j=>.int (i - j)) Dl.Zru:=Znq (fun x y d e=>by unfold Dl.Zru at e;split at e<;>cases e;exact ⟨_,_,rfl,rfl,rfl⟩) fun _ _ _=>rpI
theorem Znf:GOk K C (rI0 fun i j=>.bl (decide (i<j))) Dl.gLt:=Znq (fun x y d e=>by unfold Dl.gLt at e;split at e<;>cases e;exact ⟨_,_,rfl,rfl,rfl⟩) fun _ _ _=>rpB
theorem Zbm:GOk K C (rI0 fun i j=>.bl (decide (i<=j))) Dl.gLe:=Znq (fun x y d e=>by unfold Dl.gLe at e;split at e<;>cases e;exact ⟨_,_,rfl,rfl,rfl⟩) fun _ _ _=>rpB
theorem Zmu:GOk K C (rI0 fun i j=>.bl (decide (j<i))) Dl.gGt:=Znq (fun x y d e=>by unfold Dl.gGt at e;split at e<;>cases e;exact ⟨_,_,rfl,rfl,rfl⟩) fun _ _ _=>rpB
theorem Xny:GOk K C (rI0 fun i j=>.bl (decide (j<=i))) Dl.gGe:=Znq (fun x y d e=>by unfold Dl.gGe at e;split at e<;>cases e;exact ⟨_,_,rfl,rfl,rfl⟩) fun _ _ _=>rpB
theorem Jh:GOk K C (rI (fun _ j=>0<j) fun i j=>.int (i % j)) Dl.Zfl:=Xjy (fun x y d e=>by
  unfold Dl.Zfl at e;split at e;split at e;rename_i h;cases e;exact ⟨_,_,rfl,rfl,rfl,h⟩;cases e
  · cases e) fun _ _ _=>rpI
theorem Zwt:GOk K C (rI Xma fun i j=>.int (i / j)) Dl.Xln:=Xjy (fun x y d e=>by
  unfold Dl.Xln at e;split at e;split at e;rename_i h;cases e;exact ⟨_,_,rfl,rfl,rfl,h⟩;cases e
  · cases e) fun _ _ _=>rpI
theorem Zca:GOk K C (rI CPow fun i j=>.int (i ^ j.toNat)) Dl.Zis:=Xjy (fun x y d e=>by
  unfold Dl.Zis at e;split at e;split at e;rename_i h;cases e;exact ⟨_,_,rfl,rfl,rfl,h⟩;cases e
  · cases e) fun _ _ _=>rpI
theorem Zvt {i j:Int}(h:(Dl.short i||Dl.short j)=true):Xkz i j:=by unfold Dl.short at h;simp only [GH,Ae,decide_eq_true_eq] at h;exact h
theorem Yz:GOk K C Xai Dl.Zdv:=by intro H x y d vx vy Bx By Q rx ry e q;unfold Dl.Zdv at e;split at e;split at e;rename_i h;cases e;obtain ⟨rfl,_⟩:=rx;obtain ⟨rfl,_⟩:=ry;exact Xrk (Zvt h) (Out.flat q rpI);cases e;split at e;rename_i h;cases e;obtain ⟨a,xs,B,rfl,e2,e3,_⟩:=rx;obtain ⟨rfl,_⟩:=ry;obtain ⟨h1,h2,h3,h4⟩:=h;refine Xmb e2 (by omega) (by omega) (by rw [e3.len];exact Zde h2) fun p hp=>?_;exact Out.lst q ((e3.flat' h4).rep _) hp;cases e;cases e
theorem Zft {A:List Addr}(h:Dl.dep d<=20)(r:Rp K C H d v A):Dn K H v (toPy d)/\CQ (toPy d)=true:=by obtain ⟨q1,q2,q3⟩:=r.dn h (by decide);refine ⟨q1,?_⟩;unfold CQ;rw [q2,q3];simp only [CI,decide_eq_true_eq];omega
theorem Yt:GOk K C (Zfq K) Dl.gEq:=by intro H x y d vx vy Bx By Q rx ry e q;unfold Dl.gEq at e;split at e;rename_i h;cases e;obtain ⟨a1,a2⟩:=Zft h.1 rx;obtain ⟨b1,b2⟩:=Zft h.2 ry;refine .inr ⟨_,_,a1,b1,a2,b2,?_⟩;rw [Zra (by omega) (by omega)];exact Out.flat q rpB;cases e
theorem Zlx:GOk K C (Xgw K) Dl.gNe:=by intro H x y d vx vy Bx By Q rx ry e q;unfold Dl.gNe at e;split at e;rename_i h;cases e;obtain ⟨a1,a2⟩:=Zft h.1 rx;obtain ⟨b1,b2⟩:=Zft h.2 ry;refine .inr ⟨_,_,a1,b1,a2,b2,?_⟩;rw [Zra (by omega) (by omega)];exact Out.flat q rpB;cases e
theorem Xen {x:D}(hx:Dl.dep x<100):∀{ys:List D},Dl.Zgy ys<100->((Zfn ys).any fun z=>Do z (toPy x))=ys.any fun y=>Dl.eqv y x
 | [],_=>rfl
 | y::ys,h=>by simp only [Dl.Zgy] at h;simp only [Zfn,CH];rw [Zra (by omega) hx,Xen hx (by omega)]
theorem Zui:GOk K C (Xoq K false) Dl.gIn:=by intro H x y d vx vy Bx By Q rx ry e q;unfold Dl.gIn at e;split at e;split at e;rename_i h;cases e;obtain ⟨a1,a2,a3⟩:=rx.dn h.1 (by decide);obtain ⟨b1,b2,b3⟩:=ry.dn (n:=21) (by simp only [Dl.dep];omega) (by decide);refine ⟨_,_,b1,a1,by simpa [toPy,Dx] using b2,a2,by omega,?_⟩;simp only [A8,if_false];rw [Xen (by omega) (by omega)];exact Out.flat q rpB;cases e;cases e
theorem Zqr {x:D}(r:Rp K C H x v B):decide (v=.non)=Dl.Zix x:=by cases x;rw [r.1];rfl;rw [r.1];rfl;rw [r.1];rfl;rw [r.1];rfl;obtain ⟨a,xs,B,rfl,_⟩:=r;rfl;obtain ⟨a,xs,rfl,_⟩:=r;rfl;obtain ⟨a,rfl,_⟩:=r;rfl;obtain ⟨a,rfl,_⟩:=r;rfl;obtain ⟨a,dx,rfl,_⟩:=r;rfl;obtain ⟨a,dx,xs,B,rfl,_⟩:=r;rfl;obtain ⟨a,xs,B,rfl,_⟩:=r;rfl;obtain ⟨a,xs,B,rfl,_⟩:=r;rfl;obtain ⟨a,o,xs,rfl,_⟩:=r;rfl;obtain ⟨a,o,xs,rfl,_⟩:=r;rfl;obtain ⟨a,o,dx,xs,rfl,_⟩:=r;rfl;obtain ⟨a,o,xs,rfl,_⟩:=r;rfl
theorem Zrf:GOk K C (rIsA false) Dl.gIs:=by intro H x y d vx vy Bx By Q rx ry e q;unfold Dl.gIs at e;split at e;cases e;refine .inl ⟨ry.1,?_⟩;simp only [A8,if_false];rw [Zqr rx];exact Out.flat q rpB;split at e;cases e;obtain ⟨rfl,_⟩:=rx;obtain ⟨rfl,_⟩:=ry;exact .inr ⟨_,_,rfl,rfl,by simp only [A8,if_false];exact Out.flat q rpB⟩;cases e;cases e
theorem Zun:GOk K C (rIsA true) Dl.Zml:=by intro H x y d vx vy Bx By Q rx ry e q;unfold Dl.Zml at e;split at e;cases e;refine .inl ⟨ry.1,?_⟩;simp only [if_true];rw [Zqr rx];exact Out.flat q rpB;split at e;cases e;obtain ⟨rfl,_⟩:=rx;obtain ⟨rfl,_⟩:=ry;exact .inr ⟨_,_,rfl,rfl,by simp only [if_true];exact Out.flat q rpB⟩;cases e;cases e
theorem Xfj:AOk K C E Γ Δ 2 [] Ziu Dl.Zr:=fun _ _ H _ _ _ _ _ p=>p [] H (Xt.refl _) ⟨[],RpA.nil,(fun _ h=>nomatch h),fun _=>BQ⟩
theorem InS.left (h:InS A S1 a):InS A (S1++S2) a:=h.mono fun _ hp=>As _ hp
theorem InS.right (h:InS A S2 a):InS A (S1++S2) a:=h.mono fun _ hp=>Ag _ hp
theorem Xbt (he:EOk K C E Γ Δ m1 S1 te fe)(ha:AOk K C E Γ Δ m2 S2 t f):AOk K C E Γ Δ 0 (S1++S2) (Jx te t) (Dl.Zb fe f):=
  fun H0 Hb H σ ρ A Q I p=>he H0 Hb H σ ρ A _ I (p.bind.imp (fun x q vx H1 g1 r1=>ha H0 Hb H1 σ ρ A _ (I.mono g1) (q.bind.imp (fun ys q vs H2 g2 r2=>by
    obtain ⟨Bx,r1,r1',_⟩:=r1;obtain ⟨By,r2,r2',_⟩:=r2;exact q _ H2 (g1.trans g2) ⟨Bx++By,⟨vx,vs,Bx,By,rfl,r1.same g2,r2,rfl⟩,fun a h=>(An.mp h).elim (fun h=>(r1' a h).imp id InS.left) (fun h=>(r2' a h).imp (fun h=>g1.free h) InS.right),(fun z=>nomatch z)⟩)
    fun c x q H' g'=>q H' (g1.trans g'))) fun c x q H' g'=>q H' g')
theorem Zwa (he:EOk K C E Γ Δ 2 S1 te fe)(ha:AOk K C E Γ Δ 2 S2 t f)(h1:∀p∈S1,p.1∈Δ:=by decide)(h2:∀p∈S1,∀q∈S2,p.1≠q.1:=by decide):AOk K C E Γ Δ 2 (S1++S2) (Jx te t) (Dl.Zb fe f):=
  fun H0 Hb H σ ρ A Q I p=>he H0 Hb H σ ρ A _ I (p.bind.imp (fun x q vx H1 g1 r1=>ha H0 Hb H1 σ ρ A _ (I.mono g1) (q.bind.imp (fun ys q vs H2 g2 r2=>by
    obtain ⟨Bx,r1,r1',_,n1⟩:=r1;obtain ⟨By,r2,r2',n2⟩:=r2;refine q _ H2 (g1.trans g2) ⟨Bx++By,⟨vx,vs,Bx,By,rfl,r1.same g2,r2,rfl⟩,fun a h=>(An.mp h).elim (fun h=>(r1' a h).imp id InS.left) (fun h=>(r2' a h).imp (fun h=>g1.free h) InS.right),fun _=>?_⟩;refine Ct.mpr ⟨n1 rfl,n2 rfl,fun a ha b hb e=>?_⟩;subst e;rcases r2' a hb with z | z;obtain ⟨xs,w,_⟩:=r1.isl a ha;rw [w] at z;cases z
    · obtain ⟨p2,hp2,z⟩:=z.mem;rcases r1' a ha with w | w;exact I.ne z w
      · obtain ⟨p1,hp1,w⟩:=w.mem;exact (I.deep p1.1 (h1 p1 hp1)).2.1 p2.1 (fun e=>h2 p1 hp1 p2 hp2 e.symm) a w z)
    fun c x q H' g'=>q H' (g1.trans g'))) fun c x q H' g'=>q H' g')
theorem Xke (ha:AOk K C E Γ Δ 2 S t f):EOk K C E Γ Δ 2 S (Xky t) (Dl.fA Dl.Zaz f):=
  fun H0 Hb H σ ρ A Q I p=>ha H0 Hb H σ ρ A _ I (p.bind.imp (fun ds q vs H1 g1 r1=>by
    obtain ⟨d,e,q⟩:=Zer q;unfold Dl.Zaz at e;split at e;rename_i hz;cases e;obtain ⟨B,r1,r1',n1⟩:=r1;refine ⟨by rw [r1.len];exact Zde hz,fun p hp=>?_⟩;have g2:=sameNew hp (.lst vs);refine q _ _ (g1.trans g2) ⟨p::B,⟨p,vs,B,rfl,Ym,r1.same g2,rfl⟩,fun a ha=>?_,(fun z=>nomatch z),fun _=>A0.mpr ⟨fun h=>?_,n1 rfl⟩⟩;rcases Af.mp ha with z | z;rw [z];exact .inl (g1.free hp);exact r1' a z;obtain ⟨xs,w,_⟩:=r1.isl p h;rw [w] at hp;cases hp
    · cases e) fun c x q H' g'=>q H' g')
theorem Xbe (ha:AOk K C E Γ Δ m S t f):EOk K C E Γ Δ 1 S (Xky t) (Dl.fA Dl.Zaz f):=
  fun H0 Hb H σ ρ A Q I p=>ha H0 Hb H σ ρ A _ I (p.bind.imp (fun ds q vs H1 g1 r1=>by
    obtain ⟨d,e,q⟩:=Zer q;unfold Dl.Zaz at e;split at e;rename_i hz;cases e;obtain ⟨B,r1,r1',n1⟩:=r1;refine ⟨by rw [r1.len];exact Zde hz,fun p hp=>?_⟩;have g2:=sameNew hp (.lst vs);refine q _ _ (g1.trans g2) ⟨p::B,⟨p,vs,B,rfl,Ym,r1.same g2,rfl⟩,fun a ha=>?_,fun _ a r e=>?_,(fun z=>nomatch z)⟩;rcases Af.mp ha with z | z;rw [z];exact .inl (g1.free hp);exact r1' a z;cases e;refine ⟨g1.free hp,fun h=>?_⟩;obtain ⟨xs,w,_⟩:=r1.isl p h;rw [w] at hp;cases hp
    · cases e) fun c x q H' g'=>q H' g')
theorem Xho (hm:m=0\/m=2)(ha:AOk K C E Γ Δ m S t f):EOk K C E Γ Δ m S (tTup t) (Dl.fA Dl.Zdq f):=
  fun H0 Hb H σ ρ A Q I p=>ha H0 Hb H σ ρ A _ I (p.bind.imp (fun ds q vs H1 g1 r1=>by
    obtain ⟨d,e,q⟩:=Zer q;unfold Dl.Zdq at e;split at e;rename_i hz;cases e;obtain ⟨B,r1,r1',n1⟩:=r1;refine ⟨by rw [r1.len];exact Zde hz,fun p hp=>?_⟩;have g2:=sameNew hp (.tup vs);exact q _ _ (g1.trans g2) ⟨B,⟨p,vs,rfl,Ym,r1.same g2⟩,r1',(fun z=>by omega),n1⟩
    · cases e) fun c x q H' g'=>q H' g')
theorem Xdi {g:List D->Option D}(hg:GAk K C r g)(ha:AOk K C E Γ Δ m S t f):EOk K C E Γ Δ 2 [] (tCB r t) (Dl.fA g f):=
  fun H0 Hb H σ ρ A Q I p=>ha H0 Hb H σ ρ A _ I (p.bind.imp (fun ds q vs H1 g1 r1=>by
    obtain ⟨d,e,q⟩:=Zer q;obtain ⟨B,r1,_⟩:=r1;exact hg H1 ds d vs B Q r1 e fun v H' B' g2 r2 h1 h2=>q v H' (g1.trans g2) (Res.new r2 h1 fun a ha=>g1.free (h2 a ha))) fun c x q H' g'=>q H' g')
theorem RpA.one' {A:List Addr}(r:RpA K C H [d] vs A):∃v,vs=[v]/\Rp K C H d v A:=by obtain ⟨x,l,B,B',e1,e2,e3,e4⟩:=r;obtain ⟨e5,e6⟩:=e3;subst e1 e4 e5 e6;rw [Cf];exact ⟨x,rfl,e2⟩
theorem RpA.two' {e:D}{A:List Addr}(r:RpA K C H [d,e] vs A):∃v w B B',vs=[v,w]/\Rp K C H d v B/\Rp K C H e w B':=by obtain ⟨x,l,B,B',e1,e2,e3,e4⟩:=r;obtain ⟨w,e5,e6⟩:=e3.one';subst e1 e5;exact ⟨x,w,B,B',rfl,e2,e6⟩
theorem Jt:GAk K C (Zcl K) Dl.Zcn:=by
 intro H xs d vs B Q r e q;obtain ⟨x,rfl⟩:=Zty (F:=Dl.Zcn) rfl (fun x _ _=>by cases x<;>rfl) e;obtain ⟨v,rfl,r1⟩:=r.one';cases x with
 | lst xs =>cases (show some (D.int xs.length)=some d from e);obtain ⟨a,ys,B,rfl,e2,e3,_⟩:=r1;refine Znw (SqL.of e2) ?_;rw [e3.len];exact Out.flat q rpI
 | tup xs =>cases (show some (D.int xs.length)=some d from e);obtain ⟨a,ys,rfl,e2,e3⟩:=r1;refine Xgj (SqT.of e2) ?_;rw [e3.len];exact Out.flat q rpI
 | scr xs =>cases (show some (D.int xs.length)=some d from e);obtain ⟨a,rfl,e2,_⟩:=r1;refine Znw e2.sq ?_;rw [Al];exact Out.flat q rpI
 | flst xs =>cases (show some (D.int xs.length)=some d from e);obtain ⟨a,o,ys,rfl,e2,e3,_⟩:=r1;refine Znw (FzL.sq (.inl ⟨o,e2⟩)) ?_;rw [e3.len];exact Out.flat q rpI
 | str z =>have e:(if z.length<=Dl.lim then some (D.int z.length) else none)=some d:=e;by_cases hz:z.length<=Dl.lim;rw [if_pos hz] at e;cases e;obtain ⟨rfl,_⟩:=r1;exact Xhz (Zde hz) (Out.flat q rpI);rw [if_neg hz] at e;exact Zaj e
 | _=>exact Zaj e
def Xbk:List V->Hp->VK->Prop:=fun xs H Q=>∃i j,xs=[.int i,.int j]/\Q (.int (if j<i then j else i)) H
theorem Znl (hc:X.calm=true):Zbg X (.builtin "min") Xbk:=Zvu hc
theorem Zve:GAk K C Xbk Dl.Xlg:=by intro H xs d vs B Q r e q;unfold Dl.Xlg at e;split at e;cases e;obtain ⟨v,w,B,B',rfl,r1,r2⟩:=r.two';obtain ⟨rfl,_⟩:=r1;obtain ⟨rfl,_⟩:=r2;exact ⟨_,_,rfl,Out.flat q rpI⟩;cases e
theorem Xhm:GAk K C (Xax K) Dl.Xiv:=by
 intro H xs d vs B Q r e q;obtain ⟨x,rfl⟩:=Zty (F:=Dl.Xiv) rfl (fun x _ _=>by cases x<;>rfl) e;obtain ⟨v,rfl,r1⟩:=r.one';cases x with
 | lst xs =>obtain ⟨ns,h1,h2⟩:=De.mp e;cases h2;obtain ⟨a,ys,B,rfl,e2,e3,_⟩:=r1;have h:=e3.ofBools h1;subst h;exact Xie (SqL.of e2) (Out.flat q rpB)
 | _=>exact Zaj e
theorem Xht:GAk K C (Zzm K) Dl.Xhu:=by
 intro H xs d vs B Q r e q;obtain ⟨x,rfl⟩:=Zty (F:=Dl.Xhu) rfl (fun x _ _=>by cases x<;>rfl) e;obtain ⟨v,rfl,r1⟩:=r.one';cases x with
 | lst xs =>obtain ⟨ns,h1,h2⟩:=De.mp e;cases h2;obtain ⟨a,ys,B,rfl,e2,e3,_⟩:=r1;have h:=e3.ofBools h1;subst h;exact Xkm (SqL.of e2) (Out.flat q rpB)
 | _=>exact Zaj e
theorem RpA.rng {lo:Int}:RpA K C H (Dl.Ziy lo n) (Xlo lo n) []:=by
 unfold Dl.Ziy Xlo;generalize A7 n=l
 induction l with
 | nil=>exact RpA.nil
 | cons k l ih=>exact ⟨_,_,[],[],rfl,rpI,ih,rfl⟩
theorem Xbb:OOk K C E Γ Δ Zkc Dl.Zba:=fun _ _ H _ _ _ _ _ p=>p H (Xt.refl _)
theorem Zzl {t:TE}{f:FE}(h:EOk K C E Γ Δ m S t f):OOk K C E Γ Δ (Xar t) (Dl.Jw f):=fun H0 Hb H σ ρ A Q I p=>h H0 Hb H σ ρ A _ I (p.bind.imp (fun d q v H' g r=>by
  obtain ⟨B,r,_⟩:=r;cases d with
  | int i =>obtain ⟨rfl,_⟩:=r;exact ⟨i,rfl,q H' g⟩
  | _=>exact q.elim) fun c x q H' g'=>q H' g')
theorem Zre (n d:Nat)(o:Option Int):Dl.Xla n d o=HT.sIx n d o:=by
 cases o with
 | none=>rfl
 | some v =>have h:=HT.clip_eq v n d;show (if v<0 then (max (v+(n:Int)) 0).toNat else min v.toNat n)=_;by_cases hv:v<0;rw [if_pos hv] at h ⊢;omega;rw [if_neg hv] at h ⊢;omega
theorem RpA.cut {ds:List D}{vs:List V}{A:List Addr}(h:Dl.Jg ds=true)(r:RpA K C H ds vs A)(lo hi:Option Int):RpA K C H (Dl.cut ds lo hi) (Xby vs lo hi) []:=by
 unfold Dl.cut Xby
 rw [Zre,Zre,r.len];exact (r.flatDrop h _).flatTake (Zsz h _) _
theorem Zyy (ns:List Int)(lo hi:Option Int):Xby (ns.map V.int) lo hi=(Dl.cut ns lo hi).map V.int:=by
 unfold Dl.cut Xby
 rw [Zre,Zre,Al,Gw,GR]
theorem Xmr (ha:EOk K C E Γ Δ m S ta fa)(hl:OOk K C E Γ Δ tl fl)(hh:OOk K C E Γ Δ th fh):EOk K C E Γ Δ 2 [] (tSl (rSlL K) ta tl th) (Dl.fSl Dl.gSl fa fl fh):=
  fun H0 Hb H σ ρ A Q I p=>ha H0 Hb H σ ρ A _ I (p.bind.imp (fun x q vx H1 g1 r1=>hl H0 Hb H1 σ ρ A _ (I.mono g1) (q.bind.imp (fun lo q H2 g2=>hh H0 Hb H2 σ ρ A _ (I.mono (g1.trans g2)) (q.bind.imp (fun hi q H3 g3=>by
    obtain ⟨d,e,q⟩:=Zer q;obtain ⟨B,r1,_⟩:=r1;have r1:=r1.same (g2.trans g3);have g13:=g1.trans (g2.trans g3);have out:Out K C H3 d Q:=fun v H' B g4 r h1 h2=>q v H' (g13.trans g4) (Res.new r h1 fun a ha=>g13.free (h2 a ha));unfold Dl.gSl at e;split at e;split at e;rename_i hf;cases e;obtain ⟨a,ys,B,rfl,e2,e3,_⟩:=r1;exact Zvl (SqL.of e2) fun p hp=>Out.lst out (e3.cut hf _ _) hp;cases e;cases e;obtain ⟨a,rfl,e2,_⟩:=r1;refine Zvl e2.sq fun p hp=>?_;rw [Zyy];exact Out.lst out RpA.ints hp;split at e;rename_i hf;cases e;obtain ⟨a,o,ys,rfl,e2,e3,_⟩:=r1;exact Zvl (FzL.sq (.inl ⟨o,e2⟩)) fun p hp=>Out.lst out (e3.cut hf _ _) hp;cases e
    · cases e) fun c x q H' g'=>q H' ((g1.trans g2).trans g'))) fun c x q H' g'=>q H' (g1.trans g'))) fun c x q H' g'=>q H' g')
theorem Xed {t:TE}{f:FE}(h:EOk K C E Γ Δ m S t f):∀(H0 Hb H:Hp) (σ:St) (ρ:Yp) (A:Nat->List Addr) (Q:Bool->Hp->Prop),Zs K C H0 Hb H Γ Δ σ ρ A->
    Yo (Dl.cE f ρ) (fun b=>∀H',Xt H H'->Q b H') (fun c x=>∀H',Xt H H'->EC C E c x H')->t σ H fun x H'=>∃k,x=.bl k/\Q k H':=fun H0 Hb H σ ρ A Q I p=>h H0 Hb H σ ρ A _ I (p.bind.imp (fun d q v H' g r=>by
  obtain ⟨B,r,_⟩:=r;cases d with
  | bl b =>obtain ⟨rfl,_⟩:=r;exact ⟨b,rfl,q H' g⟩
  | _=>exact q.elim) fun c x q H' g'=>q H' g')
theorem Zpr {t:TE}{f:FE}(h:EOk K C E Γ Δ m S t f):TOk K C E Γ Δ (Zof t) (Dl.cE f):=Xed h
theorem tok_B {t:TE}{f:FE}(h:EOk K C E Γ Δ m S t f):TOk K C E Γ Δ (tB t) (Dl.cE f):=Xed h
theorem Xjx {t:TT}{f:FT}(h:TOk K C E Γ Δ t f):TOk K C E Γ Δ (tNot t) (Dl.Zlc f):=fun H0 Hb H σ ρ A Q I p=>h H0 Hb H σ ρ A _ I (p.bind.imp (fun b q H' g=>q H' g) fun c x q H' g'=>q H' g')
theorem Xfa {t u:TT}{f g:FT}(h:TOk K C E Γ Δ t f)(h':TOk K C E Γ Δ u g):TOk K C E Γ Δ (tAnd t u) (Dl.Zxy f g):=fun H0 Hb H σ ρ A Q I p=>h H0 Hb H σ ρ A _ I (p.bind.imp (fun b q H' g'=>by
  cases b with
  | true=>exact h' H0 Hb H' σ ρ A Q (I.mono g') (Yo.imp q (fun b q H2 g2=>q H2 (g'.trans g2)) fun c x q H2 g2=>q H2 (g'.trans g2))
  | false=>exact q H' g') fun c x q H' g'=>q H' g')
theorem Xpa {t u:TT}{f g:FT}(h:TOk K C E Γ Δ t f)(h':TOk K C E Γ Δ u g):TOk K C E Γ Δ (tOr t u) (Dl.cOr f g):=fun H0 Hb H σ ρ A Q I p=>h H0 Hb H σ ρ A _ I (p.bind.imp (fun b q H' g'=>by
  cases b with
  | false=>exact h' H0 Hb H' σ ρ A Q (I.mono g') (Yo.imp q (fun b q H2 g2=>q H2 (g'.trans g2)) fun c x q H2 g2=>q H2 (g'.trans g2))
  | true=>exact q H' g') fun c x q H' g'=>q H' g')
theorem Xgk:TOk K C E Γ Δ Zya Dl.Zjg:=fun _ _ H _ _ _ _ _ p=>p H (Xt.refl _)
theorem EOk.run {t:TE}{f:FE}(h:EOk K C E Γ Δ m S t f)(I:Zs K C H0 Hb H Γ Δ σ ρ A)(g:Xt H H1)
  (p:Yo (f ρ) (fun d=>∀v H',Xt H H'->Res K C m S H A d v H'->Q v H') (fun c x=>∀H',Xt H H'->EC C E c x H')):t σ H1 Q:=
 h H0 Hb H1 σ ρ A Q (I.mono g) (p.imp (fun d q v H2 g2 r=>q v H2 (g.trans g2) (r.later g (Xt.refl _))) fun c x q H2 g2=>q H2 (g.trans g2))
theorem Xfd {tb:TE}(ha:EOk K C E Γ Δ m1 S1 ta fa)(hb:EOk K C E Γ Δ m S tb fb):EOk K C E Γ Δ m S (Xbr ta tb) (Dl.Ztl fa fb):=fun H0 Hb H σ ρ A Q I p=>ha H0 Hb H σ ρ A _ I (p.bind.imp (fun d q v H' g r=>by
  obtain ⟨B,r,_⟩:=r;cases d with
  | bl b =>
    obtain ⟨rfl,_⟩:=r;refine ⟨b,rfl,?_⟩;cases b with
    | true=>exact hb.run I g q
    | false=>exact q _ H' g (Res.flat rpB)
  | _=>exact q.elim) fun c x q H' g'=>q H' g')
theorem Xlx {tb:TE}(ha:EOk K C E Γ Δ m1 S1 ta fa)(hb:EOk K C E Γ Δ m S tb fb):EOk K C E Γ Δ m S (tOrV ta tb) (Dl.fOr fa fb):=fun H0 Hb H σ ρ A Q I p=>ha H0 Hb H σ ρ A _ I (p.bind.imp (fun d q v H' g r=>by
  obtain ⟨B,r,_⟩:=r;cases d with
  | bl b =>
    obtain ⟨rfl,_⟩:=r;refine ⟨b,rfl,?_⟩;cases b with
    | false=>exact hb.run I g q
    | true=>exact q _ H' g (Res.flat rpB)
  | _=>exact q.elim) fun c x q H' g'=>q H' g')
theorem Xkw (ha:EOk K C E Γ Δ m1 S1 ta fa):EOk K C E Γ Δ 2 [] (Xaf ta) (Dl.f1 Dl.Xlb fa):=fun H0 Hb H σ ρ A Q I p=>ha H0 Hb H σ ρ A _ I (p.bind.imp (fun d q v H' g r=>by
  obtain ⟨B,r,_⟩:=r;cases d with
  | bl b =>obtain ⟨rfl,_⟩:=r;exact ⟨b,rfl,q _ H' g (Res.flat rpB)⟩
  | _=>exact q.elim) fun c x q H' g'=>q H' g')
theorem Xqr {tb:TE}{fc:FT}(hc:TOk K C E Γ Δ tc fc)(ha:EOk K C E Γ Δ m S ta fa)(hb:EOk K C E Γ Δ m S tb fb):EOk K C E Γ Δ m S (tIf tc ta tb) (Dl.fIf fc fa fb):=
  fun H0 Hb H σ ρ A Q I p=>hc H0 Hb H σ ρ A _ I (p.bind.imp (fun b q H' g=>by
    cases b with
    | true=>exact ha.run I g q
    | false=>exact hb.run I g q) fun c x q H' g'=>q H' g')
theorem Zns {r:R2}{tb tc:TE}(hg:GOk K C r g)(hg':GOk K C r' g')(hbl:∀x y d,g x y=some d->∃b,d=.bl b)(ha:EOk K C E Γ Δ m1 S1 ta fa)(hb:EOk K C E Γ Δ m2 S2 tb fb)(hc:EOk K C E Γ Δ m3 S3 tc fc) :
    EOk K C E Γ Δ 2 [] (Zio r r' ta tb tc) (Dl.Je g g' fa fb fc):=
  fun H0 Hb H σ ρ A Q I p=>ha H0 Hb H σ ρ A _ I (p.bind.imp (fun x q vx H1 g1 r1=>hb H0 Hb H1 σ ρ A _ (I.mono g1) (q.bind.imp (fun y q vy H2 g2 r2=>by
    obtain ⟨z,e,q⟩:=Zer q.bind;obtain ⟨Bx,r1,_⟩:=r1;obtain ⟨By,r2,_⟩:=r2;obtain ⟨b,rfl⟩:=hbl _ _ _ e;refine hg H2 x y _ vx vy Bx By _ (r1.same g2) r2 e fun v H3 B g3 r3 _ _=>?_;obtain ⟨rfl,_⟩:=r3;refine ⟨b,rfl,?_⟩;have g03:=g1.trans (g2.trans g3);cases b with
    | false=>exact q _ H3 g03 (Res.flat rpB)
    | true =>
      refine hc H0 Hb H3 σ ρ A _ (I.mono g03) (q.bind.imp (fun w q vw H4 g4 r4=>?_) fun c x q H' g'=>q H' (g03.trans g'));obtain ⟨d,e',q⟩:=Zer q;obtain ⟨Bw,r4,_⟩:=r4;exact hg' H4 y w d vy vw By Bw Q (r2.same (g3.trans g4)) r4 e' fun v H' B g5 r5 h1 h2=>q v H' (g03.trans (g4.trans g5)) (Res.new r5 h1 fun a ha=>(g03.trans g4).free (h2 a ha)))
    fun c x q H' g'=>q H' (g1.trans g'))) fun c x q H' g'=>q H' g')
theorem Znr {x y:D}(h:Dl.gLe x y=some d):∃b,d=.bl b:=by unfold Dl.gLe at h;split at h<;>cases h;exact ⟨_,rfl⟩
def spD (K:AB)(C:String->Addr)(n mr:Nat)(F:List D->R D):Sp:=fun vs H Q E=>∃ds B,ds.length=n/\RpA K C H ds vs B/\
 Yo (F ds) (fun d=>∀v H',Xt H H'->Res K C mr [] H (fun _=>[]) d v H'->Q v H') (fun c x=>∀H',Xt H H'->EC C E c x H')
theorem InS.none (h:InS A [] a):False:=by obtain ⟨p,hp,_⟩:=h;cases hp
theorem Res.reA (r:Res K C m [] H A d v H'):Res K C m S H A' d v H':=by obtain ⟨B,r1,r2,r3,r4⟩:=r;exact ⟨B,r1,fun a ha=>(r2 a ha).imp id fun h=>h.none.elim,r3,r4⟩
theorem Zyx (ha:AOk K C E Γ Δ m S t f)(hn:∀ρ ds,f ρ=.ok ds->ds.length=n):EOk K C E Γ Δ mr [] (Zso (spD K C n mr F) [] E t) (Dl.Xe F f):=
  fun H0 Hb H σ ρ A Q I p=>Xka (ha H0 Hb H σ ρ A _ I (by
    have p':=p.bind;cases e:f ρ with
    | bad=>rw [e] at p';exact p'
    | err c x=>rw [e] at p';exact p'
    | ok ds =>
      rw [e] at p';intro vs H1 g1 r1;obtain ⟨B,r1,_⟩:=r1;exact ⟨ds,B,hn ρ ds e,r1,Yo.imp p' (fun d q v H' g2 r=>q v H' (g1.trans g2) ((r.later g1 (Xt.refl _)).reA)) fun c x q H' g'=>q H' (g1.trans g')⟩))
theorem Xil (ρ:Yp)(ds:List D)(h:Dl.Zr ρ=.ok ds):ds.length=0:=by cases h;rfl
theorem Zqj (hf:∀ρ ds,f ρ=.ok ds->ds.length=n)(ρ:Yp)(ds:List D)(h:Dl.Zb fe f ρ=.ok ds):ds.length=n+1:=by
 unfold Dl.Zb at h;cases e:fe ρ with
 | ok x =>
  rw [e] at h;cases e':f ρ with
  | ok xs =>rw [e'] at h;cases h;rw [AK,hf ρ xs e']
  | err c x=>rw [e'] at h;cases h
  | bad=>rw [e'] at h;cases h
 | err c x=>rw [e] at h;cases h
 | bad=>rw [e] at h;cases h
def Goes (K:AB)(C:String->Addr)(J:It)(ds:List D)(Hb:Hp):Prop:=∀H2,Xt Hb H2->(∀i,i<ds.length->J.go i H2)/\(∀i,ds.length<=i->J.stop i H2)/\
 ∀i x H3,i<ds.length->J.yld i H2 x H3->Xt H2 H3/\∃d B,ds[i]?=some d/\Rp K C H3 d x B/\∀a∈B,Hb a≠none
def IOk (K:AB)(C:String->Addr)(E:XK)(Γ Δ:List Nat)(S:List (Nat×Bool))(wi:TI)(f:FI):Prop:=∀(H0 Hb H:Hp) (σ:St) (ρ:Yp) (A:Nat->List Addr) (Rr:It->Hp->Prop),Zs K C H0 Hb H Γ Δ σ ρ A->
  Yo (f ρ) (fun ds=>∀J H' W,Xt H H'->(∀a∈W,(∃o,H' a=some o/\IsM o)/\(H a=none\/InS A S a))->ds.length<=Dl.lim->
    (∀Hc,Agree W H' Hc->Goes K C J ds Hc)->Rr J H') (fun c x=>∀H',Xt H H'->EC C E c x H')->wi σ H Rr
theorem Zka (r:RpA K C Hc ds vs B)(h:∀H2,Xt Hc H2->(∀i,i<vs.length->J.go i H2)/\(∀i,vs.length<=i->J.stop i H2)/\∀i x H3,J.yld i H2 x H3->H3=H2/\(i<vs.length->vs[i]?=some x)):Goes K C J ds Hc:=fun H2 g=>by obtain ⟨h1,h2,h3⟩:=h H2 g;have hl:=r.len;refine ⟨fun i hi=>h1 i (by omega),fun i hi=>h2 i (by omega),fun i x H3 hi y=>?_⟩;obtain ⟨e,y2⟩:=h3 i x H3 y;subst e;obtain ⟨d,Bd,q1,q2,q3⟩:=r.get' (y2 (by omega));refine ⟨Xt.refl _,d,Bd,q1,q2.same g,fun a ha z=>?_⟩;obtain ⟨xs,e,_⟩:=q2.isl a ha;rw [e] at z;cases z
theorem Zhu (r:RpA K C Hc ds vs B)(h:∀H2,Xt Hc H2->SqL K H2 a vs):Goes K C (Itl K a) ds Hc:=Zka r fun H2 g=>by have q:=h H2 g;exact ⟨fun i hi=>⟨vs,vs[i],q,by simp [hi]⟩,fun i hi=>⟨vs,q,hi⟩,fun i x H3 y=>⟨y.1,fun _=>y.2 vs q⟩⟩
theorem Xae (r:RpA K C Hc ds vs B)(h:∀H2,Xt Hc H2->SqT K H2 a vs):Goes K C (Itt K a) ds Hc:=Zka r fun H2 g=>by have q:=h H2 g;exact ⟨fun i hi=>⟨vs,vs[i],q,by simp [hi]⟩,fun i hi=>⟨vs,q,hi⟩,fun i x H3 y=>⟨y.1,fun _=>y.2 vs q⟩⟩
theorem Zyt {lo:Int}:Goes K C (Itr lo n) (Dl.Ziy lo n) Hc:=Zka (vs:=Xlo lo n) RpA.rng fun H2 _=>by
 have hl:(Xlo lo n).length=n:=by simp [Xlo]
 refine ⟨fun i hi=>by rw [hl] at hi;exact hi,fun i hi=>by rw [hl] at hi;exact hi,fun i x H3 y=>⟨y.1,fun hi=>?_⟩⟩;rw [hl] at hi;rw [y.2];simp [Xlo,hi]
theorem FzL.keep (h:FzL K H a xs)(hk:∀b o,H b=some o->¬IsM o->Hb b=some o):FzL K Hb a xs:=by rcases h with ⟨o,h⟩ | h;exact .inl ⟨o,hk a _ h (fun z=>by cases z)⟩;exact .inr h
theorem FzL.same (h:FzL K H a xs)(g:Xt H Hb):FzL K Hb a xs:=h.keep fun b o q _=>g b o q
theorem Xct {t:TE}{f:FE}(h:EOk K C E Γ Δ m S t f):IOk K C E Γ Δ S (Zzd K t) (Dl.Zbo f):=fun H0 Hb H σ ρ A Rr I p=>h H0 Hb H σ ρ A _ I (p.bind.imp (fun d q v H' g r=>by
  obtain ⟨B,r,r',_⟩:=r;cases d with
  | lst ds =>obtain ⟨a,xs,B',rfl,e2,e3,e4⟩:=r;subst e4;simp only at q;split at q;rename_i hl;refine ⟨a,rfl,⟨xs,SqL.of e2⟩,q _ H' (a::B') g (fun b hb=>?_) hl fun Hc h1=>Zhu (e3.agree h1 fun b hb=>.tail _ hb) fun H2 g2=>SqL.of (g2 _ _ ((h1.1 a (.head _)).trans e2))⟩;rcases Af.mp hb with z | z;rw [z];exact ⟨⟨_,e2,.lst⟩,r' a (.head _)⟩;exact ⟨e3.isl b z,r' b (.tail _ z)⟩;exact q.elim
  | scr ns =>obtain ⟨a,rfl,e2,_⟩:=r;simp only at q;split at q;rename_i hl;exact ⟨a,rfl,⟨_,e2.sq⟩,q _ H' [] g (fun b hb=>nomatch hb) (by rw [Al];exact hl) fun Hc h2=>Zhu RpA.ints fun H2 g2=>((e2.keep h2.2).same g2).sq⟩;exact q.elim
  | flst ds =>obtain ⟨a,o,xs,rfl,e2,e3,_⟩:=r;simp only at q;split at q;rename_i hl;exact ⟨a,rfl,⟨xs,FzL.sq (.inl ⟨o,e2⟩)⟩,q _ H' [] g (fun b hb=>nomatch hb) hl fun Hc h2=>Zhu (e3.agree h2 fun b hb=>hb) fun H2 g2=>(((FzL.keep (.inl ⟨o,e2⟩) h2.2)).same g2).sq⟩;exact q.elim
  | _=>exact q.elim) fun c x q H' g'=>q H' g')
theorem Xid {t:TE}{f:FE}(h:EOk K C E Γ Δ m S t f):IOk K C E Γ Δ S (Xml K t) (Dl.Xlk f):=fun H0 Hb H σ ρ A Rr I p=>h H0 Hb H σ ρ A _ I (p.bind.imp (fun d q v H' g r=>by
  obtain ⟨B,r,r',_⟩:=r;cases d with
  | tup ds =>obtain ⟨a,xs,rfl,e2,e3⟩:=r;simp only at q;split at q;rename_i hl;exact ⟨a,rfl,⟨xs,SqT.of e2⟩,q _ H' B g (fun b hb=>⟨e3.isl b hb,r' b hb⟩) hl fun Hc h2=>Xae (e3.agree h2 fun b hb=>hb) fun H2 g2=>SqT.of (g2 _ _ (h2.2 a _ e2 fun z=>by cases z))⟩;exact q.elim
  | _=>exact q.elim) fun c x q H' g'=>q H' g')
theorem Zzi (lo:Int)(n:Nat):(Dl.Ziy lo n).length=n:=by simp [Dl.Ziy]
theorem Xcl (h:AOk K C E Γ Δ m S t f):IOk K C E Γ Δ [] (Zyv t) (Dl.Zhp f):=fun H0 Hb H σ ρ A Rr I p=>h H0 Hb H σ ρ A _ I (p.bind.imp (fun ds q vs H' g r=>by
  obtain ⟨B,r,_⟩:=r;split at q;split at q;rename_i hl;obtain ⟨v,rfl,r1⟩:=r.one';obtain ⟨rfl,_⟩:=r1;exact ⟨_,rfl,by omega,by omega,q _ H' [] g (fun b hb=>nomatch hb) (by rw [Zzi];show _<=1000000;omega) fun Hc _=>Zyt⟩;exact q.elim
  · exact q.elim) fun c x q H' g'=>q H' g')
theorem Zpp {k:Nat}{g:TG}(go:Goes K C J ds Hc)(Pv:Nat->Hp->Prop)(h0:Pv 0 (upd H Dd (.lst [])))(hb:∀i H,Pv i H->Xt Hc H)
    (hs:∀i d x B H H3,ds[i]?=some d->Pv i H->Xt H H3->Rp K C H3 d x B->(∀a∈B,Hc a≠none)->∀os:St,os.length=k->g x (σ++os) H3 fun σ' Hg=>(∃os',os'.length=k/\σ'=σ++os')/\tc σ' Hg fun b H2=>if b=true then te σ' H2 fun v H3=>∃ys,H3 Dd=some (.lst ys)/\ys.length<Ai/\Pv (i+1) (upd H3 Dd (.lst (ys++[v]))) else Pv (i+1) H2)
    (hd:∀H,Pv ds.length H->Rr H) :
    ∃W:Nat->Nat->Hp->Prop,(∃m,W 0 m (upd H Dd (.lst [])))/\∀i m H,W i m H->
      (J.stop i H/\Rr H)\/(J.go i H/\∃N:Hp->Prop,(∀H',N H'->∃m',m'<m/\W (i+1) m' H')/\∀x H',J.yld i H x H'->∀os:St,os.length=k->g x (σ++os) H' fun σ' Hg=>(∃os',os'.length=k/\σ'=σ++os')/\tc σ' Hg fun b H2 =>
        if b=true then te σ' H2 fun v H3=>∃ys,H3 Dd=some (.lst ys)/\ys.length<Ai/\N (upd H3 Dd (.lst (ys++[v])))
        else N H2):=by
  refine ⟨fun i m H=>m=ds.length - i/\i<=ds.length/\Pv i H,⟨ds.length,by simp,BC _,h0⟩,?_⟩;rintro i m H1 ⟨rfl,hi,p⟩;obtain ⟨g1,g2,g3⟩:=go H1 (hb i H1 p);by_cases hlt:i<ds.length;refine .inr ⟨g1 i hlt,Pv (i+1),fun H' p'=>⟨ds.length - (i+1),by omega,rfl,hlt,p'⟩,fun x H' y=>?_⟩;obtain ⟨e,d,B,y1,y2,y3⟩:=g3 i x H' hlt y;exact hs i d x B H1 H' y1 p e y2 y3;have e:i=ds.length:=by omega
  subst e;exact .inl ⟨g2 _ (AF _),hd H1 p⟩
theorem Xkf {g:TG}{tb:TS}{Dd:Ends}(go:Goes K C J ds Hc)(Pv:Nat->St->Hp->Prop)(h0:Pv 0 σ H)(hb:∀i σ H,Pv i σ H->Xt Hc H)
  (hs:∀i d x B σ H H3,ds[i]?=some d->Pv i σ H->Xt H H3->Rp K C H3 d x B->(∀a∈B,Hc a≠none)->g x σ H3 fun σ2 H2=>tb {Dd with nx:=Pv (i+1),ct:=Pv (i+1),bk:=Dd.nx} σ2 H2) (hd:∀σ H,Pv ds.length σ H->Dd.nx σ H) :
  ∃W:Nat->Nat->St->Hp->Prop,(∃m,W 0 m σ H)/\∀i m σ H,W i m σ H->
   (J.stop i H/\Dd.nx σ H)\/(J.go i H/\∃N:St->Hp->Prop,(∀σ' H',N σ' H'->∃m',m'<m/\W (i+1) m' σ' H')/\∀x H',J.yld i H x H'->g x σ H' fun σ2 H2=>tb {Dd with nx:=N,ct:=N,bk:=Dd.nx} σ2 H2):=by
 refine ⟨fun i m σ H=>m=ds.length - i/\i<=ds.length/\Pv i σ H,⟨ds.length,by simp,BC _,h0⟩,?_⟩;rintro i m σ H1 ⟨rfl,hi,p⟩;obtain ⟨g1,g2,g3⟩:=go H1 (hb i σ H1 p);by_cases hlt:i<ds.length;refine .inr ⟨g1 i hlt,Pv (i+1),fun σ' H' p'=>⟨ds.length - (i+1),by omega,rfl,hlt,p'⟩,fun x H' y=>?_⟩;obtain ⟨e,d,B,y1,y2,y3⟩:=g3 i x H' hlt y;exact hs i d x B σ H1 H' y1 p e y2 y3;have e:i=ds.length:=by omega
 subst e;exact .inl ⟨g2 _ (AF _),hd σ H1 p⟩
theorem Zs.more (I:Zs K C H0 Hb H Γ Δ σ ρ A)(os:St):Zs K C H H H [] [] (σ++os) (ρ++Aa os.length none) A:=by refine ⟨Xt.refl _,Xt.refl _,by rw [AE,AE,I.len,DA],fun i e h=>?_,fun i h=>?_,(fun _ h=>nomatch h),(fun _ h=>nomatch h),(fun _ h=>nomatch h)⟩;by_cases hi:i<ρ.length;rw [AT hi] at h;obtain ⟨w,q1,q2⟩:=I.rep i e h;refine ⟨w,?_,q2⟩;rw [AT (by rw [I.len];exact hi)];exact q1;rw [B4 (by omega)] at h;have hm:=A5 h;rw [C2] at hm;exact absurd hm.2 (by intro z;cases z);refine I.nil i fun e h'=>h e ?_;rw [AT (Ah.mp h').1];exact h'
def NOk (K:AB)(C:String->Addr)(n k:Nat)(g:TG)(b:FB):Prop:=∀(H:Hp) (σ os:St) (ρ:Yp) (A:Nat->List Addr) (d:D) (v:V) (B:List Addr) (Rr:St->Hp->Prop),σ.length=n->os.length=k->Zs K C H H H [] [] (σ++os) ρ A->Rp K C H d v B->
 Yo (b d ρ) (fun ρ'=>∀os' A',os'.length=k->Zs K C H H H [] [] (σ++os') ρ' A'->Rr (σ++os') H) (fun _ _=>False)->g v (σ++os) H Rr
def NsOk (K:AB)(C:String->Addr)(n k:Nat)(g:TGs)(b:List D->Yp->R Yp):Prop:=∀(H:Hp) (σ os:St) (ρ:Yp) (A:Nat->List Addr) (d:List D) (v:List V) (B:List Addr) (Rr:St->Hp->Prop),σ.length=n->os.length=k->Zs K C H H H [] [] (σ++os) ρ A->RpA K C H d v B->
 Yo (b d ρ) (fun ρ'=>∀os' A',os'.length=k->Zs K C H H H [] [] (σ++os') ρ' A'->Rr (σ++os') H) (fun _ _=>False)->g v (σ++os) H Rr
theorem Zti (k:Nat)(b:FB)(c:FT)(e:FE)(ρ:Yp)(xs:List D){x:D}(h:xs[i]?=some x):Dl.Zfv k b c e ρ (xs.drop i)=(b x (ρ++Aa k none)).calm.bind fun ρ1=>(c ρ1).bind fun t=>if t then (e ρ1).bind fun y=>(Dl.Zfv k b c e ρ (xs.drop (i+1))).bind fun ys=>.ok (y::ys) else Dl.Zfv k b c e ρ (xs.drop (i+1)):=by obtain ⟨hi,rfl⟩:=Ah.mp h;rw [Ca hi];rfl
theorem Zeo {r:R α}{ok:α->Prop}(h:Yo r.calm ok er):Yo r ok (fun _ _=>False):=by
 cases r with
 | ok a=>exact h
 | err c x=>exact h
 | bad=>exact h
theorem get_set {l:List α}{x y:α}(h:(l.set i x)[j]?=some y):(j=i/\i<l.length/\y=x)\/(j≠i/\l[j]?=some y):=by by_cases e:i=j;subst e;rw [List.getElem?_set_self'] at h;by_cases hi:i<l.length;rw [AH hi] at h;simp at h;exact .inl ⟨rfl,hi,h.symm⟩;rw [List.getElem?_eq_none (by omega)] at h;cases h;rw [BZ e] at h;exact .inr ⟨fun z=>e z.symm,h⟩
theorem Zs.put (I:Zs K C H0 Hb H Γ Δ σ ρ A)(r:Rp K C H d v B)
  (h1:∀j∈Γ',j≠i->j∈Γ/\∀a l,A j=a::l->a∉B)
  (h2:i∈Γ'->(∀a∈B,H0 a=none)/\∀a l,B=a::l->Hb a=none/\a∉l/\∀j,j≠i->a∉A j)
  (h3:∀j∈Δ',j≠i->j∈Δ/\∀a∈A j,a∉B)
  (h4:i∈Δ'->B.Nodup/\(∀j,j≠i->∀a∈B,a∉A j)/\∀a∈B,Hb a=none):∃A',Zs K C H0 Hb H Γ' Δ' (σ.set i (some v)) (ρ.set i (some d)) A'/\∀j a,a∈A' j->a∈B\/a∈A j:=by
 by_cases hi:i<ρ.length;refine ⟨fun j=>if j=i then B else A j,⟨I.s0,I.same,by rw [CM,CM,I.len],fun j e h=>?_,fun j h=>?_,fun j hj a ha=>?_,fun j hj a l e=>?_,fun j hj=>?_⟩,fun j a ha=>?_⟩;rcases get_set h with ⟨e1,_,e2⟩ | ⟨e1,e2⟩;subst e1;cases e2;refine ⟨v,?_,by rw [if_pos rfl];exact r⟩;rw [B6 (by rw [I.len];exact hi)];obtain ⟨w,q1,q2⟩:=I.rep j e e2;refine ⟨w,?_,by rw [if_neg e1];exact q2⟩;rw [BZ (fun z=>e1 z.symm)];exact q1;by_cases e:j=i;subst e;exact absurd (B6 hi) (h d);rw [if_neg e];refine I.nil j fun x hx=>h x ?_;rw [BZ (fun z=>e z.symm)];exact hx;by_cases e:j=i;subst e;rw [if_pos rfl] at ha;exact (h2 hj).1 a ha;rw [if_neg e] at ha;exact I.loc j (h1 j hj e).1 a ha;by_cases e':j=i;subst e';rw [if_pos rfl] at e;obtain ⟨q0,q1,q2⟩:=(h2 hj).2 a l e;refine ⟨q0,q1,fun k hk=>?_⟩;rw [if_neg hk];exact q2 k hk;rw [if_neg e'] at e;obtain ⟨q0,q⟩:=h1 j hj e';obtain ⟨q3,q1,q2⟩:=I.top j q0 a l e;refine ⟨q3,q1,fun k hk=>?_⟩;by_cases ek:k=i;rw [if_pos ek];exact q a l e;rw [if_neg ek];exact q2 k hk;by_cases e:j=i;subst e;rw [if_pos rfl];obtain ⟨q1,q2,q3⟩:=h4 hj;refine ⟨q1,fun k hk a ha=>?_,q3⟩;rw [if_neg hk];exact q2 k hk a ha;rw [if_neg e];obtain ⟨q0,q⟩:=h3 j hj e;obtain ⟨q1,q2,q3⟩:=I.deep j q0;refine ⟨q1,fun k hk a ha=>?_,q3⟩;by_cases ek:k=i;rw [if_pos ek];exact q a ha;rw [if_neg ek];exact q2 k hk a ha;have ha:a∈(if j=i then B else A j):=ha;by_cases e:j=i;rw [if_pos e] at ha;exact .inl ha;rw [if_neg e] at ha;exact .inr ha;have e1:ρ.set i (some d)=ρ:=E4 (by omega);have e2:σ.set i (some v)=σ:=E4 (by rw [I.len];omega);have e3:A i=[]:=I.nil i fun x h=>by have:=(Ah.mp h).1;omega
 refine ⟨A,?_,fun j a ha=>.inr ha⟩;rw [e1,e2];refine ⟨I.s0,I.same,I.len,I.rep,I.nil,fun j hj a ha=>?_,fun j hj a l e=>?_,fun j hj=>?_⟩;by_cases e:j=i;subst e;rw [e3] at ha;cases ha;exact I.loc j (h1 j hj e).1 a ha;by_cases e':j=i;subst e';rw [e3] at e;cases e;exact I.top j (h1 j hj e').1 a l e;by_cases e:j=i;subst e;rw [e3];exact ⟨BQ,fun _ _ _ h=>(nomatch h),fun _ h=>(nomatch h)⟩;exact I.deep j (h3 j hj e).1
theorem Zs.writeA {es:List D}(I:Zs K C H0 Hb H Γ Δ σ ρ A)(hi:i∈Γ)(hA:A i=a::l)(hl:i<ρ.length)(hs:σ[i]?=some (some (.ref a)))
  (mk:∀H',H' a=some o'->RpA K C H' es ys B'->Rp K C H' d' (.ref a) (a::B')) (r:RpA K C H es ys B') (hn:∀b∈B',H0 b=none) (ha:a∉B')
  (h1:∀j∈Γ',j≠i->j∈Γ/\∀b l,A j=b::l->b∉B')
  (h2:∀j∈Δ',j≠i->j∈Δ/\∀b∈A j,b∉B')
  (h3:i∈Δ'->B'.Nodup/\(∀j,j≠i->∀b∈B',b∉A j)/\∀b∈B',Hb b=none):∃A',Zs K C H0 Hb (upd H a o') Γ' Δ' σ (ρ.set i (some d')) A'/\∀j b,b∈A' j->b∈a::B'\/b∈A j:=by
 obtain ⟨xs,hxs,hm⟩:=I.is (j:=i) (a:=a) (by rw [hA];exact .head _);have hne:∀j,j≠i->a∉A j:=(I.top i hi a l hA).2.2;have hb0:Hb a=none:=(I.top i hi a l hA).1;have h0:H0 a=none:=I.loc i hi a (by rw [hA];exact .head _);have ext:Ext (fun b=>b=a) H (upd H a o'):=fun b o h=>by by_cases e:b=a;subst e;rw [hxs] at h;cases h;exact .inr ⟨rfl,hm⟩;rw [Xl e];exact .inl h
 refine ⟨fun j=>if j=i then a::B' else A j,⟨I.s0,fun b o h=>?_,by rw [CM,I.len],fun j e h=>?_,fun j h=>?_,fun j hj b hb=>?_,fun j hj b l' e=>?_,fun j hj=>?_⟩,fun j b hb=>?_⟩;rw [Xl (Xw h hb0)];exact I.same b o h;rcases get_set h with ⟨e1,_,e2⟩ | ⟨e1,e2⟩;subst e1;cases e2;refine ⟨.ref a,hs,?_⟩;rw [if_pos rfl];exact mk _ Ym (r.ext ext (fun b hb h=>ha (by rw [h] at hb;exact hb)));obtain ⟨w,q1,q2⟩:=I.rep j e e2;refine ⟨w,q1,?_⟩;rw [if_neg e1];exact q2.ext ext fun b hb h=>hne j e1 (by rw [h] at hb;exact hb);by_cases e:j=i;subst e;exact absurd (B6 hl) (h _);rw [if_neg e];refine I.nil j fun x hx=>h x ?_;rw [BZ (fun z=>e z.symm)];exact hx;by_cases e:j=i;subst e;rw [if_pos rfl] at hb;rcases Af.mp hb with z | z;rw [z];exact h0;exact hn b z;rw [if_neg e] at hb;exact I.loc j (h1 j hj e).1 b hb;by_cases e':j=i;subst e';rw [if_pos rfl] at e;cases e;refine ⟨hb0,ha,fun k hk=>?_⟩;rw [if_neg hk];exact hne k hk;rw [if_neg e'] at e;obtain ⟨q0,q⟩:=h1 j hj e';obtain ⟨q3,q1,q2⟩:=I.top j q0 b l' e;refine ⟨q3,q1,fun k hk=>?_⟩;by_cases ek:k=i;rw [if_pos ek];intro z;rcases Af.mp z with z | z;exact hne j e' (by rw [e,z];exact .head _);exact q b l' e z;rw [if_neg ek];exact q2 k hk;by_cases e:j=i;subst e;rw [if_pos rfl];obtain ⟨q1,q2,q3⟩:=h3 hj;refine ⟨A0.mpr ⟨ha,q1⟩,fun k hk b hb=>?_,fun b hb=>?_⟩;rw [if_neg hk];rcases Af.mp hb with z | z;rw [z];exact hne k hk;exact q2 k hk b z;rcases Af.mp hb with z | z;rw [z];exact hb0;exact q3 b z;rw [if_neg e];obtain ⟨q0,q⟩:=h2 j hj e;obtain ⟨q1,q2,q3⟩:=I.deep j q0;refine ⟨q1,fun k hk b hb=>?_,q3⟩;by_cases ek:k=i;rw [if_pos ek];intro z;rcases Af.mp z with z | z;exact hne j e (by rw [<- z];exact hb);exact q b hb z;rw [if_neg ek];exact q2 k hk b hb;by_cases e:j=i;simp only [if_pos e] at hb;exact .inl hb;simp only [if_neg e] at hb;exact .inr hb
theorem Zs.writeO {es:List D}(I:Zs K C H0 Hb H Γ Δ σ ρ A)(hi:i∈Γ)(hA:A i=a::l)(hl:i<ρ.length)(hs:σ[i]?=some (some (.ref a)))
  (mk:∀H',H' a=some o'->RpA K C H' es ys B'->Rp K C H' d' (.ref a) (a::B')) (r:RpA K C H es ys B') (hn:∀b∈B',H0 b=none) (ha:a∉B')
  (h1:∀j∈Γ',j≠i->j∈Γ/\∀b l,A j=b::l->b∉B')
  (h2:∀j∈Δ',j≠i->j∈Δ/\∀b∈A j,b∉B')
  (h3:i∈Δ'->B'.Nodup/\(∀j,j≠i->∀b∈B',b∉A j)/\∀b∈B',Hb b=none):∃A',Zs K C H0 Hb (upd H a o') Γ' Δ' σ (ρ.set i (some d')) A':=
 let ⟨A',h,_⟩:=I.writeA hi hA hl hs mk r hn ha h1 h2 h3;⟨A',h⟩
theorem Zs.write {es:List D}(I:Zs K C H0 Hb H Γ Δ σ ρ A)(hi:i∈Γ)(hA:A i=a::l)(hl:i<ρ.length)(hs:σ[i]?=some (some (.ref a)))
  (r:RpA K C H es ys B') (hn:∀b∈B',H0 b=none) (ha:a∉B')
  (h1:∀j∈Γ',j≠i->j∈Γ/\∀b l,A j=b::l->b∉B')
  (h2:∀j∈Δ',j≠i->j∈Δ/\∀b∈A j,b∉B')
  (h3:i∈Δ'->B'.Nodup/\(∀j,j≠i->∀b∈B',b∉A j)/\∀b∈B',Hb b=none):∃A',Zs K C H0 Hb (upd H a (.lst ys)) Γ' Δ' σ (ρ.set i (some (.lst es))) A':=I.writeO hi hA hl hs (fun _ q1 q2=>⟨a,_,_,rfl,q1,q2,rfl⟩) r hn ha h1 h2 h3
theorem Zyz {k:Nat}(i:Nat)(h1:n<=i)(h2:i<n+k):NOk K C n k (Zcb i) (Dl.Xi i):=fun H σ os ρ A d v B Rr hσ hos I r p=>by
 have e:(σ++os).set i (some v)=σ++os.set (i - n) (some v):=by rw [<- hσ,Dz _ _ (by omega)]
 obtain ⟨A',I',_⟩:=I.put (Γ':=[]) (Δ':=[]) (i:=i) r (fun _ h=>nomatch h) (fun h=>nomatch h) (fun _ h=>nomatch h) (fun h=>nomatch h);show Rr ((σ++os).set i (some v)) H;rw [e] at I' ⊢;exact p _ A' (by rw [CM];exact hos) I'
theorem Zrc {k:Nat}{g:TG}{fb:FB}{fc:FT}(hi:IOk K C E Γ Δ S wi fi)(hg:NOk K C n k g fb)(hc:TOk K C E0 [] [] tc fc)(he:EOk K C E0 [] [] 2 [] te fe):EOk K C E Γ Δ 2 [] (Zaw k g wi tc te) (Dl.Zbq n k fi fb fc fe):=fun H0 Hb H σ ρ A Q I p=>by
  unfold Dl.Zbq at p;split at p
  · rename_i hn;refine hi H0 Hb H σ ρ A _ I (p.bind.imp (fun ds q J H1 W g1 hW hlen hJ Dd hD=>?_) fun c x q H' g'=>q H' g');have I1:=I.mono g1;have go:Goes K C J ds H1:=hJ H1 ⟨fun _ _=>rfl,fun b o h _=>h⟩;have q':=Zeo q.bind;refine Zpp go (fun i H2=>Xt H1 H2/\∃(us:List D) (ys:List V) (B':List Addr),H2 Dd=some (.lst ys)/\us.length<=i/\RpA K C H2 us ys B'/\B'.Nodup/\Dd∉B'/\(∀a∈B',H1 a=none)/\
      Yo (Dl.Zfv k fb fc fe ρ (ds.drop i)) (fun zs=>∀v H',Xt H H'->Res K C 2 [] H A (.lst (us++zs)) v H'->Q v H') (fun _ _=>False)) ⟨sameNew hD _,[],[],[],Ym,AF _,RpA.nil,BQ,(fun h=>nomatch h),(fun _ h=>nomatch h),q'⟩ (fun _ _ h=>h.1) ?_ ?_
    · rintro i x v Bx H2a H2 hx ⟨g2a,us,ys,B',hD2,hul,ru,nd,hDB,hnew,pq⟩ g2b rx _ os hos;have g2:=g2a.trans g2b;have hil:=(Ah.mp hx).1;rw [Zti _ _ _ _ _ _ hx] at pq;have I2:=(I1.mono g2).more os;have pq':=Zeo pq.bind;rw [<- hos] at pq';refine hg H2 σ os _ A x v Bx _ (by rw [I.len,hn]) hos I2 rx (pq'.imp (fun ρ1 pq os1 A1 ho1 I3=>⟨⟨os1,ho1,rfl⟩,?_⟩) fun _ _ z=>z);refine hc H2 H2 H2 _ _ _ _ I3 (pq.bind.imp (fun b pq H3 g3=>?_) fun _ _ z=>z.elim);have hD2':=g2b _ _ hD2;have ru':=ru.same g2b;cases b with
      | false =>simp only [A8,if_false] at pq ⊢;rw [hos] at pq;exact ⟨g2.trans g3,us,ys,B',g3 _ _ hD2',by omega,ru'.same g3,nd,hDB,hnew,pq⟩
      | true =>
        simp only [if_true] at pq ⊢;refine he H2 H2 H3 _ _ _ _ (I3.mono g3) (pq.bind.imp (fun y pq w H4 g4 r4=>?_) fun _ _ z=>z.elim);rw [hos] at pq;obtain ⟨By,ry,hy1,_,hy2⟩:=r4;have g24:=g3.trans g4;have hD4:=g24 _ _ hD2';have hnewy:∀a∈By,H3 a=none:=fun a ha=>(hy1 a ha).elim id fun z=>z.none.elim;have hDy:Dd∉By:=fun h=>by have z:=hnewy Dd h;rw [g3 _ _ hD2'] at z;cases z
        have ext:Ext (fun a=>a=Dd) H4 (upd H4 Dd (.lst (ys++[w]))):=fun b o h=>by by_cases e:b=Dd;subst e;rw [hD4] at h;cases h;exact .inr ⟨rfl,.lst⟩;rw [Xl e];exact .inl h
        have hDB':Dd∉B'++By:=fun h=>(An.mp h).elim hDB hDy;refine ⟨ys,hD4,?_,?_,us++[y],ys++[w],B'++By,Ym,by rw [AE];simp;omega,?_,?_,hDB',?_,?_⟩;rw [ru.len];exact Zhg (by omega);intro b o h;have hb:b≠Dd:=Xw h hD;rw [Xl hb];exact (g2.trans g24) b o h;exact ((ru'.same g24).app (RpA.one ry)).ext ext fun a ha h=>hDB' (by rw [h] at ha;exact ha);refine Ct.mpr ⟨nd,hy2 rfl,fun a ha b hb e=>?_⟩;subst e;obtain ⟨xs,z,_⟩:=(ru'.same g3).isl a ha;rw [hnewy a hb] at z;cases z;intro a ha;rcases An.mp ha with h | h;exact hnew a h;exact (g2.trans g3).free (hnewy a h)
        · exact pq.bind.imp (fun zs pq v H' g' r=>by
            rw [CG] at r;exact pq v H' g' r) fun _ _ z=>z
    rintro H2 ⟨g2,us,ys,B',hD2,hul,ru,nd,hDB,hnew,pq⟩;rw [DW] at pq;have pq:∀v H',Xt H H'->Res K C 2 [] H A (.lst (us++[])) v H'->Q v H':=pq;rw [Cf] at pq;refine pq _ H2 (g1.trans g2) ⟨Dd::B',⟨Dd,ys,B',rfl,hD2,ru,rfl⟩,fun a ha=>.inl ?_,(fun z=>nomatch z),fun _=>A0.mpr ⟨hDB,nd⟩⟩;rcases Af.mp ha with h | h;rw [h];exact g1.free hD;exact g1.free (hnew a h)
  exact p.elim
theorem Zsu.weak {H0 Hb:Hp}{D:Ends}{r:R Fl}(h:Zsu K C E mr Γl Δl Γ' Δ' H0 Hb D r)(h1:∀i∈Γ',i∈Γ1)(h2:∀i∈Δ',i∈Δ1):Zsu K C E mr Γl Δl Γ1 Δ1 H0 Hb D r:=by
 unfold Zsu at *;refine Yo.imp h (fun fl q=>?_) fun _ _ q=>q;cases fl with
 | nx ρ'=>exact fun σ' H' A' I=>q σ' H' A' (I.weak h1 h2)
 | ret d=>exact q
 | brk ρ'=>exact q
 | cnt ρ'=>exact q
theorem Xaz {t:TS}{f:FS}(h:SOk K C E mr Γl Δl Γ Δ Γ1 Δ1 t f)(h1:∀i∈Γ',i∈Γ1:=by decide)(h2:∀i∈Δ',i∈Δ1:=by decide):SOk K C E mr Γl Δl Γ Δ Γ' Δ' t f:=fun H0 Hb H σ ρ A D I p =>
 h H0 Hb H σ ρ A D I (p.weak h1 h2)
theorem Xrt:SOk K C E mr Γl Δl Γ Δ Γ Δ Zzw Dl.sNx:=fun _ _ H σ _ A _ I p=>p σ H A I
theorem Xfe {t:TS}{f g:FS}(h1:SOk K C E mr Γl Δl Γ Δ Γ1 Δ1 t f)(h2:SOk K C E mr Γl Δl Γ1 Δ1 Γ' Δ' u g):SOk K C E mr Γl Δl Γ Δ Γ' Δ' (tSeq t u) (Dl.Xp f g):=fun H0 Hb H σ ρ A D I p =>
  h1 H0 Hb H σ ρ A _ I (Yo.imp (Yo.bind p) (fun fl q=>by
    cases fl with
    | nx ρ'=>exact fun σ' H' A' I'=>h2 H0 Hb H' σ' ρ' A' D I' q
    | ret d=>exact q
    | brk ρ'=>exact q
    | cnt ρ'=>exact q) fun _ _ q=>q)
theorem Xt.from0 (I:Zs K C H0 Hb H Γ Δ σ ρ A)(g:Xt H H'):Xt H0 H':=I.s0.trans (I.same.trans g)
theorem Zs.top_out (I:Zs K C H0 Hb H Γ Δ σ ρ A)(hj:j∈Γ)(hS:(j,false)∉S)(e:A j=a::l):¬InS A S a:=fun h=>by
 obtain ⟨q0,q1,q2⟩:=I.top j hj a l e;obtain ⟨p,hp,q⟩:=h;split at q;by_cases ep:p.1=j;rw [ep,e] at q;exact q1 q;exact q2 p.1 ep (Fs q);rename_i hf;by_cases ep:p.1=j;refine hS ?_;have:p=(j,false):=by obtain ⟨p1,p2⟩:=p;simp at ep hf;rw [ep,hf]
 rw [<- this];exact hp;exact q2 p.1 ep q
theorem Zs.deep_out (I:Zs K C H0 Hb H Γ Δ σ ρ A)(hj:j∈Δ)(hS:∀p∈S,p.1≠j)(e:a∈A j):¬InS A S a:=fun h=>by obtain ⟨p,hp,q⟩:=h.mem;exact (I.deep j hj).2.1 p.1 (hS p hp) a e q
theorem Zkp (he:EOk K C E Γ Δ 2 [] te fe)(h1:∀j∈Γ',j=i\/j∈Γ:=by decide)(h2:∀j∈Δ',j=i\/j∈Δ:=by decide):SOk K C E mr Γl Δl Γ Δ Γ' Δ' (Zkg te (Zcb i)) (Dl.Yw i fe):=fun H0 Hb H σ ρ A D I p =>
  he H0 Hb H σ ρ A _ I (Yo.imp (Yo.bind p) (fun d q v H1 g1 r=>by
    obtain ⟨B,r1,r2,r3,r4⟩:=r;have hn:∀a∈B,H a=none:=fun a ha=>(r2 a ha).elim id fun z=>z.none.elim;have nd:=r4 rfl;obtain ⟨A',I',_⟩:=(I.mono g1).put (Γ':=Γ') (Δ':=Δ') (i:=i) r1 (fun j hj e=>⟨(h1 j hj).elim (fun z=>absurd z e) id,fun a l e' ha=>I.ne (j:=j) (by rw [e'];exact .head _) (hn a ha)⟩)
      (fun _=>⟨fun a ha=>I.s0.free (I.same.free (hn a ha)),fun a l e=>by subst e;exact ⟨I.same.free (hn a (.head _)),(A0.mp nd).1,fun j _ h=>I.ne h (hn a (.head _))⟩⟩)
      (fun j hj e=>⟨(h2 j hj).elim (fun z=>absurd z e) id,fun a ha hB=>I.ne ha (hn a hB)⟩)
      (fun _=>⟨nd,fun j _ a ha h=>I.ne h (hn a ha),fun a ha=>I.same.free (hn a ha)⟩)
    exact q _ H1 A' I') fun c x q H' g'=>q H' (Xt.from0 I g'))
theorem Xcp (he:EOk K C E Γ Δ 2 S te fe)(h0:∀p∈S,p.1∈Δ:=by decide):SOk K C E 2 Γl Δl Γ Δ Γ' Δ' (tRet te) (Dl.Ys fe):=fun H0 Hb H σ ρ A D I p =>
  he H0 Hb H σ ρ A _ I (Yo.imp (Yo.bind p) (fun d q v H1 g1 r=>by
    obtain ⟨B,r1,r2,r3,r4⟩:=r;refine q v H1 (Xt.from0 I g1) ⟨B,r1,fun a ha=>.inl ((r2 a ha).elim (fun z=>I.s0.free (I.same.free z)) fun z=>?_),(fun z=>nomatch z),r4⟩;obtain ⟨p,hp,z⟩:=z.mem;exact I.s0.free ((I.deep p.1 (h0 p hp)).2.2 a z)) fun c x q H' g'=>q H' (Xt.from0 I g'))
theorem Xqh {t:TS}{fc:FT}{f g:FS}(hc:TOk K C E Γ Δ tc fc)(h1:SOk K C E mr Γl Δl Γ Δ Γ' Δ' t f)(h2:SOk K C E mr Γl Δl Γ Δ Γ' Δ' u g):SOk K C E mr Γl Δl Γ Δ Γ' Δ' (tIfS tc t u) (Dl.sIf fc f g):=fun H0 Hb H σ ρ A D I p =>
  hc H0 Hb H σ ρ A _ I (Yo.imp (Yo.bind p) (fun b q H1 g1=>by
    cases b with
    | true=>exact h1 H0 Hb H1 σ ρ A D (I.mono g1) q
    | false=>exact h2 H0 Hb H1 σ ρ A D (I.mono g1) q) fun c x q H' g'=>q H' (Xt.from0 I g'))
theorem Zqx (I:Zs K C H0 Hb H Γ Δ σ ρ A)(e:ρ[i]?=some (some (.lst ds))):∃a xs l,σ[i]?=some (some (.ref a))/\H a=some (.lst xs)/\RpA K C H ds xs l/\A i=a::l/\i<ρ.length:=by obtain ⟨v,q1,a,xs,l,rfl,q3,q4,q5⟩:=I.rep i _ e;exact ⟨a,xs,l,q1,q3,q4,q5,(Ah.mp e).1⟩
theorem Xcw (hi:i∈Γ:=by decide)(he:EOk K C E Γ Δ 2 [] te fe):SOk K C E mr Γl Δl Γ Δ Γ Δ (Zzf (tBM K "list" Zhm (Ztk i) (Jx te Ziu))) (Dl.Zsw i fe):=fun H0 Hb H σ ρ A D I p=>by
  unfold Dl.Zsw at p;split at p
  · rename_i ds e;obtain ⟨a,xs,l,s1,h1,r1,hA,hl⟩:=Zqx I e;refine ⟨.ref a,s1,.inl ⟨rfl,xs,SqL.of h1⟩,he H0 Hb H σ ρ A _ I (Yo.imp (Yo.bind p) (fun d q v H1 g1 r=>?_) fun c x q H' g'=>q H' (Xt.from0 I g'))⟩;split at q
    · rename_i hz;obtain ⟨B,r2,r3,_,r4⟩:=r;have hn:∀a∈B,H a=none:=fun a ha=>(r3 a ha).elim id fun z=>z.none.elim;have h1':=g1 _ _ h1;show Zhm (.ref a) [v] H1 fun _ H3=>D.nx σ H3;refine Xoj h1' (by rw [r1.len];exact Zhg hz) ?_;obtain ⟨tb,ta,tt⟩:=I.top i hi a l hA;have I1:=I.mono g1;have haB:a∉B:=fun z=>by have:=hn a z;rw [h1] at this;cases this
      have w1:∀b∈l++B,H0 b=none:=fun b hb=>by rcases An.mp hb with z | z;exact I.loc i hi b (by rw [hA];exact .tail _ z);exact I.s0.free (I.same.free (hn b z))
      have w2:∀j∈Γ,j≠i->j∈Γ/\∀b l',A j=b::l'->b∉l++B:=fun j hj e=>⟨hj,fun b l' e' z=>by
        rcases An.mp z with z | z;exact (I.top j hj b l' e').2.2 i (fun w=>e w.symm) (by rw [hA];exact .tail _ z)
        · exact I.ne (j:=j) (by rw [e'];exact .head _) (hn b z)⟩
      have w3:∀j∈Δ,j≠i->j∈Δ/\∀b∈A j,b∉l++B:=fun j hj e=>⟨hj,fun b hb z=>by
        rcases An.mp z with z | z;exact (I.deep j hj).2.1 i (fun w=>e w.symm) b hb (by rw [hA];exact .tail _ z)
        · exact I.ne hb (hn b z)⟩
      have w4:i∈Δ->(l++B).Nodup/\(∀j,j≠i->∀b∈l++B,b∉A j)/\∀b∈l++B,Hb b=none:=fun hd=>by obtain ⟨d1,d2,d3⟩:=I.deep i hd;rw [hA] at d1 d2 d3;refine ⟨Ct.mpr ⟨(A0.mp d1).2,r4 rfl,fun x hx y hy e=>?_⟩,fun j hj b hb=>?_,fun b hb=>?_⟩;subst e;exact I.ne (j:=i) (by rw [hA];exact .tail _ hx) (hn x hy);rcases An.mp hb with z | z;exact d2 j hj b (.tail _ z);exact fun w=>I.ne w (hn b z);rcases An.mp hb with z | z;exact d3 b (.tail _ z);exact I.same.free (hn b z)
      obtain ⟨A',I'⟩:=I1.write (Γ':=Γ) (Δ':=Δ) hi hA hl s1 ((r1.same g1).app (RpA.one r2)) w1 (fun z=>(An.mp z).elim ta haB) w2 w3 w4;exact q _ _ A' I'
    exact q.elim
  exact p.elim
def BOk (K:AB)(C:String->Addr)(Γ Δ:List Nat)(g:TG)(b:FB):Prop:=∀(H0 Hb H:Hp) (σ:St) (ρ:Yp) (A:Nat->List Addr) (d:D) (v:V) (B:List Addr) (Rr:St->Hp->Prop),Zs K C H0 Hb H Γ Δ σ ρ A->Rp K C H d v B->(∀a∈B,Hb a≠none)->
 Yo (b d ρ) (fun ρ'=>∀σ' A',Zs K C H0 Hb H Γ Δ σ' ρ' A'->Rr σ' H) (fun _ _=>False)->g v σ H Rr
def Xrj (K:AB)(C:String->Addr)(Γ Δ:List Nat)(g:TGs)(b:List D->Yp->R Yp):Prop:=∀(H0 Hb H:Hp) (σ:St) (ρ:Yp) (A:Nat->List Addr) (d:List D) (v:List V) (B:List Addr) (Rr:St->Hp->Prop),Zs K C H0 Hb H Γ Δ σ ρ A->RpA K C H d v B->(∀a∈B,Hb a≠none)->
 Yo (b d ρ) (fun ρ'=>∀σ' A',Zs K C H0 Hb H Γ Δ σ' ρ' A'->Rr σ' H) (fun _ _=>False)->g v σ H Rr
theorem Xbu (h1:i∉Γ:=by decide)(h2:i∉Δ:=by decide):BOk K C Γ Δ (Zcb i) (Dl.Xi i):=fun H0 Hb H σ ρ A d v B Rr I r hB p=>by obtain ⟨A',I',_⟩:=I.put (Γ':=Γ) (Δ':=Δ) (i:=i) r (fun j hj e=>⟨hj,fun a l e' ha=>hB a ha (I.top j hj a l e').1⟩) (fun hj=>absurd hj h1) (fun j hj e=>⟨hj,fun a ha hb=>hB a hb ((I.deep j hj).2.2 a ha)⟩) (fun hj=>absurd hj h2);exact p _ A' I'
theorem Xkp:Xrj K C Γ Δ Xlh Dl.Zvz:=fun H0 Hb H σ ρ A d v B Rr I r hB p=>by
 cases d with
 | nil=>exact ⟨r.1,p _ A I⟩
 | cons _ _=>exact p.elim
theorem Xan {g:TG}{b:FB}{bs:List D->Yp->R Yp}(h1:BOk K C Γ Δ g b)(h2:Xrj K C Γ Δ gs bs):Xrj K C Γ Δ (Zsa g gs) (Dl.Zdy b bs):=fun H0 Hb H σ ρ A d v B Rr I r hB p=>by
 cases d with
 | nil=>exact p.elim
 | cons d ds =>obtain ⟨x,l,B1,B2,e1,e2,e3,e4⟩:=r;subst e1 e4;refine ⟨x,l,rfl,h1 H0 Hb H σ ρ A d x B1 _ I e2 (fun a ha=>hB a (As _ ha)) (Yo.imp (Yo.bind p) (fun ρ1 q σ1 A1 I1=>?_) fun _ _ z=>z)⟩;exact h2 H0 Hb H σ1 ρ1 A1 ds l B2 Rr I1 e3 (fun a ha=>hB a (Ag _ ha)) q
theorem Xfo {bs:List D->Yp->R Yp}(hn:∀ds ρ ρ',bs ds ρ=.ok ρ'->ds.length=n)(h:Xrj K C Γ Δ gs bs):BOk K C Γ Δ (Zdq K n gs) (Dl.Zxz bs):=fun H0 Hb H σ ρ A d v B Rr I r hB p=>by
 cases d with
 | tup ds =>
  obtain ⟨a,xs,rfl,e2,e3⟩:=r;have hl:xs.length=n:=by
   rw [e3.len];have p':Yo (bs ds ρ) (fun ρ'=>∀σ' A',Zs K C H0 Hb H Γ Δ σ' ρ' A'->Rr σ' H) (fun _ _=>False):=p;cases e:bs ds ρ with
   | ok ρ'=>exact hn ds ρ ρ' e
   | err _ _=>rw [e] at p';exact p'.elim
   | bad=>rw [e] at p';exact p'.elim
  exact ⟨a,xs,rfl,SqT.of e2,hl,h H0 Hb H σ ρ A ds xs B Rr I e3 hB p⟩
 | _=>exact p.elim
theorem Xdv (ds:List D)(ρ ρ':Yp)(h:Dl.Zvz ds ρ=.ok ρ'):ds.length=0:=by
 cases ds with
 | nil=>rfl
 | cons _ _=>cases h
theorem Zxh {b:FB}{bs:List D->Yp->R Yp}(hb:∀ds ρ ρ',bs ds ρ=.ok ρ'->ds.length=n)(ds:List D)(ρ ρ':Yp)(h:Dl.Zdy b bs ds ρ=.ok ρ'):ds.length=n+1:=by
 cases ds with
 | nil=>cases h
 | cons d ds =>
  have h:((b d ρ).bind fun ρ'=>bs ds ρ')=.ok ρ':=h;cases e:b d ρ with
  | ok ρ1 =>rw [e] at h;rw [AK,hb ds ρ1 ρ' h]
  | err _ _=>rw [e] at h;cases h
  | bad=>rw [e] at h;cases h
def ownAt (A:Nat->List Addr)(Γ Δ:List Nat):List Addr:=Γ.flatMap (fun i=>(A i).take 1)++Δ.flatMap A
theorem Zkj (h:a∈ownAt A Γ Δ):(∃i∈Γ,∃l,A i=a::l)\/∃i∈Δ,a∈A i:=by
 rcases An.mp h with h | h;obtain ⟨i,hi,h⟩:=Dp.mp h;left;refine ⟨i,hi,?_⟩;cases e:A i with
 | nil=>rw [e] at h;cases h
 | cons b l =>rw [e] at h;simp only [List.take_succ_cons,List.take_zero,Ak] at h;rw [h];exact ⟨l,rfl⟩
 obtain ⟨i,hi,h⟩:=Dp.mp h;exact .inr ⟨i,hi,h⟩
theorem Xgc (hi:i∈Γ)(e:A i=a::l):a∈ownAt A Γ Δ:=As _ (Dp.mpr ⟨i,hi,by rw [e];simp⟩)
theorem Zzr (hi:i∈Δ)(h:a∈A i):a∈ownAt A Γ Δ:=Ag _ (Dp.mpr ⟨i,hi,h⟩)
theorem Zrq (b:FB)(s:FS)(xs:List D){x:D}(h:xs[i]?=some x)(ρ:Yp):Dl.Zeb b s (xs.drop i) ρ=(b x ρ).calm.bind fun ρ1=>(s ρ1).bind fun fl=>match fl with
  | .nx ρ2=>Dl.Zeb b s (xs.drop (i+1)) ρ2
  | .cnt ρ2=>Dl.Zeb b s (xs.drop (i+1)) ρ2
  | .brk ρ2=>.ok (.nx ρ2)
  | .ret d=>.ok (.ret d):=by
 obtain ⟨hi,rfl⟩:=Ah.mp h;rw [Ca hi];rfl
theorem Xfw {g:TG}{tb:TS}{fb:FB}{fs:FS}(hi:IOk K C E Γ Δ S wi fi)(hb:BOk K C Γl Δl g fb)(hs:SOk K C E mr Γl Δl Γl Δl Γl Δl tb fs)
    (h1:∀i∈Γl,i∈Γ:=by decide) (h2:∀i∈Δl,i∈Δ:=by decide) (h3:∀p∈S,p.1∉Γl/\p.1∉Δl:=by decide):SOk K C E mr Γk Δk Γ Δ Γl Δl (tFor wi g tb) (Dl.Znt fi fb fs):=fun H0 Hb H σ ρ A D I p=>by
  refine hi H0 Hb H σ ρ A _ I (Yo.imp (Yo.bind p) (fun ds q J H1 W g1 hW hlen hJ=>?_) fun c x q H' g'=>q H' (Xt.from0 I g'));have I1:=(I.mono g1).weak h1 h2;have hlst:∀a∈ownAt A Γl Δl,∃o,H1 a=some o/\IsM o:=fun a ha=>by rcases Zkj ha with ⟨i,_,l,e⟩ | ⟨i,_,e⟩;exact I1.is (j:=i) (by rw [e];exact .head _);exact I1.is e
  have hbn:∀a∈ownAt A Γl Δl,Hb a=none:=fun a ha=>by rcases Zkj ha with ⟨i,hi,l,e⟩ | ⟨i,hi,e⟩;exact (I1.top i hi a l e).1;exact (I1.deep i hi).2.2 a e
  have hout:∀a∈W,a∉ownAt A Γl Δl:=fun a ha ho=>by rcases (hW a ha).2 with z | z;rcases Zkj ho with ⟨i,hi,l,e⟩ | ⟨i,hi,e⟩;exact I.ne (j:=i) (by rw [e];exact .head _) z;exact I.ne e z;rcases Zkj ho with ⟨i,hi,l,e⟩ | ⟨i,hi,e⟩;exact I1.top_out hi (fun h=>(h3 _ h).1 hi) e z;exact I1.deep_out hi (fun p hp e'=>(h3 p hp).2 (by rw [e'];exact hi)) e z
  let Hc:Hp:=fun b=>if b∈ownAt A Γl Δl then none else H1 b
  have c1:Xt Hc H1:=fun b o h=>by show H1 b=some o;have h:(if b∈ownAt A Γl Δl then none else H1 b)=some o:=h;split at h;cases h;exact h
  have c2:Xt Hb Hc:=fun b o h=>by show (if b∈ownAt A Γl Δl then none else H1 b)=some o;rw [if_neg fun ho=>by rw [hbn b ho] at h;cases h];exact I1.same b o h
  have c3:∀a,a∉ownAt A Γl Δl->Hc a=H1 a:=fun a ha=>if_neg ha;have c4:∀a∈ownAt A Γl Δl,Hc a=none:=fun a ha=>if_pos ha;have I2:Zs K C H0 Hc H1 Γl Δl σ ρ A:=⟨I1.s0.trans c2,c1,I1.len,I1.rep,I1.nil,I1.loc,fun i hi a l e=>⟨c4 a (Xgc hi e),(I1.top i hi a l e).2⟩,fun i hi=>⟨(I1.deep i hi).1,(I1.deep i hi).2.1,fun a ha=>c4 a (Zzr hi ha)⟩⟩;have back:∀{σ':St} {ρ':Yp} {H':Hp} {A':Nat->List Addr},Zs K C H0 Hc H' Γl Δl σ' ρ' A'->Zs K C H0 Hb H' Γl Δl σ' ρ' A':=fun I' =>
    ⟨I1.s0,c2.trans I'.same,I'.len,I'.rep,I'.nil,I'.loc,fun i hi a l e=>⟨c2.free (I'.top i hi a l e).1,(I'.top i hi a l e).2⟩,fun i hi=>⟨(I'.deep i hi).1,(I'.deep i hi).2.1,fun a ha=>c2.free ((I'.deep i hi).2.2 a ha)⟩⟩
  have go:Goes K C J ds Hc:=hJ Hc ⟨fun a ha=>c3 a (hout a ha),fun b o h hn=>(c3 b fun ho=>by
    obtain ⟨xs,e,hm⟩:=hlst b ho;rw [e] at h;cases h;exact hn hm).trans h⟩
  refine Xkf go (fun k σ' H'=>∃ρ' A',Zs K C H0 Hc H' Γl Δl σ' ρ' A'/\Zsu K C E mr Γk Δk Γl Δl H0 Hb D (Dl.Zeb fb fs (ds.drop k) ρ')) ⟨ρ,A,I2,q⟩ (fun _ _ _ ⟨_,_,I',_⟩=>I'.same) ?_ ?_;rintro k d x Bx σ' Ha H' hd ⟨ρ',A',Ia,pq⟩ ga rx hBx;have I':=Ia.mono ga;rw [Zrq _ _ _ hd] at pq;have pq':=Zeo (Yo.bind pq);refine hb H0 Hc H' σ' ρ' A' d x Bx _ I' rx hBx (Yo.imp pq' (fun ρ1 pq σ1 A1 I1'=>?_) fun _ _ z=>z);refine hs H0 Hc H' σ1 ρ1 A1 _ I1' (Yo.imp (Yo.bind pq) (fun fl pq=>?_) fun _ _ z=>z);cases fl with
  | nx ρ2=>exact fun σ2 H2 A2 I2'=>⟨ρ2,A2,I2',pq⟩
  | cnt ρ2=>exact fun σ2 H2 A2 I2'=>⟨ρ2,A2,I2',pq⟩
  | brk ρ2=>exact fun σ2 H2 A2 I2'=>pq σ2 H2 A2 (back I2')
  | ret d=>exact pq
  rintro σ' H' ⟨ρ',A',I',pq⟩;rw [DW] at pq;exact pq σ' H' A' (back I')
theorem Zwn (r:RpA K C H ds vs B):∃A,Zs K C H H H [] [] (vs.map some++Aa (N - vs.length) none) (ds.map some++Aa (N - ds.length) none) A:=by
 have hl:=r.len;have key:∀{ds:List D} {vs:List V} {B:List Addr},RpA K C H ds vs B->∃A:Nat->List Addr,(∀(i:Nat) d,ds[i]?=some d->∃v,vs[i]?=some v/\Rp K C H d v (A i))/\∀i,ds.length<=i->A i=[]:=by
  intro ds
  induction ds with
  | nil=>intro vs B r;exact ⟨fun _=>[],fun i d h=>by simp at h,fun _ _=>rfl⟩
  | cons d ds ih =>
   intro vs B r;obtain ⟨x,l,B1,B2,e1,e2,e3,e4⟩:=r;obtain ⟨A,h1,h2⟩:=ih e3;subst e1;refine ⟨fun i=>match i with | 0=>B1 | i+1=>A i,fun i d' h=>?_,fun i h=>?_⟩;cases i with
   | zero=>simp at h;subst h;exact ⟨x,rfl,e2⟩
   | succ i=>simp at h;obtain ⟨v,q1,q2⟩:=h1 i d' h;exact ⟨v,by simpa using q1,q2⟩
   cases i with
   | zero=>simp at h
   | succ i=>exact h2 i (by simpa using h)
 obtain ⟨A,h1,h2⟩:=key r;refine ⟨A,Xt.refl _,Xt.refl _,by simp [hl],fun i d h=>?_,fun i h=>?_,(fun _ h=>nomatch h),(fun _ h=>nomatch h),(fun _ h=>nomatch h)⟩;by_cases hi:i<ds.length;rw [AT (by simpa using hi),Bu] at h;obtain ⟨d',hd,e⟩:=AD.mp h;cases e;obtain ⟨v,q1,q2⟩:=h1 i d hd;refine ⟨v,?_,q2⟩;rw [AT (by simp [hl,hi]),Bu,q1];rfl;rw [B4 (by simpa using hi)] at h;have:=A5 h;rw [C2] at this;exact absurd this.2 (by intro z;cases z);by_cases hi:i<ds.length;exact absurd (by rw [AT (by simpa using hi),Bu,AH hi];rfl) (h ds[i]);exact h2 i (by omega)
theorem Zqk {t:TS}{f:FS}(h:SOk K C E mr [] [] [] [] Γ' Δ' t f)(r:RpA K C H ds vs B)
  (p:Yo (Dl.run N f ds) (fun d=>∀v H',Xt H H'->Res K C mr [] H (fun _=>[]) d v H'->Q v H') (fun c x=>∀H',Xt H H'->EC C E c x H')) :
  t {nx:=fun _ H'=>Q .non H',rt:=Q} (vs.map some++Aa (N - vs.length) none) H:=by
 obtain ⟨A,I⟩:=Zwn (N:=N) r;refine h H H H _ _ A _ I (Yo.imp (Yo.bind p) (fun fl q=>?_) fun _ _ q=>q);cases fl with
 | nx ρ'=>exact fun σ' H' A' I'=>q _ H' I'.same (Res.flat ⟨rfl,rfl⟩)
 | ret d=>exact q
 | brk _=>exact q.elim
 | cnt _=>exact q.elim
end
structure JE (X:Cx)(C:String->Addr)(E:XK)(Γ Δ:List Nat)(m:Nat)(S:List (Nat×Bool))(e:Expr)(t:TE)(f:FE):Prop where
 q:QE X e t
 o:EOk X.K C E Γ Δ m S t f
structure JT (X:Cx)(C:String->Addr)(E:XK)(Γ Δ:List Nat)(e:Expr)(t:TT)(f:FT):Prop where
 q:QT X e t
 o:TOk X.K C E Γ Δ t f
structure JW (X:Cx)(C:String->Addr)(E:XK)(Γ Δ:List Nat)(e:Expr)(t:TT)(f:FT):Prop where
 q:QW X e t
 o:TOk X.K C E Γ Δ t f
structure JA (X:Cx)(C:String->Addr)(E:XK)(Γ Δ:List Nat)(m:Nat)(S:List (Nat×Bool))(e:List Expr)(n:Nat)(t:TA)(f:FA):Prop where
 q:QA X e t
 o:AOk X.K C E Γ Δ m S t f
 n:∀ρ ds,f ρ=.ok ds->ds.length=n
structure JO (X:Cx)(C:String->Addr)(E:XK)(Γ Δ:List Nat)(e:Option Expr)(t:TO)(f:FO):Prop where
 q:QO X e t
 o:OOk X.K C E Γ Δ t f
structure JI (X:Cx)(C:String->Addr)(E:XK)(Γ Δ:List Nat)(S:List (Nat×Bool))(tg e:Expr)(t:TI)(f:FI):Prop where
 q:QI X tg e t
 o:IOk X.K C E Γ Δ S t f
structure JG (X:Cx)(C:String->Addr)(Γ Δ:List Nat)(e:Expr)(t:TG)(f:FB):Prop where
 q:QG X e t
 o:BOk X.K C Γ Δ t f
structure JGs (X:Cx)(C:String->Addr)(Γ Δ:List Nat)(es:List Expr)(n:Nat)(t:TGs)(f:List D->Yp->R Yp):Prop where
 q:QGs X es t
 o:Xrj X.K C Γ Δ t f
 n:∀ds ρ ρ',f ds ρ=.ok ρ'->ds.length=n
structure JS (X:Cx)(C:String->Addr)(E:XK)(mr:Nat)(Γl Δl Γ Δ Γ' Δ':List Nat)(s:Stmt)(t:TS)(f:FS):Prop where
 q:QS X s t
 o:SOk X.K C E mr Γl Δl Γ Δ Γ' Δ' t f
structure JSs (X:Cx)(C:String->Addr)(E:XK)(mr:Nat)(Γl Δl Γ Δ Γ' Δ':List Nat)(s:List Stmt)(t:TS)(f:FS):Prop where
 q:QSs X s t
 o:SOk X.K C E mr Γl Δl Γ Δ Γ' Δ' t f
structure JIf (X:Cx)(C:String->Addr)(E:XK)(Γ Δ:List Nat)(e:List Expr)(t:TT)(f:FT):Prop where
 q:QIf X e t
 o:TOk X.K C E Γ Δ t f
section
variable {S:List (Nat×Bool)}{a c:Expr}{rest:List Expr}{tb tc:TE}{fs:FE}
theorem Zd {i:Int}:JE X C E Γ Δ 2 [] (.Constant (.int i) j pos) (tC (.int i)) (Dl.fC (.int i)):=⟨Xqj,Zsb fun _=>rpI⟩
theorem Zoo {i:Bool}:JE X C E Γ Δ 2 [] (.Constant (.bool i) j pos) (tC (.bl i)) (Dl.fC (.bl i)):=⟨qe_bl,Zsb fun _=>rpB⟩
theorem Zah :JE X C E Γ Δ 2 [] (.Constant .none j pos) (tC .non) (Dl.fC .non):=⟨Xou,Zsb fun _=>⟨rfl,rfl⟩⟩
theorem Zp (h:AC x=true:=by decide +kernel):JE X C E Γ Δ 2 [] (.Constant (.str x) j pos) (tC (.str x)) (Dl.fC (.str x)):=⟨Xdu,Zsb fun _=>⟨rfl,h,rfl⟩⟩
theorem Zo (i:Nat)(hN:X.N[i]?=some x:=by rfl)(hv:autoParam (Vis X.env.scope x) aT3._auto_1)(hd:(x==("__debug__":Str))=false:=by decide)
  (hcd:(x==("__classdict__":Str))=false:=by decide):JE X C E Γ Δ 0 [(i,false)] (.Name x pos) (Ztk i) (Dl.fV i):=⟨qv i hN hv hd hcd,eok_v⟩
theorem Ztc (i:Nat)(hi:i∈Δ:=by decide)(hN:X.N[i]?=some x:=by rfl)(hv:autoParam (Vis X.env.scope x) aT3._auto_1)(hd:(x==("__debug__":Str))=false:=by decide)
  (hcd:(x==("__classdict__":Str))=false:=by decide):JE X C E Γ Δ 2 [(i,false)] (.Name x pos) (Ztk i) (Dl.fV i):=⟨qv i hN hv hd hcd,Xqe hi⟩
theorem Xy (h:JE X C E Γ Δ m S e te fe):JE X C E Γ Δ 2 [] e te (Dl.f1 Dl.Yf fe):=⟨h.q,Xau h.o⟩
theorem Zv {op:HH}{r:R2}(ho:OpR X (BS op) r)(hg:GOk X.K C r g)(ha:JE X C E Γ Δ m1 S1 a ta fa)(hb:JE X C E Γ Δ m2 S2 b tb fb):JE X C E Γ Δ 2 [] (.BinOp a op b pos) (tOp r ta tb) (Dl.f2 g fa fb):=⟨qe_op ho ha.q hb.q,Zup hg ha.o hb.o⟩
theorem Zje {r:R2}(ho:OpR X (AA op) r)(hg:GOk X.K C r g)(ha:JE X C E Γ Δ m1 S1 a ta fa)(hb:JE X C E Γ Δ m2 S2 b tb fb)(hm:B3 op b=false):JE X C E Γ Δ 2 [] (.Compare a [op] [b] pos) (tOp r ta tb) (Dl.f2 g fa fb):=⟨Xgp ho ha.q hb.q hm,Zup hg ha.o hb.o⟩
theorem Xf {r:R2}(ho:OpR X (AA op) r)(hg:GOk X.K C r g)(ha:JE X C E Γ Δ m1 S1 a ta fa)(hb:JE X C E Γ Δ m2 S2 b tb fb)(hm:B3 op b=false):JT X C E Γ Δ (.Compare a [op] [b] pos) (Zof (tOp r ta tb)) (Dl.cE (Dl.f2 g fa fb)):=⟨Xey ho ha.q hb.q hm,Zpr (Zup hg ha.o hb.o)⟩
theorem Zfh {r:R2}(ho:OpR X (AA op) r)(ho':OpR X (AA op') r')(hg:GOk X.K C r g)(hg':GOk X.K C r' g')(hbl:∀{x y d},g x y=some d->∃b,d=.bl b)(ha:JE X C E Γ Δ m1 S1 a ta fa)(hb:JE X C E Γ Δ m2 S2 b tb fb)(hc:JE X C E Γ Δ m3 S3 c tc fc)
  (hm:D5 [op,op'] [b,c]=false:=by with_unfolding_all rfl):JE X C E Γ Δ 2 [] (.Compare a [op,op'] [b,c] pos) (Zio r r' ta tb tc) (Dl.Je g g' fa fb fc):=⟨Zza ho ho' ha.q hb.q hc.q hm,Zns hg hg' (fun _ _ _=>hbl) ha.o hb.o hc.o⟩
theorem Zfj {r:R2}(ho:OpR X (AA op) r)(ho':OpR X (AA op') r')(hg:GOk X.K C r g)(hg':GOk X.K C r' g')(hbl:∀{x y d},g x y=some d->∃b,d=.bl b)(ha:JE X C E Γ Δ m1 S1 a ta fa)(hb:JE X C E Γ Δ m2 S2 b tb fb)(hc:JE X C E Γ Δ m3 S3 c tc fc)
  (hm:D5 [op,op'] [b,c]=false:=by with_unfolding_all rfl):JT X C E Γ Δ (.Compare a [op,op'] [b,c] pos) (Zof (Zio r r' ta tb tc)) (Dl.cE (Dl.Je g g' fa fb fc)):=⟨Xcd ho ho' ha.q hb.q hc.q hm,Zpr (Zns hg hg' (fun _ _ _=>hbl) ha.o hb.o hc.o)⟩
theorem Zqo {op:BoolOp}(h:JE X C E Γ Δ m S a ta fa):JE X C E Γ Δ m S (.BoolOp op [a] pos) ta fa:=⟨Xms h.q,h.o⟩
theorem Zrk (ha:JE X C E Γ Δ m1 S1 a ta fa)(hb:JE X C E Γ Δ m S (.BoolOp .And (b::rest) pos) tb fb):JE X C E Γ Δ m S (.BoolOp .And (a::b::rest) pos) (Xbr ta tb) (Dl.Ztl fa fb):=⟨Xnz ha.q hb.q,Xfd ha.o hb.o⟩
theorem ce_or (ha:JE X C E Γ Δ m1 S1 a ta fa)(hb:JE X C E Γ Δ m S (.BoolOp .Or (b::rest) pos) tb fb):JE X C E Γ Δ m S (.BoolOp .Or (a::b::rest) pos) (tOrV ta tb) (Dl.fOr fa fb):=⟨qe_or ha.q hb.q,Xlx ha.o hb.o⟩
theorem Xqn (ha:JE X C E Γ Δ m1 S1 a ta fa):JE X C E Γ Δ 2 [] (.UnaryOp .Not a pos) (Xaf ta) (Dl.f1 Dl.Xlb fa):=⟨Xpg ha.q,Xkw ha.o⟩
theorem ce_if {fA:FT}(hc:JT X C E Γ Δ c tA fA)(ha:JE X C E Γ Δ m S a ta fa)(hb:JE X C E Γ Δ m S b tb fb):JE X C E Γ Δ m S (.IfExp c a b pos) (tIf tA ta tb) (Dl.fIf fA fa fb):=⟨Zyh hc.q ha.q hb.q,Xqr hc.o ha.o hb.o⟩
theorem Zcz (h:JE X C E Γ Δ m S e te fe)(he:∀whole,isTrue e X.env whole=(do let v <- whole;EA e.pos;Cj [v] (truthy v)):=by intro _;rfl):JT X C E Γ Δ e (tB te) (Dl.cE fe):=⟨Xmt h.q he,tok_B h.o⟩
theorem Zch {fA:FT}(ha:JT X C E Γ Δ a tA fA):JT X C E Γ Δ (.UnaryOp .Not a pos) (tNot tA) (Dl.Zlc fA):=⟨Xmh ha.q,Xjx ha.o⟩
theorem Zos {fA:FT}(ha:JT X C E Γ Δ a tA fA):JW X C E Γ Δ (.BoolOp .And [a] pos) tA fA:=⟨Xhr ha.q,ha.o⟩
theorem Zgs {fA:FT}(ha:JT X C E Γ Δ a tA fA):JW X C E Γ Δ (.BoolOp .Or [a] pos) tA fA:=⟨Xow ha.q,ha.o⟩
theorem Zww {fA:FT}(ha:JT X C E Γ Δ a tA fA)(hb:JW X C E Γ Δ (.BoolOp .And (b::rest) pos) tB' fB):JW X C E Γ Δ (.BoolOp .And (a::b::rest) pos) (tAnd tA tB') (Dl.Zxy fA fB):=⟨Xpf ha.q hb.q,Xfa ha.o hb.o⟩
theorem Zir {fA:FT}(ha:JT X C E Γ Δ a tA fA)(hb:JW X C E Γ Δ (.BoolOp .Or (b::rest) pos) tB' fB):JW X C E Γ Δ (.BoolOp .Or (a::b::rest) pos) (tOr tA tB') (Dl.cOr fA fB):=⟨qw_or ha.q hb.q,Xpa ha.o hb.o⟩
theorem Zvf {fA:FT}(h:JW X C E Γ Δ a tA fA):JT X C E Γ Δ a tA fA:=⟨qt_w h.q,h.o⟩
theorem Zl:JA X C E Γ Δ 2 [] [] 0 Ziu Dl.Zr:=⟨Zdj,Xfj,Xil⟩
theorem Zh (ha:JE X C E Γ Δ m1 S1 e te fe)(hr:JA X C E Γ Δ m2 S2 es n t f)(hs:Ac (e::es) X.env=(false,AM e X.env)::Ac es X.env):JA X C E Γ Δ 0 (S1++S2) (e::es) (n+1) (Jx te t) (Dl.Zb fe f):=⟨Jr ha.q hr.q hs,Xbt ha.o hr.o,Zqj hr.n⟩
theorem Zf (ha:JE X C E Γ Δ 2 [] e te fe)(hr:JA X C E Γ Δ 2 [] es n t f)(hs:Ac (e::es) X.env=(false,AM e X.env)::Ac es X.env):JA X C E Γ Δ 2 [] (e::es) (n+1) (Jx te t) (Dl.Zb fe f):=⟨Jr ha.q hr.q hs,Zwa (S1:=[]) (S2:=[]) ha.o hr.o (fun _ h=>nomatch h) (fun _ h=>nomatch h),Zqj hr.n⟩
theorem Zef (h:JA X C E Γ Δ 2 S es n t f):JE X C E Γ Δ 2 S (.Tuple es x1 pos) (tTup t) (Dl.fA Dl.Zdq f):=⟨Xoy h.q,Xho (.inr rfl) h.o⟩
theorem Yy (h:JA X C E Γ Δ 2 S es n t f):JE X C E Γ Δ 2 S (.List es pos) (Xky t) (Dl.fA Dl.Zaz f):=⟨Xdr h.q,Xke h.o⟩
theorem Xjt (h:JA X C E Γ Δ m S es n t f):JE X C E Γ Δ 1 S (.List es pos) (Xky t) (Dl.fA Dl.Zaz f):=⟨Xdr h.q,Xbe h.o⟩
theorem Xh (K:AB)(ha:JE X C E Γ Δ m1 S1 a ta fa)(hb:JE X C E Γ Δ m2 S2 b tb fb)(hs:Zdg b)(hK:X.K=K:=by rfl):JE X C E Γ Δ 0 S1 (.Subscript a b pos) (tOp (rIx K) ta tb) (Dl.f2 Dl.gIx fa fb):=by subst hK;exact ⟨qe_ix Xqz ha.q hb.q hs,Xmv ha.o hb.o⟩
theorem Zaq:JO X C E Γ Δ none Zkc Dl.Zba:=⟨Xfv,Xbb⟩
theorem Jq (h:JE X C E Γ Δ m S e te fe):JO X C E Γ Δ (some e) (Xar te) (Dl.Jw fe):=⟨Xgr h.q,Zzl h.o⟩
theorem Xcb (K:AB)(he:JE X C E Γ Δ m S e te fe)(hl:JO X C E Γ Δ lo tl fl)(hu:JO X C E Γ Δ hi th fh)(hK:X.K=K:=by rfl):JE X C E Γ Δ 2 [] (.Subscript e (.Slice lo hi none p2) pos) (tSl (rSlL K) te tl th) (Dl.fSl Dl.gSl fe fl fh):=by subst hK;exact ⟨Zql Xgu he.q hl.q hu.q,Xmr he.o hl.o hu.o⟩
theorem Zz {k:Nat}(Df:Def X.prog X.w X.K X.mg X.base CX k x ps (spD K C n mr F))(hr:Zha k X.A)(hg:Gl X x)(hx:Zfk CX X E)
  (ha:JA X C E Γ Δ m S (e::es) n t f) (hdb:(x==("__debug__":Str))=false:=by decide) (he:Ac (e::es) X.env=(false,AM e X.env)::Ac es X.env:=by rfl) (hpl:(AW pos (Ac es X.env)).any (·.1)=false:=by rfl) (hK:X.K=K:=by rfl) :
  JE X C E Γ Δ mr [] (.Call (.Name x p) (e::es) [] pos) (Zso (spD K C n mr F) [] E t) (Dl.Xe F f):=by
 subst hK;exact ⟨Xbq Df hr hg hx ha.q hdb he hpl,Zyx ha.o ha.n⟩
theorem Yc {id:String}{g:List D->Option D}(hc:Zbg X (.builtin id) r)(hgk:GAk X.K C r g)(hg:Gl X x)(hm:X.mg x=none)(hv:Bc x=some (.builtin id))(ha:JA X C E Γ Δ m S (e::es) n t f)(hn:x≠"__name__":=by decide)(hdb:(x==("__debug__":Str))=false:=by decide)
  (he:Ac (e::es) X.env=(false,AM e X.env)::Ac es X.env:=by rfl) (hpl:(AW pos (Ac es X.env)).any (·.1)=false:=by rfl):JE X C E Γ Δ 2 [] (.Call (.Name x p) (e::es) [] pos) (tCB r t) (Dl.fA g f):=⟨Zhd hc hg hm hv ha.q hn hdb he hpl,Xdi hgk ha.o⟩
theorem Zci {g:List D->Option D}(hc:Zbg X (.type T) r)(hgk:GAk X.K C r g)(hg:Gl X x)(hm:X.mg x=none)(hv:Bc x=some (.type T))(ha:JA X C E Γ Δ m S (e::es) n t f)(hn:x≠"__name__":=by decide)(hdb:(x==("__debug__":Str))=false:=by decide)
  (he:Ac (e::es) X.env=(false,AM e X.env)::Ac es X.env:=by rfl) (hpl:(AW pos (Ac es X.env)).any (·.1)=false:=by rfl):JE X C E Γ Δ 2 [] (.Call (.Name x p) (e::es) [] pos) (tCB r t) (Dl.fA g f):=⟨Zxq hc hg hm hv ha.q hn hdb he hpl,Xdi hgk ha.o⟩
theorem Zbk (h:JE X C E Γ Δ m S e te fe):JI X C E Γ Δ S tg e (Zzd X.K te) (Dl.Zbo fe):=⟨Xjr h.q,Xct h.o⟩
theorem Xri (h:JE X C E Γ Δ m S e te fe):JI X C E Γ Δ S tg e (Xml X.K te) (Dl.Xlk fe):=⟨Xpo h.q,Xid h.o⟩
theorem Zgi (hg:Gl X "range")(hm:X.mg "range"=none)(ha:JA X C E Γ Δ m S [a] n t f)(hs:Ac [a] X.env=[(false,AM a X.env)]:=by rfl):JI X C E Γ Δ [] tg (.Call (.Name "range" p) [a] [] pos) (Zyv t) (Dl.Zhp f):=⟨Zum hg hm ha.q hs,Xcl ha.o⟩
theorem Zbb (h1:i∉Γ:=by decide)(h2:i∉Δ:=by decide)(hN:X.N.Nodup)(hi:X.N[i]?=some x)(hx:Loc X.env.scope x)(hf:autoParam (X.fn x=true\/X.env.scope.names.lookup x=some .local) aT0._auto_1):JG X C Γ Δ (.Name x pos) (Zcb i) (Dl.Xi i):=⟨Zov hN hi hx hf,Xbu h1 h2⟩
theorem Xkk:JGs X C Γ Δ [] 0 Xlh Dl.Zvz:=⟨Zwd,Xkp,Xdv⟩
theorem Zpo {u:TGs}{fb:FB}(h1:JG X C Γ Δ e tt fb)(h2:JGs X C Γ Δ es n u fu)(hs:(AV (e::es) X.env).map (·.2)=BE e X.env::(AV es X.env).map (·.2):=by rfl):JGs X C Γ Δ (e::es) (n+1) (Zsa tt u) (Dl.Zdy fb fu):=⟨Zqy h1.q h2.q hs,Xan h1.o h2.o,Zxh h2.n⟩
theorem Xob {k:Nat}{u:TGs}(hc:X.calm=true)(h:JGs X C Γ Δ es n u fu)(hn:(AV es X.env).length=n:=by rfl)(hst:(AV es X.env).findIdx? (·.1)=none:=by rfl):JG X C Γ Δ (.Tuple es k pos) (Zdq X.K n u) (Dl.Zxz fu):=⟨Xei hc h.q hn hst,Xfo h.n h.o⟩
theorem Zce:JIf X C E Γ Δ [] Zya Dl.Zjg:=⟨Xis,Xgk⟩
structure JB (X:Cx)(C:String->Addr)(n k:Nat)(e:Expr)(t:TG)(f:FB):Prop where
 q:QG X e t
 o:NOk X.K C n k t f
structure JBs (X:Cx)(C:String->Addr)(n k:Nat)(es:List Expr)(l:Nat)(t:TGs)(f:List D->Yp->R Yp):Prop where
 q:QGs X es t
 o:NsOk X.K C n k t f
 n:∀ds ρ ρ',f ds ρ=.ok ρ'->ds.length=l
theorem Zan {k:Nat}(i:Nat)(hN:X.N.Nodup:=by decide +kernel)(hi:X.N[i]?=some x:=by rfl)(hx:Loc X.env.scope x:=by exact .inl rfl)(hf:X.fn x=true\/X.env.scope.names.lookup x=some .local:=by exact .inr rfl)(h1:n<=i:=by decide)(h2:i<n+k:=by decide):JB X C n k (.Name x pos) (Zcb i) (Dl.Xi i):=⟨Zov hN hi hx hf,Zyz i h1 h2⟩
theorem Zdp {tc:TT}{fc:FT}(esc:Scope)(N N2 xs:List Str)(B:Zll sc esc xs N N2)(hi:JI X C E Γ Δ S tg iter wi fi)(hg:∀cl C' s0 H0 fp,JB (X.blkN N2 xs sc cl C' s0 H0 fp) C n xs.length tg gg fg)(ht:∀cl C' s0 H0 fp,JIf (X.blkN N2 xs sc cl C' s0 H0 fp) C E0 [] [] ifs tc fc)(he:∀cl C' s0 H0 fp,JE (X.blkN N2 xs sc cl C' s0 H0 fp) C E0 [] [] 2 [] elt te fe)
  (hesc:X.env.scope=esc:=by rfl) (hN:X.N=N:=by rfl) (hc:X.calm=true:=by rfl) (hs:∀v,Aw iter X.env v=pure v:=by intro _;rfl):JE X C E Γ Δ 2 [] (.ListComp elt [⟨tg,iter,ifs,0⟩] sc pos) (Zaw xs.length gg wi tc te) (Dl.Zbq n xs.length fi fg fc fe):=
 ⟨Xbf esc N N2 xs B hi.q (fun cl C' s0 H0 fp=>(hg cl C' s0 H0 fp).q) (fun cl C' s0 H0 fp=>(ht cl C' s0 H0 fp).q) (fun cl C' s0 H0 fp=>(he cl C' s0 H0 fp).q) hesc hN hc hs,Zrc hi.o (hg [] 0 X.s₀ X.H₀ []).o (ht [] 0 X.s₀ X.H₀ []).o (he [] 0 X.s₀ X.H₀ []).o⟩
variable {other:List Stmt}{v:TS}{g h:FS}
theorem Zu:JSs X C E mr Γl Δl Γ Δ Γ Δ [] Zzw Dl.sNx:=⟨Xjb,Xrt⟩
theorem Ze (Γ1 Δ1:List Nat)(h1:JS X C E mr Γl Δl Γ Δ Γ1 Δ1 s1 u g)(h2:JSs X C E mr Γl Δl Γ1 Δ1 Γ' Δ' ss v h):JSs X C E mr Γl Δl Γ Δ Γ' Δ' (s1::ss) (tSeq u v) (Dl.Xp g h):=⟨Zzu h1.q h2.q,Xfe h1.o h2.o⟩
theorem Zj (h1:JS X C E mr Γl Δl Γ Δ Γ' Δ' s1 u g):JSs X C E mr Γl Δl Γ Δ Γ' Δ' [s1] u g:=⟨Xjn h1.q,h1.o⟩
theorem Zau (Γ1 Δ1:List Nat)(h:JSs X C E mr Γl Δl Γ Δ Γ1 Δ1 ss u g)(h1:∀i∈Γ',i∈Γ1:=by decide)(h2:∀i∈Δ',i∈Δ1:=by decide):JSs X C E mr Γl Δl Γ Δ Γ' Δ' ss u g:=⟨h.q,Xaz h.o h1 h2⟩
theorem Zw (he:JE X C E Γ Δ 2 S e te fe)(h0:∀p∈S,p.1∈Δ:=by decide):JS X C E 2 Γl Δl Γ Δ Γ' Δ' (.Return (some e) pos) (tRet te) (Dl.Ys fe):=⟨Xre he.q,Xcp he.o h0⟩
theorem Yd {fA:FT}(hc:JT X C E Γ Δ c tA fA)(ha:JSs X C E mr Γl Δl Γ Δ Γ' Δ' body u g)(hb:JSs X C E mr Γl Δl Γ Δ Γ' Δ' other v h):JS X C E mr Γl Δl Γ Δ Γ' Δ' (.If c body other pos) (tIfS tA u v) (Dl.sIf fA g h):=⟨qs_if hc.q ha.q hb.q,Xqh hc.o ha.o hb.o⟩
theorem Zx (hN:X.N.Nodup)(hi:X.N[i]?=some x)(hx:Loc X.env.scope x)(he:JE X C E Γ Δ 2 [] e te fe)(hs:BP e (some (.Name x pos')) pos.line X.env=pure false:=by rfl)(hf:autoParam (X.fn x=true\/X.env.scope.names.lookup x=some .local) aT0._auto_1)
  (h1:∀j∈Γ',j=i\/j∈Γ:=by decide) (h2:∀j∈Δ',j=i\/j∈Δ:=by decide):JS X C E mr Γl Δl Γ Δ Γ' Δ' (.Assign [.Name x pos'] e pos) (Zkg te (Zcb i)) (Dl.Yw i fe):=⟨Xnp hN hi hx he.q hs hf,Zkp he.o h1 h2⟩
theorem Zxr {py spos:Pos}{tc:TT}{fc:FT}(esc:Scope)(N N2 xs:List Str)(B:Zll sc esc xs N N2)(hy:N[i]?=some y)(hl:esc.names.lookup y=some .local)(hi:JI X C E Γ Δ S tg iter wi fi)(hg:∀cl C' s0 H0 fp,JB (X.blkN N2 xs sc cl C' s0 H0 fp) C n xs.length tg gg fg)(ht:∀cl C' s0 H0 fp,JIf (X.blkN N2 xs sc cl C' s0 H0 fp) C E0 [] [] ifs tc fc)(he:∀cl C' s0 H0 fp,JE (X.blkN N2 xs sc cl C' s0 H0 fp) C E0 [] [] 2 [] elt te fe)
  (hesc:X.env.scope=esc:=by rfl) (hN:X.N=N:=by rfl) (hc:X.calm=true:=by rfl) (hsw:BP (.ListComp elt [⟨tg,iter,ifs,0⟩] sc pos) (some (.Name y py)) spos.line X.env=pure true:=by rfl) (hs:∀v,Aw iter X.env v=pure v:=by intro _;rfl)
  (h1:∀j∈Γ',j=i\/j∈Γ:=by decide) (h2:∀j∈Δ',j=i\/j∈Δ:=by decide):JS X C E mr Γl Δl Γ Δ Γ' Δ' (.Assign [.Name y py] (.ListComp elt [⟨tg,iter,ifs,0⟩] sc pos) spos) (Zkg (Zaw xs.length gg wi tc te) (Zcb i)) (Dl.Yw i (Dl.Zbq n xs.length fi fg fc fe)):=
 ⟨Zyl esc N N2 xs B hy hl hi.q (fun cl C' s0 H0 fp=>(hg cl C' s0 H0 fp).q) (fun cl C' s0 H0 fp=>(ht cl C' s0 H0 fp).q) (fun cl C' s0 H0 fp=>(he cl C' s0 H0 fp).q) hesc hN hc hsw hs,Zkp (Zrc hi.o (hg [] 0 X.s₀ X.H₀ []).o (ht [] 0 X.s₀ X.H₀ []).o (he [] 0 X.s₀ X.H₀ []).o) h1 h2⟩
theorem Zjh (hi:i∈Γ:=by decide)(hN:X.N[i]?=some x:=by rfl)(hv:autoParam (Vis X.env.scope x) aT3._auto_1)(hd:(x==("__debug__":Str))=false:=by decide)(hcd:(x==("__classdict__":Str))=false:=by decide)
  (he:JE X C E Γ Δ 2 [] e te fe) (hse:Ac [e] X.env=(false,AM e X.env)::Ac [] X.env)
  (hbase:Bl (.Name x p) "append" X.env (AM (.Name x p) X.env)=AM (.Name x p) X.env:=by rfl)
  (hfew:((AW cpos (Ac [e] X.env)).all (fun x=>!x.1)&&(CF cpos (BI [] X.env)).all (fun x=>x.1.isSome)&&decide (([e]:List Expr).length+([]:List Bi).length+(if ([]:List Bi).isEmpty then 0 else 1)<30))=true:=by rfl)
  (hline:(apos.endLine==cpos.line)=true:=by rfl) (hplain:(AW cpos (Ac ([]:List Expr) X.env)).any (·.1)=false:=by rfl) (hsw:BP (.Call (.Attribute (.Name x p) "append" apos) [e] [] cpos) none pos.line X.env=pure false:=by rfl) :
  JS X C E mr Γl Δl Γ Δ Γ Δ (.Expr (.Call (.Attribute (.Name x p) "append" apos) [e] [] cpos) pos) (Zzf (tBM X.K "list" Zhm (Ztk i) (Jx te Ziu))) (Dl.Zsw i fe):=
 ⟨Xjs (Zrt PySem.F.plainAttrs_list PySem.F.slot_list_append PySem.F.type_list_append Zia (qv i hN hv hd hcd) (Jr he.q Zdj hse) hbase hfew hline hse hplain) hsw,Xcw hi he.o⟩
theorem Zdo {fb:FB}(Γl Δl:List Nat)(hp:Hi (Ao X.prog X.w) X.A X.env X.xe)(hc:X.calm=true)(hi:JI X C E Γ Δ S tg iter wi fi)(hg:JG X C Γl Δl tg tt fb)(hb:JSs X C E mr Γl Δl Γl Δl Γl Δl body u g)(hs:∀x,Aw iter X.env x=pure x:=by intro _;rfl)
  (h1:∀i∈Γl,i∈Γ:=by decide) (h2:∀i∈Δl,i∈Δ:=by decide) (h3:∀p∈S,p.1∉Γl/\p.1∉Δl:=by decide):JS X C E mr Γk Δk Γ Δ Γl Δl (.For tg iter body [] pos) (tFor wi tt u) (Dl.Znt fi fb g):=⟨Xrc hp hc hi.q hg.q hb.q hs,Xfw hi.o hg.o hb.o h1 h2 h3⟩
end
theorem Fun.okC {P:Av}{base:AY}{st:Stmt}{f:Addr}{N:List Str}{k:Nat}{g:FS}(F:Fun K x qual st f fd)(S:Xk N ps (Zk st))(hn:ps.length=n)
    (hbody:∀(cdv:Value) (A:AJ) (outer:List Env) (s:Ab) (H:Hp) (E:XK),Zha k (A.deeper (C6 qual (Zk st) s.heap.objs.size f cdv))->
      ∃t,JSs (Zqb CX0 P w K mg base N qual (Zk st) f cdv A outer s H E).nox C E0 mr [] [] [] [] Γ' Δ' (Zae st) t g):Zbr P w K mg base CX0 (k+1) f fd ps (spD K C n mr fun ds=>(Dl.run N.length g ds).calm):=
  F.okQ S (fun vs H Q E h=>by
    obtain ⟨ds,B,h1,h2,_⟩:=h;rw [h2.len,h1,hn]) fun cdv A outer s H vs Q E hr h=>by
    obtain ⟨ds,B,h1,h2,h3⟩:=h;obtain ⟨t,ht⟩:=hbody cdv A outer s H E hr;exact ⟨t,ht.q,Zqk (K:=K) ht.o h2 (Yo.imp (Zeo h3) (fun _ q=>q) fun _ _ z=>z.elim)⟩
section
variable {S:List (Nat×Bool)}
def Kit (c:String):Prop:=∀(K:AB) (d:D) (b:Bool),Dl.Zus c d=some (.bl b)->CN K (.type (Dl.Xem d)) (.type c)=some b
theorem Zzv:Kit "list":=fun K d b h=>by cases d<;>cases h<;>rfl
theorem Xhv (hk:Kit c)(ha:EOk K C E Γ Δ m S ta fa):EOk K C E Γ Δ 2 [] (tCB (Xll K) (Jx ta (Jx (tC (.ty c)) Ziu))) (Dl.f1 (Dl.Zus c) fa):=fun H0 Hb H σ ρ A Q I p =>
  ha H0 Hb H σ ρ A _ I (p.bind.imp (fun x q v H1 g1 r=>by
    obtain ⟨d,e,q⟩:=Zer q;obtain ⟨B,r,_⟩:=r;have out:∀b t,d=.bl b->TyOf K H1 v t->t=.type (Dl.Xem x)->Xll K [v,.ty c] H1 Q:=fun b t ed ty et=>by subst ed et;exact Xqc ty (hk K x b e) (q _ H1 g1 (Res.flat rpB))
    show Xll K [v,.ty c] H1 Q;cases x with
    | non=>cases e;exact out _ _ rfl (by rw [r.1];exact .non) rfl
    | bl b=>cases e;exact out _ _ rfl (by rw [r.1];exact .bl _) rfl
    | int i=>cases e;exact out _ _ rfl (by rw [r.1];exact .int _) rfl
    | str z=>cases e;exact out _ _ rfl (by rw [r.1];exact .str _) rfl
    | lst ds =>cases e;obtain ⟨a,xs,B,rfl,e2,_⟩:=r;exact out _ _ rfl (.lst e2) rfl
    | tup ds =>cases e;obtain ⟨a,xs,rfl,e2,_⟩:=r;exact out _ _ rfl (.tup e2) rfl
    | scr _=>cases e
    | rng _ _=>cases e
    | exc _ _=>cases e
    | obj _ _ _=>cases e
    | dct _ _=>cases e
    | dtt _ _=>cases e
    | flst _ =>cases e;obtain ⟨a,o,xs,rfl,e2,_⟩:=r;exact out _ _ rfl (.frz e2) rfl
    | fobj _ _ _=>cases e
    | fdk _ _=>cases e
    | fdt _ _=>cases e) fun c x q H' g'=>q H' g')
theorem Zs.rewrite {es:List D}(I:Zs K C H0 Hb H Γ Δ σ ρ A)(g1:Xt H H1)(hi:i∈Γ)(hA:A i=a::l)(hl:i<ρ.length)(s1:σ[i]?=some (some (.ref a)))(r:RpA K C H1 es ys B')
    (hB:∀b∈B',b∈l\/H b=none) (hD:i∈Δ->B'.Nodup):∃A',Zs K C H0 Hb (upd H1 a (.lst ys)) Γ Δ σ (ρ.set i (some (.lst es))) A':=by
  obtain ⟨tb,ta,tt⟩:=I.top i hi a l hA;have ha:a∈A i:=by rw [hA];exact .head _
  have w1:∀b∈B',H0 b=none:=fun b hb=>(hB b hb).elim (fun z=>I.loc i hi b (by rw [hA];exact .tail _ z)) fun z=>I.s0.free (I.same.free z);have w0:a∉B':=fun z=>(hB a z).elim ta fun z=>I.ne ha z;have w2:∀j∈Γ,j≠i->j∈Γ/\∀b l',A j=b::l'->b∉B':=fun j hj e=>⟨hj,fun b l' e' z=>(hB b z).elim
    (fun z=>(I.top j hj b l' e').2.2 i (fun w=>e w.symm) (by rw [hA];exact .tail _ z)) fun z=>I.ne (j:=j) (by rw [e'];exact .head _) z⟩
  have w3:∀j∈Δ,j≠i->j∈Δ/\∀b∈A j,b∉B':=fun j hj e=>⟨hj,fun b hb z=>(hB b z).elim
    (fun z=>(I.deep j hj).2.1 i (fun w=>e w.symm) b hb (by rw [hA];exact .tail _ z)) fun z=>I.ne hb z⟩
  have w4:i∈Δ->B'.Nodup/\(∀j,j≠i->∀b∈B',b∉A j)/\∀b∈B',Hb b=none:=fun hd=>by obtain ⟨d1,d2,d3⟩:=I.deep i hd;rw [hA] at d2 d3;exact ⟨hD hd,fun j hj b hb=>(hB b hb).elim (fun z=>d2 j hj b (.tail _ z)) fun z w=>I.ne w z,fun b hb=>(hB b hb).elim (fun z=>d3 b (.tail _ z)) fun z=>I.same.free z⟩
  exact (I.mono g1).write (Γ':=Γ) (Δ':=Δ) hi hA hl s1 r w1 w0 w2 w3 w4
theorem RpA.set:∀{ds:List D} {vs:List V} {A:List Addr} {j:Nat} {d:D} {v:V},RpA K C H ds vs A->Rp K C H d v []->Dl.Jg ds=true->RpA K C H (ds.set j d) (vs.set j v) []
 | [],_,_,_,_,_,r,_,_=>by rw [r.1];exact RpA.nil
 | x::ds,_,_,0,d,v,r,q,h=>by obtain ⟨y,l,B,B',e1,e2,e3,e4⟩:=r;simp only [Dl.Jg,Ae] at h;subst e1;exact ⟨v,l,[],[],rfl,q,e3.flat' h.2,rfl⟩
 | x::ds,_,_,j+1,d,v,r,q,h=>by obtain ⟨y,l,B,B',e1,e2,e3,e4⟩:=r;simp only [Dl.Jg,Ae] at h;subst e1;have z:=e2.flat h.1;subst z;exact ⟨y,_,[],[],rfl,e2,RpA.set e3 q h.2,rfl⟩
theorem Xgz (hi:i∈Γ:=by decide)(he:EOk K C E Γ Δ m1 S1 te fe)(hk:EOk K C E Γ Δ m2 S2 tk fk):SOk K C E mr Γl Δl Γ Δ Γ Δ (Zkg te (Zru (Ztk i) tk Xhi)) (Dl.Xqk i fk fe):=fun H0 Hb H σ ρ A D I p=>by
 refine he H0 Hb H σ ρ A _ I (Yo.imp (Yo.bind p) (fun d q v H1 g1 r=>?_) fun c x q H' g'=>q H' (Xt.from0 I g'));have I1:=I.mono g1;split at q;rename_i ds e;obtain ⟨a,xs,l,s1,h1,r1,hA,hl⟩:=Zqx I1 e;refine ⟨.ref a,s1,hk H0 Hb H1 σ ρ A _ I1 (Yo.imp (Yo.bind q) (fun z q w H2 g2 rz=>?_) fun c x q H' g'=>q H' (Xt.from0 I1 g'))⟩;obtain ⟨Bz,rz,_⟩:=rz;obtain ⟨B,rd,_⟩:=r;cases z with
 | int n =>obtain ⟨rfl,_⟩:=rz;simp only at q;split at q;rename_i hf;split at q;rename_i j ej;have zB:=rd.flat hf.1;subst zB;obtain ⟨A',I'⟩:=I1.rewrite g2 hi hA hl s1 (RpA.set (j:=j) (r1.same g2) (rd.same g2) hf.2) (fun _ hb=>nomatch hb) fun _=>BQ;exact ⟨a,xs,n,j,rfl,rfl,g2 _ _ h1,by rw [r1.len];exact ej,q _ _ A' I'⟩;exact q.elim;exact q.elim
 | _=>exact q.elim
 exact q.elim
def BsN (K:AB)(C:String->Addr)(Γ Δ Γ' Δ':List Nat)(g:TGs)(b:List D->Yp->R Yp):Prop:=∀(H0 Hb H:Hp) (σ:St) (ρ:Yp) (A:Nat->List Addr) (d:List D) (v:List V) (B:List Addr) (Rr:St->Hp->Prop),Zs K C H0 Hb H Γ Δ σ ρ A->RpA K C H d v B->B.Nodup->(∀a∈B,Hb a=none/\∀j,a∉A j)->
 Yo (b d ρ) (fun ρ'=>∀σ' A',Zs K C H0 Hb H Γ' Δ' σ' ρ' A'->Rr σ' H) (fun _ _=>False)->g v σ H Rr
theorem Xfg (h1:∀i∈Γ',i∈Γ)(h2:∀i∈Δ',i∈Δ):BsN K C Γ Δ Γ' Δ' Xlh Dl.Zvz:=fun H0 Hb H σ ρ A d v B Rr I r _ _ p=>by
 cases d with
 | nil=>exact ⟨r.1,p _ A (I.weak h1 h2)⟩
 | cons _ _=>exact p.elim
theorem Zzz {bs:List D->Yp->R Yp}(h2:BsN K C (i::Γ) (i::Δ) Γ' Δ' gs bs):BsN K C Γ Δ Γ' Δ' (Zsa (Zcb i) gs) (Dl.Zdy (Dl.Xi i) bs):=fun H0 Hb H σ ρ A d v B Rr I r nd hB p=>by
  cases d with
  | nil=>exact p.elim
  | cons d ds =>
    obtain ⟨x,l,B1,B2,e1,e2,e3,e4⟩:=r;subst e1 e4;obtain ⟨n1,n2,n3⟩:=Ct.mp nd;have hB1:∀a∈B1,Hb a=none/\∀j,a∉A j:=fun a ha=>hB a (As _ ha);obtain ⟨A',I',hA'⟩:=I.put (Γ':=i::Γ) (Δ':=i::Δ) (i:=i) e2
      (fun j hj e=>⟨(Af.mp hj).elim (fun z=>absurd z e) id,fun a l' e' ha=>(hB1 a ha).2 j (by rw [e'];exact .head _)⟩)
      (fun _=>⟨fun a ha=>I.s0.free (hB1 a ha).1,fun a l' e=>by
        subst e;exact ⟨(hB1 a (.head _)).1,(A0.mp n1).1,fun j _=>(hB1 a (.head _)).2 j⟩⟩)
      (fun j hj e=>⟨(Af.mp hj).elim (fun z=>absurd z e) id,fun a ha hb=>(hB1 a hb).2 j ha⟩)
      (fun _=>⟨n1,fun j _ a ha=>(hB1 a ha).2 j,fun a ha=>(hB1 a ha).1⟩)
    exact ⟨x,l,rfl,h2 H0 Hb H _ _ A' ds l B2 Rr I' e3 n2 (fun a ha=>⟨(hB a (Ag _ ha)).1,fun j h=>(hA' j a h).elim (fun z=>n3 a z a ha rfl) fun z=>(hB a (Ag _ ha)).2 j z⟩) p⟩
theorem Zrs {bs:List D->Yp->R Yp}(hn:∀ds ρ ρ',bs ds ρ=.ok ρ'->ds.length=n)(he:EOk K C E Γ Δ 2 [] te fe)(hb:BsN K C Γ Δ Γ' Δ' gs bs):SOk K C E mr Γl Δl Γ Δ Γ' Δ' (Zkg te (Zdq K n gs)) (Dl.Xhj fe (Dl.Zxz bs)):=fun H0 Hb H σ ρ A D I p=>by
 refine he H0 Hb H σ ρ A _ I (Yo.imp (Yo.bind p) (fun d q v H1 g1 r=>?_) fun c x q H' g'=>q H' (Xt.from0 I g'));obtain ⟨B,r1,r2,_,r4⟩:=r;have hn':∀a∈B,H a=none:=fun a ha=>(r2 a ha).elim id fun z=>z.none.elim;have q':=Zeo (Yo.bind q);cases d with
 | tup ds =>
  obtain ⟨a,xs,rfl,e2,e3⟩:=r1;have q'':Yo (bs ds ρ) (fun ρ'=>∀σ' H' A',Zs K C H0 Hb H' Γ' Δ' σ' ρ' A'->D.nx σ' H') (fun _ _=>False):=q';have hl:xs.length=n:=by
   rw [e3.len];cases e:bs ds ρ with
   | ok ρ'=>exact hn ds ρ ρ' e
   | err _ _=>rw [e] at q'';exact q''.elim
   | bad=>rw [e] at q'';exact q''.elim
  exact ⟨a,xs,rfl,SqT.of e2,hl,hb H0 Hb H1 σ ρ A ds xs B D.nx (I.mono g1) e3 (r4 rfl) (fun a ha=>⟨I.same.free (hn' a ha),fun j z=>I.ne z (hn' a ha)⟩) (Yo.imp q'' (fun ρ' q σ' A' I'=>q σ' H1 A' I') fun _ _ z=>z)⟩
 | _=>exact q'.elim
variable {a c:Expr}{rest:List Expr}{tb tc:TE}{fs:FE}
theorem Xqb (K:AB)(hk:Kit T)(hg:Gl X "isinstance")(hm:X.mg "isinstance"=none)(hgt:Gl X ty)(hmt:X.mg ty=none)(hvt:Bc ty=some (.type T))(ha:JE X C E Γ Δ m S e te fe)(hse:Ac (e::[.Name ty p2]) X.env=(false,AM e X.env)::Ac [.Name ty p2] X.env)
  (hn:ty≠"__name__":=by decide) (hd:(ty==("__debug__":Str))=false:=by decide) (hpl:(AW pos (Ac [.Name ty p2] X.env)).any (·.1)=false:=by rfl) (hK:X.K=K:=by rfl) :
  JE X C E Γ Δ 2 [] (.Call (.Name "isinstance" p) [e,.Name ty p2] [] pos) (tCB (Xll K) (Jx te (Jx (tC (.ty T)) Ziu))) (Dl.f1 (Dl.Zus T) fe):=by
 subst hK;exact ⟨Zhd Zny hg hm Cs (Jr ha.q (Jr (Zwh (v:=.ty T) hgt hmt hvt rfl hn hd) Zdj Za) hse) (by decide) (by decide) hse hpl,Xhv hk ha.o⟩
theorem Xoc (hi:i∈Γ:=by decide)(hN:X.N[i]?=some x:=by rfl)(hv:autoParam (Vis X.env.scope x) aT3._auto_1)(hd:(x==("__debug__":Str))=false:=by decide)(hcd:(x==("__classdict__":Str))=false:=by decide)
    (he:JE X C E Γ Δ m1 S1 e te fe) (hk:JE X C E Γ Δ m2 S2 kx tk fk) (hs:Du [.Subscript (.Name x p) kx p2] e pos.line X.env=pure false:=by rfl) (hw:Dv [.Subscript (.Name x p) kx p2] e X.env=pure none:=by rfl) (h1:(AV [.Subscript (.Name x p) kx p2] X.env).map (·.2)=[BE (.Subscript (.Name x p) kx p2) X.env]:=by rfl)
    (hq:∀v,BE (.Subscript (.Name x p) kx p2) X.env v=(do
      let ov <- Cj [v] (AM (.Name x p) X.env)
      let iv <- Cj [v,ov] (AM kx X.env)
      EA p2
      Cj [v,ov,iv] (E9 ov iv v)
      G0 [v,ov,iv] []):=by intro _;rfl) :
    JS X C E mr Γl Δl Γ Δ Γ Δ (.Assign [.Subscript (.Name x p) kx p2] e pos) (Zkg te (Zru (Ztk i) tk Xhi)) (Dl.Xqk i fk fe):=⟨Zuw he.q (Xec (qv i hN hv hd hcd) hk.q set_list hq) hs hw h1,Xgz hi he.o hk.o⟩
structure JN (X:Cx)(C:String->Addr)(Γ Δ Γ' Δ':List Nat)(es:List Expr)(n:Nat)(t:TGs)(f:List D->Yp->R Yp):Prop where
 q:QGs X es t
 o:BsN X.K C Γ Δ Γ' Δ' t f
 n:∀ds ρ ρ',f ds ρ=.ok ρ'->ds.length=n
theorem Xol (h1:∀i∈Γ',i∈Γ:=by decide)(h2:∀i∈Δ',i∈Δ:=by decide):JN X C Γ Δ Γ' Δ' [] 0 Xlh Dl.Zvz:=⟨Zwd,Xfg h1 h2,Xdv⟩
theorem Zwb {u:TGs}(hN:X.N.Nodup)(hi:X.N[i]?=some x)(hx:Loc X.env.scope x)(h2:JN X C (i::Γ) (i::Δ) Γ' Δ' es n u fu)(hf:autoParam (X.fn x=true\/X.env.scope.names.lookup x=some .local) aT0._auto_1)
  (hs:(AV (.Name x p::es) X.env).map (·.2)=BE (.Name x p) X.env::(AV es X.env).map (·.2):=by rfl):JN X C Γ Δ Γ' Δ' (.Name x p::es) (n+1) (Zsa (Zcb i) u) (Dl.Zdy (Dl.Xi i) fu):=⟨Zqy (Zov hN hi hx hf) h2.q hs,Zzz h2.o,Zxh h2.n⟩
theorem Zwe {k:Nat}{u:TGs}(hc:X.calm=true)(he:JE X C E Γ Δ 2 [] e te fe)(hb:JN X C Γ Δ Γ' Δ' es n u fu)(hn:(AV es X.env).length=n:=by rfl)(hst:(AV es X.env).findIdx? (·.1)=none:=by rfl)
  (hs:Du [.Tuple es k p] e pos.line X.env=pure false:=by rfl) (hw:Dv [.Tuple es k p] e X.env=pure none:=by rfl) (h1:(AV [.Tuple es k p] X.env).map (·.2)=[BE (.Tuple es k p) X.env]:=by rfl) :
  JS X C E mr Γl Δl Γ Δ Γ' Δ' (.Assign [.Tuple es k p] e pos) (Zkg te (Zdq X.K n u)) (Dl.Xhj fe (Dl.Zxz fu)):=⟨Zuw he.q (Xei hc hb.q hn hst) hs hw h1,Zrs hb.n he.o hb.o⟩
theorem Zgg {i:Int}{u:Value}(hg:Gl X x)(hm:X.mg x=some u)(r:RelV (.int i) u)(hd:(x==("__debug__":Str))=false:=by decide):JE X C E Γ Δ 2 [] (.Name x pos) (tC (.int i)) (Dl.fC (.int i)):=⟨Zor hg hm r hd,Zsb fun _=>rpI⟩
end
section
variable {S:List (Nat×Bool)}
theorem Zs.base (h:Zs K C Hb Hb H Γ Δ σ ρ A)(s:Xt H0 Hb):Zs K C H0 Hb H Γ Δ σ ρ A:=⟨s,h.same,h.len,h.rep,h.nil,fun i hi a ha=>s.free (h.loc i hi a ha),h.top,h.deep⟩
theorem Zs.fresh (h:Zs K C H0 Hb H Γ Δ σ ρ A):Zs K C Hb Hb H [] [] σ ρ A:=⟨Xt.refl _,h.same,h.len,h.rep,h.nil,fun _ hi=>(nomatch hi),fun _ hi=>(nomatch hi),fun _ hi=>(nomatch hi)⟩
theorem Zs.none {H0 Hb H:Hp}(s:Xt H0 Hb)(g:Xt Hb H)(N:Nat):Zs K C H0 Hb H Γ Δ (Aa N CB) (Aa N CB) (fun _=>[]):=
  ⟨s,g,by simp,(fun i d e=>by
      rw [Co] at e;split at e<;>cases e),fun _ _=>rfl,fun _ _ a ha=>(nomatch ha),fun _ _ a r e=>(nomatch e),fun _ _=>⟨BQ,fun _ _ a ha=>(nomatch ha),fun a ha=>(nomatch ha)⟩⟩
theorem Xt.upd {H:Hp}{e:Addr}{o:HO}(h:H e=CB):Xt H (L2.upd H e o):=fun b o' hb=>by
 have:b≠e:=fun q=>by rw [q,h] at hb;cases hb
 rw [Xl this];exact hb
theorem FOk.same {x:Option Int}(h:FOk H c x dx)(g:Xt H H'):FOk H' c x dx:=by
 cases x with
 | none=>trivial
 | some i=>obtain ⟨d,e1,e2⟩:=h;exact ⟨d,e1,g _ _ e2⟩
theorem Zs.caught {e:Addr}{x:Option Int}(s:Xt H0 Hb)(g:Xt Hb H)(hl:σ.length=N)(he:H e=some (exO e (.ref (C c)) dx))(hf:FOk H c x dx)(hi:i<N) :
    Zs K C H0 Hb H [] [] (σ.set i (some (.ref e))) ((Aa N CB).set i (some (.exc c x))) (fun _=>[]):=
  ⟨s,g,by simp [hl],(fun j d q=>by
      rw [Gf] at q;split at q;rename_i hj;subst hj;rw [if_pos (by simpa using hi)] at q;cases q;exact ⟨.ref e,by rw [Gf,if_pos rfl,if_pos (by omega)],e,dx,rfl,he,hf,rfl⟩
      · rw [Co] at q;split at q<;>cases q),fun _ _=>rfl,fun _ hi=>(nomatch hi),fun _ hi=>(nomatch hi),fun _ hi=>(nomatch hi)⟩
theorem Res.base (s:Xt H0 Hb)(r:Res K C m [] Hb (fun _=>[]) d v H'):Res K C m [] H0 (fun _=>[]) d v H':=by obtain ⟨B,r1,r2,r3,r4⟩:=r;exact ⟨B,r1,fun a ha=>(r2 a ha).imp s.free id,fun q a l e=>⟨s.free (r3 q a l e).1,(r3 q a l e).2⟩,r4⟩
theorem Xjw {tb:XK->TS}{th:TS}{fb fh:FS}{Eh:XK}(hb:∀E',SOk K C E' mr Γl Δl [] [] Γ1 Δ1 (tb E') fb)(hh:SOk K C Eh mr [] [] [] [] Γ2 Δ2 th fh)
  (hc:∀c∈cs,ET K (.ref (C c)) (.ref c0)=some true) (hi:i<N):SOk K C E mr Γl Δl Γ Δ Γ1 Δ1 (tTry K (.ref c0) i N tb th) (Dl.Xdp cs N i fb fh):=fun H0 Hb H σ ρ A D I p=>by
 refine ⟨fun cls dx H'=>Xt Hb H'/\∃c x,cls=.ref (C c)/\FOk H' c x dx/\fb ρ=.err c x,?_,?_⟩;refine hb _ Hb Hb H σ ρ A D I.fresh ?_;unfold Dl.Xdp at p;cases e:fb ρ with
 | bad=>rw [e] at p;exact p
 | err c x =>exact fun H' g dx hf=>⟨g,c,x,rfl,hf,rfl⟩
 | ok fl =>
  rw [e] at p;cases fl with
  | nx ρ'=>exact fun σ' H' A' I'=>p σ' H' A' (I'.base I.s0)
  | brk ρ'=>exact fun σ' H' A' I'=>p σ' H' A' (I'.base I.s0)
  | cnt ρ'=>exact fun σ' H' A' I'=>p σ' H' A' (I'.base I.s0)
  | ret d=>exact fun v H' g r=>p v H' (I.s0.trans g) (r.base I.s0)
 rintro cls dx H' e ⟨g,c,x,rfl,hf,ef⟩ he;unfold Dl.Xdp at p;rw [ef] at p;simp only [] at p;by_cases hcs:cs.contains c=true;rw [if_pos hcs] at p;refine ⟨hc c (by simpa using hcs),fun σ' hl=>?_⟩;have g':=Xt.upd (o:=exO e (.ref (C c)) dx) he;refine hh H0 Hb _ _ _ (fun _=>[]) _ (Zs.caught I.s0 (g.trans g') hl Ym (hf.same g') hi) ?_;have q:=Zeo (Yo.bind p);refine Yo.imp q (fun fl q=>?_) fun _ _ z=>z.elim;cases fl with
 | nx ρ'=>exact fun σ2 H2 A2 I2=>q _ H2 _ (Zs.none I.s0 I2.same N)
 | brk ρ'=>exact fun σ2 H2 A2 I2=>q _ H2 _ (Zs.none I.s0 I2.same N)
 | cnt ρ'=>exact fun σ2 H2 A2 I2=>q _ H2 _ (Zs.none I.s0 I2.same N)
 | ret d=>exact fun v H2 g2 r=>q v H2 g2 r
 rw [if_neg hcs] at p;exact p.elim
def JOk (K:AB)(C:String->Addr)(E:XK)(Γ Δ:List Nat)(t:TJ)(f:FA):Prop:=∀(H0 Hb H:Hp) (σ:St) (ρ:Yp) (A:Nat->List Addr) (Q:Hp->Prop),Zs K C H0 Hb H Γ Δ σ ρ A->
 Yo (f ρ) (fun _=>∀H',Xt H H'->Q H') (fun c x=>∀H',Xt H H'->EC C E c x H')->t σ H Q
theorem Xhy:JOk K C E Γ Δ jNil Dl.Zr:=fun _ _ H _ _ _ _ _ p=>p H (Xt.refl _)
theorem Xhf {s:Str}{t:TJ}(h:s.length<=2000)(ht:JOk K C E Γ Δ t f):JOk K C E Γ Δ (Zsr (tC (.str s)) t) f:=fun H0 Hb H σ ρ A Q I p=>⟨s,rfl,h,ht H0 Hb H σ ρ A Q I p⟩
theorem Zsc {t:TJ}(ha:JOk K C E Γ Δ t f):SOk K C E mr Γl Δl Γ Δ Γ' Δ' (Zqv (.ref (C c)) E (Jx (tJs t) Ziu)) (Dl.Zed c f):=fun H0 Hb H σ ρ A D I p =>
 ha H0 Hb H σ ρ A _ I (Yo.imp (Yo.bind p) (fun _ q H1 g z=>⟨(by show 1<=Ai;decide),q H1 (Xt.from0 I g) CB trivial⟩) fun _ _ q H1 g=>q H1 (Xt.from0 I g))
theorem Xrp {c:Str}{tb:XK->TS}{th:TS}{fb fh:FS}(cs:List String)(hm:X.mg c=some (.ref c0))
  (hb:∀(E:XK) (pn:List (Addr×Obj)),JSs (({X with pn:=pn}:Cx).wish (ER {X with pn:=pn} E)) C E mr Γl Δl [] [] Γ1 Δ1 body (tb E) fb) (hh:∀a:Addr,JSs (X.hand a) C E0 mr [] [] [] [] Γ2 Δ2 (b₀::suite) th fh)
  (hc:∀c∈cs,ET X.K (.ref (C c)) (.ref c0)=some true)
  (hN:X.N.Nodup) (hi:X.N[i]?=some nm) (hl:X.env.scope.names.lookup nm=some .local)
  (hg:Gl X c:=by rfl) (hx:X.ex=[]:=by rfl) (hst:X.stack=X.env::X.outer:=by rfl) (hf:X.env.frame=some X.env.locals:=by rfl) (hdb:(c==("__debug__":Str))=false:=by decide) :
  JS X C E mr Γl Δl Γ Δ Γ1 Δ1 (.Try body [.ExceptHandler (some (.Name c np)) (some nm) (b₀::suite) hpos] [] [] pos) (tTry X.K (.ref c0) i X.N.length tb th) (Dl.Xdp cs X.N.length i fb fh):=
 ⟨Xra hm hN hi hl (fun E pn=>(hb E pn).q) (fun a=>(hh a).q) hg hx hst hf hdb,Xjw (fun E'=>(hb E' []).o) (hh 0).o hc (Ah.mp hi).1⟩
end
theorem Fun.okCE {P:Av}{base:AY}{st:Stmt}{f:Addr}{N:List Str}{k:Nat}{g:FS}(F:Fun K x qual st f fd)(S:Xk N ps (Zk st))(hn:ps.length=n)
    (hbody:∀(cdv:Value) (A:AJ) (outer:List Env) (s:Ab) (H:Hp) (E:XK),Zha k (A.deeper (C6 qual (Zk st) s.heap.objs.size f cdv))->
      ∃t,JSs ((Zqb (CXE P w) P w K mg base N qual (Zk st) f cdv A outer s H E).wish (ER (Zqb (CXE P w) P w K mg base N qual (Zk st) f cdv A outer s H E) E)) C E mr [] [] [] [] Γ' Δ' (Zae st) t g):Zbr P w K mg base (CXE P w) (k+1) f fd ps (spD K C n mr fun ds=>Dl.run N.length g ds):=
  F.okEQ S (fun vs H Q E h=>by
    obtain ⟨ds,B,h1,h2,_⟩:=h;rw [h2.len,h1,hn]) fun cdv A outer s H vs Q E hr h=>by
    obtain ⟨ds,B,h1,h2,h3⟩:=h;obtain ⟨t,ht⟩:=hbody cdv A outer s H E hr;exact ⟨t,ht.q,Zqk (K:=K) ht.o h2 h3⟩
section
variable {S:List (Nat×Bool)}
variable {a c:Expr}{rest:List Expr}{tb tc:TE}{fs:FE}{g:FS}
end
structure Zuz (K:AB)(C:Addr):Prop where
 ty:DH K (.ref C)=some (.type "type")
 cl:∃c,E1 K C=some c
 se:BG K (.ref C) (.ref C)=some true
theorem Zly.cls {C:Addr}(h:Zly K C):Zuz K C:=⟨h.ty,h.cl,h.se⟩
theorem Zuz.kitO {C D:Addr}{b:Bool}(E:Zuz K C)(h:BG K (.ref D) (.ref C)=some b):CN K (.ref D) (.ref C)=some b:=by
 have k:kitCls K (.ref D) (.ref C)=some b:=by obtain ⟨c,hc⟩:=E.cl;show (if ((E1 K C).isSome&&DH K (.ref C)==some (.type "type"))=true then BG K (.ref D) (.ref C) else none)=some b;rw [hc,E.ty,if_pos (by simp)];exact h
 unfold CN;by_cases q:((Ba D)==(Ba C))=true;rw [if_pos q];have e:D=C:=by have:=beq_iff_eq.mp q;cases this;rfl
 subst e;rw [E.se] at h;exact h;rw [if_neg q];exact k
theorem Zhr {P:α->Prop}:∀c∈([]:List α),P c:=fun _ h=>nomatch h
theorem all_cons {P:α->Prop}{a:α}{l:List α}(h:P a)(hl:∀c∈l,P c):∀c∈a::l,P c:=fun c hc=>(Af.mp hc).elim (fun e=>by rw [e];exact h) fun hc=>hl c hc
section
variable {S:List (Nat×Bool)}
theorem Zew {k:String}{b:Bool}:∀{tb:List (String×Bool)},tb.lookup k=some b->(k,b)∈tb
 | [],h=>by cases h
 | (x,y)::r,h=>by
  rw [AS] at h;split at h;rename_i e;have e:k=x:=by simpa using e
  cases h;rw [e];exact .head _;exact .tail _ (Zew h)
theorem Xhc {c:Addr}(htb:∀p∈tb,Zse K (C p.1)/\CN K (.ref (C p.1)) (.ref c)=some p.2)(he:EOk K C E Γ Δ m S te fe):EOk K C E Γ Δ 2 [] (tCB (rIsX K) (Jx te (Jx (tC (.ref c)) Ziu))) (Dl.f1 (Dl.Zpn tb) fe):=
  fun H0 Hb H σ ρ A Q I p=>he H0 Hb H σ ρ A _ I (p.bind.imp (fun d q v H1 g1 r=>by
    obtain ⟨z,e,q⟩:=Zer q;obtain ⟨B,r,_⟩:=r;show rIsX K [v,.ref c] H1 Q;cases d with
    | exc k f =>have e:(tb.lookup k).map D.bl=some z:=e;obtain ⟨b,e1,e2⟩:=AD.mp e;subst e2;obtain ⟨a,dx,rfl,h1,_⟩:=r;obtain ⟨t1,t2⟩:=htb _ (Zew e1);exact ⟨a,C k,c,b,rfl,⟨dx,h1⟩,t1,t2,q _ _ g1 (Res.flat rpB)⟩
    | _=>cases e) fun c x q H' g'=>q H' g')
end
structure JJ (X:Cx)(C:String->Addr)(E:XK)(Γ Δ:List Nat)(es:List Expr)(t:TJ)(f:FA):Prop where
 q:QJ X es t
 o:JOk X.K C E Γ Δ t f
section
variable {S:List (Nat×Bool)}{a c:Expr}{rest:List Expr}{tb tc:TE}{fs:FE}{s:Stmt}{g:FS}
theorem Zpv:JJ X C E Γ Δ [] jNil Dl.Zr:=⟨Xna,Xhy⟩
theorem Zpq (h:JJ X C E Γ Δ es tj f)(hx:x.length<=2000:=by decide)(hv:B0 (.Constant (.str x) jj pos::es) X.env=AM (.Constant (.str x) jj pos) X.env::B0 es X.env:=by rfl):JJ X C E Γ Δ (.Constant (.str x) jj pos::es) (Zsr (tC (.str x)) tj) f:=⟨Zwz Xdu h.q hv,Xhf hx h.o⟩
theorem Zfw (hq:EZ X.K (C cn) bmV "ValueError.__new__"=true)(hm:X.mg x=some (.ref (C cn)))(hj:JJ (X.wish (ER X E)) C E Γ Δ (a::b::es) tj f)(hn:es.length<=100:=by decide)(hv:B0 (a::b::es) X.env=AM a X.env::AM b X.env::B0 es X.env:=by rfl)
  (hg:Gl X x:=by rfl) (hc:X.calm=true:=by rfl) (hx:X.ex=[]:=by rfl)
  (hdb:(x==("__debug__":Str))=false:=by decide) (he:Ac [.JoinedStr (a::b::es) jp] X.env=(false,AM (.JoinedStr (a::b::es) jp) X.env)::Ac [] X.env:=by rfl) (hpl:(AW cpos (Ac ([]:List Expr) X.env)).any (·.1)=false:=by rfl) :
  JS (X.wish (ER X E)) C E mr Γl Δl Γ Δ Γ' Δ' (.Raise (some (.Call (.Name x np) [.JoinedStr (a::b::es) jp] [] cpos)) none pos) (Zqv (.ref (C cn)) E (Jx (tJs tj) Ziu)) (Dl.Zed cn f):=
 ⟨Zyc hq hm (Jr (qe_js hj.q hn hv) Zdj he) hg hc hx hdb he hpl,Zsc hj.o⟩
theorem Zxc (K:AB){c:Addr}{tb:List (String×Bool)}(hg:Gl X "isinstance")(hm:X.mg "isinstance"=none)(hgx:Gl X x)(hmx:X.mg x=some (.ref c))(htb:∀p∈tb,Zse K (C p.1)/\CN K (.ref (C p.1)) (.ref c)=some p.2)(ha:JE X C E Γ Δ m S e te fe)
  (hse:Ac (e::[.Name x p2]) X.env=(false,AM e X.env)::Ac [.Name x p2] X.env) (hd:(x==("__debug__":Str))=false:=by decide) (hpl:(AW pos (Ac [.Name x p2] X.env)).any (·.1)=false:=by rfl) (hK:X.K=K:=by rfl) :
  JE X C E Γ Δ 2 [] (.Call (.Name "isinstance" p) [e,.Name x p2] [] pos) (tCB (rIsX K) (Jx te (Jx (tC (.ref c)) Ziu))) (Dl.f1 (Dl.Zpn tb) fe):=by
 subst hK;exact ⟨Zhd Zzs hg hm Cs (Jr ha.q (Jr (Zor (v:=.ref c) hgx hmx rfl hd) Zdj Za) hse) (by decide) (by decide) hse hpl,Xhc htb ha.o⟩
end
theorem Xly (h:Dl.plain n z=true):Pl n z:=by unfold Dl.plain at h;rw [Ae] at h;refine ⟨of_decide_eq_true h.1,fun c hc=>?_⟩;exact of_decide_eq_true (Bb.mp h.2 c hc)
theorem Pl.ok (h:Pl n z):AC z=true:=by unfold AC;rw [D3];intro c hc;have:=h.asc c (DE.mpr hc);simp;omega
def rSlX:V->Option Int->Option Int->Hp->VK->Prop:=fun x lo hi H Q=>∃z,x=.str z/\Pl 1000 z/\Q (.str (Dl.Yn z lo hi)) H
def rIsV (K:AB):List V->Hp->VK->Prop:=fun xs H Q=>∃(e D:Addr) (T:String) (b:Bool),xs=[.ref e,.ty T]/\(∃dx,H e=some (exO e (.ref D) dx))/\Zse K D/\CN K (.ref D) (.type T)=some b/\Q (.bl b) H
theorem Zok:Bc "ValueError"=some (.type "ValueError"):=by decide +kernel
theorem Xjk:SlR X rSlX:=by
 intro pins s σ H x v vl vu lo hi sl Q I rx hs pl pu h;obtain ⟨z,rfl,hz,q⟩:=h;obtain ⟨tk,rfl⟩:=rx;refine ⟨"str",_,PySem.F.slot_str_getitem.lookup,Cv _ z tk,?_⟩;have hp:∀{v:Value} {o:Option Int},GS v o->∃p:Option (Int×Tok),v=partValue p/\p.map (·.1)=o:=fun h=>by
  cases h with
  | none=>exact ⟨none,rfl,rfl⟩
  | int i t=>exact ⟨some (i,t),rfl,rfl⟩
 obtain ⟨l,rfl,el⟩:=hp pl;obtain ⟨u,rfl,eu⟩:=hp pu;subst el eu;refine Fz (l:=l) (u:=u) (st:=none) hs rfl ?_;have hl:=hz.len;unfold Dl.Yn at q;unfold sliceMade;by_cases hc:((Ay (l.map (·.1)) (u.map (·.1)) 1 z.length).length==z.length)=true;rw [if_pos hc] at q;rw [if_pos (by simpa [BX] using hc)];exact ⟨.str z,H,I,⟨_,rfl⟩,q⟩;rw [if_neg hc] at q;rw [if_neg (by simpa [BX] using hc)];refine ⟨?_,.str _,H,I.tok _,⟨_,rfl⟩,q⟩;have h1:((BX z l u none).filterMap (z.cps[·]?)).length<=(BX z l u none).length:=Cg ..;have h2:(BX z l u none).length<=z.length:=E6 _ _ _;exact AN h1 (AN h2 (by rw [Bm];omega))
theorem Zzt:Zbg X (.builtin "isinstance") (rIsV X.K):=by intro pins s σ H xs us Q I r h;obtain ⟨e,D,T,b,rfl,⟨dx,he⟩,hE,hk,q⟩:=h;obtain ⟨ho,hvs,q1,q2,q3,_⟩:=(I.hok e _ he).1;obtain ⟨u,w',rfl,rx,ry⟩:=vals2 r;cases rx;cases ry;exact Cr hE.kit I.kIn ⟨ho,hvs,q1,q2,q3⟩ hk (by intro z;cases z) fun tk=>⟨.bl b,H,I.tok _,rfl,q⟩
theorem Xib {D:Addr}{b:Bool}(h:BG K (.ref D) (.type "ValueError")=some b):CN K (.ref D) (.type "ValueError")=some b:=by
 have hm:PySem.W.kitMeta "ValueError"=true:=by decide +kernel
 unfold CN;rw [if_neg (by intro z;cases z)];show (if PySem.W.kitMeta "ValueError"=true then BG K (.ref D) (.type "ValueError") else none)=some b;rw [if_pos hm];exact h
section
variable {S:List (Nat×Bool)}
theorem Xkq (ha:EOk K C E Γ Δ m S ta fa)(hl:OOk K C E Γ Δ tl fl)(hh:OOk K C E Γ Δ th fh):EOk K C E Γ Δ 2 [] (tSl rSlX ta tl th) (Dl.fSl Dl.Ziv fa fl fh):=
  fun H0 Hb H σ ρ A Q I p=>ha H0 Hb H σ ρ A _ I (p.bind.imp (fun x q vx H1 g1 r1=>hl H0 Hb H1 σ ρ A _ (I.mono g1) (q.bind.imp (fun lo q H2 g2=>hh H0 Hb H2 σ ρ A _ (I.mono (g1.trans g2)) (q.bind.imp (fun hi q H3 g3=>by
    obtain ⟨d,e,q⟩:=Zer q;obtain ⟨B,r1,_⟩:=r1;have g13:=g1.trans (g2.trans g3);unfold Dl.Ziv at e;split at e;split at e;rename_i z _ _ hz;cases e;obtain ⟨rfl,_⟩:=r1;have pl:=Xly hz;refine ⟨z,rfl,pl,q _ _ g13 (Res.flat ⟨rfl,?_,rfl⟩)⟩;have pc:Pl 1000 (Dl.Yn z lo hi):=by unfold Dl.Yn;split;exact pl;refine ⟨?_,fun c hc=>?_⟩;exact AN (Cg ..) (AN (E6 _ _ _) pl.len);obtain ⟨i,_,hi⟩:=BN.mp (show c∈(Ay lo hi 1 z.length).filterMap (z.cps[·]?) from hc);exact pl.asc c (A5 (i:=i) (by simpa using hi))
    exact pc.ok;cases e
    · cases e) fun c x q H' g'=>q H' ((g1.trans g2).trans g'))) fun c x q H' g'=>q H' (g1.trans g'))) fun c x q H' g'=>q H' g')
theorem Xkt (htb:∀p∈tb,Zse K (C p.1)/\CN K (.ref (C p.1)) (.type T)=some p.2)(he:EOk K C E Γ Δ m S te fe):EOk K C E Γ Δ 2 [] (tCB (rIsV K) (Jx te (Jx (tC (.ty T)) Ziu))) (Dl.f1 (Dl.Zpn tb) fe):=
  fun H0 Hb H σ ρ A Q I p=>he H0 Hb H σ ρ A _ I (p.bind.imp (fun d q v H1 g1 r=>by
    obtain ⟨z,e,q⟩:=Zer q;obtain ⟨B,r,_⟩:=r;show rIsV K [v,.ty T] H1 Q;cases d with
    | exc k f =>have e:(tb.lookup k).map D.bl=some z:=e;obtain ⟨b,e1,e2⟩:=AD.mp e;subst e2;obtain ⟨a,dx,rfl,h1,_⟩:=r;obtain ⟨t1,t2⟩:=htb _ (Zew e1);exact ⟨a,C k,T,b,rfl,⟨dx,h1⟩,t1,t2,q _ _ g1 (Res.flat rpB)⟩
    | _=>cases e) fun c x q H' g'=>q H' g')
variable {a c:Expr}{rest:List Expr}{tb tc:TE}{fs:FE}
theorem Zek (he:JE X C E Γ Δ m S e te fe)(hl:JO X C E Γ Δ lo tl fl)(hu:JO X C E Γ Δ hi th fh):JE X C E Γ Δ 2 [] (.Subscript e (.Slice lo hi none p2) pos) (tSl rSlX te tl th) (Dl.fSl Dl.Ziv fe fl fh):=⟨Zql Xjk he.q hl.q hu.q,Xkq he.o hl.o hu.o⟩
theorem Xpd (K:AB){tb:List (String×Bool)}(hg:Gl X "isinstance")(hm:X.mg "isinstance"=none)(hgx:Gl X ty)(hmx:X.mg ty=none)(hvt:Bc ty=some (.type T))(htb:∀p∈tb,Zse K (C p.1)/\CN K (.ref (C p.1)) (.type T)=some p.2)(ha:JE X C E Γ Δ m S e te fe)
  (hse:Ac (e::[.Name ty p2]) X.env=(false,AM e X.env)::Ac [.Name ty p2] X.env) (hn:ty≠"__name__":=by decide) (hd:(ty==("__debug__":Str))=false:=by decide) (hpl:(AW pos (Ac [.Name ty p2] X.env)).any (·.1)=false:=by rfl) (hK:X.K=K:=by rfl) :
  JE X C E Γ Δ 2 [] (.Call (.Name "isinstance" p) [e,.Name ty p2] [] pos) (tCB (rIsV K) (Jx te (Jx (tC (.ty T)) Ziu))) (Dl.f1 (Dl.Zpn tb) fe):=by
 subst hK;exact ⟨Zhd Zzt hg hm Cs (Jr ha.q (Jr (Zwh (v:=.ty T) hgx hmx hvt rfl hn hd) Zdj Za) hse) (by decide) (by decide) hse hpl,Xkt htb ha.o⟩
end
section
variable {S:List (Nat×Bool)}
theorem RpA.ofStrs:∀{ds:List D} {vs:List V} {A:List Addr} {ts:List Str},RpA K C H ds vs A->Dl.strsOf ds=some ts->vs=ts.map V.str/\∀t∈ts,AC t=true
 | [],_,_,ts,r,h=>by simp only [Dl.strsOf,DD] at h;rw [r.1,<- h];exact ⟨rfl,fun _ z=>nomatch z⟩
 | d::ds,_,_,ts,r,h=>by
  obtain ⟨x,l,B,B',e1,e2,e3,e4⟩:=r;cases d<;>simp only [Dl.strsOf] at h<;>try cases h
  obtain ⟨ms,h1,h2⟩:=AD.mp h;obtain ⟨q1,q2⟩:=RpA.ofStrs e3 h1;subst h2;rw [e1,e2.1,q1];refine ⟨rfl,fun t ht=>?_⟩;rcases Af.mp ht with z | z;rw [z];exact e2.2.1;exact q2 t z
theorem Zjs {s:Str}(hs:AC s=true):∀{ts:List Str},(∀t∈ts,AC t=true)->AC (Ap s ts)=true
 | [],_=>by show AC Cp=true;decide +kernel
 | [x],h=>h x (.head _)
 | x::y::r,h=>by show AC (x++s++Ap s (y::r))=true;exact Zhl (Zhl (h x (.head _)) hs) (Zjs hs fun t ht=>h t (.tail _ ht))
def rJoin (K:AB):V->List V->Hp->VK->Prop:=fun x vs H Q=>∃s ts a,x=.str s/\vs=[.ref a]/\SqL K H a (ts.map V.str)/\(ts.map (·.length)).sum+ts.length*s.length<=Ai/\Q (.str (Ap s ts)) H
theorem Zmt:∀{ts:List Str} {us:List Value},Jj (ts.map V.str) us->∃l:List (Str×Tok),l.map (·.1)=ts/\us=strValues l
 | [],us,h=>by cases h;exact ⟨[],rfl,rfl⟩
 | t::ts,us,h=>by
  cases h with
  | cons r rr =>obtain ⟨tk,rfl⟩:=r;obtain ⟨l,h1,h2⟩:=Zmt rr;exact ⟨(t,tk)::l,by rw [<- h1];rfl,by rw [h2];rfl⟩
theorem Xhq :MtR X "str.join" (rJoin X.K):=by
 intro pins s σ H x vs v us Q I rx rv h;obtain ⟨sep,ts,a,rfl,rfl,hq,hz,q⟩:=h;obtain ⟨tk,rfl⟩:=rx;obtain ⟨u,rfl,ru⟩:=rv.one;cases ru;obtain ⟨its,rv2,p,_⟩:=I.list hq;obtain ⟨l,h1,h2⟩:=Zmt rv2;subst h1 h2;have hok:Dr ((l.map (·.1)).toArray.foldl (·+·.length+sep.length) 0)=false:=by rw [StrLaws.joinTotal];unfold Dr;simpa using hz
 refine CP F.slot_str_join (Cv _ sep tk) F.entry_str_join (F.args_str_join_2 _ _) (meets_str_join_list sep tk a l hok) ⟨p.isList,post_join l ⟨joinFit_length hok,fun t' k=>?_⟩⟩;have e:Txt.join sep (l.map (·.1))=Ap sep (l.map (·.1)):=StrLaws.glued_eq_join _ _;rw [e];exact ⟨.str _,H,I.tok _,⟨_,rfl⟩,q⟩
theorem Xbh {tb:TE}(ha:EOk K C E Γ Δ m1 S1 ta fa)(hb:EOk K C E Γ Δ m2 S2 tb fb):EOk K C E Γ Δ 2 [] (tBM K "str" (rJoin K) ta (Jx tb Ziu)) (Dl.Zfr fa fb):=
  fun H0 Hb H σ ρ A Q I p=>ha H0 Hb H σ ρ A _ I (p.bind.imp (fun x q vx H1 g1 r1=>by
    obtain ⟨Bx,r1,_⟩:=r1;cases x with
    | str s =>
      obtain ⟨rfl,hs,_⟩:=r1;refine ⟨rfl,hb H0 Hb H1 σ ρ A _ (I.mono g1) (q.bind.imp (fun y q vy H2 g2 r2=>?_) fun c x q H' g'=>q H' (g1.trans g'))⟩;obtain ⟨d,e,q⟩:=Zer q;obtain ⟨By,r2,_⟩:=r2;cases y with
      | lst ds =>obtain ⟨a,ys,B,rfl,e2,e3,_⟩:=r2;obtain ⟨ts,h1,h2⟩:=De.mp (show (Dl.strsOf ds).bind (fun ts=>if (ts.map (·.length)).sum+ts.length*s.length<=Dl.lim then some (D.str (Ap s ts)) else none)=some d from e);split at h2;rename_i hz;cases h2;obtain ⟨q1,q2⟩:=RpA.ofStrs e3 h1;subst q1;exact ⟨s,ts,a,rfl,rfl,SqL.of e2,Zde hz,q _ _ (g1.trans g2) (Res.flat ⟨rfl,Zjs hs q2,rfl⟩)⟩;cases h2
      | _=>cases e
    | _=>exact q.elim) fun c x q H' g'=>q H' g')
variable {a c:Expr}{rest:List Expr}{tb tc:TE}{fs:FE}
theorem Zfx (K:AB)(ho:JE X C E Γ Δ m1 S1 o ta fa)(he:JE X C E Γ Δ m2 S2 e tb fb)(hse:Ac [e] X.env=(false,AM e X.env)::Ac [] X.env)(hbase:Bl o "join" X.env (AM o X.env)=AM o X.env:=by rfl)
  (hfew:((AW cpos (Ac [e] X.env)).all (fun x=>!x.1)&&(CF cpos (BI [] X.env)).all (fun x=>x.1.isSome)&&decide (([e]:List Expr).length+([]:List Bi).length+(if ([]:List Bi).isEmpty then 0 else 1)<30))=true:=by rfl)
  (hline:(apos.endLine==cpos.line)=true:=by rfl) (hplain:(AW cpos (Ac ([]:List Expr) X.env)).any (·.1)=false:=by rfl) (hK:X.K=K:=by rfl):JE X C E Γ Δ 2 [] (.Call (.Attribute o "join" apos) [e] [] cpos) (tBM K "str" (rJoin K) ta (Jx tb Ziu)) (Dl.Zfr fa fb):=by
 subst hK;exact ⟨Zrt PySem.F.plainAttrs_str PySem.F.slot_str_join PySem.F.type_str_join Xhq ho.q (Jr he.q Zdj hse) hbase hfew hline hse hplain,Xbh ho.o he.o⟩
end
theorem Inv.turnTup {p:Addr}(I:Inv X pins σ H s)(k:∀b o,b∉ch->s.heap.get? b=some o->h'.get? b=some o)(hf:∀b∈ch,Zks X pins H b)
  (hp:s.heap.objs.size<=p) (hz:xs.length<=Ai) (hv:Jj xs its) (ho:IsTup h' p its.toArray):Inv X pins σ (upd H p (.tup xs)) {s with heap:=h',toks:=t'}:=by
 have hn:H p=none:=I.hok.fresh hp;have nch:∀b u,H b=some u->b∉ch:=fun b u e z=>by rw [(hf b z).1] at e;cases e
 refine I.step (g':=s.gens) (d':=s.drawn) (ch:=ch) (fun b hb=>⟨(hf b hb).2.2.2.1,(hf b hb).2.1,(hf b hb).2.2.2.2.1,(hf b hb).2.2.2.2.2⟩) (fun b o _ _ hc e _=>k b o hc e) (fun b o _ _ hc e _=>⟨o.slots,k b o hc e⟩) (fun b o _ e n=>?_)
  (fun b o hc e=>⟨o,k b o hc e⟩) (fun b ys e=>by rw [Xl (Xw e hn)];exact e) (fun b o u e=>by rw [Xl (Xw e hn)];exact e) (fun b p n e=>by rw [Xl (Xw e hn)];exact e) (fun m hm=>?_) (fun b u e=>?_) I.bare
 rw [Xl];exact n;exact Be (Aq (AL e) hp);obtain ⟨o,es,ep,ho,r⟩:=hm;exact ⟨o,es,ep,k _ o (fun z=>(hf _ z).2.1 rfl) ho,r⟩;by_cases hb:b=p;subst hb;rw [Ym] at e;cases e;exact ⟨hz,its,hv,ho⟩;rw [Xl hb] at e;refine (I.hok b u e).stay (fun c v hc q=>k c v ?_ q) (fun c q=>by rw [Xl (Xw q hn)];exact q) (fun c ys q=>by rw [Xl (Xw q hn)];exact q) fun c ob u q=>by rw [Xl (Xw q hn)];exact q
 rcases hc with z | z;rw [z];exact nch b u e;exact nch c _ z
theorem Inv.turneds (I:Inv X pins σ H s)(k:∀b o,b∉ch->s.heap.get? b=some o->h'.get? b=some o)(hf:∀b∈ch,Zks X pins H b):Inv X pins σ H {s with heap:=h',toks:=t'}:=by
 have nch:∀b u,H b=some u->b∉ch:=fun b u e z=>by rw [(hf b z).1] at e;cases e
 refine I.step (g':=s.gens) (d':=s.drawn) (ch:=ch) (fun b hb=>⟨(hf b hb).2.2.2.1,(hf b hb).2.1,(hf b hb).2.2.2.2.1,(hf b hb).2.2.2.2.2⟩) (fun b o _ _ hc e _=>k b o hc e) (fun b o _ _ hc e _=>⟨o.slots,k b o hc e⟩) (fun _ _ _ _ n=>n)
  (fun b o hc e=>⟨o,k b o hc e⟩) (fun _ _ e=>e) (fun _ _ _ e=>e) (fun _ _ _ e=>e) (fun m hm=>?_) (fun b u e=>?_) I.bare
 obtain ⟨o,es,ep,ho,r⟩:=hm;exact ⟨o,es,ep,k _ o (fun z=>(hf _ z).2.1 rfl) ho,r⟩;refine (I.hok b u e).stay (fun c v hc q=>k c v ?_ q) (fun _ q=>q) (fun _ _ q=>q) fun _ _ _ q=>q;rcases hc with z | z;rw [z];exact nch b u e;exact nch c _ z
def Ite (K:AB)(a:Addr):It:=
  ⟨fun i H=>∃xs x,SqL K H a xs/\xs[i]?=some x,
   fun i H v H'=>∃p,v=.ref p/\H p=none/\∀xs,SqL K H a xs->∃x,xs[i]?=some x/\H'=upd H p (.tup [.int i,x]),
   fun i H=>∃xs,SqL K H a xs/\xs.length<=i⟩
theorem Zyg {x y:V}{u v:Value}(h1:RelV x u)(h2:RelV y v):Jj [x,y] [u,v]:=.cons h1 (.cons h2 .nil)
theorem Zxb {P:Av}{e it:Addr}(hne:e≠it) :
    Turn P w K (.Tuple elts x1 pos) (Ite K a) [e,it] e (fun i h=>(∃old,IsEnum h e it i old)/\h.IsListIter it a i) where
  mem:=by simp
  obj:=fun i h st c hc=>by obtain ⟨⟨old,h1⟩,⟨o5,e5,_,d5⟩⟩:=st;simp only [Af,Cb,or_false] at hc;rcases hc with rfl | rfl;exact ⟨_,h1,fun v z=>by cases z⟩;exact ⟨_,e5,fun v z=>by rw [d5] at z;cases z⟩
  keep:=fun i h h' st k=>by obtain ⟨⟨old,h1⟩,h5⟩:=st;exact ⟨⟨old,k e (by simp) _ h1⟩,h5.at fun o q=>k it (by simp) o q⟩
  item:=by
    intro X hP hw hK hc i pins s σ H E I hf st hg;subst hP hw hK;obtain ⟨xs,x,hq1,hx⟩:=hg;obtain ⟨⟨old,h1⟩,h4⟩:=st;obtain ⟨its1,rv1,p1,hz1⟩:=I.list hq1;obtain ⟨u,hu,ru⟩:=rv1.get hx;refine wpAny_pyNext_enum_item h1 h4 p1.isList (x:=u) (by simpa using hu) hne fun h' a1 a2 a3 a4 a5=>?_;refine ⟨_,rfl,wpAny_letOwnedTupleGo_enum a1 fun h'' b1 b2=>?_⟩;have hne1:s.heap.objs.size≠e:=fun q=>absurd (AL h1) (by rw [<- q];exact AZ _);have ht:h''.get? s.heap.objs.size=some {cls:=.type "tuple",data:=.seq #[.int i s.toks,u]}:=b2.extBut _ _ hne1 a3;have I2:=I.turnTup (t':=s.toks+1) (h':=h'') (ch:=[e,it]) (p:=s.heap.objs.size) (xs:=[.int i,x]) (its:=[.int i s.toks,u]) (fun c o hc q=>by
        simp only [Af,Cb,or_false,not_or] at hc;exact b2.extBut _ _ hc.1 (a5 c o hc.1 hc.2 q)) (fun c hc=>hf c hc) (AF _) (by show 2<=Ai;decide) (Zyg ⟨_,rfl⟩ ru) ⟨_,ht,rfl,_,rfl⟩
    refine ⟨.ref s.heap.objs.size,_,I2,rfl,⟨_,rfl,I.hok.fresh (AF _),fun xs' e1=>⟨x,by rw [I.list_inj e1 hq1];exact hx,rfl⟩⟩,⟨⟨_,b1⟩,a2.extBut b2.extBut hne.symm⟩,fun c hc=>?_⟩;rw [Xl];exact (hf c hc).1;rintro rfl;have:∃o,s.heap.get? s.heap.objs.size=some o:=by simp only [Af,Cb,or_false] at hc;rcases hc with q | q;exact ⟨_,by rw [q];exact h1⟩;obtain ⟨o,q',_⟩:=h4;exact ⟨o,by rw [q];exact q'⟩
    obtain ⟨o,q⟩:=this;exact absurd (AL q) (AZ _)
  done:=by
    intro X hP hw hK hc i pins s σ H E I hf st hg;subst hP hw hK;obtain ⟨xs,hq1,hl⟩:=hg;obtain ⟨⟨old,h1⟩,h4⟩:=st;obtain ⟨its1,rv1,p1,hz1⟩:=I.list hq1;have l1:=rv1.length;refine wpAny_pyNext_enum_end (I.ok.hd hc) h1 h4 p1.isList (by simp;omega) fun h' k=>⟨rfl,I.turneds (t':=s.toks) (ch:=[e,it]) (fun c o hc q=>by
        simp only [Af,Cb,or_false,not_or] at hc;exact k c o hc.2 q) (fun c hc=>hf c hc)⟩
  self:=fun _ _ _ _ _ st h=>by obtain ⟨⟨old,h1⟩,_⟩:=st;exact GX h1 h
section
variable {a:Expr}{tb:TE}
def Xkd (K:AB)(ta:TE):TI:=fun σ H R=>Jx ta Ziu σ H fun vs H1=>∃p,vs=[.ref p]/\(∃xs,SqL K H1 p xs)/\R (Ite K p) H1
theorem Xir (hg:Gl X "enumerate")(hm:X.mg "enumerate"=none)(ha:PE X a ta)(hs:Ac [a] X.env=(false,AM a X.env)::Ac [] X.env)(hs3:Ac ([]:List Expr) X.env=[]:=by rfl) :
  PI X (.Tuple elts x1 tpos) (.Call (.Name "enumerate" p) [a] [] pos) (Xkd X.K ta):=by
 intro pins s σ H R I h;refine Call_ (Zlq I hg hm boot_enumerate (Cy (thn (Zvc ha Xeo hs pos pins s σ H _ I h) fun us s1 ⟨vs,H1,I1,r1,q1⟩=>?_) (by rw [hs]) (by rw [hs3];rfl)));obtain ⟨l1,rfl,⟨xs,hq1⟩,q⟩:=q1;obtain ⟨u,rfl,rx⟩:=vals1 r1;cases rx;obtain ⟨its1,rv1,p1,hz1⟩:=I1.list hq1;refine call_enumerate_list p1.isList fun h' z1 z4 z6 z7=>?_;refine GX z1 ?_;have I2:Inv X pins σ H1 {s1 with heap:=h'}:=I1.kept (t':=s1.toks) z7;refine ⟨_,[s1.heap.objs.size+1,s1.heap.objs.size],_,_,H1,rfl,I2,Zxb (a:=l1) (Hm (Nat.lt_succ_self _)),⟨⟨_,z1⟩,z4⟩,fun c hc=>?_,q⟩;have hc':s1.heap.objs.size<=c:=by simp only [Af,Cb,or_false] at hc;rcases hc with rfl | rfl<;>first | exact AF _ | exact Dq _ _
 exact I1.fpOk hc' (I1.hok.fresh hc')
end
section
variable {S:List (Nat×Bool)}
theorem Zvv (r:RpA K C Hc ds vs B)(h:∀H2,Xt Hc H2->SqL K H2 a vs):Goes K C (Ite K a) (Dl.Zmc ds) Hc:=fun H2 g=>by
 have q:=h H2 g;have hl:=r.len;have he:(Dl.Zmc ds).length=ds.length:=by simp [Dl.Zmc]
 refine ⟨fun i hi=>⟨vs,vs[i]'(by omega),q,AH (by omega)⟩,fun i hi=>⟨vs,q,by omega⟩,fun i x H3 hi y=>?_⟩;obtain ⟨p,rfl,hp,y⟩:=y;obtain ⟨x,hx,rfl⟩:=y vs q;obtain ⟨d,Bd,q1,q2,q3⟩:=r.get' hx;have sm:=sameNew hp (.tup [.int i,x]);refine ⟨sm,.tup [.int i,d],Bd,by simp [Dl.Zmc,List.getElem?_mapIdx,q1],⟨p,[.int i,x],rfl,Ym,?_⟩,fun a ha z=>?_⟩;exact ⟨.int i,[x],[],Bd,rfl,⟨rfl,rfl⟩,RpA.one ((q2.same g).same sm),rfl⟩;obtain ⟨xs,e,_⟩:=q2.isl a ha;rw [e] at z;cases z
theorem Xdd {t:TE}{f:FE}(h:EOk K C E Γ Δ m S t f):IOk K C E Γ Δ S (Xkd K t) (Dl.Xcj f):=fun H0 Hb H σ ρ A Rr I p=>h H0 Hb H σ ρ A _ I (p.bind.imp (fun d q v H' g r=>by
  obtain ⟨B,r,r',_⟩:=r;cases d with
  | lst ds =>obtain ⟨a,xs,B',rfl,e2,e3,e4⟩:=r;subst e4;simp only at q;split at q;rename_i hl;refine ⟨a,rfl,⟨xs,SqL.of e2⟩,q _ H' (a::B') g (fun b hb=>?_) (by simpa [Dl.Zmc] using hl) fun Hc h1=>Zvv (e3.agree h1 fun b hb=>.tail _ hb) fun H2 g2=>SqL.of (g2 _ _ ((h1.1 a (.head _)).trans e2))⟩;rcases Af.mp hb with z | z;rw [z];exact ⟨⟨_,e2,.lst⟩,r' a (.head _)⟩;exact ⟨e3.isl b z,r' b (.tail _ z)⟩;exact q.elim
  | _=>exact q.elim) fun c x q H' g'=>q H' g')
variable {a:Expr}{tb:TE}
theorem Xiz (hg:Gl X "enumerate")(hm:X.mg "enumerate"=none)(ha:JE X C E Γ Δ m1 S1 a ta fa)(hs:Ac [a] X.env=(false,AM a X.env)::Ac [] X.env) :
  JI X C E Γ Δ S1 (.Tuple elts x1 tpos) (.Call (.Name "enumerate" p) [a] [] pos) (Xkd X.K ta) (Dl.Xcj fa):=⟨⟨Xir hg hm ha.q.out hs⟩,Xdd ha.o⟩
end
section
def Xrs:List V->Hp->VK->Prop:=fun vs H Q=>∃b,vs=[.bl b]/\Q (.int (if b=true then 1 else 0)) H
theorem Zvx:Zbg X (.type "int") Xrs:=by intro pins s σ H xs us Q I r h;obtain ⟨b,rfl,q⟩:=h;obtain ⟨u,rfl,rx⟩:=vals1 r;cases rx;exact call_int_bool ⟨.int (if b=true then 1 else 0),H,I.tok _,⟨_,rfl⟩,q⟩
variable {S:List (Nat×Bool)}
theorem Xgx:GAk K C Xrs Dl.Xnm:=by intro H xs d vs Bx Q r e q;unfold Dl.Xnm at e;split at e;rename_i b;cases e;obtain ⟨v,rfl,r1⟩:=r.one';obtain ⟨rfl,_⟩:=r1;exact ⟨b,rfl,Out.flat q rpI⟩;cases e
variable {S:List (Nat×Bool)}{a c:Expr}{rest:List Expr}{tb tc:TE}{fs:FE}{bpos:Pos}
end
section
variable {kp:Pos}{k:Nat}
variable {S:List (Nat×Bool)}
end
section
variable {S:List (Nat×Bool)}{a c:Expr}{rest:List Expr}{tb tc:TE}{fs:FE}{kp:Pos}{k:Nat}
end
section
theorem Xpu {A':AJ}{e T L:Addr}{cls fl:Value}{Q:Unit->Ab->Prop}{R:Value->Ab->Prop}(I:Inv X pins σ H s)(x:Zju s.heap e cls [e,T] (some fl))(oo:Zcu X pins H [e,T])
  (k:∀s2,Inv X pins σ H s2->Zju s2.heap e cls [e,T] (some (CL L))->Q () s2):Au (Ao X.prog X.w) A' (EQ (.ref e) (some L)) Q R s:=by
 obtain ⟨oe,vs,a0,he,hc,hd,h0,r⟩:=x;rcases r with ⟨z,_⟩ | ⟨T',oT,ts,fl',z,ro,h1,hTe,hT,hdT,h3⟩;cases z;cases z;simp only [HY,and_true,true_and] at ro;subst ro;have hsz:3<ts.size:=(EI.mp h3).1;unfold EQ;refine Aj (Gs he hd h1 ?_);rw [if_pos (show (Ba T != C1)=true from by simp)];refine wpAny_setField hT hdT hsz (k _ ?_ ?_);have oth:∀b,b≠T->(s.heap.update T (E7 (·.setIfInBounds 3 (CL L)))).get? b=s.heap.get? b:=fun b hb=>B7 _ _ (Ne.symm hb);refine I.step' (g':=s.gens) (t':=s.toks) (d':=s.drawn) (ch:=[T]) (fun b hb=>?_) (fun b o _ _ hc q _=>(oth b (by simpa using hc)).trans q) (fun b o _ _ hc q _=>⟨o.slots,(oth b (by simpa using hc)).trans q⟩) (fun _ _ _ _ n=>n) (fun b o hc q=>⟨o,(oth b (by simpa using hc)).trans q⟩)
  (fun _ _ q=>q) (fun _ _ _ q=>q) (fun _ _ _ q=>q) (fun m hm=>?_) (fun b u q=>?_) I.bare
 have e1:b=T:=by simpa using hb
 subst e1;exact (oo b (by simp)).2;obtain ⟨o,es,ep,ho,r⟩:=hm;exact ⟨o,es,ep,(oth _ (oo T (by simp)).2.2.1.symm).trans ho,r⟩;refine (I.hok b u q).stay (fun c v hc q'=>(oth c fun z=>?_).trans q') (fun _ q=>q) (fun _ _ q=>q) fun _ _ _ q=>q;have hn:=(oo T (by simp)).1;rcases hc with w | w;rw [w] at z;rw [z,hn] at q;cases q;rw [z,hn] at w;cases w;refine ⟨oe,vs,a0,(B7 _ _ hTe).trans he,hc,hd,h0,.inr ⟨T,_,_,CL L,rfl,rfl,h1,hTe,DB _ hT (Obj.isFreed_of_fields (Gc hdT _)),Gc hdT _,by simp [hsz]⟩⟩
variable {S:List (Nat×Bool)}{c:Expr}{g:FS}
variable {S:List (Nat×Bool)}
variable {a:Expr}{pt2:Pos}{k k2:Nat}
variable {c lx:Expr}{rest:List Expr}{tb tc tl:TE}{fs fl:FE}
variable {A:AJ}{E:Value->Ab->Prop}
end
open Dl (FM FMT)
section
variable {S:List (Nat×Bool)}
def MOk (K:AB)(C:String->Addr)(E:XK)(Γ Δ:List Nat)(t:TE)(f:FM):Prop:=∀(H0 Hb H:Hp) (σ:St) (ρ:Yp) (A:Nat->List Addr) (Q:VK),Zs K C H0 Hb H Γ Δ σ ρ A->
 Yo (f ρ) (fun p=>∀v H' A' B,Zs K C H0 Hb H' Γ Δ σ p.2 A'->Rp K C H' p.1 v B->B.Nodup->(∀a∈B,Hb a=none/\∀j,a∉A' j)->Q v H') (fun c x=>∀H',Xt H0 H'->EC C E c x H')->t σ H Q
def MTOk (K:AB)(C:String->Addr)(E:XK)(Γ Δ:List Nat)(t:TT)(f:FMT):Prop:=∀(H0 Hb H:Hp) (σ:St) (ρ:Yp) (A:Nat->List Addr) (Q:Bool->Hp->Prop),Zs K C H0 Hb H Γ Δ σ ρ A->
 Yo (f ρ) (fun p=>∀H' A',Zs K C H0 Hb H' Γ Δ σ p.2 A'->Q p.1 H') (fun c x=>∀H',Xt H0 H'->EC C E c x H')->t σ H Q
def SOkP (K:AB)(C:String->Addr)(E:XK)(Γ Δ Γ' Δ':List Nat)(t:TS)(f:FS):Prop:=∀(H0 Hb H:Hp) (σ:St) (ρ:Yp) (A:Nat->List Addr) (D:Ends),Zs K C H0 Hb H Γ Δ σ ρ A->
  Yo (f ρ) (fun fl=>match fl with
    | .nx ρ'=>∀σ' H' A',σ'[0]?=σ[0]?->Zs K C H0 Hb H' Γ' Δ' σ' ρ' A'->D.nx σ' H'
    | _=>False) (fun c x=>∀H',Xt H0 H'->EC C E c x H')->t D σ H
def MBOk (K:AB)(C:String->Addr)(E:XK)(Γ Δ:List Nat)(t:TS)(G:FM):Prop:=∀(H0 Hb H:Hp) (σ:St) (ρ:Yp) (A:Nat->List Addr) (D:Ends) (Q:VK),Zs K C H0 Hb H Γ Δ σ ρ A->D.rt=Q->(D.nx=fun _ H'=>Q .non H')->
 Yo (G ρ) (fun p=>∀v H' σ' A' B,σ'[0]?=σ[0]?->Zs K C H0 Hb H' [0] [0] σ' p.2 A'->Rp K C H' p.1 v B->B.Nodup->(∀a∈B,Hb a=none/\∀j,a∉A' j)->Q v H') (fun c x=>∀H',Xt H0 H'->EC C E c x H')->t D σ H
end
structure JM (X:Cx)(C:String->Addr)(E:XK)(Γ Δ:List Nat)(e:Expr)(t:TE)(f:FM):Prop where
 q:QE X e t
 o:MOk X.K C E Γ Δ t f
structure JMT (X:Cx)(C:String->Addr)(E:XK)(Γ Δ:List Nat)(e:Expr)(t:TT)(f:FMT):Prop where
 q:QT X e t
 o:MTOk X.K C E Γ Δ t f
structure JMW (X:Cx)(C:String->Addr)(E:XK)(Γ Δ:List Nat)(e:Expr)(t:TT)(f:FMT):Prop where
 q:QW X e t
 o:MTOk X.K C E Γ Δ t f
structure JP (X:Cx)(C:String->Addr)(E:XK)(Γ Δ Γ' Δ':List Nat)(s:Stmt)(t:TS)(f:FS):Prop where
 q:QS X s t
 o:SOkP X.K C E Γ Δ Γ' Δ' t f
structure JMB (X:Cx)(C:String->Addr)(E:XK)(Γ Δ:List Nat)(s:List Stmt)(t:TS)(f:FM):Prop where
 q:QSs X s t
 o:MBOk X.K C E Γ Δ t f
structure MDef (P:Av)(w:AO)(K:AB)(mg:Str->Option Value)(base:AY)(CX:CXT)(k:Nat)(C:Addr)(x:Str)(ps:List Str)(sp:Sp):Prop where
 ex:∃f fd,Meth K C x f/\Binds K fd ps []/\Zbr P w K mg base CX k f fd ps sp
structure MkDef (P:Av)(w:AO)(K:AB)(mg:Str->Option Value)(base:AY)(CX:CXT)(k:Nat)(C:Addr)(ps:List Str)(sp:Sp):Prop where
 ex:∃f fd,Mk K C f/\Binds K fd ps []/\Zbr P w K mg base CX k f fd ps sp
section
variable {S:List (Nat×Bool)}{a:Expr}{rest:List Expr}{fa:FA}{f md:Str}{k:Nat}{s:Stmt}{tm:TE}{fm:FM}{g:FS}
end
section
variable {a:Expr}{tb:TE}{ff:FA}{k:Nat}
end
theorem allN0 (h:P []):∀us:List Value,us.length=0->P us
 | [],_=>h
theorem Zdz (h:∀a0,P [a0])(us:List Value)(hl:us.length=1):P us:=by
 cases us with
 | nil=>exact absurd hl (by decide)
 | cons a us=>exact allN0 (P:=fun z=>P (a::z)) (h a) us (DP hl)
theorem Ztj (h:∀a0 a1,P [a0,a1])(us:List Value)(hl:us.length=2):P us:=by
 cases us with
 | nil=>exact absurd hl (by decide)
 | cons a us=>exact Zdz (P:=fun z=>P (a::z)) (h a) us (DP hl)
theorem Xbg (h:∀a0 a1 a2,P [a0,a1,a2])(us:List Value)(hl:us.length=3):P us:=by
 cases us with
 | nil=>exact absurd hl (by decide)
 | cons a us=>exact Ztj (P:=fun z=>P (a::z)) (h a) us (DP hl)
theorem allN4 (h:∀a0 a1 a2 a3,P [a0,a1,a2,a3])(us:List Value)(hl:us.length=4):P us:=by
 cases us with
 | nil=>exact absurd hl (by decide)
 | cons a us=>exact Xbg (P:=fun z=>P (a::z)) (h a) us (DP hl)
theorem Xde {K:Params->AB}{t:Nat}{r:PySem.W.RowW}{d:DefRec}{run:Value->List Value->Sem Value}
  (e:∀P,as=(K P).map (·.1)) (W:PySem.W.WalkO q loose XP (PySem.W.InK K) r d kwd run):PySem.W.WalkX q loose XP (PySem.W.X.obsZ as) (PySem.W.X.valZ K n t) r d kwd run:=
 fun w s₀ s₁ mg mb G y a o pm cd doc dV kV ho hd hcd hD hmg hg args vals as' L hpre hlay hrd hwl hlo =>
  W w s₀ s₁ mg mb G (PySem.W.InK.keeps w _ _ (PySem.W.X.z_facts e y).2.1 (PySem.W.Laid.keeps L)) a o pm cd doc dV kV ho hd hcd hD hmg hg args vals as' hpre hlay hrd hwl hlo
section
variable {k:Nat}{ff:FA}{p3:Pos}
end
def Xpr (K:AB)(C:Addr)(bmB:List Value)(newId:String)(fI:Addr):Bool:=match K.lookup C with
  | some ⟨.type "type",_,.cls cd,sl⟩=>(match cd.mro,sl.toList with
    | .ref C'::bm,[_,_,_,_,some (.builtin n),_]=>C'==C&&n==newId&&!cd.hasDel&&cd.hasDict&&PySem.W.tailIn K bmB bm&&PySem.W.nsOkIn K cd.ns&&Bq K cd.ns "__init__"==some (some (.ref fI))
    | _,_=>false)
  | _=>false
section
variable {A:AJ}{E:Value->Ab->Prop}{g:Array Dj}{d:GG}{t:Nat}
variable {q:Str}{C N:Addr}{bs:List Value}{B:String}
end
end L2
namespace L2
open PySem PySem.Spec PyProof.Rows
open PySem.W (Looks)
open Builtin Builtin.ObjectAttr
variable {prog:Av}{w:AO}{A:AJ}{E:Value->Ab->Prop}{h:AY}{g:Array Dj}{d:GG}{t:Nat}{os:Gb}{sn:List Str}{sub:List Value}{ab:Bool}{col:Option Bool}{dd:Option Addr}
section
variable {nm q:Str}{C N x:Addr}{bs bm bmB:List Value}{k0 k1 k2 k3 k5:Option Value}{B newId sa owner:String}
 {name:Str} {v:Value} {fs:Array Value} {sl:Array (Option Value)}
end
end L2
namespace L2
open PySem PySem.Spec PyProof.Rows
open PySem.W (Looks)
variable {prog P:Av}{w:AO}{A:AJ}{E:XK}{h:AY}{g:Array Dj}{d:GG}{t m mr m1 m2 i t' m3:Nat}{os:Gb}{C:String->Addr}{hdct ab:Bool}{sn:List Str}{sub its:List Value}{col:Option Bool}{dd:Option Addr}{o e b a c tg kx:Expr}{vs:Array Value}{mA mg:Str->Option Value}{v u:Value}{name x y:Str}{X:Cx}{pins:List (Addr×Obj)}{σ:St}{H:Hp}{s:Ab}{es:List Expr}{ta te tb tk:TE}{pos pos' apos np cpos p p2:Pos}{B:List Addr}{K:AB}{Γ Δ Γ' Δ' Γl Δl Γk Δk Γ1 Δ1 cs l l':List Nat}{fe fa fb fk:FE}{S1 S2 S3:List (Nat×Bool)}{ret suite:List Stmt}{hs:List CY}{zs:List Clz}{ds:List (List (String×Bool)×Option Nat×FS)}{b₀:Stmt}{n:Int}{ty:String}{ks:List (Int ⊕ Str)}{xs ys:List V}{ρ:Dl.Env}{r:V->List V->Hp->VK->Prop}
section
variable {E:Value->Ab->Prop}
variable {nm q:Str}{C N x:Addr}{bs bm bmB:List Value}{k0 k1 k2 k3 k5:Option Value}{B newId initId:String}
end
section
variable {E:Value->Ab->Prop}{a C dx:Addr}{o:Obj}
end
open Dl (D R FE FT FA FO FS FI FB Fl)
structure ErrF (K:AB)(C:Addr)(nm:Str)(fI:Addr):Prop where
 exc:Xpr K C bmV "ValueError.__new__" fI=true
 sa:B5 K (.ref C) "__setattr__"=some (some (.builtin "object.__setattr__"))
 nf:B5 K (.ref C) nm=some none
 hd:PySem.W.hasDictIn K C=true
def exA (e C:Addr)(dx:Option Addr):HO:=.ext fun h=>∃t sl,h.get? e=some {cls:=.ref C,dict:=dx,data:=.fields #[.ref t,.none,.none,.none,.bool false,.none],slots:=sl}
structure BaseI (K:AB)(B:Addr):Prop where
 sp:FC K (.ref B) "__getattribute__"=some (some (.builtin "type.__getattribute__"))
 rd:PySem.W.readsIn K B (.type "type")=true
 fc:PySem.W.findCls K (.ref B) (.type "type") "__init__"=some (.val (.builtin "ValueError.__init__"))
section
variable {value:Expr}{t:TA}{tv:TE}{b f:Str}{B:Addr}
end
def Xmj (K:AB)(nm:Str):Sp:=fun vs H Q _=>∃e C i fI,vs=[.ref e,.int i]/\H e=some (exA e C none)/\ErrF K C nm fI/\i.natAbs.log2<1920/\∀d,H d=none->Q .non (upd (upd H d (.xd [(nm,.int i)])) e (exA e C (some d)))
section
variable {base:AY}
structure IDef (P:Av)(w:AO)(K:AB)(mg:Str->Option Value)(base:AY)(C:Addr)(nm:Str):Prop where
 ex:∃fI fd ps,ErrF K C nm fI/\DH K (.ref fI)=some (.type "function")/\ps.length=2/\Binds K fd ps []/\Zbr P w K mg base CX0 1 fI fd ps (Xmj K nm)
variable {S:List (Nat×Bool)}
variable {S:List (Nat×Bool)}
variable {iter:Expr}{u:TS}{g:FS}{ip:Pos}{k:Nat}
end
structure Clz where
 c:Value
 i:Option Nat
 th:TS
inductive PClz (X:Cx):List CY->List Clz->Prop
 | nil:PClz X [] []
 | named {c n:Str} {np hpos:Pos} {C:Addr} {b₀:Stmt} {suite:List Stmt} {i:Nat} {th:TS} {hs:List CY} {zs:List Clz} (hm:X.mg c=some (.ref C)) (hg:Gl X c) (hdb:(c==("__debug__":Str))=false) (hi:X.N[i]?=some n) (hl:X.env.scope.names.lookup n=some .local)
   (hh:∀e:Addr,PSs (X.hand e) (b₀::suite) th) (hr:PClz X hs zs):PClz X (.ExceptHandler (some (.Name c np)) (some n) (b₀::suite) hpos::hs) (⟨.ref C,some i,th⟩::zs)
 | plain {c:Str} {np hpos:Pos} {C:Addr} {b₀:Stmt} {suite:List Stmt} {th:TS} {hs:List CY} {zs:List Clz} (hm:X.mg c=some (.ref C)) (hg:Gl X c) (hdb:(c==("__debug__":Str))=false)
   (hh:∀e:Addr,PSs (X.hand e) (b₀::suite) th) (hr:PClz X hs zs):PClz X (.ExceptHandler (some (.Name c np)) none (b₀::suite) hpos::hs) (⟨.ref C,none,th⟩::zs)
inductive OClz (K:AB)(C:String->Addr)(N mr:Nat)(Γl Δl Γ1 Δ1:List Nat):List Clz->List (List (String×Bool)×Option Nat×FS)->Prop
 | nil:OClz K C N mr Γl Δl Γ1 Δ1 [] []
 | named {c:Addr} {i:Nat} {th:TS} {fh:FS} {tb:List (String×Bool)} {Γ2 Δ2:List Nat} {Eh:XK} {zs:List Clz} {ds:List (List (String×Bool)×Option Nat×FS)} (ht:∀p∈tb,ET K (.ref (C p.1)) (.ref c)=some p.2) (hi:i<N) (hh:SOk K C Eh mr [] [] [] [] Γ2 Δ2 th fh)
   (hr:OClz K C N mr Γl Δl Γ1 Δ1 zs ds):OClz K C N mr Γl Δl Γ1 Δ1 (⟨.ref c,some i,th⟩::zs) ((tb,some i,fh)::ds)
 | plain {c:Addr} {th:TS} {fh:FS} {tb:List (String×Bool)} {Eh:XK} {zs:List Clz} {ds:List (List (String×Bool)×Option Nat×FS)} (ht:∀p∈tb,ET K (.ref (C p.1)) (.ref c)=some p.2) (hh:SOk K C Eh mr Γl Δl [] [] Γ1 Δ1 th fh)
   (hr:OClz K C N mr Γl Δl Γ1 Δ1 zs ds):OClz K C N mr Γl Δl Γ1 Δ1 (⟨.ref c,none,th⟩::zs) ((tb,none,fh)::ds)
inductive JClz (X:Cx)(C:String->Addr)(mr:Nat)(Γl Δl Γ1 Δ1:List Nat):List CY->List Clz->List (List (String×Bool)×Option Nat×FS)->Prop
 | mk {hs:List CY} {zs:List Clz} {ds:List (List (String×Bool)×Option Nat×FS)} (p:PClz X hs zs) (o:OClz X.K C X.N.length mr Γl Δl Γ1 Δ1 zs ds):JClz X C mr Γl Δl Γ1 Δ1 hs zs ds
section
variable {hpos:Pos}{th:TS}{fh:FS}
end
def rLeS:R2:=fun x y H Q=>∃u v,x=.str u/\y=.str v/\Q (.bl (!decide (v.cps.toList<u.cps.toList))) H
def Xmg:R2:=fun x y H Q=>∃u n,x=.str u/\y=.int n/\1<=n/\n<=1000/\u.length<=1000/\Q (.str (Dl.Xip u n.toNat)) H
theorem Xbp (h:1<=n):Txt.mul x n=Dl.Xip x n.toNat:=by
 have e:∀(k:Nat) (acc:Array Nat),EK (fun a b=>a++b) acc (Aa k x.cps)=acc++(Aa k x.cps.toList).flatten.toArray:=by
  intro k
  induction k with
  | zero=>intro acc;simp
  | succ k ih=>intro acc;rw [A4,Eu,ih,A4,Bv];apply Dm.mp;simp
 unfold Txt.mul Dl.Xip;rw [if_neg (by omega)];split;rename_i h1;rw [GH] at h1;rcases h1 with h1 | h1;have:n=1:=by simpa using h1
 subst this;cases x;simp;have h0:x.cps.toList=[]:=by
  have:x.length=0:=by simpa using h1
  have:x.cps.size=0:=this;simpa using this
 have:(Aa n.toNat x.cps.toList).flatten=[]:=by rw [h0];simp
 rw [this];cases x with
 | mk c =>
  have:c=#[]:=by simpa using h0
  rw [this]
 rw [e];simp
section
theorem Zqw:OpR X (AA .LtE) rLeS:=by intro pins s σ H x y v u Q I rx ry h;obtain ⟨a,b,rfl,rfl,q⟩:=h;obtain ⟨t,rfl⟩:=rx;obtain ⟨t',rfl⟩:=ry;exact PySem.P.le_str ⟨.bl _,H,I,rfl,q⟩
theorem Xjz:OpR X (BS .Mult) Xmg:=by
 intro pins s σ H x y v u Q I rx ry h;obtain ⟨a,n,rfl,rfl,h1,h2,h3,q⟩:=h;obtain ⟨t,rfl⟩:=rx;obtain ⟨t',rfl⟩:=ry;refine PySem.SB.mul ⟨by simp;omega,fun _ _ z=>?_,fun _ _=>?_⟩ fun t'' k=>?_;have:(2 ^ 63 - 1) / n>=1000:=by refine (Int.le_ediv_iff_mul_le (by omega)).mpr ?_;omega
 omega;unfold Dr;have h5:n.toNat<=1000:=by omega
 have h6:=Ej h3 h5;generalize a.length*n.toNat=z at h6;rw [Bm];simp;omega;rw [Xbp h1];exact ⟨.str _,H,I.tok _,⟨_,rfl⟩,q⟩
def Its (z:Str):It:=⟨fun i _=>i<z.cps.size,fun i H x H'=>H'=H/\∃c,z.cps[i]?=some c/\x=.str ⟨#[c]⟩,fun i _=>z.cps.size<=i⟩
def iStr (tl:TE):TI:=fun σ H R=>tl σ H fun x H1=>∃z,x=.str z/\R (Its z) H1
theorem Zzy (it:Addr)(z:Str)(t:Tok)(hty:ty="str_ascii_iterator"\/ty="str_iterator"):Turn P w K tg (Its z) [it] it (fun i h=>h.IsStrIter it ty z t i/\i<=z.cps.size) where
 mem:=by simp
 obj:=fun i h st b hb=>by
  have e:b=it:=by simpa using hb
  subst e;obtain ⟨⟨o,e,c,d⟩,_⟩:=st;exact ⟨o,e,fun v z=>by rw [d] at z;cases z⟩
 keep:=fun i h h' st k=>by obtain ⟨⟨o,e,c,d⟩,hi⟩:=st;exact ⟨⟨o,k it (by simp) o e,c,d⟩,hi⟩
 item:=by
  intro X hP hw hK hc i pins s σ H E I hf st hg;subst hP hw hK;obtain ⟨f0,f1,f2,f3,f4,f5⟩:=hf it (by simp);obtain ⟨st,hi⟩:=st;have W:Walks X.prog X.w X.A it [it] [it] z.cps.size (SignAt z) fun i h=>h.IsStrIter it ty z t i:=by rcases hty with rfl | rfl;exact GA (I.ok.hd hc) it z t;exact GI (I.ok.hd hc) it z t
  refine W.item i s _ _ hg st fun v h' tk hv st' kk=>?_;obtain ⟨c,u,hcu,rfl⟩:=hv;have I1:Inv X pins σ H {s with heap:=h',toks:=tk}:=I.turned (fun b o hb e=>kk b o (by simpa using hb) e) f0 f1 f3 f4 f5;have hg':i<z.cps.size:=hg;obtain ⟨o,e,c',d⟩:=id st';refine ⟨_,rfl,Xad (s:={s with heap:=h',toks:=tk}) (n:=ty) e c' d (by rcases hty with rfl | rfl<;>decide) ⟨.str ⟨#[c]⟩,H,I1,⟨u,rfl⟩,⟨rfl,c,hcu,rfl⟩,⟨st',by omega⟩,fun b hb=>(hf b hb).1⟩⟩
 done:=by
  intro X hP hw hK hc i pins s σ H E I hf st hg;subst hP hw hK;obtain ⟨f0,f1,f2,f3,f4,f5⟩:=hf it (by simp);obtain ⟨st,hi⟩:=st;have hg':z.cps.size<=i:=hg;have hi':i=z.cps.size:=by omega
  subst hi';have W:Walks X.prog X.w X.A it [it] [it] z.cps.size (SignAt z) fun i h=>h.IsStrIter it ty z t i:=by rcases hty with rfl | rfl;exact GA (I.ok.hd hc) it z t;exact GI (I.ok.hd hc) it z t
  exact W.done s _ _ st fun h' tk eb=>⟨rfl,I.turned (fun b o hb e=>eb b o (by simpa using hb) e) f0 f1 f3 f4 f5⟩
 self:=fun _ _ _ _ _ st h=>by rcases hty with rfl | rfl;exact wpAny_pyIter_striter_ascii st.1 h;exact wpAny_pyIter_striter_wide st.1 h
theorem Xpl {l:Expr}{tl:TE}(hl:PE X l tl):PI X tg l (iStr tl):=by
 intro pins s σ H R I h;refine thn (hl pins s σ H _ I h) fun v s1 hz9=>?_;obtain ⟨x,H1,I1,r1,q1⟩:=hz9;obtain ⟨z,e,q⟩:=q1;subst e;obtain ⟨t,rfl⟩:=r1;refine wpAny_pyIter_strU ?_;refine ⟨s1.heap.objs.size,[s1.heap.objs.size],_,_,H1,rfl,I1.kept (t':=s1.toks) fun b o e=>Az _ e,Zzy _ z t (ty:=strIterType z) (by unfold strIterType;split;exact .inl rfl;exact .inr rfl),⟨⟨_,A9 _ rfl,rfl,rfl⟩,BC _⟩,fun b hb=>?_,q⟩;have e:b=s1.heap.objs.size:=by simpa using hb
 subst e;exact I1.fpOk (AF _) (I1.hok.fresh (AF _))
def rDin:R2:=fun x y H Q=>∃a o,y=.ref a/\Xoo H a x o/\Q (.bl o.isSome) H
theorem Xqu (hu:X.A.units+64<Bk):OpR X (AA .In) rDin:=by intro pins s σ H x y v u Q I rx ry h;obtain ⟨a,o,rfl,g,q⟩:=h;cases (show u=Ba a from ry);exact d_in (by omega) I g rx fun s3 I3=>⟨.bl o.isSome,H,I3,rfl,q⟩
def Xio:V->V->V->Hp->(Hp->Prop)->Prop:=fun o i v H Q=>∃a H4,o=.ref a/\Xlc H a i v H4/\Q H4
theorem set_dict (hu:X.A.units+64<Bk):PSet X Xio:=by intro pins s σ H o i v ov iv u Q I ro ri rv h;obtain ⟨a,H4,rfl,g,q⟩:=h;cases (show ov=Ba a from ro);exact Zux (by omega) I g ri rv fun s4 I4=>⟨H4,I4,q⟩
variable {S:List (Nat×Bool)}
theorem Xet {x y d:D}(e:Dl.Zjm x y=some d):∃b,d=.bl b:=by unfold Dl.Zjm at e;split at e<;>cases e;exact ⟨_,rfl⟩
theorem Zki:GOk K C rLeS Dl.Zjm:=by intro H x y d vx vy Bx By Q rx ry e q;unfold Dl.Zjm at e;split at e;cases e;obtain ⟨rfl,_⟩:=rx;obtain ⟨rfl,_⟩:=ry;exact ⟨_,_,rfl,rfl,Out.flat q rpB⟩;cases e
theorem Zaa :AC x=true↔∀c∈x.cps.toList,c<1114112:=by unfold AC;rw [Array.all_eq_true'];simp
theorem Zym:GOk K C Xmg Dl.Zth:=by intro H x y d vx vy Bx By Q rx ry e q;unfold Dl.Zth at e;split at e;split at e;rename_i h;cases e;obtain ⟨rfl,h1,_⟩:=rx;obtain ⟨rfl,_⟩:=ry;refine ⟨_,_,rfl,rfl,h.1,h.2.1,h.2.2,Out.flat q ⟨rfl,?_,rfl⟩⟩;rw [Zaa] at h1 ⊢;intro c hc;unfold Dl.Xip at hc;simp only [Gp] at hc;obtain ⟨l,h2,h3⟩:=hc;rw [List.eq_of_mem_replicate h2] at h3;exact h1 c h3;cases e;cases e
theorem RpA.strs:∀{cs:List Nat},(∀c∈cs,c<1114112)->RpA K C H (cs.map fun c=>D.str ⟨#[c]⟩) (cs.map fun c=>V.str ⟨#[c]⟩) []
  | [],_=>RpA.nil
  | c::cs,h=>⟨_,_,[],[],rfl,⟨rfl,Zaa.mpr fun d hd=>by
      have:d=c:=by simpa using hd
      subst this;exact h d (.head _),rfl⟩,RpA.strs fun d hd=>h d (.tail _ hd),rfl⟩
theorem Xex {t:TE}{f:FE}(h:EOk K C E Γ Δ m S t f):IOk K C E Γ Δ [] (iStr t) (Dl.Ztw f):=fun H0 Hb H σ ρ A Rr I p=>h H0 Hb H σ ρ A _ I (p.bind.imp (fun d q v H' g r=>by
  obtain ⟨B,r,r',_⟩:=r;cases d with
  | str z =>
    obtain ⟨rfl,hz,_⟩:=r;simp only at q;split at q;rename_i hl;refine ⟨z,rfl,q _ H' [] g (fun b hb=>nomatch hb) (by rw [Al];exact hl) fun Hc h2=>Zka (RpA.strs (Zaa.mp hz)) fun H2 _=>?_⟩;have hl:(z.cps.toList.map fun c=>V.str ⟨#[c]⟩).length=z.cps.size:=by simp
    rw [hl];refine ⟨fun i hi=>hi,fun i hi=>hi,fun i x H3 y=>⟨y.1,fun hi=>?_⟩⟩;obtain ⟨_,c,hc,rfl⟩:=y;rw [Bu,Dw,hc];rfl;exact q.elim
  | _=>exact q.elim) fun c x q H' g'=>q H' g')
theorem Zuq {x:D}{k:Int ⊕ Str}{v:V}(e:Dl.keyD x=some k)(r:Rp K C H x v B):v=kV k:=by
 cases x with
 | int i=>cases e;exact r.1
 | str z=>cases e;exact r.1
 | _=>cases e
theorem Zot {k:Int ⊕ Str}:∀{ks:List (Int ⊕ Str)} {xs:List V},ks.length=xs.length->((ks.zip xs).any fun kv=>decide (kv.1=k))=Dl.Xes ks k
 | [],_,_=>rfl
 | j::ks,[],h=>by cases h
 | j::ks,x::xs,h=>by have:=Zot (k:=k) (ks:=ks) (xs:=xs) (by simpa using h);unfold Dl.Xes at *;rw [DS,CH,CH,this]
theorem Xeu {k:Int ⊕ Str}(h:ks.length=xs.length):(Zto (ks.zip xs) k).isSome=Dl.Xes ks k:=by rw [<- Zkn,Zot h]
theorem Xfh:GOk K C rDin Dl.gDin:=by intro H x y d vx vy Bx By Q rx ry e q;unfold Dl.gDin at e;split at e;rename_i k ks ds hk;cases e;obtain ⟨a,xs,B,rfl,h1,h2,h3,_⟩:=ry;have hv:=Zuq hk rx;subst hv;refine ⟨a,_,rfl,Xoo.k h1,?_⟩;rw [Xeu (by rw [h2,h3.len])];exact Out.flat q rpB;cases e
theorem Zzq:EOk K C E Γ Δ 2 [] Zxl (Dl.fC (.dct [] [])):=fun H0 Hb H σ ρ A Q I p q hp=>by
 refine p _ _ (sameNew hp _) ⟨[q],⟨q,[],[],rfl,Ym,rfl,RpA.nil,rfl⟩,fun a ha=>?_,fun z=>by omega,fun _=>A0.mpr ⟨(fun z=>nomatch z),BQ⟩⟩;have:a=q:=by simpa using ha
 subst this;exact .inl hp
theorem Zrg {k:Int ⊕ Str}{v:V}:∀{ks:List (Int ⊕ Str)} {xs:List V},ks.length=xs.length->(ks.zip xs).map (fun kv=>if kv.1=k then (kv.1,v) else kv)=ks.zip (CV (fun j x=>if j=k then v else x) ks xs)
 | [],_,_=>rfl
 | j::ks,[],h=>by cases h
 | j::ks,x::xs,h=>by have:=Zrg (k:=k) (v:=v) (ks:=ks) (xs:=xs) (by simpa using h);rw [DS,AG,this,List.zipWith_cons_cons,DS];congr 1;by_cases e:j=k;simp [e];simp [e]
theorem RpA.repl {k:Int ⊕ Str}{d:D}{v:V}(r:Rp K C H d v []):∀{ks:List (Int ⊕ Str)} {ds:List D} {xs:List V},RpA K C H ds xs []->Dl.Jg ds=true->RpA K C H (CV (fun j x=>if j=k then d else x) ks ds) (CV (fun j x=>if j=k then v else x) ks xs) []
 | [],ds,xs,_,_=>by cases ds<;>cases xs<;>exact RpA.nil
 | j::ks,[],xs,q,_=>by rw [q.1];exact RpA.nil
 | j::ks,x::ds,xs,q,h=>by obtain ⟨y,l,B,B',e1,e2,e3,e4⟩:=q;simp only [Dl.Jg,Ae] at h;subst e1;have z:=e2.flat h.1;subst z;refine ⟨_,_,[],[],rfl,?_,RpA.repl r (e3.flat' h.2) h.2,rfl⟩;show Rp K C H (if j=k then d else x) (if j=k then v else y) [];by_cases e:j=k;rw [if_pos e,if_pos e];exact r;rw [if_neg e,if_neg e];exact e2
theorem RpA.snoc0 {d:D}{v:V}(r:Rp K C H d v []):∀{ds:List D} {xs:List V},RpA K C H ds xs []->RpA K C H (ds++[d]) (xs++[v]) []
 | [],xs,q=>by rw [q.1];exact ⟨v,[],[],[],rfl,r,RpA.nil,rfl⟩
 | x::ds,xs,q=>by obtain ⟨y,l,B,B',e1,e2,e3,e4⟩:=q;obtain ⟨rfl,rfl⟩:=List.append_eq_nil_iff.mp e4.symm;subst e1;exact ⟨y,_,[],[],rfl,e2,RpA.snoc0 r e3,rfl⟩
theorem Xcq {H0 Hb:Hp}{A:Nat->List Addr}{ds:List D}(I:Zs K C H0 Hb H Γ Δ σ ρ A)(e:ρ[i]?=some (some (.dct ks ds))):∃a xs l,σ[i]?=some (some (.ref a))/\H a=some (.dK (ks.zip xs))/\ks.length=ds.length/\RpA K C H ds xs l/\A i=a::l/\i<ρ.length:=by obtain ⟨v,h1,h2⟩:=I.rep i _ e;obtain ⟨a,xs,B,rfl,h3,h4,h5,h6⟩:=h2;exact ⟨a,xs,B,h1,h3,h4,h5,h6,(Ah.mp e).1⟩
theorem Xal (hi:i∈Γ:=by decide)(he:EOk K C E Γ Δ m1 S1 te fe)(hk:EOk K C E Γ Δ m2 S2 tk fk):SOk K C E mr Γl Δl Γ Δ Γ Δ (Zkg te (Zru (Ztk i) tk Xio)) (Dl.Xas i fk fe):=fun H0 Hb H σ ρ A D I p=>by
 refine he H0 Hb H σ ρ A _ I (Yo.imp (Yo.bind p) (fun d q v H1 g1 r=>?_) fun c x q H' g'=>q H' (Xt.from0 I g'));have I1:=I.mono g1;split at q;rename_i ks ds e;obtain ⟨a,xs,l,s1,h1,h2,r1,hA,hl⟩:=Xcq I1 e;refine ⟨.ref a,s1,hk H0 Hb H1 σ ρ A _ I1 (Yo.imp (Yo.bind q) (fun z q w H2 g2 rz=>?_) fun c x q H' g'=>q H' (Xt.from0 I1 g'))⟩;obtain ⟨Bz,rz,_⟩:=rz;obtain ⟨B,rd,_⟩:=r;split at q;rename_i k hk;split at q;rename_i hf;have hv:=Zuq hk rz;subst hv;have zB:=rd.flat hf.1;subst zB;have hx:ks.length=xs.length:=by rw [h2,r1.len]
 have r2:=(r1.same g2).flat' hf.2.1;have rd2:=rd.same g2;have I2:=I1.mono g2;refine ⟨a,_,rfl,Xlc.k (g2 _ _ h1) (Nat.lt_of_le_of_lt (by rw [List.length_zip];exact Nat.min_le_left _ _) (Zhg hf.2.2)),?_⟩;unfold Dl.dPut at q;unfold putK;rw [Zot hx];split at q;rename_i hh;rw [if_pos hh,Zrg hx];obtain ⟨A',I'⟩:=I2.writeO (Γ':=Γ) (Δ':=Δ) (o':=.dK (ks.zip (CV (fun j x=>if j=k then v else x) ks xs))) (d':=.dct ks (CV (fun j x=>if j=k then d else x) ks ds)) hi hA hl s1 (fun H' q1 q2=>⟨a,_,_,rfl,q1,by rw [List.length_zipWith,h2,Nat.min_self],q2,rfl⟩) (RpA.repl rd2 r2 hf.2.1) (fun _ z=>nomatch z) (fun z=>nomatch z) (fun j hj _=>⟨hj,fun _ _ _ z=>nomatch z⟩) (fun j hj _=>⟨hj,fun _ _ z=>nomatch z⟩) (fun _=>⟨BQ,(fun _ _ _ z=>nomatch z),(fun _ z=>nomatch z)⟩);exact q _ _ A' I';rename_i hh;rw [if_neg hh,show ks.zip xs++[(k,v)]=(ks++[k]).zip (xs++[v]) by rw [List.zip_append hx];rfl];obtain ⟨A',I'⟩:=I2.writeO (Γ':=Γ) (Δ':=Δ) (o':=.dK ((ks++[k]).zip (xs++[v]))) (d':=.dct (ks++[k]) (ds++[d])) hi hA hl s1 (fun H' q1 q2=>⟨a,_,_,rfl,q1,by simp [h2],q2,rfl⟩) (RpA.snoc0 rd2 r2) (fun _ z=>nomatch z) (fun z=>nomatch z) (fun j hj _=>⟨hj,fun _ _ _ z=>nomatch z⟩) (fun j hj _=>⟨hj,fun _ _ z=>nomatch z⟩) (fun _=>⟨BQ,(fun _ _ _ z=>nomatch z),(fun _ z=>nomatch z)⟩);exact q _ _ A' I';exact q.elim;exact q.elim;exact q.elim
variable {S:List (Nat×Bool)}
theorem Zlm (h:JE X C E Γ Δ m S e te fe):JI X C E Γ Δ [] tg e (iStr te) (Dl.Ztw fe):=⟨⟨Xpl h.q.out⟩,Xex h.o⟩
theorem Xfq:JE X C E Γ Δ 2 [] (.Dict [] [] pos) Zxl (Dl.fC (.dct [] [])):=⟨⟨Xag⟩,Zzq⟩
theorem Xjf (hi:i∈Γ:=by decide)(hN:X.N[i]?=some x:=by rfl)(hv:autoParam (Vis X.env.scope x) aT3._auto_1)(hd:(x==("__debug__":Str))=false:=by decide)(hcd:(x==("__classdict__":Str))=false:=by decide)
    (he:JE X C E Γ Δ m1 S1 e te fe) (hk:JE X C E Γ Δ m2 S2 kx tk fk) (hs:Du [.Subscript (.Name x p) kx p2] e pos.line X.env=pure false:=by rfl) (hw:Dv [.Subscript (.Name x p) kx p2] e X.env=pure none:=by rfl) (h1:(AV [.Subscript (.Name x p) kx p2] X.env).map (·.2)=[BE (.Subscript (.Name x p) kx p2) X.env]:=by rfl)
    (hq:∀v,BE (.Subscript (.Name x p) kx p2) X.env v=(do
      let ov <- Cj [v] (AM (.Name x p) X.env)
      let iv <- Cj [v,ov] (AM kx X.env)
      EA p2
      Cj [v,ov,iv] (E9 ov iv v)
      G0 [v,ov,iv] []):=by intro _;rfl) (hu:X.A.units+64<Bk) :
    JS X C E mr Γl Δl Γ Δ Γ Δ (.Assign [.Subscript (.Name x p) kx p2] e pos) (Zkg te (Zru (Ztk i) tk Xio)) (Dl.Xas i fk fe):=⟨Zuw he.q (Xec (qv i hN hv hd hcd) hk.q (set_dict hu) hq) hs hw h1,Xal hi he.o hk.o⟩
end
theorem Xff (i:Int):Str.ofString (Gu i)=Dl.Zen i:=by
 have hn:∀n:Nat,(Gu n).toList.map EL=Dl.Zxf n:=fun n=>by
  show (GQ n).toList.map EL=(Fh 10 n).map EL
  rw [show GQ n=String.ofList (Fh 10 n) from rfl];simp
 rw [PySem.Str.ofString_eq_toList];unfold Dl.Zen Dl.Xbl;cases i with
 | ofNat n =>rw [if_neg (by simp)];exact congrArg (fun l=>(⟨List.toArray l⟩:Str)) (hn n)
 | negSucc n =>
  rw [if_pos (by simp [Int.negSucc_lt_zero])];have e:(Gu (Int.negSucc n)).toList='-'::(Gu (n+1)).toList:=by show ("-"++GQ (n+1)).toList=_;rw [String.toList_append];rfl
  rw [e,AG,hn];rfl
theorem Zsg {n:Nat}(h:n<2 ^ 400):n.log2<1920:=by by_cases h0:n=0;subst h0;decide;exact DU ((HD h0).mpr h) (by decide)
theorem Zvh (n:Nat):∀c∈Dl.Zxf n,48<=c/\c<=57:=by intro c hc;unfold Dl.Zxf at hc;obtain ⟨d,hd,rfl⟩:=B9.mp hc;have:=Nat.isDigit_of_mem_toDigits (by decide) (by decide) hd;unfold Char.isDigit at this;rw [Ae] at this;obtain ⟨h1,h2⟩:=this;have h1':=of_decide_eq_true h1;have h2':=of_decide_eq_true h2;exact ⟨E2.mp h1',E2.mp h2'⟩
theorem Xiq (i:Int):∀c∈Dl.Xbl i,45<=c/\c<=57:=by intro c hc;unfold Dl.Xbl at hc;split at hc;rcases Af.mp hc with rfl | h;decide;have:=Zvh _ c h;omega;have:=Zvh _ c hc;omega
theorem Xja (i:Int):AC (Dl.Zen i)=true:=Zaa.mpr fun c hc=>by have:=Xiq i c (by simpa [Dl.Zen] using hc);omega
def rStrI:List V->Hp->VK->Prop:=fun vs H Q=>∃i,vs=[.int i]/\i.natAbs<2 ^ 400/\Q (.str (Dl.Zen i)) H
theorem Zvw:Zbg X (.type "str") rStrI:=by intro pins s σ H xs us Q I r h;obtain ⟨i,rfl,hi,q⟩:=h;obtain ⟨u,rfl,rx⟩:=vals1 r;obtain ⟨t,rfl⟩:=rx;refine PySem.P.str_of_int (Zsg hi) ?_;rw [Xff];exact ⟨.str _,H,I.tok _,⟨_,rfl⟩,q⟩
def Xrf:List V->Hp->VK->Prop:=fun vs H Q=>∃x n,vs=[.str x]/\x.length<=600/\intText? x=some n/\Q (.int n) H
theorem Zng:Zbg X (.type "int") Xrf:=by intro pins s σ H xs us Q I r h;obtain ⟨x,n,rfl,hx,hn,q⟩:=h;obtain ⟨u,rfl,rx⟩:=vals1 r;obtain ⟨t,rfl⟩:=rx;exact PySem.W.KIN.call_text hn (by omega) ⟨.int n,H,I.tok _,⟨_,rfl⟩,q⟩
abbrev TX:=Str->St->Hp->VK->Prop
def PX (X:Cx)(es:List Expr)(t:TX):Prop:=
 ∀(out:Str) (pins:List (Addr×Obj)) (s:Ab) (σ:St) (H:Hp) (Q:VK),Inv X pins σ H s->out.length+2000*es.length<=Ai->t out σ H Q->
  Au (Ao X.prog X.w) X.A (joinParts out (B0 es X.env)) (EP X pins σ Q) X.xe s
theorem Zyr {t:Tok}:RelV (.str x) (.str x t):=⟨t,rfl⟩
theorem Inv.tnew (I:Inv X pins σ H s)(hv:Jj ys its)(hz:ys.length<=Ai):Inv X pins σ (upd H s.heap.objs.size (.tup ys)) {s with heap:=s.heap.push {cls:=.type "tuple",data:=.seq its.toArray},toks:=t'}:=I.laid (o:=.tup ys) (fun b u e=>Az _ e) (AF _) ⟨hz,its,hv,⟨_,A9 _ rfl,rfl,_,rfl⟩⟩
def Zvs:V->List V->Hp->VK->Prop:=fun x vs H Q=>∃z c,x=.str z/\vs=[.str ⟨#[c]⟩]/\Q (.bl (decide (z.cps.toList[0]?=some c))) H
theorem Zyn:MtR X "str.startswith" Zvs:=by
 intro pins s σ H x vs v us Q I rx rv h;obtain ⟨z,c,rfl,rfl,q⟩:=h;obtain ⟨tk,rfl⟩:=rx;obtain ⟨u,rfl,ru⟩:=rv.one;obtain ⟨tu,rfl⟩:=ru;refine PySem.SC.startswith ?_;have e:Txt.startswith z ⟨#[c]⟩=decide (z.cps.toList[0]?=some c):=by rw [BW,decide_eq_true_iff,<- Fq z c 0];unfold Txt.startswith;rw [Ae,decide_eq_true_iff]
 rw [e];exact ⟨.bl _,H,I,rfl,q⟩
def Xgm:V->List V->Hp->VK->Prop:=fun x vs H Q=>∃z y,x=.str z/\vs=[.str y]/\(y.length==0)=false/\z.length<=Ai/\∀p,H p=none->Q (.ref p) (upd H p (.tup [.str (Txt.partition z y).1,.str (Txt.partition z y).2.1,.str (Txt.partition z y).2.2]))
theorem Xko:MtR X "str.partition" Xgm:=by intro pins s σ H x vs v us Q I rx rv h;obtain ⟨z,y,rfl,rfl,hy,hz,q⟩:=h;obtain ⟨tk,rfl⟩:=rx;obtain ⟨u,rfl,ru⟩:=rv.one;obtain ⟨tu,rfl⟩:=ru;have hf:H s.heap.objs.size=none:=I.hok.fresh (AF _);refine CP F.slot_str_partition (Cv _ z tk) F.entry_str_partition (F.args_str_partition_2 _ _) (meets_str_partition z y tk tu hy hz) ?_;have q':=q _ hf;unfold Txt.partition at q';split;rename_i i r e;rw [e] at q';exact ⟨.ref s.heap.objs.size,_,I.tnew (.cons Zyr (.cons Zyr (.cons Zyr .nil))) (by show 3<=_;rw [Bm];decide),rfl,q'⟩;rename_i e;rw [e] at q';exact ⟨.ref s.heap.objs.size,_,I.tnew (.cons Zyr (.cons Zyr (.cons Zyr .nil))) (by show 3<=_;rw [Bm];decide),rfl,q'⟩
theorem Zlp:∀(ts:List Str) (k:Nat),Jj (ts.map V.str) (strsFrom k ts)
 | [],_=>.nil
 | t::ts,k=>.cons Zyr (Zlp ts (k+1))
def Znj:V->List V->Hp->VK->Prop:=fun x vs H Q=>∃z y,x=.str z/\vs=[.str y]/\(y.length==0)=false/\z.length+2<=Ai/\∀p,H p=none->Q (.ref p) (upd H p (.lst ((Txt.split z y).map V.str)))
theorem Zqt:MtR X "str.split" Znj:=by intro pins s σ H x vs v us Q I rx rv h;obtain ⟨z,y,rfl,rfl,hy,hz,q⟩:=h;obtain ⟨tk,rfl⟩:=rx;obtain ⟨u,rfl,ru⟩:=rv.one;obtain ⟨tu,rfl⟩:=ru;have hf:H s.heap.objs.size=none:=I.hok.fresh (AF _);have q':=q _ hf;have hl:=(fact_split z y).2;unfold Txt.split at q' hl;by_cases h1:(decide (z.length<y.length)||decide (EM z<EM y))=true;rw [if_pos h1] at q';refine CP EG (Cv _ z tk) Eo (Ec _ _) (meets_str_split_cannot_occur z y tk tu h1) ?_;exact ⟨.ref s.heap.objs.size,_,I.lnew (.cons Zyr .nil) (by show 1<=_;rw [Bm];decide),rfl,q'⟩;rw [if_neg h1] at q' hl;have h1':=D6.mpr h1;by_cases h2:(HM z y 0 z.length (z.length+1)).isEmpty=true;rw [if_pos h2] at q';refine CP EG (Cv _ z tk) Eo (Ec _ _) (meets_str_split_not_found z y tk tu h1' hy h2) ?_;exact ⟨.ref s.heap.objs.size,_,I.lnew (.cons Zyr .nil) (by show 1<=_;rw [Bm];decide),rfl,q'⟩;rw [if_neg h2] at q' hl;refine CP EG (Cv _ z tk) Eo (Ec _ _) (meets_str_split_sep z y tk tu h1' hy (D6.mpr h2) (by omega) (by omega)) ?_;exact ⟨.ref s.heap.objs.size,_,I.lnew (Zlp _ _) (by rw [Al];omega),rfl,q'⟩
theorem Js {c:Nat}:∀{w:List Nat},c∉w->Dl.Zq c w=[w]
 | [],_=>rfl
 | x::r,h=>by have h1:¬x=c:=fun z=>h (by rw [z];exact .head _);rw [Dl.Zq,if_neg h1,Js (fun z=>h (.tail _ z))]
theorem Zcg {c:Nat}:∀{w:List Nat} (r:List Nat),c∉w->Dl.Zq c (w++c::r)=w::Dl.Zq c r
 | [],r,_=>by rw [Es,Dl.Zq,if_pos rfl]
 | x::w,r,h=>by have h1:¬x=c:=fun z=>h (by rw [z];exact .head _);rw [Ef,Dl.Zq,if_neg h1,Zcg r (fun z=>h (.tail _ z))]
theorem Zct {c:Nat}:∀(ws:List Str),ws≠[]->(∀w∈ws,c∉w.cps.toList)->Dl.Zq c (Ap ⟨#[c]⟩ ws).cps.toList=ws.map (·.cps.toList)
 | [],h,_=>absurd rfl h
 | [w],_,h=>Js (h w (.head _))
 | w::v::r,_,h=>by
  have e:(Ap ⟨#[c]⟩ (w::v::r)).cps.toList=w.cps.toList++c::(Ap ⟨#[c]⟩ (v::r)).cps.toList:=by show (w++(⟨#[c]⟩:Str)++Ap ⟨#[c]⟩ (v::r)).cps.toList=_;have e1:∀a b:Str,(a++b).cps.toList=a.cps.toList++b.cps.toList:=fun _ _=>CT;rw [e1,e1];simp
  rw [e,Zcg _ (h w (.head _)),Zct (v::r) (by simp) fun u hu=>h u (.tail _ hu)];rfl
theorem Xcu (x:Str)(c:Nat):(Txt.split x ⟨#[c]⟩).map (·.cps.toList)=Dl.Zq c x.cps.toList:=by
 have h1:=split_closes x c;rw [Ae] at h1;have hj:Ap ⟨#[c]⟩ (Txt.split x ⟨#[c]⟩)=x:=by simpa using h1.1
 have hne:Txt.split x ⟨#[c]⟩≠[]:=fun z=>by have:=(fact_split x ⟨#[c]⟩).1;rw [z] at this;simp at this
 have:=Zct (c:=c) (Txt.split x ⟨#[c]⟩) hne fun w hw=>StrLaws.split_free x c w hw;rw [hj] at this;exact this.symm
theorem Znv {a b:Str}(h:a.cps.toList=b.cps.toList):a=b:=by cases a;cases b;congr 1;exact Dm.mp h
theorem Xns {c:Nat}:∀{l:List Nat} {i:Nat},l[i]?=some c->(∀k,k<i->l[k]?≠some c)->l.takeWhile (fun d=>d != c)=l.take i/\l.dropWhile (fun d=>d != c)=l.drop i
 | [],i,h,_=>by simp at h
 | x::l,0,h,_=>by
  have:x=c:=by simpa using h
  subst this;simp
 | x::l,i+1,h,hk=>by
  have h0:x≠c:=fun z=>hk 0 (by omega) (by simp [z]);obtain ⟨a,b⟩:=Xns (l:=l) (i:=i) (by simpa using h) fun k hk'=>by have:=hk (k+1) (by omega);simpa using this
  simp [List.takeWhile_cons,List.dropWhile_cons,h0,a,b]
theorem Xjm (x:Str)(c:Nat):Txt.partition x ⟨#[c]⟩=if c∈x.cps.toList then (⟨(x.cps.toList.takeWhile fun d=>d != c).toArray⟩,⟨#[c]⟩,⟨((x.cps.toList.dropWhile fun d=>d != c).drop 1).toArray⟩) else (x,Cp,Cp):=by have at_:∀i,StrLaws.At x ⟨#[c]⟩ x.length i↔x.cps.toList[i]?=some c:=fun i=>Fq x c i;rcases partition_whole x ⟨#[c]⟩ with ⟨e,h⟩ | ⟨i,e,h1,h2⟩;rw [if_neg,e];intro z;obtain ⟨i,hi,rfl⟩:=List.getElem_of_mem z;exact h i ((at_ i).mpr (AH hi));have hi:=(at_ i).mp h1;have hm:c∈x.cps.toList:=A5 hi;obtain ⟨t1,t2⟩:=Xns hi fun k hk z=>h2 k hk ((at_ k).mpr z);rw [if_pos hm,e,t1,t2];have hl:i<x.cps.toList.length:=(Ah.mp hi).1;refine HW ?_ (HW rfl ?_);exact Znv (by simp [HL]);refine Znv ?_;show (x.cps.extract (i+1) x.cps.size).toList=_;simp;rw [BF (by simp)]
section
variable {S:List (Nat×Bool)}
theorem Zqg (h:Dl.Xld cs=true):NumText.AllDigits cs/\cs≠[]:=by unfold Dl.Xld at h;rw [Ae,Bb] at h;refine ⟨fun c hc=>of_decide_eq_true (h.2 c hc),fun z=>?_⟩;rw [z] at h;exact absurd h.1 (by decide)
theorem Xak (hl:x.length<=600)(h:Dl.Zgz x.cps.toList=some n):intText? x=some n:=by unfold Dl.Zgz at h;split at h;cases h;rename_i c cs e;split at h;rename_i hc;subst hc;split at h;rename_i hd;cases h;obtain ⟨a,b⟩:=Zqg hd;exact intText_neg e a b (by omega);cases h;split at h;rename_i hd;cases h;obtain ⟨a,b⟩:=Zqg hd;rw [<- e] at a b ⊢;exact intText_digits a b (by omega);cases h
theorem Zqf:GAk K C Xrf Dl.Zoc:=by intro H xs d vs Bx Q r e q;unfold Dl.Zoc at e;split at e;split at e;rename_i hl;obtain ⟨n,hn,rfl⟩:=AD.mp e;obtain ⟨v,rfl,r1⟩:=r.one';obtain ⟨rfl,_⟩:=r1;exact ⟨_,n,rfl,hl,Xak hl hn,Out.flat q rpI⟩;cases e;cases e
def GSm (K:AB)(C:String->Addr)(r:V->List V->Hp->VK->Prop)(g:D->D->Option D):Prop:=
 ∀(H:Hp) (z:Str) (y d:D) (vy:V) (By:List Addr) (Q:VK),AC z=true->Rp K C H y vy By->g (.str z) y=some d->(∀v H' B,Xt H H'->Rp K C H' d v B->B.Nodup->(∀a∈B,H a=none)->Q v H')->r (.str z) [vy] H Q
theorem Zqq {g:D->D->Option D}(hg:GSm K C r g)(ha:EOk K C E Γ Δ m1 S1 ta fa)(hb:EOk K C E Γ Δ m2 S2 tb fb):EOk K C E Γ Δ 2 [] (tBM K "str" r ta (Jx tb Ziu)) (Dl.fSm g fa fb):=
  fun H0 Hb H σ ρ A Q I p=>ha H0 Hb H σ ρ A _ I (p.bind.imp (fun x q vx H1 g1 r1=>by
    obtain ⟨Bx,r1,_⟩:=r1;cases x with
    | str s =>obtain ⟨rfl,hs,_⟩:=r1;refine ⟨rfl,hb H0 Hb H1 σ ρ A _ (I.mono g1) (q.bind.imp (fun y q vy H2 g2 r2=>?_) fun c x q H' g'=>q H' (g1.trans g'))⟩;obtain ⟨d,e,q⟩:=Zer q;obtain ⟨By,r2,_⟩:=r2;exact hg H2 s y d vy By Q hs r2 e fun v H' B g3 r3 nd hn=>q v H' (g1.trans (g2.trans g3)) ⟨B,r3,fun a ha=>.inl ((g1.trans g2).free (hn a ha)),fun z=>by omega,fun _=>nd⟩
    | _=>exact q.elim) fun c x q H' g'=>q H' g')
theorem Zxn {c:Nat}(h:y.cps.toList=[c]):y=⟨#[c]⟩:=Znv (by rw [h])
theorem Zuk:GSm K C Zvs Dl.Zfi:=by intro H z y d vy By Q hz ry e q;unfold Dl.Zfi at e;split at e;rename_i x y hx;cases hx;split at e;rename_i c hc;cases e;obtain ⟨rfl,_⟩:=ry;rw [Zxn hc];exact ⟨_,c,rfl,rfl,Out.flat q rpB⟩;cases e;cases e
theorem Zwk (h:∀c∈l,c<1114112)(hs:∀c∈l',c∈l):AC ⟨l'.toArray⟩=true:=Zaa.mpr fun c hc=>h c (hs c (by simpa using hc))
theorem rpS {w:List Nat}(h:AC ⟨w.toArray⟩=true):Rp K C H (Dl.Jo w) (.str ⟨w.toArray⟩) []:=⟨rfl,h,rfl⟩
theorem Zdt {c:Nat}:∀{l:List Nat},∀w∈Dl.Zq c l,∀d∈w,d∈l
 | [],w,hw,d,hd=>by rw [Dl.Zq] at hw;rw [Ak.mp hw] at hd;cases hd
 | x::l,w,hw,d,hd=>by rw [Dl.Zq] at hw;split at hw;rcases Af.mp hw with rfl | h;cases hd;exact .tail _ (Zdt w h d hd);split at hw;rw [Ak.mp hw] at hd;rw [Ak.mp hd];exact .head _;rename_i w0 ws e;rcases Af.mp hw with rfl | h;rcases Af.mp hd with rfl | h';exact .head _;exact .tail _ (Zdt w0 (by rw [e];exact .head _) d h');exact .tail _ (Zdt w (by rw [e];exact .tail _ h) d hd)
theorem RpA.strLs:∀{ws:List (List Nat)},(∀w∈ws,AC ⟨w.toArray⟩=true)->RpA K C H (ws.map Dl.Jo) (ws.map fun w=>V.str ⟨w.toArray⟩) []
 | [],_=>RpA.nil
 | w::ws,h=>⟨_,_,[],[],rfl,rpS (h w (.head _)),RpA.strLs fun v hv=>h v (.tail _ hv),rfl⟩
theorem Zuh:GSm K C Znj Dl.Zag:=by
 intro H z y d vy By Q hz ry e q;unfold Dl.Zag at e;split at e;rename_i x y hx;cases hx;split at e;rename_i c hc;split at e;rename_i hl;cases e;obtain ⟨rfl,_⟩:=ry;rw [Zxn hc];refine ⟨_,_,rfl,rfl,rfl,by rw [Bm];omega,fun p hp=>?_⟩;have es:(Txt.split z ⟨#[c]⟩).map V.str=(Dl.Zq c z.cps.toList).map fun w=>V.str ⟨w.toArray⟩:=by rw [<- Xcu,Dt];refine Fw fun w _=>?_;show V.str w=V.str ⟨w.cps.toList.toArray⟩;rw [Array.toArray_toList]
 rw [es];exact Out.lst q (RpA.strLs fun w hw=>Zwk (Zaa.mp hz) fun d hd=>Zdt w hw d hd) hp;cases e;cases e;cases e
theorem Zye:GSm K C Xgm Dl.Zsq:=by intro H z y d vy By Q hz ry e q;unfold Dl.Zsq at e;split at e;rename_i x y hx;cases hx;split at e;rename_i c hc;split at e;rename_i hl;cases e;obtain ⟨rfl,hy,_⟩:=ry;rw [Zxn hc] at hy ⊢;refine ⟨_,_,rfl,rfl,rfl,by rw [Bm];omega,fun p hp=>?_⟩;have hz':=Zaa.mp hz;rw [Xjm];by_cases hm:c∈z.cps.toList;rw [if_pos hm] at q ⊢;refine Out.tup q ?_ hp;exact ⟨_,_,[],[],rfl,rpS (Zwk hz' fun d hd=>(List.takeWhile_sublist _).subset hd),⟨_,_,[],[],rfl,rpS hy,⟨_,_,[],[],rfl,rpS (Zwk hz' fun d hd=>((List.drop_sublist 1 _).trans (List.dropWhile_sublist _)).subset hd),RpA.nil,rfl⟩,rfl⟩,rfl⟩;rw [if_neg hm] at q ⊢;refine Out.tup q ?_ hp;exact ⟨_,_,[],[],rfl,⟨rfl,hz,rfl⟩,⟨_,_,[],[],rfl,rpS (by decide +kernel),⟨_,_,[],[],rfl,rpS (by decide +kernel),RpA.nil,rfl⟩,rfl⟩,rfl⟩;cases e;cases e;cases e
def XOk (K:AB)(C:String->Addr)(E:XK)(Γ Δ:List Nat)(t:TX)(f:FA):Prop:=∀(H0 Hb H:Hp) (σ:St) (ρ:Dl.Env) (A:Nat->List Addr) (Q:VK) (out:Str),AC out=true->Zs K C H0 Hb H Γ Δ σ ρ A->
 Yo ((f ρ).bind fun xs=>Dl.oR (Dl.catO out xs)) (fun d=>∀v H',Xt H H'->Res K C 2 [] H A d v H'->Q v H') (fun c x=>∀H',Xt H H'->EC C E c x H')->t out σ H Q
end
structure JX (X:Cx)(C:String->Addr)(E:XK)(Γ Δ:List Nat)(es:List Expr)(t:TX)(f:FA):Prop where
 q:PX X es t
 o:XOk X.K C E Γ Δ t f
section
variable {S:List (Nat×Bool)}{tx:TX}{f:FA}
theorem Zld {z:Str}(hg:Gl X x)(hm:X.mg x=some u)(r:RelV (.str z) u)(hd:(x==("__debug__":Str))=false:=by decide)(hs:AC z=true:=by decide +kernel):JE X C E Γ Δ 2 [] (.Name x pos) (tC (.str z)) (Dl.fC (.str z)):=⟨Zor hg hm r hd,Zsb fun _=>⟨rfl,hs,rfl⟩⟩
theorem Zze (K:AB)(ho:JE X C E Γ Δ m1 S1 o ta fa)(he:JE X C E Γ Δ m2 S2 e tb fb)(hse:Ac [e] X.env=(false,AM e X.env)::Ac [] X.env)(hbase:Bl o "startswith" X.env (AM o X.env)=AM o X.env:=by rfl)
  (hfew:((AW cpos (Ac [e] X.env)).all (fun x=>!x.1)&&(CF cpos (BI [] X.env)).all (fun x=>x.1.isSome)&&decide (([e]:List Expr).length+([]:List Bi).length+(if ([]:List Bi).isEmpty then 0 else 1)<30))=true:=by rfl)
  (hline:(apos.endLine==cpos.line)=true:=by rfl) (hplain:(AW cpos (Ac ([]:List Expr) X.env)).any (·.1)=false:=by rfl) (hK:X.K=K:=by rfl):JE X C E Γ Δ 2 [] (.Call (.Attribute o "startswith" apos) [e] [] cpos) (tBM K "str" Zvs ta (Jx tb Ziu)) (Dl.fSm Dl.Zfi fa fb):=by
 subst hK;exact ⟨Zrt PySem.F.plainAttrs_str PySem.F.slot_str_startswith PySem.F.type_str_startswith Zyn ho.q (Jr he.q Zdj hse) hbase hfew hline hse hplain,Zqq Zuk ho.o he.o⟩
theorem Zbw (K:AB)(ho:JE X C E Γ Δ m1 S1 o ta fa)(he:JE X C E Γ Δ m2 S2 e tb fb)(hse:Ac [e] X.env=(false,AM e X.env)::Ac [] X.env)(hbase:Bl o "split" X.env (AM o X.env)=AM o X.env:=by rfl)
  (hfew:((AW cpos (Ac [e] X.env)).all (fun x=>!x.1)&&(CF cpos (BI [] X.env)).all (fun x=>x.1.isSome)&&decide (([e]:List Expr).length+([]:List Bi).length+(if ([]:List Bi).isEmpty then 0 else 1)<30))=true:=by rfl)
  (hline:(apos.endLine==cpos.line)=true:=by rfl) (hplain:(AW cpos (Ac ([]:List Expr) X.env)).any (·.1)=false:=by rfl) (hK:X.K=K:=by rfl):JE X C E Γ Δ 2 [] (.Call (.Attribute o "split" apos) [e] [] cpos) (tBM K "str" Znj ta (Jx tb Ziu)) (Dl.fSm Dl.Zag fa fb):=by
 subst hK;exact ⟨Zrt PySem.F.plainAttrs_str PySem.F.slot_str_split PySem.F.type_str_split Zqt ho.q (Jr he.q Zdj hse) hbase hfew hline hse hplain,Zqq Zuh ho.o he.o⟩
theorem Xgi (K:AB)(ho:JE X C E Γ Δ m1 S1 o ta fa)(he:JE X C E Γ Δ m2 S2 e tb fb)(hse:Ac [e] X.env=(false,AM e X.env)::Ac [] X.env)(hbase:Bl o "partition" X.env (AM o X.env)=AM o X.env:=by rfl)
  (hfew:((AW cpos (Ac [e] X.env)).all (fun x=>!x.1)&&(CF cpos (BI [] X.env)).all (fun x=>x.1.isSome)&&decide (([e]:List Expr).length+([]:List Bi).length+(if ([]:List Bi).isEmpty then 0 else 1)<30))=true:=by rfl)
  (hline:(apos.endLine==cpos.line)=true:=by rfl) (hplain:(AW cpos (Ac ([]:List Expr) X.env)).any (·.1)=false:=by rfl) (hK:X.K=K:=by rfl):JE X C E Γ Δ 2 [] (.Call (.Attribute o "partition" apos) [e] [] cpos) (tBM K "str" Xgm ta (Jx tb Ziu)) (Dl.fSm Dl.Zsq fa fb):=by
 subst hK;exact ⟨Zrt PySem.F.plainAttrs_str PySem.F.slot_str_partition PySem.F.type_str_partition Xko ho.q (Jr he.q Zdj hse) hbase hfew hline hse hplain,Zqq Zye ho.o he.o⟩
variable {tc:TE}{fc:FE}
variable {n:Nat}
end
end L2
namespace L2
open PySem PyProof.Rows
variable {prog:Av}{w:AO}{A:AJ}{E:Value->Ab->Prop}{s:Ab}{κ:DY}{P:AQ->Prop}{r:AQ->AQ->Bool}{lat:AQ->AQ->Prop}{st:Fg}{x d0:AQ}{α:Type}{lo nrem:Nat}{a0 Z:List AQ}{Rs:List (List AQ)}
structure Ask (prog:Av)(w:AO)(A:AJ)(s:Ab)(κ:DY)(P:AQ->Prop)(r:AQ->AQ->Bool)(lat:AQ->AQ->Prop:=fun _ _=>True):Prop where
 run:∀{x y:AQ} {Q:Bool->Ab->Prop} {E:Value->Ab->Prop},P x->P y->lat x y->Q (r x y) s->Au (Ao prog w) A (keyLt' κ x.1 y.1) Q E s
 tr:∀{x y z:AQ},P x->P y->P z->r y x=false->r z y=false->r z x=false
 as:∀{x y:AQ},P x->P y->r x y=true->r y x=false
section
def Up (r:AQ->AQ->Bool)(l:List AQ):Prop:=l.Pairwise fun x y=>r y x=false
structure MI (r:AQ->AQ->Bool)(a b out:List AQ)(ia ib:Nat):Prop where
 pm:out.Perm (a.take ia++b.take ib)
 so:Up r out
 le:∀x∈out,∀y,(y∈a.drop ia\/y∈b.drop ib)->r y x=false
variable {a b out:List AQ}{ia ib:Nat}
structure MJ (r:AQ->AQ->Bool)(a b out:List AQ)(na nb:Nat):Prop where
 pm:out.Perm (a.drop na++b.drop nb)
 so:Up r out
 le:∀x∈out,∀y,(y∈a.take na\/y∈b.take nb)->r x y=false
end
structure SG (st st':Fg):Prop where
 k:Cm st'=Cm st
 a:FK st'=FK st
 p:ES st'=ES st
 f:Gx st'=Gx st
structure SC (κ:DY)(lo:Nat)(st st':Fg):Prop where
 k:Cm st'=κ
 f:Gx st'=none
 p:ES st'=ES st
 m:(FK st').Perm (FK st)
 o:∀i,i<lo->(FK st')[i]?=(FK st)[i]?
def Eqv (r:AQ->AQ->Bool)(x y:AQ):Prop:=r x y=false/\r y x=false
abbrev Pn:=Nat×Nat×Nat
def Pend:Nat->List (List AQ)->List Pn->Prop
 | _,[],[]=>True
 | off,R::Rs,p::ps=>p.1=off/\p.2.1=R.length/\Pend (off+R.length) Rs ps
 | _,_,_=>False
structure RI (κ:DY)(r:AQ->AQ->Bool)(a0:List AQ)(st:Fg)(Rs:List (List AQ))(Z:List AQ):Prop where
 k:Cm st=κ
 f:Gx st=none
 m:(FK st).toList.Perm a0
 l:(FK st).toList=Rs.flatten++Z
 p:Pend 0 Rs (ES st).toList
 u:∀R∈Rs,Up r R/\1<=R.length
end L2
namespace L2
open PySem PySem.SeqAt PySem.MeetsSeq PySem.MeetsSeq3
open AutoSeq1 (wpAny_loadPart')
end L2
namespace L2
open PySem PySem.SeqAt PyProof.Rows
open Dl (Pc sLt pcLt ctLt)
variable {A:AJ}{s:Ab}{prog:Av}{w:AO}{E:Value->Ab->Prop}
open Dl (Pr kLt Xlt)
end L2
namespace L2
open PySem PySem.Spec PyProof.Rows
open Dl (D R FE FT FA FO FS FI FB Fl Pc ctLt)
variable {K:AB}{C:String->Addr}{E:XK}{Γ Δ Γl Δl Γ' Δ' js Γk Δk Γ1 Δ1:List Nat}{m m1 m2 m3 mr n mb i j:Nat}{S1 S2 S3 Sb:List (Nat×Bool)}{H H':Hp}{X:Cx}{a c f P:Addr}{b e kx tg body elt iter:Expr}{o:Obj}{ta te tk tm:TE}{tb:V->Hp->VK->Prop}{tc:TT}{fa:FA}{fb fc fe fk:FE}{p p1 p2 pos apos cpos lpos np pos' p3:Pos}{x qual y:Str}{es ifs:List Expr}{t:TA}{prog:Av}{w:AO}{A:AJ}{s:Ab}{pins:List (Addr×Obj)}{σ:St}{params:D8}{sc:Scope}{cl:List (Str×Addr)}{xs:List V}{Q:VK}{N ps N2:List Str}{mg:Str->Option Value}{st:Stmt}{fd:BB}{g:FS}{ts:List (Addr×Pos×Str)}{T:List Addr}{h:AY}{v:Option Value}{oc:Value}{od an:Option Addr}{osl:Array (Option Value)}{ss:List Stmt}{CX:CXT}{fm:FM}{wi:TI}
section
variable {S:List (Nat×Bool)}
variable {a c o:Expr}{tb tc:TE}{fa:FE}
end
structure RoomH (k:Nat)(A:AJ):Prop where
 dp:A.depth+3*k+5<DT
 un:A.units+16*k+200<Bk
structure FnOkH (P:Av)(w:AO)(K:AB)(mg:Str->Option Value)(base:AY)(k:Nat)(f:Addr)(fd:BB)(ps:List Str)(sp:Sp):Prop where
 len:∀vs H Q E,sp vs H Q E->vs.length=ps.length
 run:∀(A:AJ) (outer:List Env) (s:Ab) (H:Hp) (args:Args) (us:List Value) (vs:List V) (Q:VK) (E:XK),RoomH k A->Xrq P w K mg base A outer s H->D7 s fd args (ps.zip us)->Jj vs us->sp vs H Q E->
  B8 (Ao P w) A (.call (.ref f) args) (CR CX0 outer P w H s Q E) s
structure DefH (P:Av)(w:AO)(K:AB)(mg:Str->Option Value)(base:AY)(k:Nat)(x:Str)(ps:List Str)(sp:Sp):Prop where
 ex:∃f fd,mg x=some (.ref f)/\DJ K (.ref f)=true/\Binds K fd ps []/\FnOkH P w K mg base k f fd ps sp
section
variable {k:Nat}{S:List (Nat×Bool)}
variable {a c o:Expr}{tb tc:TE}{fa:FE}
end
section
variable {K:Type}[DecidableEq K]{knd:HeapKind prog w K}{E:Value->Ab->Prop}
end
section
variable {S:List (Nat×Bool)}
variable {a c:Expr}{f:FA}
end
structure LamSc (X:Cx)(N:List Str)(p:Str)(sc:Scope)(cl:List (Str×Addr)):Prop where
 kind:sc.kind=.function
 co:sc.isCoroutine=false
 gen:sc.isGenerator=false
 nocell:∀x∈sc.names,x.2≠.cell
 par:sc.names.lookup p=some .local
 nd:N.Nodup
 hd:N.head?=some p
 tl:∀x∈N.tail,sc.names.lookup x=some .free
 fr:∀x,sc.names.lookup x=some .free->∃c,cl.lookup x=some c
 cls:∀x c,cl.lookup x=some c->X.env.cells.lookup x=some c
def BMod (base:AY)(mg:Str->Option Value):Prop:=∃bm ob,mg "__builtins__"=some (.ref bm)/\bm≠El/\base.get? bm=some ob/\ob.cls=.type "module"/\ob.dict=some El/\ob.data=.plain
section
variable {E:Value->Ab->Prop}
variable {I S:Addr}{R:DL->Ab->Prop}{Q:V->Hp->Prop}
end
structure LamOk (X:Cx)(N:List Str)(p qual:Str)(params:D8)(body:Expr)(sc:Scope)(cl:List (Str×Addr))(js:List Nat)(P c:Addr)(lpos:Pos):Prop where
 bm:BMod X.base X.mg
 tab:X.H₀ P=some (.tbl lpos qual)
 code:X.env.code=.ref c
 hd:PySem.W.CodeHd X.base c P
 clo:Fe sc X.env=pure cl
 qu:X.env.qual++"<lambda>"=qual
 df:defaultsOf params X.env=([],[])
 lsc:LamSc X N p sc cl
 jsx:∀(i:Nat) (x:Str),N.tail[i]?=some x->∃j:Nat,js[i]?=some j/\X.N[j]?=some x/\Vis X.env.scope x/\X.env.kindOf x≠some .local
 len:js.length+1=N.length
 bind:∀(u pm ctv:Value) (c:Addr),HF (PySem.W.kla_fn "<lambda>" qual params body sc cl pm (.ref c) ctv) ⟨[u],[]⟩=pure [(p,u)]
 dep:X.A.in1.depth<DT
 calm:X.calm=true
section
variable {p:Str}
variable {kp:Pos}{tb:TE}
variable {S:List (Nat×Bool)}
end
section
variable {S:List (Nat×Bool)}{p:Str}{kp:Pos}{tb:TE}
end
structure FunL (K:AB)(x qual:Str)(st:Stmt)(f:Addr)(fd:BB)(c:Addr):Prop where
 ex:∃(oc:Value) (od:Option Addr) (kV doc pm:Value) (an:Option Addr) (ct:Value) (osl:Array (Option Value)),
  fd=FZ x qual (Zdr st) (Zae st) (Zk st) .none kV doc pm an (.ref c) ct/\K.lookup f=some ⟨oc,od,.func fd,osl⟩/\Ek K (.ref c) qual=true
 kp:DJ K (.ref f)=true
section
variable {P:Av}{base:AY}{k:Nat}
variable {S:List (Nat×Bool)}
end
def Zib (T:List Addr)(K:AB):AB:=K.filter fun p=>!T.contains p.1
theorem Zim {T:List Addr}{a:Addr}(h:T.contains a=true):∀K:AB,(Zib T K).lookup a=none
 | []=>rfl
 | (b,o)::K=>by unfold Zib;rw [Gq];split;rename_i hb;rw [AS];split;rename_i e;have e:=eq_of_beq e;subst e;have hb:(!T.contains a)=true:=hb;rw [h] at hb;cases hb;exact Zim h K;exact Zim h K
theorem Zac {T:List Addr}{a:Addr}(h:T.contains a=false):∀K:AB,(Zib T K).lookup a=K.lookup a
 | []=>rfl
 | (b,o)::K=>by unfold Zib;rw [Gq,AS];split;rw [AS];split;rfl;exact Zac h K;rename_i hb;have hb:¬(!T.contains b)=true:=hb;split;rename_i e;have e:=eq_of_beq e;subst e;rw [h] at hb;exact absurd rfl hb;exact Zac h K
theorem dropT_in (x:K.In h):(Zib T K).In h:=fun a o e=>by
 cases q:T.contains a with
 | true=>rw [Zim q] at e;cases e
 | false=>rw [Zac q] at e;exact x a o e
section
variable {n:Str}
theorem dropT_ns (e:Bq K a n=some v)(h:T.contains a=false:=by decide):Bq (Zib T K) a n=some v:=by unfold Bq at e ⊢;rw [Zac h];exact e
theorem Zst (e:Ek K (.ref c) qual=true)(h:T.contains c=false:=by decide):Ek (Zib T K) (.ref c) qual=true:=by unfold Ek at e ⊢;simp only [Zac h];exact e
theorem dropT_hd (e:Gy K c P=true)(h:T.contains c=false:=by decide):Gy (Zib T K) c P=true:=by unfold Gy at e ⊢;rw [Zac h];exact e
theorem Zsp (l:K.lookup f=some ⟨oc,od,.func fd,osl⟩)(h:T.contains f=false:=by decide):DJ (Zib T K) (.ref f)=true:=by unfold DJ;simp only [Zac h,l]
theorem fun_mkT {kV doc pm ct:Value}(l:K.lookup f=some ⟨oc,od,.func (FZ x qual (Zdr st) (Zae st) (Zk st) .none kV doc pm an (.ref c) ct),osl⟩)
  (cd:Ek K (.ref c) qual=true) (hf:T.contains f=false:=by decide) (hc:T.contains c=false:=by decide):FunL (Zib T K) x qual st f (FZ x qual (Zdr st) (Zae st) (Zk st) .none kV doc pm an (.ref c) ct) c:=
 ⟨⟨oc,od,kV,doc,pm,an,ct,osl,rfl,by rw [Zac hf];exact l,Zst cd hc⟩,Zsp l hf⟩
theorem Xli (l:K.lookup a=some o)(h:T.contains a=false:=by decide):(Zib T K).lookup a=some o:=by rw [Zac h];exact l
variable {H2:Hp}
variable {pa pb pc pd:Pos}
variable {P:Av}{h':AY}{o:HO}
variable {u u':HO}
variable {S:List (Nat×Bool)}
end
section
variable {S:List (Nat×Bool)}{a c o:Expr}{tb tc:TE}{fa:FE}
variable {pos2:Pos}{e1 e2:Expr}{t1 t2:TE}{f1 f2:FE}{v:TS}{h:FS}
end
open Dl (FM)
section
variable {S:List (Nat×Bool)}
def MOkF (K:AB)(C:String->Addr)(E:XK)(Γ Δ:List Nat)(i:Nat)(t:TE)(f:FM):Prop:=∀(H0 Hb H:Hp) (σ:St) (ρ:Yp) (A:Nat->List Addr) (Q:VK),Zs K C H0 Hb H Γ Δ σ ρ A->
 Yo (f ρ) (fun p=>∀v H' A' B,Zs K C H0 Hb H' Γ Δ σ p.2 A'->(∀b o,b∉A i->H b=some o->H' b=some o)->(∀j,j≠i->p.2[j]?=ρ[j]?/\A' j=A j)->Rp K C H' p.1 v B->B.Nodup->(∀a∈B,Hb a=none/\∀j,a∉A' j)->Q v H') (fun c x=>∀H',Xt H0 H'->EC C E c x H')->t σ H Q
variable {p4 p5 mpos mapos:Pos}{c:String}{md kx:Str}{k:Nat}
structure JMF (X:Cx)(C:String->Addr)(E:XK)(Γ Δ:List Nat)(j:Nat)(e:Expr)(t:TE)(f:FM):Prop where
 q:QE X e t
 o:MOkF X.K C E Γ Δ j t f
end
@[reducible] def Cx.blkC (X:Cx)(N2:List Str)(y:Str)(sc:Scope)(cl:List (Str×Addr))(C:Addr)(s0:Ab)(H0:Hp)(fp:List Addr):Cx:=
 {X with N:=N2++[y],s₀:=s0,H₀:=H0,env:=BR sc cl C X.env,outer:=X.stack,ex:=fp,fn:=fun z=>z==y,pn:=[],xe:=fun _ _=>False}
structure BlkC (sc esc:Scope)(y:Str)(N N2:List Str):Prop where
 kind:sc.kind=.function
 cell:∀n acc,FF n sc.names acc=(y,n)::acc
 one:∀z∈sc.names,z.2=.cell->z.1=y
 nfree:∀z∈sc.names,z.2=.free->z.1≠y
 loc:∀z∈sc.names,z.2=.local->sc.names.lookup z.1=some .local
 free:∀z∈sc.names,z.2=.free->esc.names.lookup z.1=some .cell\/esc.names.lookup z.1=some .free
 out:∀z∈N2,sc.names.lookup z≠some .local/\z≠y
 nd:N.Nodup
 len:N2.length=N.length
 ren:∀p∈N.zip N2,p.2=p.1\/sc.names.lookup p.2=none
section
variable {g:TG}
end
def scIn (sc esc:Scope):Scope:={sc with names:=sc.names.map fun (n,k)=>if (k==.free&&esc.kind==.function&&esc.names.lookup n==some .cell) then (n,.cell) else (n,k)}
section
variable {S:List (Nat×Bool)}
variable {gg:TG}{fi:FI}{fc:FT}{fg:FB}
end
open Dl (FMT)
section
variable {S:List (Nat×Bool)}
end
section
variable {k:Nat}{S:List (Nat×Bool)}{a:Expr}{q3:Pos}
variable {ff:FA}{z:Str}
end
section
variable {S:List (Nat×Bool)}
def SOkT (K:AB)(C:String->Addr)(E:XK)(t:TS)(f:FS):Prop:=∀(H0 Hb H:Hp) (σ:St) (ρ:Yp) (A:Nat->List Addr) (D:Ends),Zs K C H0 Hb H [] [] σ ρ A->
  Yo (f ρ) (fun fl=>match fl with
    | .ret d=>∀v H' Br,Xt H H'->Rp K C H' d v Br->(∀a∈Br,(∃j,a∈A j)\/H a=none)->D.rt v H'
    | _=>False) (fun c x=>∀H',Xt H H'->EC C E c x H')->t D σ H
end
structure JTs (X:Cx)(C:String->Addr)(E:XK)(ss:List Stmt)(t:TS)(f:FS):Prop where
 q:QSs X ss t
 o:SOkT X.K C E t f
 n:∀ρ ρ',f ρ≠.ok (.nx ρ')
section
variable {k:Nat}{S:List (Nat×Bool)}{f:FA}{u:TS}
end
open Dl (Pr kLt Xlt)
section
variable {E:Value->Ab->Prop}
end
open Dl (D R FE FT FA FO FS FI FB FM FMT Fl) in
section
variable {c:Expr}{tA:TT}{fA:Dl.FT}{ip rp:Pos}
end
end L2
namespace L2
open PySem
def UpP (a:Array Nat):Prop:=∀(i j x y:Nat),i<j->a[i]?=some x->a[j]?=some y->x<y
structure TabU (t:SetTable):Prop where
 no:t.dummies=#[]
 up:UpP t.place
end L2
namespace L2
open PySem PySem.Spec PyProof.Rows
open Dl (Xki Ztr)
variable {prog:Av}{w:AO}{A:AJ}{E:Value->Ab->Prop}{s:Ab}{a:Addr}{ks:List Int}{es:Array (Int×Value)}{t:SetTable}{X:Cx}{pins:List (Addr×Obj)}{e:Expr}{te:TE}{p:Pos}{K:AB}{C:String->Addr}{Γ Δ:List Nat}{m1 m:Nat}{S1:List (Nat×Bool)}
section
variable {it:Addr}{ep i:Nat}
end
open Dl (D R FE FT FA FO FS FI FB Fl)
section
variable {σ:St}{H:Hp}{p' pos pos':Pos}
variable {E:XK}
variable {S:List (Nat×Bool)}{fe:FE}{p2 apos cpos:Pos}
end
end L2
namespace L2
open PySem PyProof.Rows
variable {prog:Av}{w:AO}{A:AJ}{E:Value->Ab->Prop}{s:Ab}{κ:DY}{P:AQ->Prop}{r:AQ->AQ->Bool}{st:Fg}{ps:AQ->Int}{d0:AQ}{a0 Z:List AQ}{Rs:List (List AQ)}
def SB (r:AQ->AQ->Bool)(ps:AQ->Int)(x y:AQ):Prop:=r y x=false/\(r x y=false->ps x<ps y)
def Tl (ps:AQ->Int)(g:Nat->AQ)(n m:Nat):Prop:=∀i j,i<j->n<=j->j<m->ps (g i)<ps (g j)
section
variable {lo nrem:Nat}
structure DnL (r:AQ->AQ->Bool)(ps:AQ->Int)(g:Nat->AQ)(x q m:Nat):Prop where
 fall:∀i j,i<j->j<x->i<x - (q+1)->SB r ps (g j) (g i)
 like:∀i j,x - (q+1)<=i->i<x->x - (q+1)<=j->j<x->Eqv r (g i) (g j)
 tail:Tl ps g (x - (q+1)) m
 q1:q+1<=x
structure Od (ps:AQ->Int)(Rs:List (List AQ))(Z:List AQ):Prop where
 runs:Rs.Pairwise fun A B=>∀x∈A,∀y∈B,ps x<ps y
 rest:∀R∈Rs,∀x∈R,∀y∈Z,ps x<ps y
 tail:Z.Pairwise fun x y=>ps x<ps y
end
end L2
namespace L2
open PySem PySem.Spec PyProof.Rows
variable {prog:Av}{w:AO}{A:AJ}{E:Value->Ab->Prop}{s:Ab}{a c:Addr}{vs:List Value}{kz cs:List Int}{keys:Array Value}{P:PySem.Fin->Ab->Prop}{X:Cx}{pins:List (Addr×Obj)}{σ:St}{H:Hp}{tb:V->Hp->VK->Prop}{QQ:List Int->Hp->Prop}{N:List Str}{p lpos np pos kp2 cp apos cpos:Pos}{qual:Str}{params:D8}{body e iter tg:Expr}{sc:Scope}{cl:List (Str×Addr)}{js Γ Δ Γ' Δ' Γl Δl Γ1 Δ1:List Nat}{te:TE}{K:AB}{C:String->Addr}{m mb mr n:Nat}{Sb:List (Nat×Bool)}{fe:FE}{s1:Stmt}{ifs:List Expr}
def kp (x:AQ):Int×Int:=(numOf x.1,numOf x.2)
section
variable {kS:Addr}{e e1:Nat}
variable {f:Addr}
variable {p:Str}{P:Addr}{kp:Pos}{tb:TE}{k:Nat}
end
open Dl (D R FE FT FA FO FS FI FB Fl)
section
variable {E:XK}{m1 m2:Nat}{S:List (Nat×Bool)}
variable {p:Str}{P:Addr}{kp:Pos}{tb:TE}{fb:FE}{k:Nat}
def AllN (H0:Hp)(A:Nat->List Addr):Prop:=∀j,∀a∈A j,H0 a=none
def PostU (K:AB)(C:String->Addr)(E:XK)(Γl Δl Γ' Δ':List Nat)(H0 Hb:Hp)(D:Ends)(r:R Fl):Prop:=Yo r (fun fl=>match fl with
    | .nx ρ'=>∀σ' H' A',Zs K C H0 Hb H' Γ' Δ' σ' ρ' A'->AllN H0 A'->D.nx σ' H'
    | .ret d=>∀v H' B,Xt Hb H'->Rp K C H' d v B->(∀a∈B,H0 a=none)->D.rt v H'
    | .brk ρ'=>∀σ' H' A',Zs K C H0 Hb H' Γl Δl σ' ρ' A'->AllN H0 A'->D.bk σ' H'
    | .cnt ρ'=>∀σ' H' A',Zs K C H0 Hb H' Γl Δl σ' ρ' A'->AllN H0 A'->D.ct σ' H')
  (fun c x=>∀H',Xt Hb H'->EC C E c x H')
def SOkU (K:AB)(C:String->Addr)(E:XK)(Γl Δl Γ Δ Γ' Δ':List Nat)(t:TS)(f:FS):Prop:=∀(H0 Hb H:Hp) (σ:St) (ρ:Yp) (A:Nat->List Addr) (D:Ends),Zs K C H0 Hb H Γ Δ σ ρ A->AllN H0 A->PostU K C E Γl Δl Γ' Δ' H0 Hb D (f ρ)->t D σ H
end
structure JU (X:Cx)(C:String->Addr)(E:XK)(Γl Δl Γ Δ Γ' Δ':List Nat)(s:Stmt)(t:TS)(f:FS):Prop where
 q:QS X s t
 o:SOkU X.K C E Γl Δl Γ Δ Γ' Δ' t f
structure JUs (X:Cx)(C:String->Addr)(E:XK)(Γl Δl Γ Δ Γ' Δ':List Nat)(ss:List Stmt)(t:TS)(f:FS):Prop where
 q:QSs X ss t
 o:SOkU X.K C E Γl Δl Γ Δ Γ' Δ' t f
section
variable {E:XK}{k:Nat}{S:List (Nat×Bool)}{c:Expr}{ss body other:List Stmt}{u v:TS}{g h:FS}{pos':Pos}
variable {elt:Expr}{wi:TI}{tc:TT}{gg:TG}{fi:FI}{fc:FT}{fg:FB}
end
section
variable {E:XK}{S:List (Nat×Bool)}{p1 p2 p3:Pos}{x y z:Str}{i j l k:Nat}
end
end L2
namespace L2
open PySem PyProof.Rows
variable {prog:Av}{w:AO}{A:AJ}{E:Value->Ab->Prop}{s:Ab}{κ:DY}{P:PySem.Fin->Ab->Prop}{r:AQ->AQ->Bool}{st:Fg}{ps:AQ->Int}{vs:List Value}{kz cs:List Int}{keys:Array Value}
section
variable {P:AQ->Prop}
variable {a kS:Addr}{e e1:Nat}
end
end L2
namespace L2
open PySem PySem.Spec PyProof.Rows
variable {X:Cx}{pins:List (Addr×Obj)}{σ:St}{H:Hp}{s:Ab}{tb:V->Hp->VK->Prop}{A:AJ}{E:Value->Ab->Prop}{P:PySem.Fin->Ab->Prop}{vs:List Value}{cs:List Int}{QQ:List Int->Hp->Prop}{N:List Str}{p qual:Str}{params:D8}{body e:Expr}{sc:Scope}{cl:List (Str×Addr)}{js Γ Δ:List Nat}{c:Addr}{lpos np pos kp2 cp:Pos}{te:TE}{K:AB}{C:String->Addr}{m mb:Nat}{Sb:List (Nat×Bool)}
section
variable {a f:Addr}
variable {P:Addr}{kp:Pos}{tb:TE}{k:Nat}
end
open Dl (D R FE FT FA FO FS FI FB Fl)
section
variable {E:XK}{Γ' Δ':List Nat}{m1 m2:Nat}{S:List (Nat×Bool)}
variable {P:Addr}{kp:Pos}{tb:TE}{fe fb:FE}{k:Nat}
end
end L2
namespace L2
open PySem PySem.SeqAt PyProof.Rows
open Dl (sLt Pr kLt Xlt)
variable {prog:Av}{w:AO}{A:AJ}{E:Value->Ab->Prop}{s:Ab}
end L2
namespace L2
open PySem PySem.Spec PyProof.Rows
open Dl (D R FE FT FA FO FS FI FB FM FMT Fl Pr kLt Xlt)
variable {X:Cx}{K:AB}{C:String->Addr}{H:Hp}{prog:Av}{w:AO}{A:AJ}{E:Value->Ab->Prop}{s:Ab}{tg l e a b:Expr}{apos cpos tpos p p2 pos np:Pos}{elts es:List Expr}{x1 m mr m1 m2 n:Nat}{Γ Δ Γ' Δ' Γl Δl Γ1 Δ1 Γk Δk:List Nat}{te ta tb:TE}{fe fa fb:FE}{x y:Str}{S1 S2:List (Nat×Bool)}{CX:CXT}{ps:List Str}{s1:Stmt}{ss body:List Stmt}{I:Addr}{fp wr:List Addr}{P:Nat->Value->Prop}
section
variable {tl:TE}
structure M0 (X:Cx)(o:Expr)(md:Str)(apos cpos:Pos):Prop where
 base:Bl o md X.env (AM o X.env)=AM o X.env
 few:((AW cpos (Ac ([]:List Expr) X.env)).all (fun x=>!x.1)&&(CF cpos (BI [] X.env)).all (fun x=>x.1.isSome)&&decide (([]:List Expr).length+([]:List Bi).length+(if ([]:List Bi).isEmpty then 0 else 1)<30))=true
 line:(apos.endLine==cpos.line)=true
 trees:AW cpos (Ac ([]:List Expr) X.env)=[]
variable {E:XK}{S:List (Nat×Bool)}
variable {E:XK}{S:List (Nat×Bool)}
end
inductive LorT:HO->Prop where
 | lst {xs:List V}:LorT (.lst xs)
 | dtt {kvs:List (List Key×V)}:LorT (.dT kvs)
section
variable {E:XK}{S:List (Nat×Bool)}
variable {pos':Pos}{i j:Nat}
def BOk0 (K:AB)(C:String->Addr)(Γ Δ:List Nat)(g:TG)(b:FB):Prop:=∀(H0 Hb H:Hp) (σ:St) (ρ:Yp) (A:Nat->List Addr) (d:D) (v:V) (B:List Addr) (Rr:St->Hp->Prop),Zs K C H0 Hb H Γ Δ σ ρ A->Rp K C H d v B->(∀a∈B,Hb a≠none)->
 Yo (b d ρ) (fun ρ'=>∀σ' A',σ'[0]?=σ[0]?->Zs K C H0 Hb H Γ Δ σ' ρ' A'->Rr σ' H) (fun _ _=>False)->g v σ H Rr
def BsOk0 (K:AB)(C:String->Addr)(Γ Δ:List Nat)(g:TGs)(b:List D->Yp->R Yp):Prop:=∀(H0 Hb H:Hp) (σ:St) (ρ:Yp) (A:Nat->List Addr) (d:List D) (v:List V) (B:List Addr) (Rr:St->Hp->Prop),Zs K C H0 Hb H Γ Δ σ ρ A->RpA K C H d v B->(∀a∈B,Hb a≠none)->
 Yo (b d ρ) (fun ρ'=>∀σ' A',σ'[0]?=σ[0]?->Zs K C H0 Hb H Γ Δ σ' ρ' A'->Rr σ' H) (fun _ _=>False)->g v σ H Rr
end
structure JPs (X:Cx)(C:String->Addr)(E:XK)(Γ Δ Γ' Δ':List Nat)(s:List Stmt)(t:TS)(f:FS):Prop where
 q:QSs X s t
 o:SOkP X.K C E Γ Δ Γ' Δ' t f
structure JG0 (X:Cx)(C:String->Addr)(Γ Δ:List Nat)(e:Expr)(t:TG)(b:FB):Prop where
 q:QG X e t
 o:BOk0 X.K C Γ Δ t b
structure JGs0 (X:Cx)(C:String->Addr)(Γ Δ:List Nat)(es:List Expr)(n:Nat)(t:TGs)(f:List D->Yp->R Yp):Prop where
 q:QGs X es t
 o:BsOk0 X.K C Γ Δ t f
 n:∀ds ρ ρ',f ds ρ=.ok ρ'->ds.length=n
section
variable {E:XK}{k:Nat}{S:List (Nat×Bool)}{c iter:Expr}{t:TA}{fa:FA}{tm:TE}{fm:FM}{p1 q3:Pos}{u v:TS}{g h:FS}
variable {R:DL->Ab->Prop}{St:Nat->AY->Prop}
variable {td:TE}{kp:Pos}
end
end L2
namespace L2
open PySem PySem.SeqAt PyProof.Rows
open Dl (ilt Xgy)
variable {A:AJ}{s:Ab}{prog:Av}{w:AO}{E:Value->Ab->Prop}
end L2
namespace L2
open PySem PySem.Spec PyProof.Rows
open Dl (D R FE FT FA FO FS FI FB Fl Xgy)
variable {X:Cx}{K:AB}{C:String->Addr}{E:XK}{Γ Δ Γ' Δ':List Nat}{m m1 m2 ep x1:Nat}{S1 S2 S3:List (Nat×Bool)}{H:Hp}{e a b tg:Expr}{te ta tb:TE}{fe fa fb:FE}{pos p tpos:Pos}{prog:Av}{w:AO}{A:AJ}{od:Obj}{es:Array DictEntry}{s:Ab}{elts:List Expr}
section
variable {Γl Δl:List Nat}{m3 mr:Nat}{S:List (Nat×Bool)}
variable {a it:Addr}
variable {E:Value->Ab->Prop}
end
end L2
namespace L2
open PySem PyProof.Rows
variable {prog:Av}{w:AO}{A:AJ}{E:Value->Ab->Prop}{s:Ab}{κ:DY}{P:AQ->Prop}{r:AQ->AQ->Bool}{st:Fg}
end L2
namespace L2
open PySem PySem.SeqAt PyProof.Rows
open Dl (ilt Xgy)
variable {prog:Av}{w:AO}{A:AJ}{E:Value->Ab->Prop}{s:Ab}
end L2
namespace L2
open PySem PySem.Spec PyProof.Rows
open Dl (D R FE FT FA FO FS FI FB Fl Xgy)
variable {X:Cx}{K:AB}{C:String->Addr}{E:XK}{Γ Δ:List Nat}{m m1 m2:Nat}{S1 S2 S3:List (Nat×Bool)}{e:Expr}{T:List Addr}{c:Addr}
section
variable {Γl Δl:List Nat}{m3 mr:Nat}{S:List (Nat×Bool)}{H:Hp}
end
section
variable {Γ' Δ':List Nat}{S:List (Nat×Bool)}{te:TE}{fe:FE}{pos p:Pos}
end
end L2
namespace L2
open PySem PySem.SeqAt PyProof.Rows
open Dl (ilt Xgy)
variable {prog:Av}{w:AO}{A:AJ}{E:Value->Ab->Prop}{s:Ab}
end L2
namespace L2
open PySem PySem.Spec PyProof.Rows
open Dl (D R FE FT FA FO FS FI FB Fl Xgy)
variable {X:Cx}{K:AB}{C:String->Addr}{H:Hp}{E:XK}{Γ Δ Γl Δl Γ' Δ' Γ1 Δ1:List Nat}{m m1 m2 mr n m3 m4:Nat}{S1 S2 S3 S4:List (Nat×Bool)}{e tg iter:Expr}{te:TE}{fe:FE}{pos p p2 apos cpos:Pos}{P:Av}{w:AO}{mg:Str->Option Value}{x:Str}{st:Stmt}{fd:BB}{N ps:List Str}{ts:List (Addr×Pos×Str)}{es:List Expr}{t:TA}{CX:CXT}{f:Yp->R (D×D)}
section
variable {S:List (Nat×Bool)}
variable {base:AY}{qual:Str}{f c:Addr}{k:Nat}{g:FS}
end
section
variable {k:Nat}{S:List (Nat×Bool)}
end
open Dl (FM)
section
variable {w:Nat}{S:List (Nat×Bool)}
@[reducible] def tSn (t:TA)(i:Nat):TA:=fun σ H Q=>t σ H fun vs H1=>∃v,σ[i]?=some (some v)/\Q (vs++[v]) H1
def MS (K:AB)(C:String->Addr)(w:Nat)(t:TE)(f:Yp->R (D×D)):Prop:=∀(H0 Hb H:Hp) (σ:St) (ρ:Yp) (A:Nat->List Addr) (Q:VK),Zs K C H0 Hb H [w] [w] σ ρ A->
 Yo (f ρ) (fun p=>∀v0 v H' A1 B,σ[w]?=some (some v0)->(∀b o,b∉A w->H b=some o->H' b=some o)->Rp K C H' p.2 v0 A1->A1.Nodup->(∀a∈A1,a∈A w\/H a=none)->Rp K C H' p.1 v B->B.Nodup->(∀a∈B,(a∈A w\/H a=none)/\a∉A1)->Q v H') (fun _ _=>False)->t σ H Q
end
structure JMS (X:Cx)(C:String->Addr)(w:Nat)(e:Expr)(t:TE)(f:Yp->R (D×D)):Prop where
 q:QE X e t
 o:MS X.K C w t f
section
variable {k w:Nat}{S:List (Nat×Bool)}{a b c elt:Expr}{fa:FA}{p1:Pos}{y:Str}{wi:TI}{fi:FI}
end
section
variable {Γk Δk:List Nat}{m5:Nat}{S S5:List (Nat×Bool)}{a b c st o:Expr}{rest:List Expr}{ta tb tc ts:TE}{fa fb fc fs:FE}{pos':Pos}
end
end L2
namespace PySem
open Sem (wp)
variable {prog:Av}{w:AO}{A:AJ}{E:Value->Ab->Prop}{h:AY}{g:Array Dj}{d:GG}{t:Nat}{os:Gb}{a:Addr}{xs:Array Value}{sl:Array (Option Value)}
section
variable {k:Nat}
end
end PySem
namespace PyProof.Rows
open PySem PySem.Spec
namespace F
end F
section
variable {prog:Av}{w:AO}{A:AJ}{R:DL->Ab->Prop}{I:Addr}{fp wr:List Addr}{G:Array Dj->Array Dj->Prop}{n:Nat}{P:Nat->Value->Prop}{St:Nat->Ab->Prop}{K:Type}[DecidableEq K]{knd:PySem.KeyKind prog w K}
end
section
variable {prog:Av}{w:AO}{A:AJ}{E:Value->Ab->Prop}{s:Ab}{K:Type}[DecidableEq K]{knd:PySem.KeyKind prog w K}
end
end PyProof.Rows
namespace L2
open PySem PySem.Spec PyProof.Rows
open Dl (D R FE FT FA FO FS FI FB Fl)
variable {X:Cx}{K:AB}{C:String->Addr}{E:XK}{Γ Δ Γ' Δ' Γ1 Δ1 Γl Δl Γk Δk:List Nat}{m m1 m2 m3 mr i n:Nat}{S1 S2 S3:List (Nat×Bool)}{H:Hp}{c e o tg iter elt:Expr}{es ifs:List Expr}{ta tb te:TE}{fa fb fe:FE}{pos apos cpos py spos:Pos}{M:Model}{A:AJ}{s s3 s' s2 s00:Ab}{env:Env}{sc scope sc0:Scope}{newAcc first:Sem Value}{g gg:TG}{gs:List Fy}{cl cl0:List (Str×Addr)}{use:Option (Value->Sem Unit)}{Q E0':Value->Ab->Prop}{P:Av}{w:AO}{pins:List (Addr×Obj)}{σ:St}{fp fp0:List Addr}{N2 xs N N0 xs0:List Str}{ev:Value}{wi:TI}{tc:TT}{it C0:Addr}{tn:Nat->AY->Prop}{RR:Value->Env->DL->Ab->Prop}{y:Str}{fi:FI}{fg:FB}{f:FA}
section
variable {S:List (Nat×Bool)}
variable {a b st:Expr}{rest:List Expr}{tc ts:TE}{fc fs:FE}{p p2 pos' cp kp:Pos}{k:Nat}
variable {E:Value->Ab->Prop}
def Zit (M:Model)(A:AJ)(E:Value->Ab->Prop)(use:Option (Value->Sem Unit))(Q:Value->Ab->Prop)(acc:Value)(ce:Env)(r:DL)(s':Ab):Prop:=
 match r,use with
 | .ok _,none=>∃m,s'.heap.Ns ce.locals m/\∀h',BD ce.locals s'.heap h'->Q acc {s' with heap:=h'}
 | .ok _,some u=>Au M A (u acc) (fun _ s2=>∃m,s2.heap.Ns ce.locals m/\∀h',BD ce.locals s2.heap h'->Q .none {s2 with heap:=h'}) E s'
 | .error x,_=>∃m,s'.heap.Ns ce.locals m/\∀h',BD ce.locals s'.heap h'->Au M A (passOn "comprehension.variables-let-go" x ce:Sem Value) (fun _ _=>False) E {s' with heap:=h'}
theorem Zjl {g:Fy}
    (hcl:clausesOf e=g::gs) (hs:∀x,Aw g.iter env x=pure x) (hclos:Fe sc env=pure cl) (hkind:sc.kind=.function) (hnames:∀x∈sc.names,x.2=.local->sc.names.lookup x.1=some .local)
    (h:Au M A first (fun x s1=>Au M A (pyIter x) (fun it s2=>Au M A newAcc (fun acc s3=>Au M A (Fd sc env.globals cl [] env.qual none .none (some env)) (fun ce s4 =>
        B8 M A (.compStart e 0 it acc {ce with scope:=Ci sc env}) (Zit M A E use Q acc {ce with scope:=Ci sc env}) s4) E s3) E s2) E s1) E s) :
    Au M A (Ed e sc env pos newAcc false first use) Q E s:=by
  unfold Ed;rw [hclos,hcl];refine Aj (Ax h (fun x s1 h1=>Aj (CS (Aj (wpAny_of_eq (hs x) (Aj (BJ (Ax h1 (fun it s2 h2=>wpAny_standIf (Aj (Ax h2 (fun acc s3 h3=>Aj (AU (Aj (Ax h3 (fun ce s4 h4=>?_) fun _ _ z=>z)))) fun _ _ z=>z))) fun _ _ z=>z))))))) fun _ _ z=>z);dsimp only;have hv:∀x∈(sc.names.filter fun x=>(x.2==.local||x.2==.cell)&&x.1 != (".0":Str)).reverse,x.2=.local->Env.kindOf {ce with scope:=Ci sc env} x.1=some .local:=fun x hx hl=>lookup_relabel_local (hnames x (Et.mp (List.mem_reverse.mp hx)).1 hl);have hv2:∀x∈(sc.names.filter fun x=>(x.2==.local||x.2==.cell)&&x.1 != (".0":Str)).reverse.drop 1++(sc.names.filter fun x=>(x.2==.local||x.2==.cell)&&x.1 != (".0":Str)).reverse.take 1,x.2=.local->Env.kindOf {ce with scope:=Ci sc env} x.1=some .local:=fun x hx hl=>by rcases An.mp hx with w | w;exact hv x (CJ w) hl;exact hv x (DF w) hl
  refine BJ (Aj (wpAny_attempt (BJ (wpAny_run (ED h4 fun r s' hr=>?_)))));cases r with
  | ok f =>
    cases use with
    | none =>obtain ⟨m,hn,hr⟩:=hr;exact Aj (BJ (EN (cenv:={ce with scope:=Ci sc env}) hkind _ s' m hv hn fun h' _ _ hs'=>AU (hr h' hs')))
    | some u =>refine Aj (wpAny_rule (Aj (BJ (Ax hr (fun _ s2 hr2=>?_) fun _ _ z=>z))));obtain ⟨m,hn,hr2⟩:=hr2;exact Aj (EN (cenv:={ce with scope:=Ci sc env}) hkind _ s2 m hv2 hn fun h' _ _ hs'=>AU (hr2 h' hs'))
  | error x =>
    have hr':∃m,s'.heap.Ns ce.locals m/\∀h',BD ce.locals s'.heap h'->Au M A (passOn "comprehension.variables-let-go" x {ce with scope:=Ci sc env}:Sem Value) (fun _ _=>False) E {s' with heap:=h'}:=by cases use<;>exact hr
    obtain ⟨m,hn,hr⟩:=hr';exact Aj (BJ (EN (cenv:={ce with scope:=Ci sc env}) hkind _ s' m hv hn fun h' _ _ hs'=>Ax (hr h' hs') (fun _ _ f=>f.elim) fun _ _ y=>y))
variable {R:DL->Ab->Prop}
theorem Znu {it ac:Value}(W:Nat->Ab->Prop)
    (turn:∀n s,W n s->Au (Ao P w) A (pyNext it) (fun r s₁=>match r with
      | none=>R (.ok .next) s₁
      | some v=>Au (Ao P w) A (C5 tg it v) (fun _ s₁'=>Au (Ao P w) A (BE tg env v) (fun _ s₂ =>
          Au (Ao P w) A (Zoz ifs env) (fun ok s₃ =>
            if ok=true then Au (Ao P w) A (AM elt env) (fun z s₄ =>
              Au (Ao P w) A (call (.builtin "list.append") [ac,z]) (fun _ s₅=>∃m,m<n/\W m s₅) (fun _ _=>False) s₄) (notedBy (Ao P w) A env fun x s'=>R (.error x) s') s₃
            else ∃m,m<n/\W m s₃) (fun _ _=>False) s₂) (fun _ _=>False) s₁') (fun _ _=>False) s₁) (fun _ _=>False) s)
    (n:Nat) (h:W n s) :
    B8 (Ao P w) A (.compLoop (.ListComp elt [⟨tg,iter,ifs,0⟩] scope pos) 0 it ac env) R s:=by
  refine codeAny_loop rfl W (fun n s hI=>?_) n h;show Au _ A ((compTurn (.ListComp elt [⟨tg,iter,ifs,0⟩] scope pos) 0 it ac env).onRaise (fun z=>do Dc z env;Hy z)) _ _ s;refine wpAny_noted ?_;rw [HS];refine Aj (CS (Aj (Ax (turn n s hI) (fun r s₁ h₁=>?_) fun _ _ h'=>h'.elim)));cases r with
  | none=>exact AU h₁
  | some v =>
    refine Aj (Ax h₁ (fun _ s₁' h₁'=>?_) fun _ _ h'=>h'.elim);refine Aj (Ax h₁' (fun _ s₂ h₂=>Aj (Ax h₂ (fun ok s₃ h₃=>?_) fun _ _ h'=>h'.elim)) fun _ _ h'=>h'.elim);cases ok with
    | false=>exact AU (Ep rfl h₃)
    | true =>exact Aj (Aj (Ax h₃ (fun x s₄ h₄=>Aj (Ax h₄ (fun _ s₅ h₅=>AU (AU ⟨rfl,h₅⟩)) fun _ _ h'=>h'.elim)) fun _ _ h'=>h'))
end
def Zzn (X:Cx)(E:XK)(ev:Value)(s':Ab):Prop:=∃pins σ H s,Inv X pins σ H s/\CXE X.prog X.w X.stack H s E ev s'
theorem Xjc :Zfk (CXE X.prog X.w) (X.wish (Zzn X E)) E:=fun pins σ H s _ _ I h=>⟨pins,σ,H,s,I.unwish,h⟩
section
variable {H3:Hp}
theorem Xkh (hx:X.ex=[])(hst:X.stack=X.env::X.outer)(hf:X.env.frame=some X.env.locals)(I3:Inv X pins σ H3 s3)(f3:∀b∈fp,Zks X pins H3 b)(r:Zzn (X.blkN N2 xs sc cl s3.heap.objs.size s3 H3 fp) E ev s') :
  notedBy (Ao X.prog X.w) X.A (BR sc cl s3.heap.objs.size X.env) (fun x s2=>∃m,s2.heap.Ns s3.heap.objs.size m/\∀h',BD s3.heap.objs.size s2.heap h'->Au (Ao X.prog X.w) X.A (passOn "comprehension.variables-let-go" x (BR sc cl s3.heap.objs.size X.env):Sem Value) (fun _ _=>False) (ER X E) {s2 with heap:=h'}) ev s':=by
 obtain ⟨pins1,σ1,H1,s1,I1,e,dx,rfl,hdx,e',T,cls,H2,ee,os,bare,un,hok,fr,x,ne,nT,hH1,hH2,q⟩:=r;cases ee;have J:Inv (X.blkN N2 xs sc cl s3.heap.objs.size s3 H3 fp) pins1 σ1 H2 s':=I1.call' (ch:=[]) os un hok bare (by simp);have O:Inv X pins σ H2 s':=I3.call' (ch:=fp) J.os J.base J.hok J.bare fun b hb=>⟨(f3 b hb).2.2.2.1,(f3 b hb).2.1,(f3 b hb).2.2.2.2.1,(f3 b hb).2.2.2.2.2⟩;have far:∀b,s1.heap.get? b=none->∀a o,s3.heap.get? a=some o->a∉fp->a≠b:=fun b hb a o ea ha z=>by obtain ⟨o',e1⟩:=I1.base.there a o ea ha;rw [z,hb] at e1;cases e1
 have own:∀b,s1.heap.get? b=none->H2 b=none->H2 b=none/\X.s₀.heap.get? b=none/\b≠X.env.locals/\(∀x c,X.env.cells.lookup x=some c->c≠b)/\∀p∈X.pn++pins,p.1≠b:=fun b hb h2=>by
  refine ⟨h2,?_,?_,fun y c ey z=>?_,fun p hp z=>?_⟩;cases qq:X.s₀.heap.get? b with
  | none=>rfl
  | some o =>by_cases hfp:b∈fp;rcases (f3 b hfp).2.2.2.1 with z | z;rw [hx] at z;cases z;exact absurd (Aq (AL qq) z) (AZ _);obtain ⟨o',e1⟩:=I3.base.there b o qq (by rw [hx];simp);exact absurd rfl (far b hb b o' e1 hfp)
  rintro rfl;obtain ⟨m,⟨o,_,_,ho,_⟩,_⟩:=I3.loc;exact far _ hb _ o ho (fun z=>(f3 _ z).2.1 rfl) rfl;obtain ⟨v,o,ho,_⟩:=I3.cell y c ey;exact far b hb c o ho (fun w=>(f3 _ w).2.2.2.2.1 y c ey rfl) z;exact far b hb p.1 p.2 (I3.pin p hp).1 (fun w=>(f3 _ w).2.2.2.2.2 p hp rfl) z
 obtain ⟨mC,⟨oC,es,ep,hC,hdC,rC⟩,_⟩:=J.loc;have fC:Zks X pins H2 s3.heap.objs.size:=I3.fpOk (AF _) J.free;have neC:∀b,s1.heap.get? b=none->s3.heap.objs.size≠b:=fun b hb z=>by obtain ⟨_,⟨o,_,_,ho,_⟩,_⟩:=I1.loc;have ho':s1.heap.get? s3.heap.objs.size=some o:=ho;rw [z,hb] at ho';cases ho'
 have Op:=O.pinned (fp:=[s3.heap.objs.size]) (fun b hb=>by rw [Ak.mp hb];exact fC) (fun b hb=>by rw [Ak.mp hb];exact ⟨oC,hC,fun v=>by rw [hdC];intro z;cases z⟩);have oo:Zcu X (pins++Zip [s3.heap.objs.size] s'.heap) H2 [e,T]:=fun b hb=>by
  have hb':s1.heap.get? b=none/\H2 b=none:=by simp only [Af,Cb,or_false] at hb;rcases hb with rfl | rfl;exact ⟨ne,hH1⟩;exact ⟨nT,hH2⟩
  obtain ⟨a1,a2,a3,a4,a5⟩:=own b hb'.1 hb'.2;refine ⟨a1,a2,a3,a4,fun p hp=>?_⟩;rcases An.mp hp with z | z;exact a5 p (As _ z);rcases An.mp z with z | z;exact a5 p (Ag _ z);rw [Ak.mp (Zmx z).1];exact neC b hb'.1
 show Au _ _ (Dc (.ref e) X.env) _ _ s';refine Zpk Op x (.inr (.inl rfl)) oo hx O.ok.frames hst hf hdx fun s2 T2 I2 x2 oo2 hd2=>?_;have pC:=I2.pin (s3.heap.objs.size,oC) (Ag _ (Ag _ (Ju (.head _) hC)));refine ⟨mC,⟨oC,es,ep,pC.1,hdC,rC⟩,fun h' hs'=>?_⟩;obtain ⟨c0,c1,c2,c3,c4,c5⟩:=fC;have I4:Inv X pins σ H2 {s2 with heap:=h',toks:=s2.toks}:=I2.unpinned.turned (t':=s2.toks) (fun b o hb e=>hs'.extBut b o hb e) c0 c1 c3 c4 c5;have neo:∀b∈[e,T2],b≠s3.heap.objs.size:=fun b hb z=>(oo2 b hb).2.2.2.2 (s3.heap.objs.size,oC) (Ag _ (Ag _ (Ju (.head _) hC))) z.symm;have oo4:Zcu X pins H2 [e,T2]:=fun b hb=>⟨(oo2 b hb).1,(oo2 b hb).2.1,(oo2 b hb).2.2.1,(oo2 b hb).2.2.2.1,fun p hp=>(oo2 b hb).2.2.2.2 p ((An.mp hp).elim (As _) fun z=>Ag _ (As _ z))⟩;have hd4:Zby {s2 with heap:=h',toks:=s2.toks} e dx:=by obtain ⟨o,ho,hd⟩:=hd2;exact ⟨o,hs'.extBut e o (neo e (.head _)) ho,hd⟩
 have x4:Zju h' e cls [e,T2] (some (CL X.env.locals)):=by
  obtain ⟨oe,vs,a0,he,hc,hd,h0,rr⟩:=x2;rcases rr with ⟨z,_⟩ | ⟨T',oT,ts,fl,z,ro,h1,hTe,hT,hdT,h3⟩;cases z;have eT:T'=T2:=by simpa using ro.symm
  exact ⟨oe,vs,a0,hs'.extBut e oe (neo e (.head _)) he,hc,hd,h0,.inr ⟨T',oT,ts,fl,z,ro,h1,hTe,hs'.extBut T' oT (by rw [eT];exact neo T2 (by simp)) hT,hdT,h3⟩⟩
 obtain ⟨oe,vs,a0,he,hc,hd,h0,rr⟩:=id x4;rcases rr with ⟨z,_⟩ | ⟨T',oT,ts,fl,z,ro,h1,hTe,hT,hdT,h3⟩;cases z;unfold PySem.passOn;refine Aj (Gs he hd h1 ?_);rw [if_neg (show ¬((Ba T'==C1)=true) from by simp)];have hfr:(BR sc cl s3.heap.objs.size X.env).frame=some X.env.locals:=hf;rw [hfr];have fly:=Ax ((Zdc (.ref e) (some X.env.locals)).any (Xpu (A':=X.A) (R:=fun _ _=>False) (Q:=fun _ s5=>Inv X pins σ H2 s5/\Zju s5.heap e cls [e,T2] (some (CL X.env.locals))) I4 x4 oo4 fun s5 a b=>⟨a,b⟩) hd4)
  (Q':=fun _ s5=>ER X E (.ref e) s5) (E':=ER X E) (fun _ s5 q5=>⟨e,dx,rfl,q5.2,pins,e,[e,T2],cls,some (CL X.env.locals),σ,H2,rfl,q5.1.1,q5.1.2,.inr (.inr ⟨_,hf,rfl⟩),oo4,q⟩) fun _ _ q=>q.1.elim
 first
  | exact Aj (AU (Aj (Ax fly (fun _ s5 q5=>wpAny_throw q5) fun _ _ z=>z)))
  | exact Aj (Ax fly (fun _ s5 q5=>wpAny_throw q5) fun _ _ z=>z)
end
theorem Zmg {H2:Hp}{J:It}{Q:VK}(hc:X.calm=true)(B:Zll sc X.env.scope xs X.N N2)
    (hg:∀cl C s0 H0 fp,Tk X.H₀ H0->PG (X.blkN N2 xs sc cl C s0 H0 fp) tg g) (ht:∀cl C s0 H0 fp,Tk X.H₀ H0->PIf (X.blkN N2 xs sc cl C s0 H0 fp) ifs tc) (hx:X.ex=[]) (hst:X.stack=X.env::X.outer) (hfr:X.env.frame=some X.env.locals) (he:∀cl C s0 H0 fp,Tk X.H₀ H0->PE ((X.blkN N2 xs sc cl C s0 H0 fp).wish (Zzn (X.blkN N2 xs sc cl C s0 H0 fp) E)) elt te)
    (I2:Inv X pins σ H2 s2) (T:Turn X.prog X.w X.K tg J fp it tn) (st2:tn 0 s2.heap) (f2:∀b∈fp,Zks X pins H2 b)
    (hw:∀D,H2 D=none->∃W:Nat->Nat->Hp->Prop,(∃m,W 0 m (upd H2 D (.lst [])))/\∀i m H,W i m H->
      (J.stop i H/\Q (.ref D) H)\/(J.go i H/\∃N:Hp->Prop,(∀H',N H'->∃m',m'<m/\W (i+1) m' H')/\∀x H',J.yld i H x H'->∀os:St,os.length=xs.length->g x (σ++os) H' fun σ' Hg=>(∃os',os'.length=xs.length/\σ'=σ++os')/\tc σ' Hg fun b H2 =>
        if b=true then te σ' H2 fun v H3=>∃ys,H3 D=some (.lst ys)/\ys.length<Ai/\N (upd H3 D (.lst (ys++[v])))
        else N H2))
    (fin:∀(D C:Addr) (H':Hp) (s':Ab) (m:Str->Option Value),Inv X pins σ H' s'->s'.heap.Ns C m->Zks X pins H' C->Q (.ref D) H'->RR (.ref D) (BR sc (Xx X.env.cells sc.names []) C X.env) (.ok .next) s')
    (ferr:∀(D C:Addr) (ev:Value) (s':Ab),(∃m,s'.heap.Ns C m/\∀h',BD C s'.heap h'->Au (Ao X.prog X.w) X.A (PySem.passOn "comprehension.variables-let-go" ev (BR sc (Xx X.env.cells sc.names []) C X.env):Sem Value) (fun _ _=>False) (ER X E) {s' with heap:=h'})->RR (.ref D) (BR sc (Xx X.env.cells sc.names []) C X.env) (.error ev) s') :
    Au (Ao X.prog X.w) X.A (G1 []) (fun acc s₃=>Au (Ao X.prog X.w) X.A (Fd sc X.env.globals (Xx X.env.cells sc.names []) [] X.env.qual none .none (some X.env)) (fun cenv s₄ =>
      B8 (Ao X.prog X.w) X.A (.compStart (.ListComp elt [⟨tg,iter,ifs,0⟩] sc pos) 0 (.ref it) acc {cenv with scope:=Ci sc X.env}) (RR acc {cenv with scope:=Ci sc X.env}) s₄) E0' s₃) E0' s2:=by
  refine GY (Gr B.cell (by intro y hy;simp at hy) (fun h₁ hns₁ hsb₁=>?_) B.kind);have hD:H2 s2.heap.objs.size=none:=I2.fresh;obtain ⟨W,⟨m0,w0⟩,turn⟩:=hw _ hD;have I3:Inv X pins σ (upd H2 s2.heap.objs.size (.lst [])) {s2 with heap:=s2.heap.push {cls:=.type "list",data:=.seq ([]:List Value).toArray}}:=I2.lnew (its:=[]) (t':=s2.toks) .nil (BC _);have fne:∀b∈fp,b<s2.heap.objs.size:=fun b hb=>by obtain ⟨o,ho,_⟩:=T.obj _ _ st2 b hb;exact AL ho
  generalize hs3:({s2 with heap:=s2.heap.push {cls:=.type "list",data:=.seq ([]:List Value).toArray}}:Ab)=s3 at I3;have hs3h:s3.heap=s2.heap.push {cls:=.type "list",data:=.seq ([]:List Value).toArray}:=by rw [<- hs3]
  have f3:∀b∈fp,Zks X pins (upd H2 s2.heap.objs.size (.lst [])) b:=fun b hb=>⟨by rw [Xl (Be (fne b hb))];exact (f2 b hb).1,(f2 b hb).2⟩;have fl3:∀b∈fp,b<s3.heap.objs.size:=fun b hb=>by rw [hs3h,GL];exact Gj (fne b hb)
  have keep3:∀b o,s3.heap.get? b=some o->h₁.get? b=some o:=fun b o e=>by rw [hs3h] at e;refine hsb₁.extBut b o ?_ (Az _ e);exact Be (AL e)
  have hns3:h₁.Ns s3.heap.objs.size (fun z=>([]:List (Str×Value)).reverse.lookup z):=by rw [hs3h];exact hns₁
  have I4:=Zjr (xs:=xs) (sc:=sc) (s1:={s3 with heap:=h₁,toks:=s3.toks+([]:List (Str×Value)).length}) B I3 f3 fl3 hns3 keep3 rfl;have st4:tn 0 h₁:=T.keep _ _ _ st2 fun b hb o e=>keep3 b o (by rw [hs3h];exact Az _ e);have stat:∀{H':Hp},(∀b∈fp,H' b=none)->∀b∈fp,Zks (X.blkN N2 xs sc (Xx X.env.cells sc.names []) s3.heap.objs.size s3 (upd H2 s2.heap.objs.size (.lst [])) fp) [] H' b:=fun hn b hb =>
    ⟨hn b hb,(I4.ok.exf b hb).1,I4.ok.exfs b hb,.inl hb,(I4.ok.exf b hb).2,fun p hp=>absurd (show p∈([]:List (Addr×Obj)) from hp) (by simp)⟩
  have tk:Tk X.H₀ (upd H2 s2.heap.objs.size (.lst [])):=fun b p q h=>I3.base.tbls b p q h;have loop:∀s4:Ab,s4={s3 with heap:=h₁,toks:=s3.toks+([]:List (Str×Value)).length}->
      B8 (Ao X.prog X.w) X.A (.compLoop (.ListComp elt [⟨tg,iter,ifs,0⟩] sc pos) 0 (.ref it) (.ref s2.heap.objs.size) (BR sc (Xx X.env.cells sc.names []) s3.heap.objs.size X.env)) (RR (.ref s2.heap.objs.size) (BR sc (Xx X.env.cells sc.names []) s3.heap.objs.size X.env)) s4:=by
    rintro s4 rfl;refine Znu (fun n s'=>∃(i:Nat) (o:St) (H':Hp),o.length=xs.length/\Inv (X.blkN N2 xs sc (Xx X.env.cells sc.names []) s3.heap.objs.size s3 (upd H2 s2.heap.objs.size (.lst [])) fp) [] (σ++o) H' s'/\tn i s'.heap/\(∀b∈fp,H' b=none)/\W i n H') ?_ m0
      ⟨0,Aa xs.length none,_,by simp,I4,st4,fun b hb=>(f3 b hb).1,w0⟩
    rintro n s5 ⟨i,o,H5,ol5,I5,st5,fr5,w5⟩;rcases turn i n H5 w5 with ⟨stop,qn⟩ | ⟨go,N,hN,step⟩;refine thn (T.done (X.blkN N2 xs sc (Xx X.env.cells sc.names []) s3.heap.objs.size s3 (upd H2 s2.heap.objs.size (.lst [])) fp) rfl rfl rfl hc i [] s5 (σ++o) H5 _ I5 (stat fr5) st5 stop) fun r s6 ⟨hr,I6⟩=>?_;subst hr;obtain ⟨m6,hn6,_⟩:=I6.loc;refine fin _ _ H5 s6 m6 ?_ hn6 (I3.fpOk (AF _) I6.free) qn;exact I3.call' (ch:=fp) I6.os I6.base I6.hok I6.bare fun b hb=>⟨(f3 b hb).2.2.2.1,(f3 b hb).2.1,(f3 b hb).2.2.2.2.1,(f3 b hb).2.2.2.2.2⟩;refine thn (T.item (X.blkN N2 xs sc (Xx X.env.cells sc.names []) s3.heap.objs.size s3 (upd H2 s2.heap.objs.size (.lst [])) fp) rfl rfl rfl hc i [] s5 (σ++o) H5 _ I5 (stat fr5) st5 go) fun r s6 ⟨u,hr,h6⟩=>?_;subst hr;refine thn h6 fun _ s7 hz9=>?_;obtain ⟨v,H7,I7,r7,y7,st7,fr7⟩:=hz9;have I7':=I7.pinned (stat fr7) (T.obj _ _ st7);refine thn (hg _ _ _ _ _ tk _ s7 _ H7 v u _ I7' r7 (step v H7 y7 o ol5)) fun _ s8 ⟨σ8,H8,I8,⟨os',ol8,e8⟩,q8⟩=>?_;subst e8;have Ff:∀{H9:Hp} {s9:Ab},Inv (X.blkN N2 xs sc (Xx X.env.cells sc.names []) s3.heap.objs.size s3 (upd H2 s2.heap.objs.size (.lst [])) fp) ([]++Zip fp s7.heap) (σ++os') H9 s9->N H9->
        ∃m,m<n/\∃(i:Nat) (o:St) (H':Hp),o.length=xs.length/\Inv (X.blkN N2 xs sc (Xx X.env.cells sc.names []) s3.heap.objs.size s3 (upd H2 s2.heap.objs.size (.lst [])) fp) [] (σ++o) H' s9/\tn i s9.heap/\(∀b∈fp,H' b=none)/\W i m H':=fun {H9 s9} I9 n9=>by
      obtain ⟨m',hm,w9⟩:=hN H9 n9;refine ⟨m',hm,i+1,os',H9,ol8,I9.unpinned,T.keep _ _ _ st7 fun b hb o e=>(I9.pin (b,o) (Ag _ (Ag _ (Ju hb e)))).1,fun b hb=>?_,w9⟩;obtain ⟨o,e,d⟩:=T.obj _ _ st7 b hb;exact (I9.pin (b,o) (Ag _ (Ag _ (Ju hb e)))).2.1
    refine thn (ht _ _ _ _ _ tk _ s8 _ H8 _ I8 q8) fun ok s9 ⟨H9,I9,q9⟩=>?_;cases ok with
    | false =>rw [if_neg Ar] at q9 ⊢;exact Ff I9 q9
    | true =>rw [if_pos rfl] at q9 ⊢;refine Ax (he _ _ _ _ _ tk _ s9 _ H9 _ (I9.wish _) q9) (fun ue s10 hz9=>?_) fun ev s10 rw'=>Ax (Xkh hx hst hfr I3 f3 rw') (fun _ s11 z=>ferr _ _ ev s11 z) fun _ s11 z=>ferr _ _ _ s11 z;obtain ⟨ve,H10,I10,r10,ys,hy,hz,q10⟩:=hz9;have I10:=I10.unwish;refine thn (Zia _ s10 _ H10 (.ref s2.heap.objs.size) [ve] (.ref s2.heap.objs.size) [ue] (fun _ H'=>N H') I10 rfl (.cons r10 .nil) ⟨_,ys,ve,rfl,rfl,hy,hz,q10⟩) fun _ s11 hz9=>?_;obtain ⟨_,H11,I11,_,q11⟩:=hz9;exact Ff I11 q11
  have fin':B8 (Ao X.prog X.w) X.A (.compStart (.ListComp elt [⟨tg,iter,ifs,0⟩] sc pos) 0 (.ref it) (.ref s2.heap.objs.size) (BR sc (Xx X.env.cells sc.names []) s3.heap.objs.size X.env)) (RR (.ref s2.heap.objs.size) (BR sc (Xx X.env.cells sc.names []) s3.heap.objs.size X.env)) {s3 with heap:=h₁,toks:=s3.toks+([]:List (Str×Value)).length}:=Ga (loop _ rfl) (T.self _ 0 _ _ _ st4 (loop _ rfl));exact fin'
theorem Xda (hc:X.calm=true)(B:Zll sc X.env.scope xs X.N N2)(hx:X.ex=[])(hst:X.stack=X.env::X.outer)(hfr:X.env.frame=some X.env.locals)(hi:PI (X.wish (ER X E)) tg iter wi)(hg:∀cl C s0 H0 fp,Tk X.H₀ H0->PG (X.blkN N2 xs sc cl C s0 H0 fp) tg g)(ht:∀cl C s0 H0 fp,Tk X.H₀ H0->PIf (X.blkN N2 xs sc cl C s0 H0 fp) ifs tc)(he:∀cl C s0 H0 fp,Tk X.H₀ H0->PE ((X.blkN N2 xs sc cl C s0 H0 fp).wish (Zzn (X.blkN N2 xs sc cl C s0 H0 fp) E)) elt te)
  (hs:∀v,Aw iter X.env v=pure v:=by intro _;rfl):PE (X.wish (ER X E)) (.ListComp elt [⟨tg,iter,ifs,0⟩] sc pos) (Zaw xs.length g wi tc te):=by
 intro pins s σ H Q I h;rw [HQ];have hcl:∀y∈sc.names,y.2=.free->∃c,X.env.cells.lookup y.1=some c:=fun y hy hf=>I.ok.has y.1 (B.free y hy hf);refine Zjl (use:=none) rfl hs (Zav hcl) B.kind B.loc (thn (hi pins s σ H _ I h) fun v s1 h1=>thn h1 fun itv s2 h2=>?_);obtain ⟨it,fp,tn,J,H2,e,I2,T,st2,f2,hw⟩:=h2;subst e;refine Zmg (X:=X) (E:=E) (RR:=fun acc ce=>Zit (Ao X.prog X.w) X.A (ER X E) none (EP (X.wish (ER X E)) pins σ Q) acc ce) hc B hg ht hx hst hfr he I2.unwish T st2 f2 hw ?_ fun _ _ _ _ z=>z;intro D C H' s' m I' hn hC q;obtain ⟨c0,c1,c2,c3,c4,c5⟩:=hC;refine ⟨m,hn,fun h'' hs''=>⟨.ref D,H',?_,rfl,q⟩⟩;exact Inv.wish (I'.turned (t':=s'.toks) (fun b o hb e=>hs''.extBut b o hb e) c0 c1 c3 c4 c5) _
theorem Xat (hc:X.calm=true)(B:Zll sc X.env.scope xs X.N N2)(hx:X.ex=[])(hst:X.stack=X.env::X.outer)(hfr:X.env.frame=some X.env.locals)(hi:PI (X.wish (ER X E)) tg iter wi)(hg:∀cl C s0 H0 fp,Tk X.H₀ H0->PG (X.blkN N2 xs sc cl C s0 H0 fp) tg g)(ht:∀cl C s0 H0 fp,Tk X.H₀ H0->PIf (X.blkN N2 xs sc cl C s0 H0 fp) ifs tc)(he:∀cl C s0 H0 fp,Tk X.H₀ H0->PE ((X.blkN N2 xs sc cl C s0 H0 fp).wish (Zzn (X.blkN N2 xs sc cl C s0 H0 fp) E)) elt te)
    (hy:X.N[i]?=some y) (hl:X.env.scope.names.lookup y=some .local) (hsw:BP (.ListComp elt [⟨tg,iter,ifs,0⟩] sc pos) (some (.Name y py)) spos.line X.env=pure true:=by rfl)
    (hs:∀v,Aw iter X.env v=pure v:=by intro _;rfl):PS (X.wish (ER X E)) (.Assign [.Name y py] (.ListComp elt [⟨tg,iter,ifs,0⟩] sc pos) spos) (Zkg (Zaw xs.length g wi tc te) (Zcb i)):=by
  intro pins s σ H D I h;have hxx:=Gi (env:=X.env) _ _ _ _ hsw;rw [hxx];refine Aj (CS ?_);refine Aj ?_;show Au _ X.A (do let _ <- Ed (.ListComp elt [⟨tg,iter,ifs,0⟩] sc pos) sc X.env _ (G1 []) false (AM iter X.env) (some (BE (.Name y py) X.env))) _ _ s;have hcl:∀y∈sc.names,y.2=.free->∃c,X.env.cells.lookup y.1=some c:=fun y hy hf=>I.ok.has y.1 (B.free y hy hf);refine Aj (Ax (Zjl (use:=some (BE (.Name y py) X.env)) (Q:=fun _ s'=>SP (X.wish (ER X E)) pins D .next s') rfl hs (Zav hcl) B.kind B.loc
    (thn (hi pins s σ H _ I h) fun v s1 h1=>thn h1 fun itv s2 h2=>?_)) (fun _ s' hq=>AU (AU hq)) fun _ _ e=>e)
  obtain ⟨it,fp,tn,J,H2,e,I2,T,st2,f2,hw⟩:=h2;subst e;refine Zmg (X:=X) (E:=E) (Q:=fun v H1=>Zcb i v σ H1 D.nx) (RR:=fun acc ce=>Zit (Ao X.prog X.w) X.A (ER X E) (some (BE (.Name y py) X.env)) (fun _ s'=>SP (X.wish (ER X E)) pins D .next s') acc ce) hc B hg ht hx hst hfr he I2.unwish T st2 f2 hw ?_ fun _ _ _ _ z=>z;intro Dd C H' s' m I' hn hC q;obtain ⟨c0,c1,c2,c3,c4,c5⟩:=hC;show Au _ X.A (BE (.Name y py) X.env (.ref Dd)) _ _ _;refine Ey (Zht (X:=X.wish (ER X E)) (v:=.ref Dd) (I'.wish _) B.nd hy (.inl hl) rfl (fun s8 I8 ⟨a,sb,ha⟩=>?_) (.inr hl));have hCa:C≠a:=by rcases ha with z | z;rw [z];exact c1;exact fun z'=>c4 _ _ z z'.symm
  refine ⟨m,hn.sameBut sb hCa,fun h'' hs''=>⟨_,H',?_,q⟩⟩;exact I8.turned (t':=s8.toks) (fun b o hb e=>hs''.extBut b o hb e) c0 c1 c3 c4 c5
section
variable {esc:Scope}
theorem Xba (esc:Scope)(N N2 xs:List Str)(B:Zll sc esc xs N N2)(hi:QI (X.wish (ER X E)) tg iter wi)(hg:∀cl C s0 H0 fp,QG (X.blkN N2 xs sc cl C s0 H0 fp) tg g)(he:∀cl C s0 H0 fp,QE ((X.blkN N2 xs sc cl C s0 H0 fp).wish (Zzn (X.blkN N2 xs sc cl C s0 H0 fp) E)) elt te)
  (hesc:X.env.scope=esc:=by rfl) (hN:X.N=N:=by rfl) (hc:X.calm=true:=by rfl) (hs:∀v,Aw iter X.env v=pure v:=by intro _;rfl) (hx:X.ex=[]:=by rfl) (hst:X.stack=X.env::X.outer:=by rfl) (hf:X.env.frame=some X.env.locals:=by rfl):QE (X.wish (ER X E)) (.ListComp elt [⟨tg,iter,[],0⟩] sc pos) (Zaw xs.length g wi Zya te):=by
 subst hesc hN;exact ⟨Xda hc B hx hst hf hi.out (fun cl C s0 H0 fp _=>(hg cl C s0 H0 fp).out) (fun cl C s0 H0 fp _=>Zox) (fun cl C s0 H0 fp _=>(he cl C s0 H0 fp).out) hs⟩
theorem Xcn (esc:Scope)(N N2 xs:List Str)(B:Zll sc esc xs N N2)(hy:N[i]?=some y)(hl:esc.names.lookup y=some .local)(hi:QI (X.wish (ER X E)) tg iter wi)(hg:∀cl C s0 H0 fp,QG (X.blkN N2 xs sc cl C s0 H0 fp) tg g)(he:∀cl C s0 H0 fp,QE ((X.blkN N2 xs sc cl C s0 H0 fp).wish (Zzn (X.blkN N2 xs sc cl C s0 H0 fp) E)) elt te)
  (hesc:X.env.scope=esc:=by rfl) (hN:X.N=N:=by rfl) (hc:X.calm=true:=by rfl) (hsw:BP (.ListComp elt [⟨tg,iter,[],0⟩] sc pos) (some (.Name y py)) spos.line X.env=pure true:=by rfl)
  (hs:∀v,Aw iter X.env v=pure v:=by intro _;rfl) (hx:X.ex=[]:=by rfl) (hst:X.stack=X.env::X.outer:=by rfl) (hf:X.env.frame=some X.env.locals:=by rfl):QS (X.wish (ER X E)) (.Assign [.Name y py] (.ListComp elt [⟨tg,iter,[],0⟩] sc pos) spos) (Zkg (Zaw xs.length g wi Zya te) (Zcb i)):=by
 subst hesc hN;exact ⟨Xat hc B hx hst hf hi.out (fun cl C s0 H0 fp _=>(hg cl C s0 H0 fp).out) (fun cl C s0 H0 fp _=>Zox) (fun cl C s0 H0 fp _=>(he cl C s0 H0 fp).out) hy hl hsw hs⟩
variable {S:List (Nat×Bool)}
theorem Zod (k:Nat)(b:FB)(e:FE)(ρ:Yp)(xs:List D){x:D}(h:xs[i]?=some x):Dl.Zmn k b e ρ (xs.drop i)=(b x (ρ++Aa k none)).calm.bind fun ρ1=>(e ρ1).bind fun y=>(Dl.Zmn k b e ρ (xs.drop (i+1))).bind fun ys=>.ok (y::ys):=by obtain ⟨hi,rfl⟩:=Ah.mp h;rw [Ca hi];rfl
theorem Znn {k:Nat}{fb:FB}(hi:IOk K C E Γ Δ S wi fi)(hg:NOk K C n k g fb)(he:EOk K C E [] [] 2 [] te fe):EOk K C E Γ Δ 2 [] (Zaw k g wi Zya te) (Dl.Zel n k fi fb fe):=fun H0 Hb H σ ρ A Q I p=>by
  unfold Dl.Zel at p;split at p
  · rename_i hn;refine hi H0 Hb H σ ρ A _ I (p.bind.imp (fun ds q J H1 W g1 hW hlen hJ Dd hD=>?_) fun c x q H' g'=>q H' g');have I1:=I.mono g1;have go:Goes K C J ds H1:=hJ H1 ⟨fun _ _=>rfl,fun b o h _=>h⟩;have q':=q.bind;refine Zpp go (fun i H2=>Xt H1 H2/\∃(us:List D) (ys:List V) (B':List Addr),H2 Dd=some (.lst ys)/\us.length<=i/\RpA K C H2 us ys B'/\B'.Nodup/\Dd∉B'/\(∀a∈B',H1 a=none)/\
      Yo (Dl.Zmn k fb fe ρ (ds.drop i)) (fun zs=>∀v H',Xt H H'->Res K C 2 [] H A (.lst (us++zs)) v H'->Q v H') (fun c x=>∀H',Xt H H'->EC C E c x H')) ⟨sameNew hD _,[],[],[],Ym,AF _,RpA.nil,BQ,(fun h=>nomatch h),(fun _ h=>nomatch h),q'⟩ (fun _ _ h=>h.1) ?_ ?_
    · rintro i x v Bx H2a H2 hx ⟨g2a,us,ys,B',hD2,hul,ru,nd,hDB,hnew,pq⟩ g2b rx _ os hos;have g2:=g2a.trans g2b;have hil:=(Ah.mp hx).1;rw [Zod _ _ _ _ _ hx] at pq;have I2:=(I1.mono g2).more os;have pq':=Zeo pq.bind;rw [<- hos] at pq';refine hg H2 σ os _ A x v Bx _ (by rw [I.len,hn]) hos I2 rx (pq'.imp (fun ρ1 pq os1 A1 ho1 I3=>⟨⟨os1,ho1,rfl⟩,?_⟩) fun _ _ z=>z);have hD2':=g2b _ _ hD2;have ru':=ru.same g2b;have g3:Xt H2 H2:=Xt.refl _;simp only [Zya,if_true];refine he H2 H2 H2 _ _ _ _ I3 (pq.bind.imp (fun y pq w H4 g4 r4=>?_) fun c x z H' g'=>z H' (g1.trans (g2.trans g')));rw [hos] at pq;obtain ⟨By,ry,hy1,_,hy2⟩:=r4;have g24:=g3.trans g4;have hD4:=g24 _ _ hD2';have hnewy:∀a∈By,H2 a=none:=fun a ha=>(hy1 a ha).elim id fun z=>z.none.elim;have hDy:Dd∉By:=fun h=>by have z:=hnewy Dd h;rw [g3 _ _ hD2'] at z;cases z
      have ext:Ext (fun a=>a=Dd) H4 (upd H4 Dd (.lst (ys++[w]))):=fun b o h=>by by_cases e:b=Dd;subst e;rw [hD4] at h;cases h;exact .inr ⟨rfl,.lst⟩;rw [Xl e];exact .inl h
      have hDB':Dd∉B'++By:=fun h=>(An.mp h).elim hDB hDy;refine ⟨ys,hD4,?_,?_,us++[y],ys++[w],B'++By,Ym,by rw [AE];simp;omega,?_,?_,hDB',?_,?_⟩;rw [ru.len];exact Zhg (by omega);intro b o h;have hb:b≠Dd:=Xw h hD;rw [Xl hb];exact (g2.trans g24) b o h;exact ((ru'.same g24).app (RpA.one ry)).ext ext fun a ha h=>hDB' (by rw [h] at ha;exact ha);refine Ct.mpr ⟨nd,hy2 rfl,fun a ha b hb e=>?_⟩;subst e;obtain ⟨xs,z,_⟩:=(ru'.same g3).isl a ha;rw [hnewy a hb] at z;cases z;intro a ha;rcases An.mp ha with h | h;exact hnew a h;exact (g2.trans g3).free (hnewy a h)
      · exact pq.bind.imp (fun zs pq v H' g' r=>by
          rw [CG] at r;exact pq v H' g' r) fun _ _ z=>z
    rintro H2 ⟨g2,us,ys,B',hD2,hul,ru,nd,hDB,hnew,pq⟩;rw [DW] at pq;have pq:∀v H',Xt H H'->Res K C 2 [] H A (.lst (us++[])) v H'->Q v H':=pq;rw [Cf] at pq;refine pq _ H2 (g1.trans g2) ⟨Dd::B',⟨Dd,ys,B',rfl,hD2,ru,rfl⟩,fun a ha=>.inl ?_,(fun z=>nomatch z),fun _=>A0.mpr ⟨hDB,nd⟩⟩;rcases Af.mp ha with h | h;rw [h];exact g1.free hD;exact g1.free (hnew a h)
  exact p.elim
end
section
variable {S:List (Nat×Bool)}
theorem Zps (esc:Scope)(N N2 xs:List Str)(B:Zll sc esc xs N N2)(hi:JI (X.wish (ER X E)) C E Γ Δ S tg iter wi fi)(hg:∀cl C' s0 H0 fp,JB (X.blkN N2 xs sc cl C' s0 H0 fp) C n xs.length tg gg fg)(he:∀cl C' s0 H0 fp,JE ((X.blkN N2 xs sc cl C' s0 H0 fp).wish (Zzn (X.blkN N2 xs sc cl C' s0 H0 fp) E)) C E [] [] 2 [] elt te fe)
  (hesc:X.env.scope=esc:=by rfl) (hN:X.N=N:=by rfl) (hc:X.calm=true:=by rfl) (hs:∀v,Aw iter X.env v=pure v:=by intro _;rfl) (hx:X.ex=[]:=by rfl) (hst:X.stack=X.env::X.outer:=by rfl) (hf:X.env.frame=some X.env.locals:=by rfl):JE (X.wish (ER X E)) C E Γ Δ 2 [] (.ListComp elt [⟨tg,iter,[],0⟩] sc pos) (Zaw xs.length gg wi Zya te) (Dl.Zel n xs.length fi fg fe):=
 ⟨Xba esc N N2 xs B hi.q (fun cl C' s0 H0 fp=>(hg cl C' s0 H0 fp).q) (fun cl C' s0 H0 fp=>(he cl C' s0 H0 fp).q) hesc hN hc hs hx hst hf,Znn hi.o (hg [] 0 X.s₀ X.H₀ []).o (he [] 0 X.s₀ X.H₀ []).o⟩
theorem Zyi (esc:Scope)(N N2 xs:List Str)(B:Zll sc esc xs N N2)(hy:N[i]?=some y)(hl:esc.names.lookup y=some .local)(hi:JI (X.wish (ER X E)) C E Γ Δ S tg iter wi fi)(hg:∀cl C' s0 H0 fp,JB (X.blkN N2 xs sc cl C' s0 H0 fp) C n xs.length tg gg fg)(he:∀cl C' s0 H0 fp,JE ((X.blkN N2 xs sc cl C' s0 H0 fp).wish (Zzn (X.blkN N2 xs sc cl C' s0 H0 fp) E)) C E [] [] 2 [] elt te fe)
  (hesc:X.env.scope=esc:=by rfl) (hN:X.N=N:=by rfl) (hc:X.calm=true:=by rfl) (hsw:BP (.ListComp elt [⟨tg,iter,[],0⟩] sc pos) (some (.Name y py)) spos.line X.env=pure true:=by rfl) (hs:∀v,Aw iter X.env v=pure v:=by intro _;rfl)
  (hx:X.ex=[]:=by rfl) (hst:X.stack=X.env::X.outer:=by rfl) (hf:X.env.frame=some X.env.locals:=by rfl) (h1:∀j∈Γ',j=i\/j∈Γ:=by decide) (h2:∀j∈Δ',j=i\/j∈Δ:=by decide):JS (X.wish (ER X E)) C E mr Γl Δl Γ Δ Γ' Δ' (.Assign [.Name y py] (.ListComp elt [⟨tg,iter,[],0⟩] sc pos) spos) (Zkg (Zaw xs.length gg wi Zya te) (Zcb i)) (Dl.Yw i (Dl.Zel n xs.length fi fg fe)):=
 ⟨Xcn esc N N2 xs B hy hl hi.q (fun cl C' s0 H0 fp=>(hg cl C' s0 H0 fp).q) (fun cl C' s0 H0 fp=>(he cl C' s0 H0 fp).q) hesc hN hc hsw hs hx hst hf,Zkp (Znn hi.o (hg [] 0 X.s₀ X.H₀ []).o (he [] 0 X.s₀ X.H₀ []).o) h1 h2⟩
end
theorem Zjw (q c:Nat)(hc:c<128):(BV q c).length<=4:=by
 have h2:=StrLaws.hex_len (w:=2) (by decide) (DU hc (by decide:128<16 ^ 2));unfold BV;dsimp only
 repeat' split
 all_goals simp only [AE,AK,GD] at h2 ⊢
 all_goals omega
theorem Zjt (q:Nat):∀(l:List Nat) (acc:Array Nat),(∀c∈l,c<128)->(l.foldl (fun out c=>out++(BV q c).toArray) acc).size<=acc.size+4*l.length
 | [],acc,_=>by simp
 | c::r,acc,h=>by have ih:=Zjt q r (acc++(BV q c).toArray) fun d hd=>h d (Bg _ hd);have hc:=Zjw q c (h c (BL ..));simp only [Eu,AK];simp only [D2,AI] at ih;omega
theorem Ztv (x:Str)(hx:∀c∈x.cps.toList,c<128):(Fc x).length<=4*x.length+2:=by
 unfold Fc;show ((x.cps.foldl (fun out c=>out++(BV (D4 x) c).toArray) #[D4 x]).push (D4 x)).size<=_;rw [Array.size_push,<- Array.foldl_toList];have h:=Zjt (D4 x) x.cps.toList #[D4 x] hx;have e:x.cps.toList.length=x.length:=by simp [DX]
 rw [e] at h;have e1:(#[D4 x]:Array Nat).size=1:=rfl;omega
def tFvq (te:TE):TE:=fun σ H Q=>te σ H fun x H1=>∃z,x=.str z/\Pl 490 z/\∀y:Str,y.length<=2000->Q (.str y) H1
def Zvj:List V->Hp->VK->Prop:=fun vs H Q=>(∃i,vs=[.int i]/\i.natAbs<2 ^ 400/\Q (.str (Dl.Zen i)) H)\/∃x,vs=[.str x]/\Q (.str x) H
def Zva:R2:=fun x y H Q=>∃c v,x=.str ⟨#[c]⟩/\y=.str v/\Q (.bl (!decide (c∈v.cps.toList))) H
theorem Xni (he:QE X e te):QE X (.FormattedValue e 114 none pos) (tFvq te):=⟨fun pins s σ H Q I q =>
  wpAny_FormattedValue_repr (thn (he.out pins s σ H _ I q) fun v s1 ⟨x,H1,I1,r1,z,ex,hz,q1⟩=>by
    subst ex;obtain ⟨tk,rfl⟩:=r1;have hl:=Ztv z hz.asc;have h2:(Fc z).length<=2000:=by have:=hz.len;omega
    exact pyReprObj_str (wpAny_formatField_str ⟨.str (Fc z),H1,I1.tok _,⟨_,rfl⟩,q1 _ h2⟩ ⟨.str (Fc z),H1,(I1.tok _).tok _,⟨_,rfl⟩,q1 _ h2⟩) (AN h2 (by rw [Bm];decide)))⟩
theorem Zih:Zbg X (.type "str") Zvj:=by intro pins s σ H xs us Q I r h;rcases h with ⟨i,rfl,hi,q⟩ | ⟨x,rfl,q⟩;exact Zvw pins s σ H _ us Q I r ⟨i,rfl,hi,q⟩;obtain ⟨u,rfl,rx⟩:=vals1 r;obtain ⟨t,rfl⟩:=rx;exact PySem.P.str_of_str ⟨.str x,H,I,⟨_,rfl⟩,q⟩
theorem Zne:OpR X (AA .NotIn) Zva:=by intro pins s σ H x y v u Q I rx ry h;obtain ⟨c,b,rfl,rfl,q⟩:=h;obtain ⟨t,rfl⟩:=rx;obtain ⟨t',rfl⟩:=ry;refine PySem.SB.notContains ?_;unfold Txt.contains;rw [StrLaws.found_one];exact ⟨.bl _,H,I,rfl,q⟩
section
variable {S:List (Nat×Bool)}{Q:VK}
theorem Xii {t:TJ}(he:EOk K C E Γ Δ m S te fe)(ht:JOk K C E Γ Δ t f):JOk K C E Γ Δ (Zsr (tFvq te) t) (Dl.Zb (Dl.f1 Dl.Xap fe) f):=fun H0 Hb H σ ρ A Q I p=>by
 have p1:=Yo.bind p;have p2:=Yo.bind p1;refine he H0 Hb H σ ρ A _ I (Yo.imp p2 (fun d q v H1 g r=>?_) fun _ _ q=>q);obtain ⟨B,r1,_⟩:=r;cases d with
 | str z =>unfold Dl.Xap at q;simp only [] at q;by_cases hi:Dl.plain 490 z=true;rw [if_pos hi] at q;have e:v=.str z:=r1.1;subst e;refine ⟨z,rfl,Xly hi,fun y hy=>⟨y,rfl,hy,?_⟩⟩;exact ht H0 Hb H1 σ ρ A Q (I.mono g) (Yo.imp (Yo.bind q) (fun ds q H2 g2=>q H2 (g.trans g2)) fun c x q H2 g2=>q H2 (g.trans g2));rw [if_neg hi] at q;exact q.elim
 | _=>exact q.elim
theorem Zla:GAk K C Zvj Dl.Zkr:=by intro H xs d vs Bx Q r e q;unfold Dl.Zkr at e;split at e;split at e;rename_i hi;cases e;obtain ⟨v,rfl,r1⟩:=r.one';obtain ⟨rfl,_⟩:=r1;exact .inl ⟨_,rfl,hi,Out.flat q ⟨rfl,Xja _,rfl⟩⟩;cases e;cases e;obtain ⟨v,rfl,r1⟩:=r.one';obtain ⟨rfl,h1,_⟩:=r1;exact .inr ⟨_,rfl,Out.flat q ⟨rfl,h1,rfl⟩⟩;cases e
theorem Zri {y:Str}:∀{ps:List Str} {p:Str} {c:Nat},p∈ps->c∈p.cps.toList->c∈(Ap y ps).cps.toList
 | [],p,c,h,_=>nomatch h
 | [q],p,c,h,hc=>by rw [Ak.mp h] at hc;exact hc
 | q::r::l,p,c,h,hc=>by show c∈(q++y++Ap y (r::l)).cps.toList;show c∈((q.cps++y.cps)++(Ap y (r::l)).cps).toList;rw [CT,CT];rcases Af.mp h with rfl | h;exact As _ (As _ hc);exact Ag _ (Zri h hc)
theorem RpA.strsO {H:Hp}:∀{ws:List Str},(∀w∈ws,AC w=true)->RpA K C H (ws.map D.str) (ws.map V.str) []
 | [],_=>RpA.nil
 | w::r,h=>⟨.str w,r.map V.str,[],[],rfl,⟨rfl,h w (.head _),rfl⟩,RpA.strsO fun v hv=>h v (.tail _ hv),rfl⟩
theorem Zss:GSm K C Znj Dl.Zdk:=by intro H z y d vy By Q hz ry e q;unfold Dl.Zdk at e;split at e;rename_i x y hx;cases hx;split at e;rename_i hl;cases e;obtain ⟨rfl,_⟩:=ry;refine ⟨_,_,rfl,rfl,?_,by rw [Bm];omega,fun p hp=>?_⟩;have h1:=hl.1;simp;omega;refine Out.lst q (RpA.strsO fun w hw=>?_) hp;refine Zaa.mpr fun c hc=>Zaa.mp hz c ?_;have h:=Zri (y:=y) hw hc;rw [DK] at h;exact h;cases e;cases e
theorem Zjd:GOk K C Zva Dl.Zfz:=by
 intro H x y d vx vy Bx By Q rx ry e q;unfold Dl.Zfz at e;split at e;rename_i x y;split at e;rename_i c hx;cases e;obtain ⟨rfl,_⟩:=rx;obtain ⟨rfl,_⟩:=ry;have:x=⟨#[c]⟩:=by cases x;congr 1;exact Dm.mp hx
 subst this;exact ⟨c,_,rfl,rfl,Out.flat q rpB⟩;cases e;cases e
variable {fc:FT}{tj:TJ}
theorem Zqi (he:JE X C E Γ Δ m S e te fe)(h:JJ X C E Γ Δ es tj f)(hv:B0 (.FormattedValue e 114 none pos::es) X.env=AM (.FormattedValue e 114 none pos) X.env::B0 es X.env:=by rfl):JJ X C E Γ Δ (.FormattedValue e 114 none pos::es) (Zsr (tFvq te) tj) (Dl.Zb (Dl.f1 Dl.Xap fe) f):=⟨Zwz (Xni he.q) h.q hv,Xii he.o h.o⟩
theorem Znm (K:AB)(ho:JE X C E Γ Δ m1 S1 o ta fa)(he:JE X C E Γ Δ m2 S2 e tb fb)(hse:Ac [e] X.env=(false,AM e X.env)::Ac [] X.env)(hbase:Bl o "split" X.env (AM o X.env)=AM o X.env:=by rfl)
  (hfew:((AW cpos (Ac [e] X.env)).all (fun x=>!x.1)&&(CF cpos (BI [] X.env)).all (fun x=>x.1.isSome)&&decide (([e]:List Expr).length+([]:List Bi).length+(if ([]:List Bi).isEmpty then 0 else 1)<30))=true:=by rfl)
  (hline:(apos.endLine==cpos.line)=true:=by rfl) (hplain:(AW cpos (Ac ([]:List Expr) X.env)).any (·.1)=false:=by rfl) (hK:X.K=K:=by rfl):JE X C E Γ Δ 2 [] (.Call (.Attribute o "split" apos) [e] [] cpos) (tBM K "str" Znj ta (Jx tb Ziu)) (Dl.fSm Dl.Zdk fa fb):=by
 subst hK;exact ⟨Zrt PySem.F.plainAttrs_str PySem.F.slot_str_split PySem.F.type_str_split Zqt ho.q (Jr he.q Zdj hse) hbase hfew hline hse hplain,Zqq Zss ho.o he.o⟩
theorem Xhb (K:AB)(h:JE X C E Γ Δ m S e te fe)(hK:X.K=K:=by rfl):JI X C E Γ Δ S tg e (Xml K te) (Dl.Xlk fe):=by subst hK;exact Xri h
theorem Zwq {H00:Hp}(esc0:Scope)(N N2 xs:List Str)(B:Zll sc (scIn sc0 esc0) xs N N2)
  (hi:JI (X.blkN N0 xs0 sc0 cl0 C0 s00 H00 fp0) C E Γ Δ S tg iter wi fi) (hg:∀cl C' s0 H0 fp,JB ((X.blkN N0 xs0 sc0 cl0 C0 s00 H00 fp0).blkN N2 xs sc cl C' s0 H0 fp) C n xs.length tg gg fg) (ht:∀cl C' s0 H0 fp,JIf ((X.blkN N0 xs0 sc0 cl0 C0 s00 H00 fp0).blkN N2 xs sc cl C' s0 H0 fp) C E0 [] [] ifs tc fc) (he:∀cl C' s0 H0 fp,JE ((X.blkN N0 xs0 sc0 cl0 C0 s00 H00 fp0).blkN N2 xs sc cl C' s0 H0 fp) C E0 [] [] 2 [] elt te fe)
  (hesc:X.env.scope=esc0:=by rfl) (hN:N0++xs0=N:=by rfl) (hc:X.calm=true:=by rfl) (hs:∀v,Aw iter (X.blkN N0 xs0 sc0 cl0 C0 s00 H00 fp0).env v=pure v:=by intro _;rfl):JE (X.blkN N0 xs0 sc0 cl0 C0 s00 H00 fp0) C E Γ Δ 2 [] (.ListComp elt [⟨tg,iter,ifs,0⟩] sc pos) (Zaw xs.length gg wi tc te) (Dl.Zbq n xs.length fi fg fc fe):=by
 subst hesc hN;exact Zdp (X:=X.blkN N0 xs0 sc0 cl0 C0 s00 H00 fp0) (scIn sc0 X.env.scope) (N0++xs0) N2 xs B hi hg ht he rfl rfl hc hs
end
end L2
namespace Dl
open PySem
variable {i j lo v m:Int}{α β:Type}{xs ds T:List D}{x d z:D}{ns ms os ws ys l:List Int}{a e:FE}{b:FB}{s:FS}{P:Int->Prop}{Rr:R Fl->Prop}{ρ ρ':Env}{n N:Nat}{c:FT}{r:R Fl}{g:D->Option Int->Option Int->Option D}{F:List D->R D}{it:FI}{p:Prop}{g':D->D->Option D}{hi:Option Int}{nm:Str}
def Zvr:FS:=
 (Ys (Ztl (Je gLe gLe (fC (.int 1)) (fA Zcn (Zb (fV 0) Zr)) (fC (.int 8))) (fA Xhu (Zb (Zbq 1 1 (Ztw (fV 0)) (Xi 1) Zjg (Je Zjm Zjm (fC (.str ("a":Str))) (fV 1) (fC (.str ("z":Str))))) Zr))))
def Zbi (ds:List D):R D:=(run 1 Zvr ds).calm
def Znz:FS:=
  (Xp (Yw 1 (fIf (cE (fSm Zfi (fV 0) (fC (.str ("-":Str))))) (fSl Ziv (fV 0) (Jw (fC (.int 1))) Zba) (f1 Yf (fV 0))))
    (Xp (sIf (Zlc (cE (Je gLe gLe (fC (.int 1)) (fA Zcn (Zb (fV 1) Zr)) (fC (.int 20))))) (Ys (fC (.bl false))) sNx)
    (Xp (sIf (cE (fA Xiv (Zb (Zbq 2 1 (Ztw (fV 1)) (Xi 2) Zjg (f1 Xlb (Je Zjm Zjm (fC (.str ("0":Str))) (fV 2) (fC (.str ("9":Str)))))) Zr))) (Ys (fC (.bl false))) sNx)
    (Ys (fOr (f2 gEq (fV 0) (fC (.str ("0":Str)))) (f2 gNe (f2 gIx (fV 1) (fC (.int 0))) (fC (.str ("0":Str)))))))))
def Zbl (ds:List D):R D:=(run 2 Znz ds).calm
def Zfg:FS:=
 (Yw 2 (f2 Zfl (f2 Jy (f2 Jy (f2 Zdv (fV 2) (fC (.int 48271))) (f2 Zfl (fV 3) (fC (.int 1000003)))) (fC (.int 1))) (fC (.int 2147483647))))
def Zpi:FS:=
  (Xp (sIf (cE (f2 gLt (fV 1) (fA Zcn (Zb (fV 0) Zr)))) (Ys (f1 Yf (f2 gIx (fV 0) (fV 1)))) sNx)
    (Xp (Yw 2 (fC (.int 5)))
    (Xp (Znt (Zbo (fSl gSl (fV 0) Zba (Jw (fC (.int 63))))) (Xi 3) Zfg)
    (Ys (f2 Zfl (f2 Jy (fV 2) (f2 Zdv (fC (.int 7919)) (fV 1))) (fC (.int 1000003)))))))
def Zat (ds:List D):R D:=(run 4 Zpi ds).calm
def Zsl:FS:=
  (Xp (Yw 2 (f2 Zfl (f2 Zis (f2 Jy (f2 Jy (f2 Zfl (fV 0) (fC (.int 2147483629))) (f2 Zdv (fC (.int 1013)) (fV 1))) (fC (.int 7919))) (fC (.int 3))) (fC (.int 2147483647))))
    (Xp (Yw 3 (f2 Zfl (f2 Jy (f2 Jy (f2 Zdv (fV 2) (fC (.int 40699))) (f2 Zdv (f2 Zdv (fC (.int 3793)) (fV 1)) (fV 1))) (fC (.int 11))) (fC (.int 2147483399))))
    (Ys (f2 Xln (fV 3) (fC (.int 101))))))
def Zbh (ds:List D):R D:=(run 4 Zsl ds).calm
def Zmi:FS:=
  (Xp (sIf (Zlc (cE (Xe Zbi (Zb (fV 0) Zr)))) (Ys (fC (.bl false))) sNx)
    (Xp (sIf (Zlc (cE (Je gLe gLe (fC (.int 1)) (fV 1) (fC (.int 200))))) (Ys (fC (.bl false))) sNx)
    (Ys (Ztl (Je gLe gLe (fC (.int 1)) (fV 2) (fC (.int 1000000000000000000))) (Je gLe gLe (fC (.int 0)) (fV 3) (fC (.int 999999999999999999)))))))
def Zcf (ds:List D):R D:=(run 4 Zmi ds).calm
def Zgr:FS:=
  (sIf (cE (f2 gLt (fV 3) (f2 Zis (fC (.int 10)) (fC (.int 18))))) (Zsw 5 (f2 Zfl (Xe Zbh (Zb (fV 3) (Zb (fV 6) Zr))) (f2 gIx (fV 2) (fV 6)))) (sIf (cE (f2 gGt (fV 4) (fC (.int 0)))) (Xp (Zsw 5 (f2 Zfl (fV 4) (f2 gIx (fV 2) (fV 6))))
    (Yw 4 (f2 Xln (fV 4) (f2 gIx (fV 2) (fV 6))))) (Xp (Yw 7 (Xe Zat (Zb (fV 0) (Zb (f2 Zfl (f2 Jy (f2 Jy (fV 1) (fC (.int 1))) (fV 6)) (fC (.int 63))) Zr))))
    (Zsw 5 (f2 Zfl (Xe Zbh (Zb (fV 7) (Zb (fV 6) Zr))) (f2 gIx (fV 2) (fV 6)))))))
def Zrv:FS:=
  (Xp (Yw 3 (Xe Zat (Zb (fV 0) (Zb (fV 1) Zr))))
    (Xp (Yw 4 (f1 Yf (fV 3)))
    (Xp (Yw 5 (fA Zaz Zr))
    (Xp (Znt (Zhp (Zb (fA Zcn (Zb (fV 2) Zr)) Zr)) (Xi 6) Zgr)
    (Ys (fV 5))))))
def Yi (ds:List D):R D:=(run 8 Zrv ds).calm
def Zdm:FS:=
  (Xp (Yw 4 (f1 Yf (f2 gIx (fV 3) (fC (.int 0)))))
    (Xp (sIf (cOr (cE (f2 gGe (fV 2) (fC (.int 8)))) (cE (f2 gDin (fV 4) (fV 1)))) (Ys (f1 Yf (fV 2))) sNx)
    (Xp (sIf (Zlc (cE (Xe Zcf (Zb (fV 4) (Zb (f2 gIx (fV 3) (fC (.int 1))) (Zb (f2 gIx (fV 3) (fC (.int 2))) (Zb (f2 gIx (fV 3) (fC (.int 3))) Zr))))))) (Ys (f1 Yf (fV 2))) sNx)
    (Xas 1 (fV 4) (fC (.bl true))))))
def Xig:FS:=
  (Xp (Yw 1 (fC (.dct [] [])))
    (Xp (Znt (Xcj (fV 0)) (Zxz (Zdy (Xi 2) (Zdy (Xi 3) Zvz))) Zdm)
    (Ys (fC .non))))
def Zgk (ds:List D):R D:=(run 5 Xig ds).calm
def Zcd:FS:=
  (Xp (Yw 9 (f2 Jy (f2 Zdv (fC (.int 3)) (fV 8)) (fC (.int 6))))
    (Xp (Yw 10 (f1 Yf (f2 gIx (fA Zaz (Zb (fC (.int 1)) (Zb (fC (.int 2)) (Zb (fC (.int 3)) (Zb (fC (.int 4)) (Zb (fC (.int 5)) (Zb (fC (.int 6)) (Zb (fC (.int 2)) (Zb (fC (.int 3)) (Zb (fC (.int 11)) (Zb (fC (.int 40)) (Zb (f2 gIx (fA Zaz (Zb (fC (.int 150)) (Zb (fC (.int 200)) Zr))) (f2 Zfl (fV 8) (fC (.int 2)))) Zr)))))))))))) (f2 gIx (fV 4) (fV 9)))))
    (Xp (Yw 11 (f2 Jy (fC (.int 1)) (f2 gIx (fV 4) (f2 Jy (fV 9) (fC (.int 1))))))
    (Xp (sIf (cE (f2 gEq (f2 gIx (fV 4) (fC (.int 3))) (fC (.int 1)))) (Yw 11 (f2 Jy (f2 Zdv (fC (.int 3)) (fV 10)) (f2 Zfl (f2 gIx (fV 4) (f2 Jy (fV 9) (fC (.int 1)))) (fC (.int 4))))) sNx)
    (Xp (sIf (cE (f2 gEq (f2 gIx (fV 4) (fC (.int 3))) (fC (.int 2)))) (Yw 11 (f2 Jy (fC (.int 1)) (f2 Zfl (f2 gIx (fV 4) (f2 Jy (fV 9) (fC (.int 1)))) (fC (.int 3))))) sNx)
    (Xp (sIf (cE (f2 gEq (f2 gIx (fV 4) (fC (.int 3))) (fC (.int 3)))) (Yw 11 (f1 Yf (fV 10))) sNx)
    (Xp (Yw 12 (fA Xlg (Zb (f2 Zdv (f2 gIx (fA Zaz (Zb (fC (.int 0)) (Zb (fC (.int 0)) (Zb (fC (.int 1)) (Zb (fC (.int 2)) (Zb (fC (.int 3)) (Zb (fC (.int 12)) Zr))))))) (f2 gIx (fV 4) (f2 Jy (fV 9) (fC (.int 2))))) (fV 5)) (Zb (f2 Zru (f2 Zis (fC (.int 10)) (fC (.int 18))) (fC (.int 1))) Zr))))
    (Xp (Yw 13 (f1 Yf (f2 gIx (fV 3) (f2 Zfl (f2 Jy (f2 gIx (fV 4) (fC (.int 4))) (f2 Zdv (f2 Jy (f2 Zdv (fC (.int 2)) (f2 gIx (fV 4) (fC (.int 5)))) (fC (.int 1))) (fV 8))) (fC (.int 16))))))
    (Zsw 7 (fA Zdq (Zb (f1 Yf (fV 13)) (Zb (f1 Yf (fV 10)) (Zb (fA Xlg (Zb (f2 Zdv (fV 11) (fV 6)) (Zb (f2 Zis (fC (.int 10)) (fC (.int 18))) Zr))) (Zb (f1 Yf (fV 12)) Zr))))))))))))))
def Zlu:FS:=
  (Xp (Yw 3 (fA Zaz (Zb (fC (.str ("a":Str))) (Zb (fC (.str ("ab":Str))) (Zb (fC (.str ("abc":Str))) (Zb (fC (.str ("b":Str))) (Zb (fC (.str ("ba":Str))) (Zb (fC (.str ("z":Str))) (Zb (fC (.str ("zzzzzzzz":Str))) (Zb (fC (.str ("roll":Str))) (Zb (fC (.str ("cut":Str))) (Zb (fC (.str ("by":Str))) Zr))))))))))))
    (Xp (Yw 3 (f2 Jy (fV 3) (fA Zaz (Zb (fC (.str ("aab":Str))) (Zb (fC (.str ("zz":Str))) (Zb (fC (.str ("kind":Str))) (Zb (fC (.str ("qsvw":Str))) (Zb (fC (.str ("fghjmp":Str))) (Zb (fC (.str ("x":Str))) Zr)))))))))
    (Xp (Yw 4 (Xe Yi (Zb (fV 0) (Zb (fV 1) (Zb (f2 Jy (fA Zaz (Zb (f2 Jy (fV 2) (fC (.int 1))) (Zb (fC (.int 4)) (Zb (fC (.int 4)) (Zb (fC (.int 4)) (Zb (fC (.int 16)) (Zb (fC (.int 4)) Zr))))))) (f2 Zdv (fA Zaz (Zb (fC (.int 11)) (Zb (fC (.int 40)) (Zb (fC (.int 6)) Zr)))) (fV 2))) Zr)))))
    (Xp (Yw 5 (f1 Yf (f2 gIx (fA Zaz (Zb (fC (.int 1)) (Zb (fC (.int 1)) (Zb (fC (.int 7)) (Zb (f2 Zis (fC (.int 10)) (fC (.int 17))) Zr))))) (f2 gIx (fV 4) (fC (.int 1))))))
    (Xp (Yw 6 (f1 Yf (f2 gIx (fA Zaz (Zb (fC (.int 1)) (Zb (fC (.int 1)) (Zb (f2 Zis (fC (.int 10)) (fC (.int 6))) (Zb (f2 Zdv (fC (.int 25)) (f2 Zis (fC (.int 10)) (fC (.int 15)))) Zr))))) (f2 gIx (fV 4) (fC (.int 2))))))
    (Xp (Yw 7 (fA Zaz Zr))
    (Xp (Znt (Zhp (Zb (f2 gIx (fV 4) (fC (.int 0))) Zr)) (Xi 8) Zcd)
    (Ys (fV 7)))))))))
def Zax (ds:List D):R D:=(run 14 Zlu ds).calm
@[simp] theorem ev_fC (d:D)(ρ:Env):fC d ρ=.ok d:=(rfl)
@[simp] theorem ev_f1 (g:D->Option D)(a:FE)(ρ:Env):f1 g a ρ=(a ρ).bind fun x=>oR (g x):=(rfl)
@[simp] theorem ev_f2 (g:D->D->Option D)(a b:FE)(ρ:Env):f2 g a b ρ=(a ρ).bind fun x=>(b ρ).bind fun y=>oR (g x y):=(rfl)
@[simp] theorem ev_aNil (ρ:Env):Zr ρ=.ok []:=(rfl)
@[simp] theorem Zle (a:FE)(r:FA)(ρ:Env):Zb a r ρ=(a ρ).bind fun x=>(r ρ).bind fun xs=>.ok (x::xs):=(rfl)
@[simp] theorem Xng (g:List D->Option D)(a:FA)(ρ:Env):fA g a ρ=(a ρ).bind fun xs=>oR (g xs):=(rfl)
@[simp] theorem Zqu (F:List D->R D)(a:FA)(ρ:Env):Xe F a ρ=(a ρ).bind F:=(rfl)
@[simp] theorem ev_fV0 (d:D)(ρ:Env):fV 0 (some d::ρ)=.ok d:=(rfl)
@[simp] theorem ev_cE (a:FE)(ρ:Env):cE a ρ=(a ρ).bind fun d=>match d with | .bl b=>.ok b | _=>.bad:=(rfl)
@[simp] theorem Xgn (a:FT)(ρ:Env):Zlc a ρ=(a ρ).bind fun b=>.ok (!b):=(rfl)
@[simp] theorem Zwj (a b:FT)(ρ:Env):Zxy a b ρ=(a ρ).bind fun x=>if x then b ρ else .ok false:=(rfl)
@[simp] theorem Xep (a b:FT)(ρ:Env):cOr a b ρ=(a ρ).bind fun x=>if x then .ok true else b ρ:=(rfl)
@[simp] theorem ev_cYes (ρ:Env):Zjg ρ=.ok true:=(rfl)
@[simp] theorem Zue (a b:FE)(ρ:Env):Ztl a b ρ=(a ρ).bind fun x=>match x with | .bl true=>b ρ | .bl false=>.ok (.bl false) | _=>.bad:=(rfl)
@[simp] theorem Xdz (a b:FE)(ρ:Env):fOr a b ρ=(a ρ).bind fun x=>match x with | .bl true=>.ok (.bl true) | .bl false=>b ρ | _=>.bad:=(rfl)
@[simp] theorem Xef (c:FT)(a b:FE)(ρ:Env):fIf c a b ρ=(c ρ).bind fun x=>if x then a ρ else b ρ:=(rfl)
@[simp] theorem Zwr (g g':D->D->Option D)(a b c:FE)(ρ:Env):Je g g' a b c ρ=(a ρ).bind fun x=>(b ρ).bind fun y=>(oR (g x y)).bind fun z=>match z with | .bl true=>(c ρ).bind fun w=>oR (g' y w) | .bl false=>.ok (.bl false) | _=>.bad:=(rfl)
@[simp] theorem Xop (g:D->Option Int->Option Int->Option D)(a:FE)(l h:FO)(ρ:Env):fSl g a l h ρ=(a ρ).bind fun x=>(l ρ).bind fun lo=>(h ρ).bind fun hi=>oR (g x lo hi):=(rfl)
@[simp] theorem ev_oNone (ρ:Env):Zba ρ=.ok none:=(rfl)
@[simp] theorem Xbc (a:FE)(ρ:Env):Jw a ρ=(a ρ).bind fun d=>match d with | .int i=>.ok (some i) | _=>.bad:=(rfl)
@[simp] theorem Zzg (a:FE)(ρ:Env):Zbo a ρ=(a ρ).bind fun d=>match d with | .lst xs=>if xs.length<=lim then .ok xs else .bad | .scr ns=>if ns.length<=lim then .ok (ns.map D.int) else .bad | .flst xs=>if xs.length<=lim then .ok xs else .bad | _=>.bad:=(rfl)
@[simp] theorem Xku (a:FE)(ρ:Env):Xlk a ρ=(a ρ).bind fun d=>match d with | .tup xs=>if xs.length<=lim then .ok xs else .bad | _=>.bad:=(rfl)
@[simp] theorem Xch (a:FA)(ρ:Env):Zhp a ρ=(a ρ).bind fun ds=>match ds with | [.int j]=>if -1000000000<=j/\j<=1000000 then .ok (Ziy 0 j.toNat) else .bad | _=>.bad:=(rfl)
def Xqp (ds:List D):R (List D):=match ds with
 | [.int i,.int j]=>if -1000000000<=i/\i<=1000000000/\-1000000000<=j/\j<=1000000000/\(j - i).toNat<=lim then .ok (Ziy i (j - i).toNat) else .bad
 | _=>.bad
@[simp] theorem ev_jRng2 (a:FA)(ρ:Env):jRng2 a ρ=(a ρ).bind Xqp:=(rfl)
@[simp] theorem Xbi (n k:Nat)(it:FI)(b:FB)(c:FT)(e:FE)(ρ:Env):Zbq n k it b c e ρ=if ρ.length=n then (it ρ).bind fun xs=>(Zfv k b c e ρ xs).calm.bind fun ys=>.ok (.lst ys) else .bad:=(rfl)
@[simp] theorem ev_sNx (ρ:Env):sNx ρ=.ok (.nx ρ):=(rfl)
@[simp] theorem Xnl (ρ:Env):Xlw ρ=.bad:=(rfl)
@[simp] theorem Zlf (a b:FS)(ρ:Env):Xp a b ρ=(a ρ).bind fun fl=>match fl with | .nx ρ'=>b ρ' | fl=>.ok fl:=(rfl)
@[simp] theorem Ztz (i:Nat)(e:FE)(ρ:Env):Yw i e ρ=(e ρ).bind fun d=>.ok (.nx (ρ.set i (some d))):=(rfl)
@[simp] theorem Zxj (e:FE)(ρ:Env):Ys e ρ=(e ρ).bind fun d=>.ok (.ret d):=(rfl)
@[simp] theorem Xdj (c:FT)(a b:FS)(ρ:Env):sIf c a b ρ=(c ρ).bind fun x=>if x then a ρ else b ρ:=(rfl)
@[simp] theorem Xgd (i:Nat)(e:FE)(ρ:Env):Zsw i e ρ=(fV i ρ).bind fun v=>match v with | .lst xs=>(e ρ).bind fun d=>if xs.length<lim then .ok (.nx (ρ.set i (some (.lst (xs++[d]))))) else .bad | _=>.bad:=by unfold Zsw fV;split;rename_i xs e;simp [e];rename_i h;split;rename_i d e;cases d<;>simp;rename_i xs;exact absurd e (h xs);rfl
@[simp] theorem Xmw (c:String)(f:FA)(ρ:Env):Zed c f ρ=(f ρ).bind fun _=>.err c none:=(rfl)
theorem Xfu (cs:List String)(N i:Nat)(b h:FS)(ρ:Env):Xdp cs N i b h ρ=match b ρ with
 | .err c x=>if cs.contains c then (h ((Aa N none).set i (some (.exc c x)))).calm.bind fun fl=>match fl with
   | .nx _=>.ok (.nx (Aa N none))
   | .brk _=>.ok (.brk (Aa N none))
   | .cnt _=>.ok (.cnt (Aa N none))
   | .ret d=>.ok (.ret d)
  else .bad
 | r=>r:=(rfl)
@[simp] theorem Xgt (it:FI)(b:FB)(s:FS)(ρ:Env):Znt it b s ρ=(it ρ).bind fun xs=>Zeb b s xs ρ:=(rfl)
@[simp] theorem Xrm (n:Nat)(c:FT)(s:FS)(ρ:Env):Xnx n c s ρ=Zqa c s n ρ:=(rfl)
@[simp] theorem ev_sAsg (e:FE)(b:FB)(ρ:Env):Xhj e b ρ=(e ρ).bind fun d=>(b d ρ).calm.bind fun ρ'=>.ok (.nx ρ'):=(rfl)
@[simp] theorem ev_bName (i:Nat)(d:D)(ρ:Env):Xi i d ρ=.ok (ρ.set i (some d)):=(rfl)
@[simp] theorem ev_bNil (ρ:Env):Zvz [] ρ=.ok ρ:=(rfl)
@[simp] theorem ev_bCons (b:FB)(r:List D->Env->R Env)(d:D)(ds:List D)(ρ:Env):Zdy b r (d::ds) ρ=(b d ρ).bind fun ρ'=>r ds ρ':=(rfl)
@[simp] theorem ev_bTup (r:List D->Env->R Env)(ds:List D)(ρ:Env):Zxz r (.tup ds) ρ=r ds ρ:=(rfl)
@[simp] theorem ev_run (N:Nat)(b:FS)(ds:List D):run N b ds=(b (ds.map some++Aa (N - ds.length) none)).bind fun fl=>match fl with | .nx _=>.ok .non | .ret d=>.ok d | _=>.bad:=(rfl)
@[simp] theorem forD_nil (b:FB)(s:FS)(ρ:Env):Zeb b s [] ρ=.ok (.nx ρ):=(rfl)
theorem Zln (b:FB)(s:FS)(x:D)(xs:List D)(ρ:Env):Zeb b s (x::xs) ρ=(b x ρ).calm.bind fun ρ1=>(s ρ1).bind fun fl=>match fl with | .nx ρ2=>Zeb b s xs ρ2 | .cnt ρ2=>Zeb b s xs ρ2 | .brk ρ2=>.ok (.nx ρ2) | .ret d=>.ok (.ret d):=rfl
@[simp] theorem add_ii (i j:Int):Jy (.int i) (.int j)=some (.int (i+j)):=rfl
@[simp] theorem sub_ii (i j:Int):Zru (.int i) (.int j)=some (.int (i - j)):=rfl
@[simp] theorem lt_ii (i j:Int):gLt (.int i) (.int j)=some (.bl (decide (i<j))):=rfl
@[simp] theorem le_ii (i j:Int):gLe (.int i) (.int j)=some (.bl (decide (i<=j))):=rfl
@[simp] theorem gt_ii (i j:Int):gGt (.int i) (.int j)=some (.bl (decide (j<i))):=rfl
@[simp] theorem ge_ii (i j:Int):gGe (.int i) (.int j)=some (.bl (decide (j<=i))):=rfl
@[simp] theorem not_b (b:Bool):Xlb (.bl b)=some (.bl (!b)):=rfl
@[simp] theorem Zcx (i j:Int):gEq (.int i) (.int j)=some (.bl (decide (i=j))):=show some (D.bl (i==j))=_ from congrArg (fun b=>some (D.bl b)) (by by_cases h:i=j<;>simp [h])
@[simp] theorem Zrr (i j:Int):gNe (.int i) (.int j)=some (.bl (!decide (i=j))):=show some (D.bl (!(i==j)))=_ from congrArg (fun b=>some (D.bl (!b))) (by by_cases h:i=j<;>simp [h])
@[simp] theorem eq_bb (i j:Bool):gEq (.bl i) (.bl j)=some (.bl (i==j)):=rfl
@[simp] theorem ne_bb (i j:Bool):gNe (.bl i) (.bl j)=some (.bl (!(i==j))):=rfl
@[simp] theorem Zcc (i j:Str):gEq (.str i) (.str j)=some (.bl (decide (i=j))):=show some (D.bl (i==j))=_ from congrArg (fun b=>some (D.bl b)) (by by_cases h:i=j<;>simp [h])
@[simp] theorem Xlz (i j:Str):gNe (.str i) (.str j)=some (.bl (!decide (i=j))):=show some (D.bl (!(i==j)))=_ from congrArg (fun b=>some (D.bl (!b))) (by by_cases h:i=j<;>simp [h])
@[simp] theorem is_n (x:D):gIs x .non=some (.bl (Zix x)):=rfl
@[simp] theorem isNot_n (x:D):Zml x .non=some (.bl (!Zix x)):=rfl
@[simp] theorem is_b (b c:Bool):gIs (.bl b) (.bl c)=some (.bl (b==c)):=rfl
@[simp] theorem isNot_b (b c:Bool):Zml (.bl b) (.bl c)=some (.bl (!(b==c))):=rfl
@[simp] theorem Xrd:Zix .non=true:=rfl
@[simp] theorem isNon_i (i:Int):Zix (.int i)=false:=rfl
@[simp] theorem isNon_b (i:Bool):Zix (.bl i)=false:=rfl
@[simp] theorem isNon_l (i:List D):Zix (.lst i)=false:=rfl
@[simp] theorem isNon_t (i:List D):Zix (.tup i)=false:=rfl
theorem Xdx (h:(-(2 ^ 64)<i/\i<2 ^ 64)\/(-(2 ^ 64)<j/\j<2 ^ 64)):Zdv (.int i) (.int j)=some (.int (i*j)):=by
 have:(short i||short j)=true:=by simp [short];exact h
 simp [Zdv,this]
theorem Zbd (h:0<j):Zfl (.int i) (.int j)=some (.int (i % j)):=by simp [Zfl,h]
theorem div_ii (h:0<j)(h2:j<2 ^ 200):Xln (.int i) (.int j)=some (.int (i / j)):=by simp only [Xln];rw [if_pos ⟨h,h2⟩]
theorem Zna (h:0<=j)(h2:j<=1000000)(h3:i.natAbs<2 ^ 64):Zis (.int i) (.int j)=some (.int (i ^ j.toNat)):=by simp only [Zis];rw [if_pos ⟨h,h2,h3⟩]
@[simp] theorem pow10_6:Zis (.int 10) (.int 6)=some (.int 1000000):=by rw [Zna (by omega) (by omega) (by decide)];rfl
@[simp] theorem Zzo:Zis (.int 10) (.int 15)=some (.int 1000000000000000):=by rw [Zna (by omega) (by omega) (by decide)];rfl
@[simp] theorem Xac:Zis (.int 10) (.int 17)=some (.int 100000000000000000):=by rw [Zna (by omega) (by omega) (by decide)];rfl
@[simp] theorem Zlg:Zis (.int 10) (.int 18)=some (.int 1000000000000000000):=by rw [Zna (by omega) (by omega) (by decide)];rfl
@[simp] theorem flat_i (i:Int):flat (.int i)=true:=rfl
@[simp] theorem flat_b (i:Bool):flat (.bl i)=true:=rfl
@[simp] theorem flat_s (i:Str):flat (.str i)=true:=rfl
@[simp] theorem flat_n:flat .non=true:=rfl
@[simp] theorem flat_t (xs:List D):flat (.tup xs)=Jg xs:=rfl
@[simp] theorem flatA_n:Jg []=true:=rfl
@[simp] theorem flatA_c (x:D)(xs:List D):Jg (x::xs)=(flat x&&Jg xs):=rfl
theorem Zik {α:Type}{f:α->D}(h:∀a,flat (f a)=true):∀xs:List α,Jg (xs.map f)=true
 | []=>rfl
 | x::xs=>by simp [h x,Zik h xs]
@[simp] theorem Zfy (ns:List Int):Jg (ns.map D.int)=true:=Zik (fun _=>rfl) ns
@[simp] theorem gFlat_i (i:Int):Yf (.int i)=some (.int i):=rfl
@[simp] theorem gFlat_b (i:Bool):Yf (.bl i)=some (.bl i):=rfl
@[simp] theorem gFlat_s (i:Str):Yf (.str i)=some (.str i):=rfl
@[simp] theorem gFlat_n:Yf .non=some .non:=rfl
@[simp] theorem Xmc (ns:List Bool):bools (ns.map D.bl)=some ns:=by
 induction ns with
 | nil=>rfl
 | cons n ns ih=>simp [bools,ih]
@[simp] theorem len_l (xs:List D):Zcn [.lst xs]=some (.int xs.length):=(rfl)
@[simp] theorem len_t (xs:List D):Zcn [.tup xs]=some (.int xs.length):=(rfl)
@[simp] theorem len_scr (xs:List Int):Zcn [.scr xs]=some (.int xs.length):=(rfl)
@[simp] theorem Xej (i j:Int):Xlg [.int i,.int j]=some (.int (min i j)):=by simp only [Xlg];congr 2;by_cases h:j<i;rw [if_pos h];omega;rw [if_neg h];omega
@[simp] theorem any_bools (ns:List Bool):Xiv [.lst (ns.map D.bl)]=some (.bl (ns.any id)):=by simp [Xiv]
@[simp] theorem all_bools (ns:List Bool):Xhu [.lst (ns.map D.bl)]=some (.bl (ns.all id)):=by simp [Xhu]
@[simp] theorem isI_i (c:String)(i:Int):Zus c (.int i)=some (.bl (c=="int")):=rfl
@[simp] theorem isI_b (c:String)(i:Bool):Zus c (.bl i)=some (.bl (c=="bool"||c=="int")):=rfl
@[simp] theorem isI_l (c:String)(i:List D):Zus c (.lst i)=some (.bl (c=="list")):=rfl
@[simp] theorem isI_t (c:String)(i:List D):Zus c (.tup i)=some (.bl (c=="tuple")):=rfl
@[simp] theorem isI_s (c:String)(i:Str):Zus c (.str i)=some (.bl (c=="str")):=rfl
@[simp] theorem isI_n (c:String):Zus c .non=some (.bl false):=rfl
theorem Zho {xs:List α}{k:Nat}{x:α}(e:i=(k:Int))(h:xs[k]?=some x):atD xs i=some x:=by subst e;have hk:=(Ah.mp h).1;unfold atD ixD;rw [if_pos (by omega),if_pos (by omega)];simpa using h
theorem Xdt {k:Nat}(e:i=(k:Int))(h:xs[k]?=some x):gIx (.lst xs) (.int i)=some x:=Zho e h
theorem Xlf {k:Nat}(e:i=(k:Int))(h:xs[k]?=some x):gIx (.tup xs) (.int i)=some x:=Zho e h
@[simp] theorem ixL_l (xs:List D)(y:D):gIxL (.lst xs) y=gIx (.lst xs) y:=(rfl)
@[simp] theorem listV_l (xs:List D):Xpb [.lst xs]=some (.lst xs):=(rfl)
theorem Zad {k:Nat}(e:i=(k:Int))(h:k<ns.length):gIx (.lst (ns.map D.int)) (.int i)=some (.int (ns.getD k 0)):=Xdt e (by simp [h,Bh])
@[simp] theorem Zxi (a:D)(r:List D):gIx (.tup (a::r)) (.int 0)=some a:=Xlf (k:=0) rfl rfl
@[simp] theorem Xev (a b c:D)(r:List D):gIx (.tup (a::b::c::r)) (.int 2)=some c:=Xlf (k:=2) rfl rfl
@[simp] theorem Zkm (a:D)(r:List D):gIx (.lst (a::r)) (.int 0)=some a:=Xdt (k:=0) rfl rfl
@[simp] theorem Ztf (a b:D)(r:List D):gIx (.lst (a::b::r)) (.int 1)=some b:=Xdt (k:=1) rfl rfl
@[simp] theorem Xgs (a b c:D)(r:List D):gIx (.lst (a::b::c::r)) (.int 2)=some c:=Xdt (k:=2) rfl rfl
@[simp] theorem ix_l3 (a b c d:D)(r:List D):gIx (.lst (a::b::c::d::r)) (.int 3)=some d:=Xdt (k:=3) rfl rfl
theorem Xiy (f:α->β)(xs:List α)(lo hi:Option Int):cut (xs.map f) lo hi=(cut xs lo hi).map f:=by unfold cut;rw [Al,Gw,GR]
theorem Xqa {xs:List α}{a b:Int}(h0:0<=a)(h1:a<=b)(h2:b<=xs.length):cut xs (some a) (some b)=(xs.drop a.toNat).take (b.toNat - a.toNat):=by unfold cut Xla;simp only [];rw [if_neg (by omega),if_neg (by omega),Ds (by omega),Ds (by omega)]
theorem Xrr {xs:List α}{b:Int}(h0:0<=b):cut xs none (some b)=xs.take b.toNat:=by unfold cut Xla;simp only [];rw [if_neg (by omega),GK,Hk];by_cases h:b.toNat<=xs.length;rw [Ds h];rw [En (by omega),BF (AF _),BF (by omega)]
@[simp] theorem Ztu (ns:List Int)(lo hi:Option Int):gSl (.lst (ns.map D.int)) lo hi=some (.lst ((cut ns lo hi).map D.int)):=by simp [gSl,Xiy]
@[simp] theorem sl_scr (ns:List Int)(lo hi:Option Int):gSl (.scr ns) lo hi=some (.lst ((cut ns lo hi).map D.int)):=(rfl)
@[simp] theorem gLst_0:Zaz []=some (.lst []):=rfl
@[simp] theorem gLst_1 (a:D):Zaz [a]=some (.lst [a]):=rfl
@[simp] theorem gLst_2 (a b:D):Zaz [a,b]=some (.lst [a,b]):=rfl
@[simp] theorem gLst_3 (a b c:D):Zaz [a,b,c]=some (.lst [a,b,c]):=rfl
@[simp] theorem gLst_4 (a0 a1 a2 a3:D):Zaz [a0,a1,a2,a3]=some (.lst [a0,a1,a2,a3]):=rfl
@[simp] theorem gLst_5 (a0 a1 a2 a3 a4:D):Zaz [a0,a1,a2,a3,a4]=some (.lst [a0,a1,a2,a3,a4]):=rfl
@[simp] theorem gLst_6 (a0 a1 a2 a3 a4 a5:D):Zaz [a0,a1,a2,a3,a4,a5]=some (.lst [a0,a1,a2,a3,a4,a5]):=rfl
@[simp] theorem gLst_10 (a0 a1 a2 a3 a4 a5 a6 a7 a8 a9:D):Zaz [a0,a1,a2,a3,a4,a5,a6,a7,a8,a9]=some (.lst [a0,a1,a2,a3,a4,a5,a6,a7,a8,a9]):=rfl
@[simp] theorem gLst_11 (a0 a1 a2 a3 a4 a5 a6 a7 a8 a9 a10:D):Zaz [a0,a1,a2,a3,a4,a5,a6,a7,a8,a9,a10]=some (.lst [a0,a1,a2,a3,a4,a5,a6,a7,a8,a9,a10]):=rfl
@[simp] theorem gTup_2 (a b:D):Zdq [a,b]=some (.tup [a,b]):=rfl
@[simp] theorem gTup_3 (a b c:D):Zdq [a,b,c]=some (.tup [a,b,c]):=rfl
@[simp] theorem gTup_4 (a b c d:D):Zdq [a,b,c,d]=some (.tup [a,b,c,d]):=rfl
@[simp] theorem Zgx (a:α)(f:α->R β):((R.ok a).calm).bind f=f a:=(rfl)
theorem Zkf {P:Nat->Env->Prop}(h0:P 0 ρ)
  (hs:∀i x ρ,xs[i]?=some x->P i ρ->∃ρ1,b x ρ=.ok ρ1/\((∃ρ2,(s ρ1=.ok (.nx ρ2)\/s ρ1=.ok (.cnt ρ2))/\P (i+1) ρ2)\/(∃d,s ρ1=.ok (.ret d)/\Rr (.ok (.ret d)))\/∃ρ2,s ρ1=.ok (.brk ρ2)/\Rr (.ok (.nx ρ2))))
  (hd:∀ρ,P xs.length ρ->Rr (.ok (.nx ρ))):Rr (Zeb b s xs ρ):=by
 have key:∀n i ρ,n+i=xs.length->P i ρ->Rr (Zeb b s (xs.drop i) ρ):=by
  intro n
  induction n with
  | zero =>
   intro i ρ hn p;rw [Fb (by omega)];have e:i=xs.length:=by omega
   subst e;exact hd ρ p
  | succ n ih =>
   intro i ρ hn p;have hi:i<xs.length:=by omega
   rw [Ca hi,Zln];obtain ⟨ρ1,e1,h⟩:=hs i xs[i] ρ (AH hi) p;rw [e1,Zgx];rcases h with ⟨ρ2,e2 | e2,p2⟩ | ⟨d,e2,p2⟩ | ⟨ρ2,e2,p2⟩;rw [e2];exact ih (i+1) ρ2 (by omega) p2;rw [e2];exact ih (i+1) ρ2 (by omega) p2;rw [e2];exact p2;rw [e2];exact p2
 have:=key xs.length 0 ρ (by omega) h0;simpa using this
theorem Xbj {i:Nat}(h:i<n):(Ziy lo n)[i]?=some (.int (lo+i)):=by simp [Ziy,h]
theorem Zur {i:Nat}(h:(Ziy lo n)[i]?=some x):i<n/\x=.int (lo+i):=by
 have hi:=(Ah.mp h).1;have hn:i<n:=by simpa [Ziy] using hi
 rw [Xbj hn] at h;exact ⟨hn,(AR h).symm⟩
@[simp] theorem Zev (lo:Int)(n:Nat):(Ziy lo n).length=n:=by simp [Ziy]
theorem Xix {k:Nat}{enc:α->D}{ρ1:α->Env}{p:α->Bool}{v:α->D}{xs:List α}(h:∀x∈xs,b (enc x) (ρ++Aa k none)=.ok (ρ1 x)/\c (ρ1 x)=.ok (p x)/\(p x=true->e (ρ1 x)=.ok (v x))):Zfv k b c e ρ (xs.map enc)=.ok ((xs.filter p).map v):=by
 induction xs with
 | nil=>rfl
 | cons x xs ih =>
  obtain ⟨h0,h1,h2⟩:=h x (.head _);have ih:=ih fun y hy=>h y (.tail _ hy);rw [AG];unfold Zfv;rw [h0,Zgx,h1];cases hp:p x with
  | false=>simp [ih,hp]
  | true=>simp [ih,hp,h2 hp]
theorem comp1 {enc:α->D}{p:α->Bool}{v:α->D}{xs:List α}(hn:ρ.length=n)(h:∀x∈xs,c (ρ++[some (enc x)])=.ok (p x)/\(p x=true->e (ρ++[some (enc x)])=.ok (v x))):Zfv 1 (Xi n) c e ρ (xs.map enc)=.ok ((xs.filter p).map v):=
  Xix (ρ1:=fun x=>ρ++[some (enc x)]) fun x hx=>⟨by
    show R.ok ((ρ++[none]).set n (some (enc x)))=_;rw [<- hn,Dz _ _ (AF _),Hl];rfl,h x hx⟩
theorem Zei {enc:α->D}{v:α->D}{xs:List α}(hn:ρ.length=n)(h:∀x∈xs,e (ρ++[some (enc x)])=.ok (v x)):Zfv 1 (Xi n) Zjg e ρ (xs.map enc)=.ok (xs.map v):=by have:=comp1 (p:=fun _=>true) (c:=Zjg) hn (xs:=xs) (enc:=enc) (e:=e) (v:=v) fun x hx=>⟨rfl,fun _=>h x hx⟩;rw [this,List.filter_eq_self.mpr fun _ _=>rfl]
theorem Xo {i:Nat}(h:e ρ=.ok d):Yw i e ρ=.ok (.nx (ρ.set i (some d))):=by rw [Ztz,h];rfl
theorem Zm {a b:FS}(h:a ρ=.ok (.nx ρ'))(h2:b ρ'=r):Xp a b ρ=r:=by rw [Zlf,h];exact h2
theorem Zda {g:D->Option D}(ha:a ρ=.ok x)(h:g x=some z):f1 g a ρ=.ok z:=by rw [ev_f1,ha];show oR (g x)=_;rw [h];rfl
theorem Zn {g:D->D->Option D}{b:FE}{y:D}(ha:a ρ=.ok x)(hb:b ρ=.ok y)(h:g x y=some z):f2 g a b ρ=.ok z:=by rw [ev_f2,ha,hb];show oR (g x y)=_;rw [h];rfl
theorem Zdd {g:List D->Option D}{a:FA}(ha:a ρ=.ok xs)(h:g xs=some z):fA g a ρ=.ok z:=by rw [Xng,ha];show oR (g xs)=_;rw [h];rfl
theorem Zg {r:FA}(ha:a ρ=.ok x)(hr:r ρ=.ok xs):Zb a r ρ=.ok (x::xs):=by rw [Zle,ha,hr];rfl
theorem Xd {a:FA}(ha:a ρ=.ok xs)(h:F xs=.ok d):Xe F a ρ=.ok d:=by rw [Zqu,ha];exact h
theorem Xr {b:Bool}(h:a ρ=.ok (.bl b)):cE a ρ=.ok b:=by rw [ev_cE,h];rfl
theorem Xs {a b:FS}(hc:c ρ=.ok true)(h:a ρ=r):sIf c a b ρ=r:=by rw [Xdj,hc];exact h
theorem Xj {a b:FS}(hc:c ρ=.ok false)(h:b ρ=r):sIf c a b ρ=r:=by rw [Xdj,hc];exact h
theorem Zsy {i:Nat}(hv:fV i ρ=.ok (.lst xs))(h:e ρ=.ok d)(hl:xs.length<lim):Zsw i e ρ=.ok (.nx (ρ.set i (some (.lst (xs++[d]))))):=by rw [Xgd,hv,h];exact if_pos hl
theorem Xu (h:e ρ=.ok d):Ys e ρ=.ok (.ret d):=by rw [Zxj,h];rfl
theorem Zsn {a:FA}(h:a ρ=.ok [.int j])(h1:-1000000000<=j/\j<=1000000):Zhp a ρ=.ok (Ziy 0 j.toNat):=by rw [Xch,h];exact if_pos h1
theorem Zea (h:it ρ=.ok xs)(h2:Zeb b s xs ρ=r):Znt it b s ρ=r:=by rw [Xgt,h];exact h2
theorem Zbc {q:FS}(h:q (ds.map some++Aa (N - ds.length) none)=.ok (.ret d)):(run N q ds).calm=.ok d:=by unfold run;rw [h];rfl
theorem Ztn {a b:Int}(h0:0<=a)(h1:a<=1000000):Zdv (.int a) (.int b)=some (.int (a*b)):=Xdx (.inl ⟨by omega,by omega⟩)
theorem Xq {a b:FS}(h:a ρ=.ok (.ret d)):Xp a b ρ=.ok (.ret d):=by rw [Zlf,h];rfl
theorem mulR {a b:Int}(h0:0<=b)(h1:b<=1000000):Zdv (.int a) (.int b)=some (.int (a*b)):=Xdx (.inr ⟨by omega,by omega⟩)
theorem Zge (h:a ρ=.ok (.lst xs))(hl:xs.length<=lim):Zbo a ρ=.ok xs:=by rw [Zzg,h];exact if_pos hl
theorem Xlr {b:FE}{r:R D}(hc:c ρ=.ok true)(h:a ρ=r):fIf c a b ρ=r:=by rw [Xef,hc];exact h
theorem Xod {b:FE}{r:R D}(hc:c ρ=.ok false)(h:b ρ=r):fIf c a b ρ=r:=by rw [Xef,hc];exact h
theorem Zlk {a b:FT}{r:R Bool}(h:a ρ=.ok true)(h2:b ρ=r):Zxy a b ρ=r:=by rw [Zwj,h];exact h2
theorem Xjh {a b:FT}(h:a ρ=.ok false):Zxy a b ρ=.ok false:=by rw [Zwj,h];rfl
theorem Zkb {b:FE}{r:R D}(h:a ρ=.ok (.bl true))(h2:b ρ=r):Ztl a b ρ=r:=by rw [Zue,h];exact h2
theorem Zoj {b:FE}(h:a ρ=.ok (.bl false)):Ztl a b ρ=.ok (.bl false):=by rw [Zue,h];rfl
theorem Zey [Decidable p](h:p):some (D.bl (decide p))=some (D.bl true):=congrArg (fun b=>some (D.bl b)) (decide_eq_true h)
theorem Zfd [Decidable p](h:¬p):some (D.bl (decide p))=some (D.bl false):=congrArg (fun b=>some (D.bl b)) (decide_eq_false h)
theorem Yx {a:FT}{b:Bool}(h:a ρ=.ok b):Zlc a ρ=.ok (!b):=by rw [Xgn,h];rfl
theorem Ji {a b:FT}{r:R Bool}(h:a ρ=.ok false)(h2:b ρ=r):cOr a b ρ=r:=by rw [Xep,h];exact h2
theorem Zdl {g:D->D->Option D}{b c:FE}{y w:D}(ha:a ρ=.ok x)(hb:b ρ=.ok y)(h1:g x y=some (.bl true))(hc:c ρ=.ok w)(h2:g' y w=some z):Je g g' a b c ρ=.ok z:=by rw [Zwr,ha];show (b ρ).bind _=_;rw [hb];show (oR (g x y)).bind _=_;rw [h1];show (c ρ).bind _=_;rw [hc];show oR (g' y w)=_;rw [h2];rfl
theorem Xrl (h:e ρ=.ok d)(hb:b d ρ=.ok ρ'):Xhj e b ρ=.ok (.nx ρ'):=by unfold Xhj;rw [h];show (b d ρ).calm.bind _=_;rw [hb];rfl
theorem Zyb {l h:FO}{lo:Option Int}(ha:a ρ=.ok x)(hl:l ρ=.ok lo)(hh:h ρ=.ok hi)(hg:g x lo hi=some z):fSl g a l h ρ=.ok z:=by rw [Xop,ha];show (l ρ).bind _=_;rw [hl];show (h ρ).bind _=_;rw [hh];show oR (g x lo hi)=_;rw [hg];rfl
theorem Xqy (h:a ρ=.ok (.tup xs))(hl:xs.length<=lim):Xlk a ρ=.ok xs:=by rw [Xku,h];exact if_pos hl
theorem Zej {k:Nat}{ys:List D}(hn:ρ.length=n)(h:it ρ=.ok xs)(h1:Zfv k b c e ρ xs=.ok ys):Zbq n k it b c e ρ=.ok (.lst ys):=by rw [Xbi,if_pos hn,h];show (Zfv k b c e ρ xs).calm.bind _=_;rw [h1];rfl
theorem Zeh {a b:FT}(h:a ρ=.ok true):cOr a b ρ=.ok true:=by rw [Xep,h];rfl
theorem Zbj (h:a ρ=.ok (.int i)):Jw a ρ=.ok (some i):=by rw [Xbc,h];rfl
set_option genInjectivity true in
structure Kd where
 name:Str
 w:Int
 wo:Int
 al:Int
def kD (k:Kd):D:=.tup [.str k.name,.int k.w,.int k.wo,.int k.al]
def iD (ns:List Int):D:=.lst (ns.map D.int)
def tD (ks:List Kd):D:=.lst (ks.map kD)
@[simp] theorem flat_kD (k:Kd):flat (kD k)=true:=rfl
@[simp] theorem gFlat_kD (k:Kd):Yf (kD k)=some (kD k):=rfl
@[simp] theorem kD_0 (k:Kd):gIx (kD k) (.int 0)=some (.str k.name):=Xlf (k:=0) rfl rfl
@[simp] theorem kD_1 (k:Kd):gIx (kD k) (.int 1)=some (.int k.w):=Xlf (k:=1) rfl rfl
@[simp] theorem kD_2 (k:Kd):gIx (kD k) (.int 2)=some (.int k.wo):=Xlf (k:=2) rfl rfl
@[simp] theorem kD_3 (k:Kd):gIx (kD k) (.int 3)=some (.int k.al):=Xlf (k:=3) rfl rfl
def pre (ns:List Int)(i:Nat):Int:=(ns.take i).sum
def good (ns:List Int)(k:Kd)(p:Int):Bool:=decide (0<=p/\p+k.w<=ns.length/\pre ns (p+k.w).toNat - pre ns p.toNat<=k.al)
theorem Zts (ns:List Int)(hn:ns.length<=63)(h0:0<=i)(h1:i<1000000):∃n:Int,Zat [.scr ns,.int i]=.ok (.int n):=by
 have c:(cE (f2 gLt (fV 1) (fA Zcn (Zb (fV 0) Zr)))) [some (.scr ns),some (.int i),none,none]=.ok (decide (i<ns.length)):=Xr (Zn rfl (Zdd (Zg rfl rfl) rfl) rfl);by_cases h:i<ns.length;have hi:i.toNat<ns.length:=(DC h0).mpr h;have e:gIx (.scr ns) (.int i)=some (.int (ns.getD i.toNat 0)):=congrArg (Option.map D.int) (Zho (k:=i.toNat) (CW h0).symm (by simp [Bh,hi]));exact ⟨_,Zbc (Xq (Xs (c.trans (congrArg Dl.R.ok (decide_eq_true h))) (Xu (Zda (Zn rfl rfl e) rfl))))⟩;have key:∃seed:Int,∃o,Zeb (Xi 3) Zfg ((ns.take 63).map D.int) [some (.scr ns),some (.int i),some (.int 5),none]=.ok (.nx [some (.scr ns),some (.int i),some (.int seed),o]):=by refine Zkf (P:=fun _ ρ=>∃seed:Int,∃o,ρ=[some (.scr ns),some (.int i),some (.int seed),o]) (Rr:=fun r=>∃seed:Int,∃o,r=.ok (.nx [some (.scr ns),some (.int i),some (.int seed),o])) ⟨5,none,rfl⟩ ?_ ?_;rintro j x ρ hx ⟨seed,o,rfl⟩;rw [Bu] at hx;obtain ⟨y,hy,rfl⟩:=AD.mp hx;exact ⟨_,rfl,.inl ⟨_,.inl (Xo (Zn (Zn (Zn (Zn rfl rfl (mulR (by decide) (by decide))) (Zn rfl rfl (Zbd (by decide))) rfl) rfl rfl) rfl (Zbd (by decide)))),_,_,rfl⟩⟩;rintro ρ ⟨seed,o,rfl⟩;exact ⟨seed,o,rfl⟩
 obtain ⟨seed,o,e⟩:=key;have hc:cut ns none (some 63)=ns.take 63:=Xrr (by decide);have hl:(Zbo (fSl gSl (fV 0) Zba (Jw (fC (.int 63))))) [some (.scr ns),some (.int i),some (.int 5),none]=.ok ((ns.take 63).map D.int):=by
  have hm:min 63 ns.length<=lim:=by show _<=1000000;omega
  simp [-Gw,hc,hm]
 exact ⟨_,Zbc (Zm (Xj (c.trans (congrArg Dl.R.ok (decide_eq_false h))) rfl) (Zm (Xo rfl) (Zm (Zea hl e) (Xu (Zn (Zn rfl (Zn rfl rfl (Ztn (by decide) (by decide))) rfl) rfl (Zbd (by decide)))))))⟩
theorem Xdw (c:Int){k:Int}(h0:0<=k)(h1:k<1000000):∃n:Int,Zbh [.int c,.int k]=.ok (.int n):=by have n0:0<=c % 2147483629+1013*k+7919:=EX (EX (BA _ (by decide)) (DI (by decide) h0)) (by decide);have n1:c % 2147483629+1013*k+7919<2147483629+1013*1000000+7919:=Int.add_lt_add_right (Int.add_lt_add_of_lt_of_le (Bo _ (by decide)) (BO (DV h1) (by decide))) _;have b:(c % 2147483629+1013*k+7919).natAbs<2 ^ 64:=Fn.mp (by rw [Int.natAbs_of_nonneg n0];exact Hu n1 (by decide));have e1:=Zna (i:=c % 2147483629+1013*k+7919) (j:=3) (by decide) (by decide) b;exact ⟨_,Zbc (Zm (Xo (Zn (Zn (Zn (Zn (Zn rfl rfl (Zbd (by decide))) (Zn rfl rfl (Ztn (by decide) (by decide))) rfl) rfl rfl) rfl e1) rfl (Zbd (by decide)))) (Zm (Xo (Zn (Zn (Zn (Zn rfl rfl (mulR (by decide) (by decide))) (Zn (Zn rfl rfl (Ztn (by decide) (by decide))) rfl (mulR h0 (DV h1))) rfl) rfl rfl) rfl (Zbd (by decide)))) (Xu (Zn rfl rfl (div_ii (by decide) (by decide))))))⟩
structure Row (ms os:List Int):Prop where
 len:os.length=ms.length
 at_:∀k,k<ms.length->0<=os.getD k 0/\os.getD k 0<ms.getD k 0
theorem Row.nil (ms:List Int):Row (ms.take 0) []:=⟨by simp,fun k hk=>by simp at hk⟩
theorem Row.all (h:Row (ms.take ms.length) os):Row ms os:=by rw [Gn] at h;exact h
theorem Row.push {k:Nat}(h:Row (ms.take k) os)(hk:k<ms.length)(h0:0<=v)(h1:v<ms.getD k 0):Row (ms.take (k+1)) (os++[v]):=by
 have hl:=h.len;rw [BH] at hl;have hm:min k ms.length=k:=by omega
 have hm':min (k+1) ms.length=k+1:=by omega
 refine ⟨by rw [AE,BH,hm',Fk];omega,fun j hj=>?_⟩;rw [BH,hm'] at hj;by_cases e:j=k;subst e;have e1:(os++[v]).getD j 0=v:=by
  have:os.length=j:=by omega
  simp [Bh,<- this]
 have e2:(ms.take (j+1)).getD j 0=ms.getD j 0:=by simp [Bh,FP]
 rw [e1,e2];exact ⟨h0,h1⟩;have hj':j<k:=by omega
 have q:=h.at_ j (by rw [BH];omega);have e1:(os++[v]).getD j 0=os.getD j 0:=by
  have:j<os.length:=by omega
  simp [Bh,AT this]
 have e2:(ms.take (k+1)).getD j 0=(ms.take k).getD j 0:=by
  have h1:j<k+1:=by omega
  simp [Bh,FP,hj',h1]
 rw [e1,e2];exact q
theorem Zdx {i:Nat}(h:∀w∈ws,P w)(hi:i<ws.length):P (ws.getD i 0):=by
 have e:ws.getD i 0=ws[i]:=by simp [Bh,hi]
 rw [e];exact h _ (Ce hi)
theorem Xkb (ns:List Int)(hn:ns.length<=63)(h0:0<=i)(h1:i<1000)(ms:List Int)(hm:ms.length<=2000)(hms:∀m∈ms,0<m/\m<2 ^ 200):∃os,Yi [.scr ns,.int i,iD ms]=.ok (iD os)/\Row ms os:=by
 obtain ⟨c,hc⟩:=Zts ns hn h0 (show i<1000000 by omega);have key:=Zkf (b:=Xi 6) (s:=Zgr) (xs:=Ziy 0 ms.length) (ρ:=[some (.scr ns),some (.int i),some (iD ms),some (.int c),some (.int c),some (.lst []),none,none])
  (P:=fun k ρ=>∃(l:Int) (os:List Int) (o6 o7:Option D),Row (ms.take k) os/\ρ=[some (.scr ns),some (.int i),some (iD ms),some (.int c),some (.int l),some (iD os),o6,o7])
  (Rr:=fun r=>∃(l:Int) (os:List Int) (o6 o7:Option D),Row ms os/\r=.ok (.nx [some (.scr ns),some (.int i),some (iD ms),some (.int c),some (.int l),some (iD os),o6,o7]))
  ⟨c,[],none,none,Row.nil ms,rfl⟩ ?_ ?_
 obtain ⟨l,os,o6,o7,hr,e⟩:=key;refine ⟨os,?_,hr⟩;have b1:-1000000000<=(ms.length:Int)/\(ms.length:Int)<=1000000:=by omega
 have gl:Zcn [iD ms]=some (.int ms.length):=by simp [iD]
 exact Zbc (Zm (Xo (Xd (Zg rfl (Zg rfl rfl)) hc)) (Zm (Xo (Zda rfl rfl)) (Zm (Xo rfl) (Zm (Zea (Zsn (Zg (Zdd (Zg rfl rfl) gl) rfl) b1) e) (Xu rfl)))));rintro k x ρ hx ⟨l,os,o6,o7,hr,rfl⟩;obtain ⟨hk,rfl⟩:=Zur hx;rw [Ew];have hol:os.length=k:=by have:=hr.len;rw [BH] at this;omega
 have hlim:(os.map D.int).length<lim:=by rw [Al];show _<1000000;omega
 have c1:∀o5:Option D,(cE (f2 gLt (fV 3) (f2 Zis (fC (.int 10)) (fC (.int 18))))) [some (.scr ns),some (.int i),some (iD ms),some (.int c),some (.int l),o5,some (.int k),o7]=.ok (decide (c<1000000000000000000)):=fun _=>Xr (Zn rfl (Zn rfl rfl Zlg) rfl);have ap:∀v:Int,iD (os++[v])=.lst (os.map D.int++[.int v]):=fun v=>congrArg D.lst BY;have hmk:=Zdx hms hk;have ix:=Zad (ns:=ms) (i:=(k:Int)) (k:=k) rfl hk;have md:∀z:Int,Zfl (.int z) (.int (ms.getD k 0))=some (.int (z % ms.getD k 0)):=fun z=>Zbd hmk.1;have nn:∀z:Int,0<=z % ms.getD k 0/\z % ms.getD k 0<ms.getD k 0:=fun z=>⟨BA _ (Ht hmk.1),Bo _ hmk.1⟩;have k0:0<=(k:Int)/\(k:Int)<1000000:=by omega
 obtain ⟨x1,hx1⟩:=Xdw c k0.1 k0.2;obtain ⟨c2,hc2⟩:=Zts ns hn (i:=(i+1+k) % 63) (BA _ (by decide)) (Hu (Bo _ (by decide)) (by decide));obtain ⟨x2,hx2⟩:=Xdw c2 k0.1 k0.2;refine ⟨_,rfl,.inl ?_⟩;by_cases a1:c<1000000000000000000;refine ⟨[some (.scr ns),some (.int i),some (iD ms),some (.int c),some (.int l),some (iD (os++[x1 % ms.getD k 0])),some (.int k),o7],.inl ?_,l,_,_,o7,hr.push hk (nn x1).1 (nn x1).2,rfl⟩;rw [ap];exact Xs ((c1 _).trans (congrArg Dl.R.ok (decide_eq_true a1))) (Zsy rfl (Zn (Xd (Zg rfl (Zg rfl rfl)) hx1) (Zn rfl rfl ix) (md x1)) hlim);by_cases a2:0<l;refine ⟨[some (.scr ns),some (.int i),some (iD ms),some (.int c),some (.int (l / ms.getD k 0)),some (iD (os++[l % ms.getD k 0])),some (.int k),o7],.inl ?_,_,_,_,o7,hr.push hk (nn l).1 (nn l).2,rfl⟩;rw [ap];exact Xj ((c1 _).trans (congrArg Dl.R.ok (decide_eq_false a1))) (Xs (Xr (Zn rfl rfl (congrArg (fun b=>some (D.bl b)) (decide_eq_true a2)))) (Zm (Zsy rfl (Zn rfl (Zn rfl rfl ix) (md l)) hlim) (Xo (Zn rfl (Zn rfl rfl ix) (div_ii hmk.1 hmk.2)))));refine ⟨[some (.scr ns),some (.int i),some (iD ms),some (.int c),some (.int l),some (iD (os++[x2 % ms.getD k 0])),some (.int k),some (.int c2)],.inl ?_,l,_,_,_,hr.push hk (nn x2).1 (nn x2).2,rfl⟩;rw [ap];exact Xj ((c1 _).trans (congrArg Dl.R.ok (decide_eq_false a1))) (Xj (Xr (Zn rfl rfl (congrArg (fun b=>some (D.bl b)) (decide_eq_false a2)))) (Zm (Xo (Xd (Zg rfl (Zg (Zn (Zn (Zn rfl rfl rfl) rfl rfl) rfl (Zbd (by decide))) rfl)) hc2)) (Zsy rfl (Zn (Xd (Zg rfl (Zg rfl rfl)) hx2) (Zn rfl rfl ix) (md x2)) hlim)));rintro ρ ⟨l,os,o6,o7,hr,rfl⟩;rw [Zev] at hr;exact ⟨l,os,o6,o7,hr.all,rfl⟩
theorem Zpl (ns:List Int)(hn:ns.length<=63)(h0:0<=i)(h1:i<1000)(ms:List Int)(hm:ms.length<=1000)(hms:∀m∈ms,0<m/\m<2 ^ 200):∃os,Yi [.scr ns,.int i,iD ms]=.ok (iD os)/\Row ms os:=Xkb ns hn h0 h1 ms (AN hm (by decide)) hms
theorem Zmb (ws:List Int)(h0:0<=i)(h1:i<ws.length):gIx (.lst (ws.map D.int)) (.int i)=some (.int (ws.getD i.toNat 0)):=Zad (by omega) (by omega)
theorem Zoy (l:List Int):∀n:Nat,(Aa n l).flatten.length=n*l.length
 | 0=>by simp
 | n+1=>by rw [A4,Bv,AE,Zoy l n,Ez,Hn]
theorem Xgq (l:List Int)(n:Nat):(Aa n (l.map D.int)).flatten=(Aa n l).flatten.map D.int:=by rw [List.map_flatten,List.map_replicate]
theorem Xif (h0:0<=m)(h1:m<=200)(hl:ws.length<=1000):Zdv (.lst (ws.map D.int)) (.int m)=some (iD (Aa m.toNat ws).flatten):=by
  simp only [Zdv];rw [if_pos ⟨by omega,by
    rw [Al];show ws.length*m.toNat<=1000000;have:ws.length*m.toNat<=1000*200:=Ej hl (by omega);omega,by omega,Zfy ws⟩,Xgq]
  rfl
theorem Xav {xs:List Int}(h:xs.length+ys.length<=1000000):Jy (iD xs) (iD ys)=some (iD (xs++ys)):=by show (if (xs.map D.int).length+(ys.map D.int).length<=lim/\Jg (xs.map D.int)/\Jg (ys.map D.int) then some (D.lst (xs.map D.int++ys.map D.int)) else none)=_;rw [if_pos ⟨by rw [Al,Al];exact h,Zfy _,Zfy _⟩,<- BY];rfl
theorem Zqd (x y z:Int):∀(n k:Nat),k<n->(Aa n [x,y,z]).flatten.getD (3*k) 0=x/\(Aa n [x,y,z]).flatten.getD (3*k+1) 0=y/\(Aa n [x,y,z]).flatten.getD (3*k+2) 0=z
 | 0,k,h=>by omega
 | n+1,0,_=>by simp [A4,Bv,Bh]
 | n+1,k+1,h=>by
  have q:=Zqd x y z n k (by omega);have e1:3*(k+1)=3*k+3:=by omega
  rw [A4,Bv,e1];exact q
theorem Xkc {z:Int}(h:z∈(Aa n l).flatten):z∈l:=by
 obtain ⟨l',hl,hz⟩:=Gp.mp h
 rwa [(C2.mp hl).2] at hz
def Zbp:List Str:=["a","ab","abc","b","ba","z","zzzzzzzz","roll","cut","by","aab","zz","kind","qsvw","fghjmp","x"]
theorem Zzb:∀j:Nat,j<16->∀k:Nat,k<16->Zbp.getD j ""=Zbp.getD k ""->j=k:=by decide +kernel
def nameAt (s4 s5:Int)(k:Nat):Str:=Zbp.getD ((s4+(2*s5+1)*(k:Int)) % 16).toNat ""
theorem Xaq:∀t:Nat,t<4->∀j:Nat,j<8->∀k:Nat,k<8->((2*(t:Int)+1)*j - (2*(t:Int)+1)*k) % 16=0->j=k:=by decide +kernel
theorem Ztb {s4 s5:Int}(h0:0<=s5)(h1:s5<4){j k:Nat}(hj:j<8)(hk:k<8)(e:nameAt s4 s5 j=nameAt s4 s5 k):j=k:=by have lt:∀x:Int,(x % 16).toNat<16:=fun x=>(DC (BA x (by decide))).mpr (Bo x (by decide));have q:=congrArg Int.ofNat (Zzb _ (lt _) _ (lt _) e);have q1:(s4+(2*s5+1)*(j:Int)) % 16=(s4+(2*s5+1)*(k:Int)) % 16:=(CW (BA _ (by decide))).symm.trans (q.trans (CW (BA _ (by decide))));have q2:=Int.emod_eq_emod_iff_emod_sub_eq_zero.mp q1;rw [Int.add_sub_add_left] at q2;obtain ⟨t,rfl⟩:=Cq h0;exact Xaq t (Fn.mp h1) j hj k hk q2
theorem Zsh (s4 s5:Int)(k:Nat):nameAt s4 s5 k∈Zbp:=by
 unfold nameAt;have h:((s4+(2*s5+1)*(k:Int)) % 16).toNat<Zbp.length:=by show _<16;omega
 have e:Zbp.getD ((s4+(2*s5+1)*(k:Int)) % 16).toNat ""=Zbp[((s4+(2*s5+1)*(k:Int)) % 16).toNat]:=by simp [Bh,h]
 rw [e];exact Ce h
structure Zmd (k:Kd):Prop where
 nm:k.name∈Zbp
 w1:1<=k.w
 w2:k.w<=200
 o1:1<=k.wo
 o2:k.wo<=1000000000000000000
 a1:0<=k.al
 a2:k.al<1000000000000000000
structure Xpv (ks:List Kd):Prop where
 ok:∀k∈ks,Zmd k
 nd:(ks.map (·.name)).Nodup
theorem Xiw (h0:0<=i)(h1:i<16):gIx (.lst (Zbp.map D.str)) (.int i)=some (.str (Zbp.getD i.toNat "")):=Xdt (k:=i.toNat) (by omega) (by
  have h:i.toNat<Zbp.length:=by show _<16;omega
  simp [Bh,h])
theorem Zpc (h:∀m∈ms,0<m/\m<=1000000):∀m∈ms,0<m/\m<2 ^ 200:=fun m hm=>⟨(h m hm).1,Gh (h m hm).2 (by decide)⟩
theorem four {x:Int}(h:0<=x/\x<4):x=0\/x=1\/x=2\/x=3:=by
 obtain ⟨n,rfl⟩:=Cq h.1
 match n,Fn.mp h.2 with
 | 0,_=>exact .inl rfl
 | 1,_=>exact .inr (.inl rfl)
 | 2,_=>exact .inr (.inr (.inl rfl))
 | 3,_=>exact .inr (.inr (.inr rfl))
theorem Zqp {x:Int}(hm:0<m):0<=x % m/\x % m<m:=⟨BA _ (Ht hm),Bo _ hm⟩
theorem Xab {d0 d1 d2 o9 o10 o11 o12 o13:Option D}{O:D}{fl gn bw wd am x3 x4 x5 x6 x7 x8:Int}{k:Nat}
    (j0:gIx O (.int (3*(k:Int)+6))=some (.int x6)) (j1:gIx O (.int (3*(k:Int)+6+1))=some (.int x7)) (j2:gIx O (.int (3*(k:Int)+6+2))=some (.int x8))
    (j3:gIx O (.int 3)=some (.int x3)) (j4:gIx O (.int 4)=some (.int x4)) (j5:gIx O (.int 5)=some (.int x5))
    (ib:gIx (.lst [.int 150,.int 200]) (.int ((k:Int) % 2))=some (.int bw))
    (iw:gIx (.lst [.int 1,.int 2,.int 3,.int 4,.int 5,.int 6,.int 2,.int 3,.int 11,.int 40,.int bw]) (.int x6)=some (.int wd))
    (ia:gIx (.lst [.int 0,.int 0,.int 1,.int 2,.int 3,.int 12]) (.int x8)=some (.int am))
    (iN:gIx (.lst (Zbp.map D.str)) (.int ((x4+(2*x5+1)*(k:Int)) % 16))=some (.str nm))
    (w1:1<=wd/\wd<=200) (c7:0<=x7/\x7<40) (c3:0<=x3/\x3<4) (c5:0<=x5/\x5<4) (m1:0<=am/\am<=12) (sl:T.length<lim) :
    ∃wo:Int,(1<=wo/\wo<=1000)/\Zcd [d0,d1,d2,some (.lst (Zbp.map D.str)),some O,some (.int fl),some (.int gn),some (.lst T),some (.int k),o9,o10,o11,o12,o13] =
      .ok (.nx [d0,d1,d2,some (.lst (Zbp.map D.str)),some O,some (.int fl),some (.int gn),some (.lst (T++[.tup [.str nm,.int wd,.int (min (wo*gn) 1000000000000000000),.int (min (am*fl) 999999999999999999)]])),some (.int k),some (.int (3*(k:Int)+6)),some (.int wd),some (.int wo),some (.int (min (am*fl) 999999999999999999)),some (.str nm)]):=by
  obtain ⟨wo,hb,mid⟩:∃wo:Int,(1<=wo/\wo<=1000)/\∀Q:FS,(Xp (sIf (cE (f2 gEq (f2 gIx (fV 4) (fC (.int 3))) (fC (.int 1)))) (Yw 11 (f2 Jy (f2 Zdv (fC (.int 3)) (fV 10)) (f2 Zfl (f2 gIx (fV 4) (f2 Jy (fV 9) (fC (.int 1)))) (fC (.int 4))))) sNx)
    (Xp (sIf (cE (f2 gEq (f2 gIx (fV 4) (fC (.int 3))) (fC (.int 2)))) (Yw 11 (f2 Jy (fC (.int 1)) (f2 Zfl (f2 gIx (fV 4) (f2 Jy (fV 9) (fC (.int 1)))) (fC (.int 3))))) sNx)
    (Xp (sIf (cE (f2 gEq (f2 gIx (fV 4) (fC (.int 3))) (fC (.int 3)))) (Yw 11 (f1 Yf (fV 10))) sNx) Q))) [d0,d1,d2,some (.lst (Zbp.map D.str)),some O,some (.int fl),some (.int gn),some (.lst T),some (.int k),some (.int (3*(k:Int)+6)),some (.int wd),some (.int (1+x7)),o12,o13] =
      Q [d0,d1,d2,some (.lst (Zbp.map D.str)),some O,some (.int fl),some (.int gn),some (.lst T),some (.int k),some (.int (3*(k:Int)+6)),some (.int wd),some (.int wo),o12,o13]:=by
    rcases four c3 with rfl | rfl | rfl | rfl;exact ⟨1+x7,⟨EW c7.1,AX (FR (DV c7.2) 1) (by decide)⟩,fun Q=>Zm (Xj (Xr (Zn (Zn rfl rfl j3) rfl rfl)) rfl) (Zm (Xj (Xr (Zn (Zn rfl rfl j3) rfl rfl)) rfl) (Zm (Xj (Xr (Zn (Zn rfl rfl j3) rfl rfl)) rfl) rfl))⟩;exact ⟨3*wd+x7 % 4,⟨AX (show (1:Int)<=3*1+0 by decide) (GU (BO w1.1 (by decide)) (Zqp (by decide)).1),AX (GU (BO w1.2 (by decide)) (DV (Zqp (by decide)).2)) (by decide)⟩,fun Q=>Zm (Xs (Xr (Zn (Zn rfl rfl j3) rfl rfl)) (Xo (Zn (Zn rfl rfl (Ztn (by decide) (by decide))) (Zn (Zn rfl (Zn rfl rfl rfl) j1) rfl (Zbd (by decide))) rfl))) (Zm (Xj (Xr (Zn (Zn rfl rfl j3) rfl rfl)) rfl) (Zm (Xj (Xr (Zn (Zn rfl rfl j3) rfl rfl)) rfl) rfl))⟩;exact ⟨1+x7 % 3,⟨EW (Zqp (by decide)).1,AX (FR (DV (Zqp (by decide)).2) 1) (by decide)⟩,fun Q=>Zm (Xj (Xr (Zn (Zn rfl rfl j3) rfl rfl)) rfl) (Zm (Xs (Xr (Zn (Zn rfl rfl j3) rfl rfl)) (Xo (Zn rfl (Zn (Zn rfl (Zn rfl rfl rfl) j1) rfl (Zbd (by decide))) rfl))) (Zm (Xj (Xr (Zn (Zn rfl rfl j3) rfl rfl)) rfl) rfl))⟩;exact ⟨wd,⟨w1.1,AX w1.2 (by decide)⟩,fun Q=>Zm (Xj (Xr (Zn (Zn rfl rfl j3) rfl rfl)) rfl) (Zm (Xj (Xr (Zn (Zn rfl rfl j3) rfl rfl)) rfl) (Zm (Xs (Xr (Zn (Zn rfl rfl j3) rfl rfl)) (Xo (Zda rfl rfl))) rfl))⟩
  exact ⟨wo,hb,Zm (Xo (Zn (Zn rfl rfl (Ztn (by decide) (by decide))) rfl rfl)) (Zm (Xo (Zda (Zn (Zdd (Zg rfl (Zg rfl (Zg rfl (Zg rfl (Zg rfl (Zg rfl (Zg rfl (Zg rfl (Zg rfl (Zg rfl (Zg (Zn rfl (Zn rfl rfl (Zbd (by decide))) ib) rfl))))))))))) rfl) (Zn rfl rfl j0) iw) rfl)) (Zm (Xo (Zn rfl (Zn rfl (Zn rfl rfl rfl) j1) rfl)) ((mid _).trans
    (Zm (Xo (Zdd (Zg (Zn (Zn rfl (Zn rfl (Zn rfl rfl rfl) j2) ia) rfl (Ztn m1.1 (AX m1.2 (by decide)))) (Zg (Zn (Zn rfl rfl Zlg) rfl (show Zru (.int 1000000000000000000) (.int 1)=some (.int 999999999999999999) from rfl)) rfl)) (Xej _ _)))
    (Zm (Xo (Zda (Zn rfl (Zn (Zn (Zn rfl rfl j4) (Zn (Zn (Zn rfl (Zn rfl rfl j5) (Ztn (by decide) (by decide))) rfl rfl) rfl (Ztn (EX (DI (by decide) c5.1) (by decide)) (AX (Fx (BO (DV c5.2) (by decide)) 1) (by decide)))) rfl) rfl (Zbd (by decide))) iN) rfl))
    (Zsy rfl (Zdd (Zg (Zda rfl rfl) (Zg (Zda rfl rfl) (Zg (Zdd (Zg (Zn rfl rfl (Ztn (AX (by decide) hb.1) (AX hb.2 (by decide)))) (Zg (Zn rfl rfl Zlg) rfl)) (Xej _ _)) (Zg (Zda rfl rfl) rfl)))) rfl) sl))))))⟩
theorem under {x:Int}{k:Nat}(h:k<x.toNat)(hx:x<m+1):k<m.toNat:=by omega
theorem Xbv {b:Int}(h:∀z∈l,P z)(hb:P b):∀z∈l++[b],P z:=Fa.mpr ⟨h,fun _ hz=>Ak.mp hz▸hb⟩
theorem Xmu {k j m:Nat}(h:k<m)(hj:j<3):3*k+(j+6)<6+m*3:=by omega
theorem Xcr (ns:List Int)(hn:ns.length<=63)(h0:0<=i)(h1:i<1000)(m0:0<=m)(m1:m<=8):∃ks,Zax [.scr ns,.int i,.int m]=.ok (tD ks)/\(ks.length:Int)<=m/\Xpv ks:=by
  have m8:m.toNat<=8:=Hs.mpr m1;have m24:6+m.toNat*3<=30:=Nat.add_le_add_left (Nat.mul_le_mul_right 3 m8) 6;have ms_eq:Jy (iD [m+1,4,4,4,16,4]) (iD (Aa m.toNat [11,40,6]).flatten)=some (iD ([m+1,4,4,4,16,4]++(Aa m.toNat [11,40,6]).flatten)):=Xav (by
    rw [Zoy];exact AN m24 (by decide))
  have mr:=Xif (ws:=[11,40,6]) m0 (AX m1 (by decide)) (by decide);have hml:([m+1,4,4,4,16,4]++(Aa m.toNat [(11:Int),40,6]).flatten).length=6+m.toNat*3:=by rw [AE,Zoy];rfl
  obtain ⟨os,hos,R⟩:=Zpl ns hn h0 h1 ([m+1,4,4,4,16,4]++(Aa m.toNat [11,40,6]).flatten) (by rw [hml];exact AN m24 (by decide)) (Zpc (Fa.mpr ⟨A3.mpr ⟨⟨Int.lt_add_one_of_le m0,AX (Fx m1 1) (by decide)⟩,by decide⟩,fun z hz=>(by decide:∀z∈[(11:Int),40,6],0<z/\z<=1000000) z (Xkc hz)⟩));have hol:os.length=6+m.toNat*3:=by rw [R.len,hml]
  have hlt:∀{j:Nat},j<6->j<([m+1,4,4,4,16,4]++(Aa m.toNat [(11:Int),40,6]).flatten).length:=fun h=>by rw [hml];exact Aq h (Dq _ _)
  have hlo:∀{j:Nat},j<6->j<os.length:=fun h=>by rw [hol];exact Aq h (Dq _ _)
  have tri:∀k j:Nat,k<m.toNat->j<3->3*k+(j+6)<6+m.toNat*3:=fun _ _ h hj=>Xmu h hj;have a0:0<=os.getD 0 0/\os.getD 0 0<m+1:=R.at_ 0 (hlt (by decide));have a1:0<=os.getD 1 0/\os.getD 1 0<4:=R.at_ 1 (hlt (by decide));have a2:0<=os.getD 2 0/\os.getD 2 0<4:=R.at_ 2 (hlt (by decide));have a3:0<=os.getD 3 0/\os.getD 3 0<4:=R.at_ 3 (hlt (by decide));have a4:0<=os.getD 4 0/\os.getD 4 0<16:=R.at_ 4 (hlt (by decide));have a5:0<=os.getD 5 0/\os.getD 5 0<4:=R.at_ 5 (hlt (by decide));have b3:∀k:Nat,k<m.toNat->(0<=os.getD (3*k+6) 0/\os.getD (3*k+6) 0<11)/\(0<=os.getD (3*k+7) 0/\os.getD (3*k+7) 0<40)/\(0<=os.getD (3*k+8) 0/\os.getD (3*k+8) 0<6):=fun k hk=>by obtain ⟨g1,g2,g3⟩:=Zqd 11 40 6 m.toNat k hk;have e:∀j:Nat,([m+1,4,4,4,16,4]++(Aa m.toNat [(11:Int),40,6]).flatten).getD (j+6) 0=(Aa m.toNat [(11:Int),40,6]).flatten.getD j 0:=fun j=>rfl;have r1:=R.at_ (3*k+6) (by rw [hml];exact tri k 0 hk (by decide));have r2:=R.at_ (3*k+7) (by rw [hml];exact tri k 1 hk (by decide));have r3:=R.at_ (3*k+8) (by rw [hml];exact tri k 2 hk (by decide));rw [e (3*k),g1] at r1;rw [show 3*k+7=(3*k+1)+6 from rfl,e (3*k+1),g2] at r2;rw [show 3*k+8=(3*k+2)+6 from rfl,e (3*k+2),g3] at r3;exact ⟨r1,r2,r3⟩
  have ix:∀k:Nat,k<os.length->∀j:Int,j=(k:Int)->gIx (.lst (os.map D.int)) (.int j)=some (.int (os.getD k 0)):=fun k hk j e=>Zad e hk;obtain ⟨fl,hfl⟩:∃fl,fl=([1,1,7,100000000000000000]:List Int).getD (os.getD 1 0).toNat 0:=⟨_,rfl⟩;obtain ⟨gn,hgn⟩:∃gn,gn=([1,1,1000000,25000000000000000]:List Int).getD (os.getD 2 0).toNat 0:=⟨_,rfl⟩;have fl1:1<=fl/\fl<=100000000000000000:=by rw [hfl];exact Zdx (P:=fun z=>1<=z/\z<=100000000000000000) (by decide) (show _<4 from (DC a1.1).mpr a1.2)
  have gn1:1<=gn/\gn<=25000000000000000:=by rw [hgn];exact Zdx (P:=fun z=>1<=z/\z<=25000000000000000) (by decide) (show _<4 from (DC a2.1).mpr a2.2)
  have i1:gIx (.lst [.int 1,.int 1,.int 7,.int 100000000000000000]) (.int (os.getD 1 0))=some (.int fl):=by rw [hfl];exact Zmb [1,1,7,100000000000000000] a1.1 a1.2
  have i2:gIx (.lst [.int 1,.int 1,.int 1000000,.int 25000000000000000]) (.int (os.getD 2 0))=some (.int gn):=by rw [hgn];exact Zmb [1,1,1000000,25000000000000000] a2.1 a2.2
  have key:=Zkf (b:=Xi 8) (s:=Zcd) (xs:=Ziy 0 (os.getD 0 0).toNat) (ρ:=[some (.scr ns),some (.int i),some (.int m),some (.lst (Zbp.map D.str)),some (iD os),some (.int fl),some (.int gn),some (.lst []),none,none,none,none,none,none])
    (P:=fun k ρ=>∃(ks:List Kd) (o8 o9 o10 o11 o12 o13:Option D),ks.length=k/\(∀x∈ks,Zmd x)/\ks.map (·.name)=(A7 k).map (nameAt (os.getD 4 0) (os.getD 5 0))/\ρ=[some (.scr ns),some (.int i),some (.int m),some (.lst (Zbp.map D.str)),some (iD os),some (.int fl),some (.int gn),some (tD ks),o8,o9,o10,o11,o12,o13])
    (Rr:=fun r=>∃(ks:List Kd) (o8 o9 o10 o11 o12 o13:Option D),ks.length=(os.getD 0 0).toNat/\(∀x∈ks,Zmd x)/\ks.map (·.name)=(A7 ks.length).map (nameAt (os.getD 4 0) (os.getD 5 0))/\r=.ok (.nx [some (.scr ns),some (.int i),some (.int m),some (.lst (Zbp.map D.str)),some (iD os),some (.int fl),some (.int gn),some (tD ks),o8,o9,o10,o11,o12,o13]))
    ⟨[],none,none,none,none,none,none,rfl,(fun _ h=>nomatch h),rfl,rfl⟩ ?_ ?_
  · obtain ⟨ks,o8,o9,o10,o11,o12,o13,kl,kok,knm,e⟩:=key;have k8:ks.length<=8:=by rw [kl];exact Hs.mpr (AX (D1.mp a0.2) m1)
    refine ⟨ks,?_,by rw [kl,CW a0.1];exact D1.mp a0.2,kok,?_⟩
    · have b1:-1000000000<=os.getD 0 0/\os.getD 0 0<=1000000:=⟨AX (by decide) a0.1,AX (D1.mp a0.2) (AX m1 (by decide))⟩;have hp:Jy (.lst [.str ("a":Str),.str ("ab":Str),.str ("abc":Str),.str ("b":Str),.str ("ba":Str),.str ("z":Str),.str ("zzzzzzzz":Str),.str ("roll":Str),.str ("cut":Str),.str ("by":Str)]) (.lst [.str ("aab":Str),.str ("zz":Str),.str ("kind":Str),.str ("qsvw":Str),.str ("fghjmp":Str),.str ("x":Str)])=some (.lst (Zbp.map D.str)):=rfl;have mr':Zdv (.lst [.int 11,.int 40,.int 6]) (.int m)=_:=mr;have ms':Jy (.lst [.int (m+1),.int 4,.int 4,.int 4,.int 16,.int 4]) (iD (Aa m.toNat [11,40,6]).flatten)=_:=ms_eq;generalize iD ([m+1,4,4,4,16,4]++(Aa m.toNat [11,40,6]).flatten)=Mv at hos ms';generalize iD (Aa m.toNat [11,40,6]).flatten=Mw at mr' ms';exact Zbc (Zm (Xo rfl) (Zm (Xo (Zn rfl rfl hp)) (Zm (Xo (Xd (Zg rfl (Zg rfl (Zg (Zn (Zdd (Zg (Zn rfl rfl rfl) rfl) rfl) (Zn rfl rfl mr') ms') rfl))) hos))
        (Zm (Xo (Zda (Zn (Zdd (Zg rfl (Zg rfl (Zg rfl (Zg (Zn rfl rfl Xac) rfl)))) rfl) (Zn rfl rfl (ix 1 (hlo (by decide)) 1 rfl)) i1) rfl))
        (Zm (Xo (Zda (Zn (Zdd (Zg rfl (Zg rfl (Zg (Zn rfl rfl (show Zis (.int 10) (.int 6)=some (.int 1000000) by simp)) (Zg (Zn rfl (Zn rfl rfl Zzo) (show Zdv (.int 25) (.int 1000000000000000)=some (.int 25000000000000000) from Ztn (by decide) (by decide))) rfl)))) rfl) (Zn rfl rfl (ix 2 (hlo (by decide)) 2 rfl)) i2) rfl))
        (Zm (Xo rfl) (Zm (Zea (Zsn (Zg (Zn rfl rfl (ix 0 (hlo (by decide)) 0 rfl)) rfl) b1) e) (Xu rfl))))))))
    rw [knm,EJ,List.pairwise_map];refine Hr ?_ (EJ.mp List.nodup_range);intro i j hi hj hij e;have hi:=Bj.mp hi;have hj:=Bj.mp hj;exact hij (Ztb a5.1 a5.2 (Aq hi (AN k8 (by decide))) (Aq hj (AN k8 (by decide))) e)
  rintro k x ρ hx ⟨ks,o8,o9,o10,o11,o12,o13,kl,kok,knm,rfl⟩;obtain ⟨hk,rfl⟩:=Zur hx;rw [Ew];have hkm:k<m.toNat:=under hk a0.2;obtain ⟨c1,c2,c3⟩:=b3 k hkm;have j0:=ix (3*k+6) (by rw [hol];exact tri k 0 hkm (by decide)) (3*k+6) rfl;have j1:=ix (3*k+7) (by rw [hol];exact tri k 1 hkm (by decide)) (3*k+6+1) (G7 _ 6 1);have j2:=ix (3*k+8) (by rw [hol];exact tri k 2 hkm (by decide)) (3*k+6+2) (G7 _ 6 2);have j3:=ix 3 (hlo (by decide)) 3 rfl;have j4:=ix 4 (hlo (by decide)) 4 rfl;have j5:=ix 5 (hlo (by decide)) 5 rfl;obtain ⟨bw,hbw⟩:∃bw,bw=([150,200]:List Int).getD ((k:Int) % 2).toNat 0:=⟨_,rfl⟩;have k2:0<=(k:Int) % 2/\(k:Int) % 2<2:=⟨BA _ (by decide),Bo _ (by decide)⟩;have bw1:1<=bw/\bw<=200:=by rw [hbw];exact Zdx (P:=fun z=>1<=z/\z<=200) (by decide) (show _<2 from (DC k2.1).mpr k2.2)
  have ib:gIx (.lst [.int 150,.int 200]) (.int ((k:Int) % 2))=some (.int bw):=by rw [hbw];exact Zmb [150,200] k2.1 k2.2
  obtain ⟨wd,hwd⟩:∃wd,wd=([1,2,3,4,5,6,2,3,11,40,bw]:List Int).getD (os.getD (3*k+6) 0).toNat 0:=⟨_,rfl⟩;have wd1:1<=wd/\wd<=200:=by rw [hwd];exact Zdx (P:=fun z=>1<=z/\z<=200) (Xbv (l:=[1,2,3,4,5,6,2,3,11,40]) (by decide) bw1) (show _<11 from (DC c1.1).mpr c1.2)
  have iw:gIx (.lst [.int 1,.int 2,.int 3,.int 4,.int 5,.int 6,.int 2,.int 3,.int 11,.int 40,.int bw]) (.int (os.getD (3*k+6) 0))=some (.int wd):=by rw [hwd];exact Zmb [1,2,3,4,5,6,2,3,11,40,bw] c1.1 c1.2
  obtain ⟨am,ham⟩:∃am,am=([0,0,1,2,3,12]:List Int).getD (os.getD (3*k+8) 0).toNat 0:=⟨_,rfl⟩;have am1:0<=am/\am<=12:=by rw [ham];exact Zdx (P:=fun z=>0<=z/\z<=12) (by decide) (show _<6 from (DC c3.1).mpr c3.2)
  have ia:gIx (.lst [.int 0,.int 0,.int 1,.int 2,.int 3,.int 12]) (.int (os.getD (3*k+8) 0))=some (.int am):=by rw [ham];exact Zmb [0,0,1,2,3,12] c3.1 c3.2
  have iN:=Xiw (i:=(os.getD 4 0+(2*os.getD 5 0+1)*(k:Int)) % 16) (BA _ (by decide)) (Bo _ (by decide));have sl:(ks.map kD).length<lim:=by rw [Al,kl];exact Aq hkm (AN m8 (by decide))
  obtain ⟨wo,wo1,turn⟩:=Xab (d0:=some (.scr ns)) (d1:=some (.int i)) (d2:=some (.int m)) (o9:=o9) (o10:=o10) (o11:=o11) (o12:=o12) (o13:=o13) (fl:=fl) (gn:=gn) j0 j1 j2 j3 j4 j5 ib iw ia iN wd1 c2 a3 a5 am1 sl;have pr:0<=am*fl:=DI am1.1 (AX (by decide) fl1.1);have wg:1<=wo*gn:=EV wo1.1 gn1.1 (by decide) (AX (by decide) wo1.1);have kd:Zmd ⟨nameAt (os.getD 4 0) (os.getD 5 0) k,wd,min (wo*gn) 1000000000000000000,min (am*fl) 999999999999999999⟩:=⟨Zsh _ _ _,wd1.1,wd1.2,HJ.mpr ⟨wg,by decide⟩,GF _ _,HJ.mpr ⟨pr,by decide⟩,Gh (GF _ _) (by decide)⟩;refine ⟨_,rfl,.inl ⟨[some (.scr ns),some (.int i),some (.int m),some (.lst (Zbp.map D.str)),some (iD os),some (.int fl),some (.int gn),some (tD (ks++[⟨nameAt (os.getD 4 0) (os.getD 5 0) k,wd,min (wo*gn) 1000000000000000000,min (am*fl) 999999999999999999⟩])),some (.int k),some (.int (3*k+6)),some (.int wd),some (.int wo),some (.int (min (am*fl) 999999999999999999)),some (.str (nameAt (os.getD 4 0) (os.getD 5 0) k))],.inl ?_,_,_,_,_,_,_,_,?_,?_,?_,rfl⟩⟩;rw [show tD (ks++[⟨nameAt (os.getD 4 0) (os.getD 5 0) k,wd,min (wo*gn) 1000000000000000000,min (am*fl) 999999999999999999⟩])=.lst (ks.map kD++[.tup [.str (nameAt (os.getD 4 0) (os.getD 5 0) k),.int wd,.int (min (wo*gn) 1000000000000000000),.int (min (am*fl) 999999999999999999)]]) from congrArg D.lst BY];exact turn;rw [AE,kl];rfl;intro x hx;rcases An.mp hx with h | h;exact kok x h;rw [Ak.mp h];exact kd;rw [BY,knm,GC,BY];rfl;rintro ρ ⟨ks,o8,o9,o10,o11,o12,o13,kl,kok,knm,rfl⟩;rw [Zev] at kl;exact ⟨ks,o8,o9,o10,o11,o12,o13,kl,kok,by rw [kl];rw [Zev] at knm;exact knm,rfl⟩
end Dl
namespace Dl
def S:Nat->(Nat->Int)->Int
 | 0,_=>0
 | n+1,f=>S n f+f n
def pth (e:Nat->Nat->Int)(a:Nat):Nat->List Int
 | 0=>[1]
 | d+1=>pth e a d++[S (d+1) fun i=>e (a+i) (a+d+1)*(pth e a d).getD i 0]
def W (e:Nat->Nat->Int)(a d:Nat):Int:=(pth e a d).getD d 0
end Dl
namespace Dl
open PySem
variable {d Z:D}{ns os:List Int}{ks acc:List Kd}{α:Type}{n m N t:Nat}{z x y s p:Str}{xs ds:List D}{ρ:Env}{g g':D->D->Option D}{a b e:FE}{c:String}{i j:Int}{l r w:List Nat}{es ws:List Str}{o:Option (List D)}{B o3 o4 A C:Option D}{q:FS}{F:List D->R D}
def Xiu (ns:List Int)(ks:List Kd)(cs:List Int):Int:=cs.getD (cs.length - 1) 0+((ks.filter fun k=>good ns k ((cs.length:Int) - k.w)).map fun k=>cs.getD ((cs.length:Int) - k.w).toNat 0).sum
def cnts (ns:List Int)(ks:List Kd):Nat->List Int
 | 0=>[1]
 | j+1=>cnts ns ks j++[Xiu ns ks (cnts ns ks j)]
def cnt (ns:List Int)(ks:List Kd)(j:Nat):Int:=(cnts ns ks j).getD j 0
abbrev Cut:=List (Int×Str)×Int
def addK (ns:List Int)(rows:List (List Cut))(e:Nat)(k:Kd):List Cut:=if good ns k ((e:Int) - k.w)=true then (rows.getD ((e:Int) - k.w).toNat []).map fun c=>(c.1++[((e:Int) - k.w,k.name)],c.2+k.wo) else []
def rowOf (ns:List Int)(ks:List Kd)(rows:List (List Cut)):List Cut:=rows.getD (rows.length - 1) []++(ks.map (addK ns rows rows.length)).flatten
def Xne (ns:List Int)(ks:List Kd):Nat->List (List Cut)
 | 0=>[[([],0)]]
 | j+1=>Xne ns ks j++[rowOf ns ks (Xne ns ks j)]
mutual
theorem Zpt:∀d:D,dep d<=20->eqv d d=true
 | .non,_=>rfl
 | .bl b,_=>beq_self_eq_true b
 | .int b,_=>beq_self_eq_true b
 | .str b,_=>beq_self_eq_true b
 | .lst xs,h=>Zhq xs (Gm h)
 | .tup xs,h=>Zhq xs (Gm h)
 | .scr _,h=>absurd h (by decide:¬100<=20)
 | .rng _ _,h=>absurd h (by decide:¬100<=20)
 | .exc _ _,h=>absurd h (by decide:¬100<=20)
 | .obj _ _ _,h=>absurd h (by decide:¬100<=20)
 | .dct _ _,h=>absurd h (by decide:¬100<=20)
 | .dtt _ _,h=>absurd h (by decide:¬100<=20)
 | .flst _,h=>absurd h (by decide:¬100<=20)
 | .fdt _ _,h=>absurd h (by decide:¬100<=20)
 | .fobj _ _ _,h=>absurd h (by decide:¬100<=20)
 | .fdk _ _,h=>absurd h (by decide:¬100<=20)
theorem Zhq:∀xs:List D,Zgy xs<=20->Xia xs xs=true
 | [],_=>rfl
 | x::xs,h=>by have a:dep x<=20/\Zgy xs<=20:=Gd.mp h;show (eqv x x&&Xia xs xs)=true;rw [Zpt x a.1,Zhq xs a.2];rfl
end
theorem Zzx (h:dep d<=20):gEq d d=some (.bl true):=by unfold gEq;rw [if_pos ⟨h,h⟩,Zpt d h]
def hStep (ns:List Int)(ks:List Kd)(ts:List Int):Int:=maxL (ts.getD (ts.length - 1) 0::(ks.filter fun k=>good ns k ((ts.length:Int) - k.w)).map fun k=>ts.getD ((ts.length:Int) - k.w).toNat 0+k.wo)
def hts (ns:List Int)(ks:List Kd):Nat->List Int
 | 0=>[0]
 | j+1=>hts ns ks j++[hStep ns ks (hts ns ks j)]
def ht (ns:List Int)(ks:List Kd)(j:Nat):Int:=(hts ns ks j).getD j 0
theorem eq_str (a b:Str):gEq (.str a) (.str b)=some (.bl (a==b)):=rfl
theorem eq_int (a b:Int):gEq (.int a) (.int b)=some (.bl (a==b)):=rfl
theorem ne_int (a b:Int):gNe (.int a) (.int b)=some (.bl (!(a==b))):=rfl
inductive Way (ns:List Int)(ks:List Kd):Nat->Nat->Int->Prop where
 | nil (a:Nat):Way ns ks a a 0
 | skip {a b:Nat} {w:Int}:Way ns ks a b w->b+1<=ns.length->Way ns ks a (b+1) w
 | piece {a b:Nat} {w:Int} {k:Kd}:Way ns ks a b w->k∈ks->good ns k (b:Int)=true->Way ns ks a (b+k.w.toNat) (w+k.wo)
def V {α:Type}:R α->(α->Prop)->Prop
 | .ok a,Q=>Q a
 | .err _ _,_=>False
 | .bad,_=>False
@[simp] theorem V_ok (a:α)(Q:α->Prop):V (.ok a) Q=Q a:=(rfl)
def turn (b:FB)(s:FS)(x:D)(ρ:Env):R Fl:=(b x ρ).calm.bind s
def Tn (P:Env->Prop)(Q:Fl->Prop):Fl->Prop
 | .nx ρ=>P ρ
 | .cnt ρ=>P ρ
 | .brk ρ=>Q (.nx ρ)
 | .ret d=>Q (.ret d)
@[simp] theorem Tn_nx (P:Env->Prop)(Q:Fl->Prop)(ρ:Env):Tn P Q (.nx ρ)=P ρ:=(rfl)
@[simp] theorem Tn_cnt (P:Env->Prop)(Q:Fl->Prop)(ρ:Env):Tn P Q (.cnt ρ)=P ρ:=(rfl)
@[simp] theorem Tn_brk (P:Env->Prop)(Q:Fl->Prop)(ρ:Env):Tn P Q (.brk ρ)=Q (.nx ρ):=(rfl)
@[simp] theorem Tn_ret (P:Env->Prop)(Q:Fl->Prop)(d:D):Tn P Q (.ret d)=Q (.ret d):=(rfl)
@[simp] theorem Xox (i:Nat)(s:FS)(x:D)(ρ:Env):turn (Xi i) s x ρ=s (ρ.set i (some x)):=(rfl)
@[simp] theorem ev_fJoin (a b:FE)(ρ:Env):Zfr a b ρ=(a ρ).bind fun x=>match x with | .str s=>(b ρ).bind fun y=>oR (Zpg (.str s) y) | _=>.bad:=(rfl)
@[simp] theorem calm_bad :(R.bad:R α).calm=.bad:=(rfl)
@[simp] theorem gLst_7 (a0 a1 a2 a3 a4 a5 a6:D):Zaz [a0,a1,a2,a3,a4,a5,a6]=some (.lst [a0,a1,a2,a3,a4,a5,a6]):=rfl
@[simp] theorem gLst_8 (a0 a1 a2 a3 a4 a5 a6 a7:D):Zaz [a0,a1,a2,a3,a4,a5,a6,a7]=some (.lst [a0,a1,a2,a3,a4,a5,a6,a7]):=rfl
@[simp] theorem gLst_9 (a0 a1 a2 a3 a4 a5 a6 a7 a8:D):Zaz [a0,a1,a2,a3,a4,a5,a6,a7,a8]=some (.lst [a0,a1,a2,a3,a4,a5,a6,a7,a8]):=rfl
theorem Xb (h:plain n z=true)(e:n<=m):plain m z=true:=by unfold plain at *;rw [Ae] at *;exact ⟨decide_eq_true (AN (of_decide_eq_true h.1) e),h.2⟩
theorem Zcj (h:plain n x=true)(g:plain m y=true):plain (n+m) (x++y)=true:=by
 unfold plain at *;rw [Ae] at *;have hl:(x++y).length=x.length+y.length:=by show (x.cps++y.cps).size=x.cps.size+y.cps.size;exact D2
 refine ⟨decide_eq_true ?_,?_⟩;have:=of_decide_eq_true h.1;have:=of_decide_eq_true g.1;omega;have e:(x++y).cps.toList=x.cps.toList++y.cps.toList:=CT;rw [e,List.all_append,h.2,g.2];rfl
theorem Zro:∀z∈Zbp,plain 8 z=true:=by decide +kernel
theorem add_str (h:plain n x=true)(g:plain m y=true)(e:n+m<=1000):Jy (.str x) (.str y)=some (.str (x++y)):=by unfold Jy;simp only [];unfold plain at h g;rw [Ae] at h g;have:=of_decide_eq_true h.1;have:=of_decide_eq_true g.1;rw [if_pos (by show _<=1000000;omega)]
theorem Xov (l u:Option Int)(n:Nat):(Ay l u 1 n).length<=n:=by unfold Ay GP;cases l<;>cases u<;>simp only [show (1:Int) > 0 by decide,if_true,Al,C9]<;>(split<;>(try split)<;>(try split)<;>(try simp only [Hv])<;>omega)
theorem Zmk (lo hi:Option Int)(h:plain n x=true):plain n (Yn x lo hi)=true:=by unfold Yn;split;exact h;unfold plain at *;rw [Ae] at *;refine ⟨decide_eq_true ?_,?_⟩;have:=of_decide_eq_true h.1;exact AN (Cg ..) (AN (Xov _ _ _) this);rw [Bb] at *;intro c hc;obtain ⟨i,_,hi⟩:=BN.mp (show c∈(Ay lo hi 1 x.length).filterMap (x.cps[·]?) from hc);exact h.2 c (A5 (i:=i) (by simpa using hi))
theorem Zgo (lo hi:Option Int)(h:plain n x=true)(e:n<=1000):Ziv (.str x) lo hi=some (.str (Yn x lo hi)):=by unfold Ziv;simp only [];rw [if_pos (Xb h e)]
theorem Jf {b:FB}{s:FS}{x:D}{ρ1:Env}(hb:b x ρ=.ok ρ1):Zeb b s (x::xs) ρ=(s ρ1).bind fun fl=>match fl with
  | .nx ρ2=>Zeb b s xs ρ2
  | .cnt ρ2=>Zeb b s xs ρ2
  | .brk ρ2=>.ok (.nx ρ2)
  | .ret d=>.ok (.ret d):=by
 rw [Zln,hb];rfl
def rg (k n:Nat):List D:=(List.range' k n).map fun (j:Nat)=>D.int (0+(j:Int))
theorem Zdb (k n:Nat):rg k (n+1)=D.int (0+(k:Int))::rg (k+1) n:=rfl
theorem Xkg (n:Nat):Ziy 0 n=rg 0 n:=by unfold Ziy rg;rw [<- List.range_eq_range']
def Zcv (z:Str):Bool:=decide (1<=z.length/\z.length<=8)&&z.cps.toList.all fun c=>decide (97<=c/\c<=122)
def Xel (z:Str):Prop:=z.length<=1000
theorem Zdu {c:FE}{x y:D}(ha:a ρ=.ok x)(hb:b ρ=.ok y)(h:g x y=some (.bl false)):Je g g' a b c ρ=.ok (.bl false):=by unfold Je;rw [ha,Zbz,hb,Zbz,h];rfl
theorem le_a (c:Nat):Zjm (.str ("a":Str)) (.str ⟨#[c]⟩)=some (.bl (decide (97<=c))):=by
 have e:("a":Str).cps.toList=[97]:=by decide +kernel
 show some (D.bl (!decide ([c]<("a":Str).cps.toList)))=_;rw [e];have q:([c]<[97])↔c<97:=by rw [Cz];simp
 by_cases h:97<=c;rw [decide_eq_false (fun z=>absurd (q.mp z) (by omega)),decide_eq_true h];rfl;rw [decide_eq_true (q.mpr (by omega)),decide_eq_false h];rfl
theorem le_z (c:Nat):Zjm (.str ⟨#[c]⟩) (.str ("z":Str))=some (.bl (decide (c<=122))):=by
 have e:("z":Str).cps.toList=[122]:=by decide +kernel
 show some (D.bl (!decide (("z":Str).cps.toList<[c])))=_;rw [e];have q:([122]<[c])↔122<c:=by rw [Cz];simp
 by_cases h:c<=122;rw [decide_eq_false (fun z=>absurd (q.mp z) (by omega)),decide_eq_true h];rfl;rw [decide_eq_true (q.mpr (by omega)),decide_eq_false h];rfl
theorem Zut (h:Xel z):Zcn [.str z]=some (.int z.length):=by unfold Zcn;simp only [];rw [if_pos (AN h (by decide))]
theorem Xew (h:Xel z)(ha:a ρ=.ok (.str z)):Ztw a ρ=.ok (z.cps.toList.map fun c=>D.str ⟨#[c]⟩):=by unfold Ztw;rw [ha];exact if_pos (AN h (by decide))
theorem Xnw (z:Str):Xhu [.lst (z.cps.toList.map fun c=>D.bl (decide (97<=c/\c<=122)))]=some (.bl (z.cps.toList.all fun c=>decide (97<=c/\c<=122))):=by have:=all_bools (z.cps.toList.map fun c=>decide (97<=c/\c<=122));rw [Dt] at this;refine Eq.trans this ?_;rw [List.all_map];rfl
theorem Zjn (h:Xel z):Zbi [.str z]=.ok (.bl (Zcv z)):=by
 have sg:∀c:Nat,Je Zjm Zjm (fC (.str ("a":Str))) (fV 1) (fC (.str ("z":Str))) [some (.str z),some (.str ⟨#[c]⟩)]=.ok (.bl (decide (97<=c/\c<=122))):=fun c=>by by_cases h1:97<=c;exact Zdl rfl rfl ((le_a c).trans (Zey h1)) rfl ((le_z c).trans (by simp [h1]));exact (Zdu rfl rfl ((le_a c).trans (Zfd h1))).trans (by simp [h1])
 have all:fA Xhu (Zb (Zbq 1 1 (Ztw (fV 0)) (Xi 1) Zjg (Je Zjm Zjm (fC (.str ("a":Str))) (fV 1) (fC (.str ("z":Str))))) Zr) [some (.str z)]=.ok (.bl (z.cps.toList.all fun c=>decide (97<=c/\c<=122))):=Zdd (Zg (Zej rfl (Xew h rfl) (Zei (v:=fun c=>D.bl (decide (97<=c/\c<=122))) rfl fun c _=>sg c)) rfl) (Xnw z);have hl:fA Zcn (Zb (fV 0) Zr) [some (.str z)]=.ok (.int z.length):=Zdd (Zg rfl rfl) (Zut h);refine Zbc (Xu ?_);unfold Zcv;show Ztl _ _ [some (.str z)]=_;by_cases h1:1<=z.length;by_cases h2:z.length<=8;rw [decide_eq_true (p:=1<=z.length/\z.length<=8) ⟨h1,h2⟩,CI];exact Zkb (Zdl rfl hl (Zey (p:=(1:Int)<=z.length) (by omega)) rfl (Zey (p:=(z.length:Int)<=8) (by omega))) all;rw [decide_eq_false (p:=1<=z.length/\z.length<=8) (fun q=>h2 q.2),C3];exact Zoj (Zdl rfl hl (Zey (p:=(1:Int)<=z.length) (by omega)) rfl (Zfd (p:=(z.length:Int)<=8) (by omega)));rw [decide_eq_false (p:=1<=z.length/\z.length<=8) (fun q=>h1 q.1),C3];exact Zoj (Zdu rfl hl (Zfd (p:=(1:Int)<=z.length) (by omega)))
theorem Zig (l:List Nat):∀m:Nat,(A7 m).filterMap (fun k=>l[k]?)=l.take m
 | 0=>by simp
 | m+1=>by rw [GC,List.filterMap_append,Zig l m,List.take_succ];cases h:l[m]?<;>simp [h]
theorem sr1 (a b:Nat):GP (a:Int) (b:Int) 1=(A7 (b - a)).map fun k=>a+k:=by
 unfold GP;have hc:(if (1:Int) > 0 then if (a:Int)<b then ((b:Int) - a+1 - 1) / 1 else 0 else if (a:Int) > b then ((a:Int) - b - 1 - 1) / -1 else 0).toNat=b - a:=by rw [if_pos (by decide)];split;rw [Hv];omega;omega
 simp only [hc];refine Fw fun k _=>?_;omega
theorem Xqs (b n:Nat):Ay none (some (b:Int)) 1 n=(A7 (min b n)).map fun k=>0+k:=by
 have h:=sr1 0 (min b n);rw [Hk] at h;rw [<- h];unfold Ay;have e:max 0 (min (if (b:Int)<0 then (b:Int)+n else (b:Int)) (n:Int))=((min b n:Nat):Int):=by rw [if_neg (by omega)];omega
 simp only [show (1:Int) > 0 by decide,if_true];rw [e];rfl
theorem Zyo (a n:Nat):Ay (some (a:Int)) none 1 n=(A7 (n - min a n)).map fun k=>min a n+k:=by
 rw [<- sr1 (min a n) n];unfold Ay;have e:max 0 (min (if (a:Int)<0 then (a:Int)+n else (a:Int)) (n:Int))=((min a n:Nat):Int):=by rw [if_neg (by omega)];omega
 simp only [show (1:Int) > 0 by decide,if_true];rw [e]
theorem Zqn (z:Str)(b:Nat):(Yn z none (some (b:Int))).cps.toList=z.cps.toList.take b:=by
 unfold Yn;rw [Xqs];have hl:z.cps.toList.length=z.length:=by simp [DX]
 split;rename_i h;rw [Al,C9] at h;have h':min b z.length=z.length:=by simpa using h
 rw [BF (by omega)];show ((A7 (min b z.length)).map fun k=>0+k).filterMap (fun k=>z.cps[k]?)=_;rw [FQ];have e:((fun k=>z.cps[k]?)∘fun k=>0+k)=fun k=>z.cps.toList[k]?:=funext fun k=>by show z.cps[0+k]?=_;rw [Hj,Dw]
 rw [e,Zig,<- hl];by_cases hb:b<=z.cps.toList.length;rw [Ds hb];rw [En (by omega),Gn,BF (by omega)]
theorem Zji (z:Str)(a:Nat):(Yn z (some (a:Int)) none).cps.toList=z.cps.toList.drop a:=by
 unfold Yn;rw [Zyo];have hl:z.cps.toList.length=z.length:=by simp [DX]
 split;rename_i h;rw [Al,C9] at h;have h':z.length - min a z.length=z.length:=by simpa using h
 by_cases h0:z.length=0;have:z.cps.toList=[]:=List.eq_nil_of_length_eq_zero (by omega);rw [this];simp;have:a=0:=by omega
 rw [this,GK];show ((A7 (z.length - min a z.length)).map fun k=>min a z.length+k).filterMap (fun k=>z.cps[k]?)=_;rw [FQ];have e:((fun k=>z.cps[k]?)∘fun k=>min a z.length+k)=fun k=>(z.cps.toList.drop (min a z.length))[k]?:=funext fun k=>by show z.cps[min a z.length+k]?=_;rw [List.getElem?_drop,Dw]
 rw [e,Zig,BF (by rw [Cc];omega)];by_cases hb:a<=z.length;rw [Ds hb];rw [En (by omega),<- hl,DW,Fb (by omega)]
theorem Xdn:∀d:Nat,d<10->(Nat.digitChar d).toNat=48+d:=by decide
theorem Xhp (n:Nat):Zxf n=if n<10 then [48+n] else Zxf (n / 10)++[48+n % 10]:=by unfold Zxf;rw [Nat.toDigits_eq_if (by decide)];split;rename_i h;rw [AG,Xdn n h];rfl;rw [BY,AG,Xdn _ (Nat.mod_lt _ (by decide))];rfl
theorem Zpz (n:Nat):∀c∈Zxf n,48<=c/\c<=57:=by
 induction n using Nat.strongRecOn with
 | ind n ih =>intro c hc;rw [Xhp] at hc;split at hc;rw [Ak.mp hc];omega;rcases An.mp hc with h | h;exact ih (n / 10) (by omega) c h;rw [Ak.mp h];omega
theorem Xca {k:Nat}(hk:0<k)(h:n<10 ^ k):(Zxf n).length<=k:=by unfold Zxf;rw [Al];exact (Nat.length_toDigits_le_iff (by decide) hk).mpr h
theorem Xcf {k:Nat}(hk:0<k)(h:i.natAbs<10 ^ k):(Xbl i).length<=k+1:=by have:=Xca hk h;unfold Xbl;split;rw [AK];omega;omega
theorem le_0 (c:Nat):Zjm (.str ("0":Str)) (.str ⟨#[c]⟩)=some (.bl (decide (48<=c))):=by
 have e:("0":Str).cps.toList=[48]:=by decide +kernel
 show some (D.bl (!decide ([c]<("0":Str).cps.toList)))=_;rw [e];have q:([c]<[48])↔c<48:=by rw [Cz];simp
 by_cases h:48<=c;rw [decide_eq_false (fun z=>absurd (q.mp z) (by omega)),decide_eq_true h];rfl;rw [decide_eq_true (q.mpr (by omega)),decide_eq_false h];rfl
theorem le_9 (c:Nat):Zjm (.str ⟨#[c]⟩) (.str ("9":Str))=some (.bl (decide (c<=57))):=by
 have e:("9":Str).cps.toList=[57]:=by decide +kernel
 show some (D.bl (!decide (("9":Str).cps.toList<[c])))=_;rw [e];have q:([57]<[c])↔57<c:=by rw [Cz];simp
 by_cases h:c<=57;rw [decide_eq_false (fun z=>absurd (q.mp z) (by omega)),decide_eq_true h];rfl;rw [decide_eq_true (q.mpr (by omega)),decide_eq_false h];rfl
theorem Ztd {a b:Str}(h:a.cps.toList=b.cps.toList):a=b:=by cases a;cases b;congr 1;exact Dm.mp h
theorem Zbx (hl:l.length<=n)(h:∀c∈l,c<128):plain n ⟨l.toArray⟩=true:=by unfold plain;rw [Ae];refine ⟨decide_eq_true ?_,?_⟩;show l.toArray.size<=n;simpa using hl;rw [Bb];intro c hc;exact decide_eq_true (h c (by simpa using hc))
theorem Xci (i:Int):∀c∈Xbl i,45<=c/\c<=57:=fun c hc=>by unfold Xbl at hc;split at hc;rcases Af.mp hc with rfl | h;decide;have:=Zpz _ c h;omega;have:=Zpz _ c hc;omega
theorem Xju (l:List Nat):Zfi (.str ⟨l.toArray⟩) (.str ("-":Str))=some (.bl (decide (l[0]?=some 45))):=by
 have e:("-":Str).cps.toList=[45]:=by decide +kernel
 show (match ("-":Str).cps.toList with | [c]=>some (D.bl (decide ((⟨l.toArray⟩:Str).cps.toList[0]?=some c))) | _=>none)=_;rw [e]
theorem Js {c:Nat}:∀{w:List Nat},c∉w->Zq c w=[w]
 | [],_=>rfl
 | x::r,h=>by have h1:¬x=c:=fun z=>h (by rw [z];exact .head _);rw [Zq,if_neg h1,Js (fun z=>h (.tail _ z))]
theorem Zcg {c:Nat}:∀{w:List Nat} (r:List Nat),c∉w->Zq c (w++c::r)=w::Zq c r
 | [],r,_=>by rw [Es,Zq,if_pos rfl]
 | x::w,r,h=>by have h1:¬x=c:=fun z=>h (by rw [z];exact .head _);rw [Ef,Zq,if_neg h1,Zcg r (fun z=>h (.tail _ z))]
theorem Zil (a b:Str):(a++b).cps.toList=a.cps.toList++b.cps.toList:=CT
theorem len_app (a b:Str):(a++b).length=a.length+b.length:=by show (a.cps++b.cps).size=a.cps.size+b.cps.size;exact D2
theorem Zhx {c:Nat}(hs:s.cps.toList=[c])(w v:Str)(r:List Str):(Ap s (w::v::r)).cps.toList=w.cps.toList++c::(Ap s (v::r)).cps.toList:=by show (w++s++Ap s (v::r)).cps.toList=_;rw [Zil,Zil,hs];simp
theorem Zct {c:Nat}{s:Str}(hs:s.cps.toList=[c]):∀(ws:List Str),ws≠[]->(∀w∈ws,c∉w.cps.toList)->Zq c (Ap s ws).cps.toList=ws.map (·.cps.toList)
 | [],h,_=>absurd rfl h
 | [w],_,h=>Js (h w (.head _))
 | w::v::r,_,h=>by rw [Zhx hs,Zcg _ (h w (.head _)),Zct hs (v::r) (by simp) fun u hu=>h u (.tail _ hu)];rfl
theorem Zpm {s:Str}{B:Nat}(hs:s.length=1):∀(ws:List Str),(∀w∈ws,w.length<=B)->(Ap s ws).length<=ws.length*(B+1)
 | [],_=>BC _
 | [w],h=>by have:=h w (.head _);show w.length<=1*(B+1);omega
 | w::v::r,h=>by have h1:=h w (.head _);have h2:=Zpm hs (v::r) fun u hu=>h u (.tail _ hu);have e:Ap s (w::v::r)=w++s++Ap s (v::r):=rfl;rw [e,len_app,len_app,hs];simp only [AK] at h2 ⊢;have e2:(r.length+1+1)*(B+1)=(r.length+1)*(B+1)+(B+1):=Ez _ _;omega
theorem Ztp {B:Nat}:∀(ws:List Str),(∀w∈ws,w.length<=B)->(ws.map (·.length)).sum<=ws.length*B
 | [],_=>BC _
 | w::r,h=>by have h1:=h w (.head _);have h2:=Ztp r fun u hu=>h u (.tail _ hu);rw [AG,List.sum_cons,AK,Ez];omega
theorem Zgb:∀ws:List Str,strsOf (ws.map D.str)=some ws
 | []=>rfl
 | w::r=>by show (strsOf (r.map D.str)).map (w::·)=_;rw [Zgb r];rfl
theorem sp_1:(" ":Str).cps.toList=[32]:=by decide +kernel
theorem Zme:(" ":Str).length=1:=by decide +kernel
theorem co_1:(":":Str).cps.toList=[58]:=by decide +kernel
structure PcOk (k:Nat)(p:Int×Str):Prop where
 pl:p.1.natAbs<10 ^ k
 nm:Zcv p.2=true
theorem Xpz (h:Zcv z=true):z.length<=8:=by unfold Zcv at h;rw [Ae] at h;exact (of_decide_eq_true h.1).2
theorem Xom (h:Zcv z=true):∀c∈z.cps.toList,97<=c/\c<=122:=by unfold Zcv at h;rw [Ae] at h;exact fun c hc=>of_decide_eq_true (Bb.mp h.2 c hc)
theorem Xhe {k:Nat}(hk:k<=60)(h:n<10 ^ k):n<2 ^ 400:=Aq h (AN (Nat.pow_le_pow_right (by decide) hk) (by decide))
def Zqs (x:Kd):Bool:=decide ((1<=x.w/\x.w<=200)/\(1<=x.wo/\x.wo<=1000000000000000000)/\0<=x.al/\x.al<=999999999999999999)
def ff:Nat->List Str->List Kd->Option Nat
 | _,_,[]=>none
 | k,es,x::r=>if 8<=k\/x.name∈es\/(Zcv x.name&&Zqs x)=false then some k else ff (k+1) (es++[x.name]) r
theorem ch_ii {c:FE}{z:D}(ha:a ρ=.ok (.int i))(hb:b ρ=.ok (.int j))(h:i<=j->Je gLe g' a b c ρ=.ok z)(hf:¬i<=j->z=.bl false):Je gLe g' a b c ρ=.ok z:=by by_cases q:i<=j;exact h q;rw [hf q];exact Zdu ha hb (Zfd q)
theorem Zmr {c:FE}{k:Int}(ha:a ρ=.ok (.int i))(hb:b ρ=.ok (.int j))(hc:c ρ=.ok (.int k)):Je gLe gLe a b c ρ=.ok (.bl (decide (i<=j/\j<=k))):=ch_ii ha hb (fun q=>Zdl ha hb (Zey q) hc (by show some (D.bl (decide (j<=k)))=_;simp [q])) fun q=>by simp [q]
theorem Zrp {x:Kd}(h:Xel x.name):Zcf [.str x.name,.int x.w,.int x.wo,.int x.al]=.ok (.bl (Zcv x.name&&Zqs x)):=by
 have c0:=Zjn h;refine Zbc ?_;show Zmi [some (.str x.name),some (.int x.w),some (.int x.wo),some (.int x.al)]=_;unfold Zqs;cases e:Zcv x.name with
 | false =>rw [e] at c0;exact Xq (Xs (Yx (b:=false) (Xr (Xd (Zg rfl rfl) c0))) (Xu rfl))
 | true =>rw [e] at c0;refine Zm (Xj (Yx (b:=true) (Xr (Xd (Zg rfl rfl) c0))) rfl) ?_;have c1:=Zmr (ρ:=[some (.str x.name),some (.int x.w),some (.int x.wo),some (.int x.al)]) (a:=fC (.int 1)) (b:=fV 1) (c:=fC (.int 200)) rfl rfl rfl;have c2:=Zmr (ρ:=[some (.str x.name),some (.int x.w),some (.int x.wo),some (.int x.al)]) (a:=fC (.int 1)) (b:=fV 2) (c:=fC (.int 1000000000000000000)) rfl rfl rfl;have c3:=Zmr (ρ:=[some (.str x.name),some (.int x.w),some (.int x.wo),some (.int x.al)]) (a:=fC (.int 0)) (b:=fV 3) (c:=fC (.int 999999999999999999)) rfl rfl rfl;by_cases q1:1<=x.w/\x.w<=200;rw [decide_eq_true q1] at c1;refine Zm (Xj (Yx (b:=true) (Xr c1)) rfl) ?_;by_cases q2:1<=x.wo/\x.wo<=1000000000000000000;rw [decide_eq_true q2] at c2;refine Xu (Zkb c2 (c3.trans ?_));simp [q1,q2];rw [decide_eq_false q2] at c2;refine Xu ((Zoj c2).trans ?_);rw [decide_eq_false (fun z=>q2 z.2.1)];rfl;rw [decide_eq_false q1] at c1;rw [decide_eq_false (fun z=>q1 z.1)];exact Xq (Xs (Yx (b:=false) (Xr c1)) (Xu rfl))
def eK:Nat->List Kd->List D
 | _,[]=>[]
 | k,w::r=>.tup [.int (k:Int),kD w]::eK (k+1) r
theorem Zpu:∀(ws:List Kd) (k:Nat),(ws.map kD).mapIdx (fun i d=>D.tup [.int ((i+k:Nat):Int),d])=eK k ws
 | [],_=>rfl
 | w::r,k=>by
  have e2:(fun (i:Nat) (d:D)=>D.tup [.int ((i+1+k:Nat):Int),d])=fun i d=>D.tup [.int ((i+(k+1):Nat):Int),d]:=funext fun i=>funext fun d=>by rw [show i+1+k=i+(k+1) by omega]
  rw [AG,List.mapIdx_cons,eK,<- Zpu r (k+1),Hj,e2]
theorem Xmp (ws:List Kd):Zmc (ws.map kD)=eK 0 ws:=Zpu ws 0
def nmD (es:List Str):D:=.dct (es.map Ck) (es.map fun _=>.bl true)
theorem Xor (es:List Str)(z:Str):Xes (es.map Ck) (Ck z)=decide (z∈es):=by
 unfold Xes;rw [G3]
 induction es with
 | nil=>rfl
 | cons e es ih =>rw [CH,ih];by_cases h:e=z;simp [h];have h':¬z=e:=fun q=>h q.symm;simp [h,h']
theorem put_n (h:z∉es):dPut (es.map Ck) (es.map fun _=>D.bl true) (.inr z) (.bl true)=nmD (es++[z]):=by unfold dPut;rw [Xor,if_neg (by simpa using h)];unfold nmD;rw [BY,BY];rfl
theorem Zrx {L:D}{k:Nat}{x:Kd}{o:Option D}(hx:Xel x.name)(hk:es.length<1000) :
  Zdm [some L,some (nmD es),some (.int k),some (kD x),o]=if 8<=k\/x.name∈es\/(Zcv x.name&&Zqs x)=false then .ok (.ret (.int k)) else .ok (.nx [some L,some (nmD (es++[x.name])),some (.int k),some (kD x),some (.str x.name)]):=by
 have hr:Ys (f1 Yf (fV 2)) [some L,some (nmD es),some (.int k),some (kD x),some (.str x.name)]=.ok (.ret (.int k)):=Xu (Zda rfl rfl);have h0:Yw 4 (f1 Yf (f2 gIx (fV 3) (fC (.int 0)))) [some L,some (nmD es),some (.int k),some (kD x),o]=.ok (.nx [some L,some (nmD es),some (.int k),some (kD x),some (.str x.name)]):=Xo (Zda (Zn rfl rfl (kD_0 x)) rfl);have hd:gDin (.str x.name) (nmD es)=some (.bl (decide (x.name∈es))):=by show some (D.bl (Xes (es.map Ck) (Ck x.name)))=_;rw [Xor]
 have hkk:=Zrp hx;unfold Zdm;refine Eq.trans (Zm h0 rfl) ?_;by_cases h1:8<=k;rw [if_pos (Am h1)];exact Xq (Xs (Zeh (Xr (Zn rfl rfl (Zey (p:=(k:Int)>=8) (by omega))))) hr);have c1:cE (f2 gGe (fV 2) (fC (.int 8))) [some L,some (nmD es),some (.int k),some (kD x),some (.str x.name)]=.ok false:=Xr (Zn rfl rfl (Zfd (p:=(k:Int)>=8) (by omega)));by_cases h2:x.name∈es;rw [if_pos (Dy (Am h2))];exact Xq (Xs (Ji c1 (Xr (Zn rfl rfl (hd.trans (Zey h2))))) hr);refine Eq.trans (Zm (Xj (Ji c1 (Xr (Zn rfl rfl (hd.trans (Zfd h2))))) rfl) rfl) ?_;have cl:Xe Zcf (Zb (fV 4) (Zb (f2 gIx (fV 3) (fC (.int 1))) (Zb (f2 gIx (fV 3) (fC (.int 2))) (Zb (f2 gIx (fV 3) (fC (.int 3))) Zr)))) [some L,some (nmD es),some (.int k),some (kD x),some (.str x.name)]=.ok (.bl (Zcv x.name&&Zqs x)):=Xd (Zg rfl (Zg (Zn rfl rfl (kD_1 x)) (Zg (Zn rfl rfl (kD_2 x)) (Zg (Zn rfl rfl (kD_3 x)) rfl)))) hkk;cases e:(Zcv x.name&&Zqs x) with
 | false =>rw [e] at cl;rw [if_pos (Dy (Dy rfl))];exact Xq (Xs (Yx (b:=false) (Xr cl)) hr)
 | true =>rw [e] at cl;rw [if_neg (by simp [h2];omega)];refine Zm (Xj (Yx (b:=true) (Xr cl)) rfl) ?_;show (if flat (D.bl true)=true/\Jg (es.map fun _=>D.bl true)=true/\(es.map (Ck:Str->Int ⊕ Str)).length<lim then _ else _)=_;rw [if_pos ⟨rfl,Zik (fun _=>rfl) es,by rw [Al];exact DU hk (by decide)⟩,put_n h2];rfl
theorem Zjo:∀(ws:List Kd) (k:Nat) (L:D) (es:List Str) (a b o:Option D),(∀x∈ws,Xel x.name)->es.length=k->k+ws.length<=1000->match ff k es ws with
  | some j=>Zeb (Zxz (Zdy (Xi 2) (Zdy (Xi 3) Zvz))) Zdm (eK k ws) [some L,some (nmD es),a,b,o]=.ok (.ret (.int (j:Int)))
  | none=>∃ρ,Zeb (Zxz (Zdy (Xi 2) (Zdy (Xi 3) Zvz))) Zdm (eK k ws) [some L,some (nmD es),a,b,o]=.ok (.nx ρ)
 | [],_,_,_,a,b,o,_,_,_=>⟨_,rfl⟩
 | w::r,k,L,es,a,b,o,hn,he,h=>by have hl:(w::r).length=r.length+1:=rfl;have t:=Zrx (L:=L) (k:=k) (x:=w) (es:=es) (o:=o) (hn w (.head _)) (by omega);rw [eK,Jf (ρ1:=[some L,some (nmD es),some (.int k),some (kD w),o]) rfl,t];unfold ff;by_cases c:8<=k\/w.name∈es\/(Zcv w.name&&Zqs w)=false;rw [if_pos c,if_pos c];rfl;rw [if_neg c,if_neg c];exact Zjo r (k+1) L _ _ _ _ (fun x hx=>hn x (.tail _ hx)) (by rw [AE,he];rfl) (by omega)
def rK (ks:List Kd):D:=match ff 0 [] ks with
 | some j=>.int (j:Int)
 | none=>.non
theorem Xbd (hn:∀x∈ks,Xel x.name)(h:ks.length<=1000):Zgk [tD ks]=.ok (rK ks):=by
 have l:=Zjo ks 0 (tD ks) [] none none none hn rfl (by omega);have hj:Xcj (fV 0) [some (tD ks),some (nmD []),none,none,none]=.ok (eK 0 ks):=by show (if (ks.map kD).length<=lim then R.ok (Zmc (ks.map kD)) else .bad)=_;rw [if_pos (by rw [Al];exact AN h (by decide)),Xmp]
 unfold rK;cases e:ff 0 [] ks with
 | some j =>rw [e] at l;exact Zbc (Zm (Xo rfl) (Xq (Zea hj l)))
 | none =>rw [e] at l;obtain ⟨ρ,l⟩:=l;exact Zbc (Zm (Xo rfl) (Zm (Zea hj l) (Xu rfl)))
theorem Zys {B:Nat}(hs:s.length<=3)(hB:B<=100)(hl:ws.length<=1000)(h:∀w∈ws,w.length<=B):Zpg (.str s) (.lst (ws.map D.str))=some (.str (Ap s ws)):=by unfold Zpg;simp only [];rw [Zgb,FN];have h1:=Ztp ws h;have h2:ws.length*B<=1000*100:=Ej hl hB;have h3:ws.length*s.length<=1000*3:=Ej hl hs;rw [if_pos (by show _<=1000000;omega)]
theorem Znb {s:Str}{B:Nat}(hs:s.length<=3):∀(ws:List Str),(∀w∈ws,w.length<=B)->(Ap s ws).length<=ws.length*(B+3)
 | [],_=>BC _
 | [w],h=>by have:=h w (.head _);show w.length<=1*(B+3);omega
 | w::v::r,h=>by have h1:=h w (.head _);have h2:=Znb hs (v::r) fun u hu=>h u (.tail _ hu);have e:Ap s (w::v::r)=w++s++Ap s (v::r):=rfl;rw [e,len_app,len_app];simp only [AK] at h2 ⊢;have e2:(r.length+1+1)*(B+3)=(r.length+1)*(B+3)+(B+3):=Ez _ _;omega
structure KW (k:Kd):Prop where
 nm:Zcv k.name=true
 nr:Zqs k=true
def Zec:FS:=
 (sIf (cE (f2 Zfz (fV 2) (fC (.str ("0123456789":Str))))) (Ys (fC .non)) sNx)
def Zmh:FS:=
  (Xp (Yw 1 (f1 Yf (fV 0)))
    (Xp (sIf (cE (f2 gEq (fSl Ziv (fV 0) Zba (Jw (fC (.int 1)))) (fC (.str ("-":Str))))) (Yw 1 (fSl Ziv (fV 0) (Jw (fC (.int 1))) Zba)) sNx)
    (Xp (sIf (cOr (cE (f2 gLt (fA Zcn (Zb (fV 1) Zr)) (fC (.int 1)))) (cE (f2 gGt (fA Zcn (Zb (fV 1) Zr)) (fC (.int 20))))) (Ys (fC .non)) sNx)
    (Xp (Znt (Ztw (fV 1)) (Xi 2) Zec)
    (Xp (sIf (Zxy (cE (f2 gEq (f2 gIx (fV 1) (fC (.int 0))) (fC (.str ("0":Str))))) (cE (f2 gNe (fV 0) (fC (.str ("0":Str)))))) (Ys (fC .non)) sNx)
    (Ys (fA Zoc (Zb (fV 0) Zr))))))))
def Xm (ds:List D):R D:=(run 3 Zmh ds).calm
def Zfm:FS:=
 (sIf (cE (f2 Zfz (fV 1) (fC (.str ("abcdefghijklmnopqrstuvwxyz":Str))))) (Ys (fC .non)) sNx)
def Zij:FS:=
  (Xp (sIf (cOr (cE (f2 gLt (fA Zcn (Zb (fV 0) Zr)) (fC (.int 1)))) (cE (f2 gGt (fA Zcn (Zb (fV 0) Zr)) (fC (.int 8))))) (Ys (fC .non)) sNx)
    (Xp (Znt (Ztw (fV 0)) (Xi 1) Zfm)
    (Ys (f1 Yf (fV 0)))))
def Jc (ds:List D):R D:=(run 2 Zij ds).calm
def Jn:FS:=
  (Xp (Yw 5 (fSl gSl (fV 1) (Jw (f2 Jy (fC (.int 1)) (f2 Zdv (fC (.int 4)) (fV 4)))) (Jw (f2 Jy (fC (.int 5)) (f2 Zdv (fC (.int 4)) (fV 4))))))
    (Xp (Yw 6 (f1 Yf (f2 gIx (f2 Jy (fV 3) (fC (.str ("0123456789 -/:a":Str)))) (f2 gIx (fV 5) (fC (.int 2))))))
    (Xp (Yw 7 (f2 Zfl (f2 gIx (fV 5) (fC (.int 1))) (f2 Jy (fA Zcn (Zb (fV 0) Zr)) (fC (.int 1)))))
    (Xp (sIf (cE (f2 gEq (f2 gIx (fV 5) (fC (.int 0))) (fC (.int 0)))) (Yw 0 (f2 Jy (f2 Jy (fSl Ziv (fV 0) Zba (Jw (fV 7))) (fV 6)) (fSl Ziv (fV 0) (Jw (fV 7)) Zba))) sNx)
    (Xp (sIf (cE (f2 gEq (f2 gIx (fV 5) (fC (.int 0))) (fC (.int 1)))) (Yw 0 (f2 Jy (fSl Ziv (fV 0) Zba (Jw (fV 7))) (fSl Ziv (fV 0) (Jw (f2 Jy (fV 7) (fC (.int 1)))) Zba))) sNx)
    (Xp (sIf (cE (f2 gEq (f2 gIx (fV 5) (fC (.int 0))) (fC (.int 2)))) (Yw 0 (f2 Jy (f2 Jy (fSl Ziv (fV 0) Zba (Jw (fV 7))) (fV 6)) (fSl Ziv (fV 0) (Jw (f2 Jy (fV 7) (fC (.int 1)))) Zba))) sNx)
    (sIf (cE (f2 gEq (f2 gIx (fV 5) (fC (.int 0))) (fC (.int 3)))) (Xp (Yw 8 (fSm Zag (fV 0) (fC (.str (" ":Str)))))
    (Xp (Xqk 8 (f2 Zfl (f2 gIx (fV 5) (fC (.int 1))) (fA Zcn (Zb (fV 8) Zr))) (f2 gIx (fV 2) (f2 gIx (fV 5) (fC (.int 3)))))
    (Yw 0 (Zfr (fC (.str (" ":Str))) (fV 8))))) sNx)))))))
def Zhs:FS:=
  (Xp (Yw 2 (fA Zaz (Zb (fC (.str ("01":Str))) (Zb (fC (.str ("-0":Str))) (Zb (f2 Zth (fC (.str ("1":Str))) (fC (.int 21))) (Zb (fC (.str ("":Str))) (Zb (fC (.str ("abcdefghi":Str))) (Zb (fC (.str ("a 1 1 1":Str))) (Zb (fC (.str ("201":Str))) (Zb (fC (.str ("0":Str))) (Zb (fC (.str ("1:a":Str))) (Zb (fC (.str ("a:1":Str))) (Zb (fC (.str ("/":Str))) (Zb (fC (.str ("-":Str))) (Zb (fC (.str ("1:":Str))) (Zb (fC (.str (":a":Str))) (Zb (fC (.str ("1::a":Str))) Zr)))))))))))))))))
    (Xp (Yw 3 (fC (.str (" !\"#$&'()*+,-./0123456789:;<=>?@ABCDEFGHIJKLMNOPQRSTUVWXYZ":Str))))
    (Xp (Yw 3 (f2 Jy (fV 3) (fC (.str ("[\\]^_`abcdefghijklmnopqrstuvwxyz{|}~":Str)))))
    (Xp (Znt (Zhp (Zb (f2 gIx (fV 1) (fC (.int 0))) Zr)) (Xi 4) Jn)
    (Ys (f1 Yf (fV 0)))))))
def Zam (ds:List D):R D:=(run 9 Zhs ds).calm
def Zjz:FS:=
  (Xp (sIf (Zlc (cE (Xe Zbl (Zb (fV 0) Zr)))) (Zed "NoLine" (Zb (f1 Xap (fV 0)) Zr)) sNx)
    (Ys (fA Zoc (Zb (fV 0) Zr))))
def Zt (ds:List D):R D:=run 1 Zjz ds
def Zpf:FS:=
  (Xp (sIf (Zlc (cE (Xe Zbi (Zb (fV 0) Zr)))) (Zed "NoLine" (Zb (f1 Xap (fV 0)) Zr)) sNx)
    (Ys (f1 Yf (fV 0))))
def Yg (ds:List D):R D:=run 1 Zpf ds
def Zfp:FS:=
  (Xp (sIf (cE (f2 gEq (fV 0) (fC (.str ("-":Str))))) (Ys (fA Zaz Zr)) sNx)
    (Xp (Yw 1 (Zbq 2 1 (Zbo (fSm Zag (fV 0) (fC (.str (" ":Str))))) (Xi 2) Zjg (Xe Xm (Zb (fV 2) Zr))))
    (Xp (sIf (cE (f2 gIn (fC .non) (fV 1))) (Ys (fC .non)) sNx)
    (Ys (fV 1)))))
def Ya (ds:List D):R D:=(run 2 Zfp ds).calm
def Yb:FS:=
  (Xp (Yw 3 (fSm Zag (fV 2) (fC (.str (":":Str)))))
    (Xp (sIf (cOr (cE (f2 gNe (fA Zcn (Zb (fV 3) Zr)) (fC (.int 2)))) (cOr (cE (f2 gIs (Xe Xm (Zb (f2 gIx (fV 3) (fC (.int 0))) Zr)) (fC .non))) (cE (f2 gIs (Xe Jc (Zb (f2 gIx (fV 3) (fC (.int 1))) Zr)) (fC .non))))) (Ys (fC .non)) sNx)
    (Zsw 1 (fA Zdq (Zb (Xe Xm (Zb (f2 gIx (fV 3) (fC (.int 0))) Zr)) (Zb (f1 Yf (f2 gIx (fV 3) (fC (.int 1)))) Zr))))))
def Zfs:FS:=
  (Xp (sIf (cE (f2 gEq (fV 0) (fC (.str ("-":Str))))) (Ys (fA Zaz Zr)) sNx)
    (Xp (Yw 1 (fA Zaz Zr))
    (Xp (Znt (Zbo (fSm Zag (fV 0) (fC (.str (" ":Str))))) (Xi 2) Yb)
    (Ys (fV 1)))))
def Xz (ds:List D):R D:=(run 4 Zfs ds).calm
def Xv:FS:=
  (Xp (Yw 3 (fSm Zag (fV 2) (fC (.str (" ":Str)))))
    (Xp (sIf (cOr (cE (f2 gNe (fA Zcn (Zb (fV 3) Zr)) (fC (.int 4)))) (cE (f2 gIs (Xe Jc (Zb (f2 gIx (fV 3) (fC (.int 0))) Zr)) (fC .non)))) (Ys (fC .non)) sNx)
    (Xp (Yw 4 (Zbq 5 1 (Zbo (fSl gSl (fV 3) (Jw (fC (.int 1))) Zba)) (Xi 5) Zjg (Xe Xm (Zb (fV 5) Zr))))
    (Xp (sIf (cOr (cE (f2 gIn (fC .non) (fV 4))) (cOr (cE (f2 gIn (f2 gIx (fV 3) (fC (.int 0))) (Zbq 5 1 (Zbo (fV 1)) (Xi 5) Zjg (f1 Yf (f2 gIx (fV 5) (fC (.int 0))))))) (cE (f2 gGt (fA Zcn (Zb (fV 1) Zr)) (fC (.int 7)))))) (Ys (fC .non)) sNx)
    (Xp (sIf (cOr (Zlc (cE (Je gLe gLe (fC (.int 1)) (f2 gIx (fV 4) (fC (.int 0))) (fC (.int 200))))) (cOr (Zlc (cE (Je gLe gLe (fC (.int 1)) (f2 gIx (fV 4) (fC (.int 1))) (f2 Zis (fC (.int 10)) (fC (.int 18)))))) (Zlc (cE (Je gLe gLt (fC (.int 0)) (f2 gIx (fV 4) (fC (.int 2))) (f2 Zis (fC (.int 10)) (fC (.int 18)))))))) (Ys (fC .non)) sNx)
    (Zsw 1 (fA Zdq (Zb (f1 Yf (f2 gIx (fV 3) (fC (.int 0)))) (Zb (f1 Yf (f2 gIx (fV 4) (fC (.int 0)))) (Zb (f1 Yf (f2 gIx (fV 4) (fC (.int 1)))) (Zb (f1 Yf (f2 gIx (fV 4) (fC (.int 2)))) Zr)))))))))))
def Zhb:FS:=
  (Xp (sIf (cE (f2 gEq (fV 0) (fC (.str ("-":Str))))) (Ys (fA Zaz Zr)) sNx)
    (Xp (Yw 1 (fA Zaz Zr))
    (Xp (Znt (Zbo (fSm Zdk (fV 0) (fC (.str (" / ":Str))))) (Xi 2) Xv)
    (Ys (fV 1)))))
def Yj (ds:List D):R D:=(run 5 Zhb ds).calm
def Zjc:FS:=
  (Xp (sIf (cE (f2 gEq (fV 0) (fC (.str ("-":Str))))) (Ys (fA Zaz Zr)) sNx)
    (Ys (Zel 1 1 (Zbo (fSm Zag (fV 0) (fC (.str (" ":Str))))) (Xi 1) (Xe Zt (Zb (fV 1) Zr)))))
def Yr (ds:List D):R D:=run 1 Zjc ds
def Zeu:FS:=
  (Xp (Yw 1 (fSm Zag (fV 0) (fC (.str (" ":Str)))))
    (Xp (sIf (cE (f2 gNe (fA Zcn (Zb (fV 1) Zr)) (fC (.int 4)))) (Zed "NoLine" (Zb (f1 Xap (fV 0)) Zr)) sNx)
    (Ys (fA Zdq (Zb (Xe Yg (Zb (f2 gIx (fV 1) (fC (.int 0))) Zr)) (Zb (Xe Zt (Zb (f2 gIx (fV 1) (fC (.int 1))) Zr)) (Zb (Xe Zt (Zb (f2 gIx (fV 1) (fC (.int 2))) Zr)) (Zb (Xe Zt (Zb (f2 gIx (fV 1) (fC (.int 3))) Zr)) Zr))))))))
def Zal (ds:List D):R D:=run 2 Zeu ds
def Zdi:FS:=
  (Xp (Yw 1 (fSm Zsq (fV 0) (fC (.str (":":Str)))))
    (Ys (fA Zdq (Zb (Xe Zt (Zb (f2 gIx (fV 1) (fC (.int 0))) Zr)) (Zb (Xe Yg (Zb (f2 gIx (fV 1) (fC (.int 2))) Zr)) Zr)))))
def Zay (ds:List D):R D:=run 2 Zdi ds
def Zoh:FS:=
  (Xp (sIf (cE (f2 gEq (f2 gIx (fV 2) (fC (.int 0))) (fC (.int 0)))) (Xp (Yw 3 (fSl gSl (Xe Yi (Zb (fV 0) (Zb (fC (.int 3)) (Zb (f2 Zdv (fA Zaz (Zb (f2 Zis (fC (.int 10)) (fC (.int 18))) Zr)) (fC (.int 5))) Zr)))) Zba (Jw (f2 gIx (fV 2) (fC (.int 1))))))
    (Ys (Zfr (fC (.str (" ":Str))) (Zbq 4 1 (Zbo (fV 3)) (Xi 4) Zjg (fA Zkr (Zb (f2 Zru (fV 4) (fC (.int 5))) Zr)))))) sNx)
    (Xp (sIf (cE (f2 gEq (f2 gIx (fV 2) (fC (.int 0))) (fC (.int 1)))) (Ys (Zfr (fC (.str (" ":Str))) (Zbq 4 1 (Zhp (Zb (fA Zcn (Zb (fV 1) Zr)) Zr)) (Xi 4) Zjg (f2 Jy (f2 Jy (fA Zkr (Zb (f2 Zdv (fV 4) (f2 gIx (fV 2) (fC (.int 2)))) Zr)) (fC (.str (":":Str)))) (f2 gIx (f2 gIx (fV 1) (fV 4)) (fC (.int 0))))))) sNx)
    (Ys (Zfr (fC (.str (" / ":Str))) (Zbq 4 1 (Zbo (fV 1)) (Xi 4) Zjg (Zfr (fC (.str (" ":Str))) (Zbq 5 1 (Xlk (fV 4)) (Xi 5) Zjg (fA Zkr (Zb (fV 5) Zr)))))))))
def Zbn (ds:List D):R D:=(run 4 Zoh ds).calm
def Znd:FS:=
  (Xp (sIf (cE (f2 gEq (fV 0) (fC (.str ("-":Str))))) (Ys (fA Zaz Zr)) sNx)
    (Xp (Yw 1 (Zel 2 1 (Zbo (fSm Zdk (fV 0) (fC (.str (" / ":Str))))) (Xi 2) (Xe Zal (Zb (fV 2) Zr))))
    (Xp (sIf (cE (f2 Zml (Xe Zgk (Zb (fV 1) Zr)) (fC .non))) (Zed "NoLine" (Zb (f1 Xap (fV 0)) Zr)) sNx)
    (Ys (fV 1)))))
def Yv (ds:List D):R D:=run 2 Znd ds
def Ziw:FS:=
  (Xp (sIf (cE (f2 gEq (fV 0) (fC (.str ("-":Str))))) (Ys (fA Zaz Zr)) sNx)
    (Ys (Zel 1 1 (Zbo (fSm Zag (fV 0) (fC (.str (" ":Str))))) (Xi 1) (Xe Zay (Zb (fV 1) Zr)))))
def Yq (ds:List D):R D:=run 1 Ziw ds
def Zgn:FS:=
  (Xdp ["NoLine"] 3 2 (Xp (sIf (cE (f2 gEq (fV 0) (fC (.int 0)))) (Ys (fA Zdq (Zb (fC (.str ("told":Str))) (Zb (Xe Yr (Zb (fV 1) Zr)) Zr)))) sNx)
    (Xp (sIf (cE (f2 gEq (fV 0) (fC (.int 1)))) (Ys (fA Zdq (Zb (fC (.str ("told":Str))) (Zb (Xe Yq (Zb (fV 1) Zr)) Zr)))) sNx)
    (Ys (fA Zdq (Zb (fC (.str ("told":Str))) (Zb (Xe Yv (Zb (fV 1) Zr)) Zr)))))) (Xp (sIf (Zxy (cE (f1 (Zpn [("NoLine",true)]) (fV 2))) (cE (f1 (Zpn [("NoLine",true)]) (fV 2)))) (sIf (Zxy (Zlc (cE (f1 (Zpn [("NoLine",false)]) (fV 2)))) (Zlc (cE (f1 (Zpn [("NoLine",false)]) (fV 2))))) (Ys (fA Zdq (Zb (fC (.str ("none":Str))) (Zb (fA Zaz Zr) Zr)))) sNx) sNx)
    (Ys (fA Zdq (Zb (fC (.str ("other":Str))) (Zb (fA Zaz Zr) Zr))))))
def Jl (ds:List D):R D:=(run 3 Zgn ds).calm
def Zgv:FS:=
  (Xp (Yw 2 (Xe Ya (Zb (fV 1) Zr)))
    (Xp (sIf (cE (f2 gEq (fV 0) (fC (.int 1)))) (Yw 2 (Xe Xz (Zb (fV 1) Zr))) sNx)
    (Xp (sIf (cE (f2 gEq (fV 0) (fC (.int 2)))) (Yw 2 (Xe Yj (Zb (fV 1) Zr))) sNx)
    (Xp (Xhj (Xe Jl (Zb (fV 0) (Zb (fV 1) Zr))) (Zxz (Zdy (Xi 3) (Zdy (Xi 4) Zvz))))
    (Xp (sIf (cE (f2 gIs (fV 2) (fC .non))) (Ys (f2 gEq (fV 3) (fC (.str ("none":Str))))) sNx)
    (Ys (Ztl (f2 gEq (fV 3) (fC (.str ("told":Str)))) (Ztl (f1 (Zus "list") (fV 4)) (f2 gEq (fV 4) (fV 2))))))))))
def Jv (ds:List D):R D:=(run 5 Zgv ds).calm
def Zhh:FS:=
 (sIf (cOr (Zlc (cE (Xe Jv (Zb (fV 6) (Zb (fV 4) Zr))))) (Zlc (cE (Xe Jv (Zb (f2 Zfl (f2 Jy (fV 6) (fV 5)) (fC (.int 3))) (Zb (fV 3) Zr)))))) (Ys (fC (.bl false))) sNx)
def Zku:FS:=
 (Znt (Zhp (Zb (fC (.int 3)) Zr)) (Xi 6) Zhh)
def q_law:FS:=
  (Xp (Yw 1 (Xe Zax (Zb (fV 0) (Zb (fC (.int 0)) (Zb (fC (.int 5)) Zr)))))
    (Xp (Yw 2 (Xe Yi (Zb (fV 0) (Zb (fC (.int 1)) (Zb (fA Zaz (Zb (fC (.int 3)) (Zb (fC (.int 6)) (Zb (fC (.int 40)) (Zb (fC (.int 3)) (Zb (fC (.int 8)) Zr)))))) Zr)))))
    (Xp (Yw 3 (Xe Zbn (Zb (fV 0) (Zb (fV 1) (Zb (fV 2) Zr)))))
    (Xp (sIf (cE (f2 gEq (fV 3) (fC (.str ("":Str))))) (Yw 3 (f1 Yf (f2 gIx (fA Zaz (Zb (fC (.str ("":Str))) (Zb (fC (.str ("-":Str))) Zr))) (fA Xnm (Zb (f2 gGt (f2 gIx (fV 2) (fC (.int 3))) (fC (.int 0))) Zr))))) sNx)
    (Xp (sIf (cE (f2 gEq (f2 gIx (fV 2) (fC (.int 4))) (fC (.int 0)))) (Yw 3 (Zfr (fC (.str (" / ":Str))) (Zbq 7 1 (Ztw (fSl Ziv (fC (.str ("abcdefghi":Str))) Zba (Jw (f2 Jy (fC (.int 8)) (f2 Zfl (f2 gIx (fV 2) (fC (.int 1))) (fC (.int 2))))))) (Xi 7) Zjg (f2 Jy (fV 7) (fC (.str (" 1 1 0":Str))))))) sNx)
    (Xp (Yw 4 (Xe Zam (Zb (fV 3) (Zb (Xe Yi (Zb (fV 0) (Zb (fC (.int 2)) (Zb (f2 Jy (fA Zaz (Zb (fC (.int 3)) Zr)) (f2 Zdv (fA Zaz (Zb (fC (.int 4)) (Zb (fC (.int 400)) (Zb (fC (.int 109)) (Zb (fC (.int 15)) Zr))))) (fC (.int 2)))) Zr)))) Zr))))
    (Xp (Znt (Zhp (Zb (fC (.int 2)) Zr)) (Xi 5) Zku)
    (Ys (fC (.bl true))))))))))
def Xkl (ds:List D):R D:=(run 7 q_law ds).calm
def Zdn (l:List Nat):List Nat:=if l[0]?=some 45 then l.drop 1 else l
def dgN (c:Nat):Bool:=decide (48<=c/\c<=57)
def isN (l:List Nat):Bool:=decide (1<=(Zdn l).length/\(Zdn l).length<=20)&&(Zdn l).all dgN&&(decide (l=[48])||!decide ((Zdn l)[0]?=some 48))
def pvN (l:List Nat):Int:=(Zgz l).getD 0
theorem Zmy (h:isN l=true):Zgz l=some (pvN l):=by
 have h1:decide (1<=(Zdn l).length/\(Zdn l).length<=20)=true/\(Zdn l).all dgN=true:=by unfold isN at h;rw [Ae,Ae] at h;exact h.1
 have dg:Xld (Zdn l)=true:=by
  unfold Xld;rw [Ae];refine ⟨?_,h1.2⟩;have:=(of_decide_eq_true h1.1).1;cases e:Zdn l with
  | nil=>rw [e] at this;exact absurd this (by decide)
  | cons a r=>rfl
 have:∃i,Zgz l=some i:=by
  cases l with
  | nil=>exact absurd dg (by decide)
  | cons c r =>by_cases hc:c=45;subst hc;have e:Zdn (45::r)=r:=rfl;rw [e] at dg;exact ⟨_,by rw [Zgz,if_pos rfl,if_pos dg]⟩;have e:Zdn (c::r)=c::r:=if_neg (by simpa using hc);rw [e] at dg;exact ⟨_,by rw [Zgz,if_neg hc,if_pos dg]⟩
 obtain ⟨i,e⟩:=this;unfold pvN;rw [e];rfl
def Zco (z:Str):Str:=⟨(Zdn z.cps.toList).toArray⟩
theorem Zqz (z:Str):(Zco z).cps.toList=Zdn z.cps.toList:=rfl
theorem Zob (l:List Nat):(Zdn l).length<=l.length:=by unfold Zdn;split;rw [Cc];omega;exact AF _
theorem Jz (z:Str):z.cps.toList.length=z.length:=by simp [DX]
theorem Zfe (z:Str):(Zco z).length=(Zdn z.cps.toList).length:=by rw [<- Jz,Zqz]
theorem plain_len (h:plain n z=true):z.length<=n:=by unfold plain at h;rw [Ae] at h;exact of_decide_eq_true h.1
theorem Jp (h:plain n z=true):∀c∈z.cps.toList,c<128:=by unfold plain at h;rw [Ae] at h;exact fun c hc=>of_decide_eq_true (Bb.mp h.2 c hc)
theorem str_mk (z:Str):(⟨z.cps.toList.toArray⟩:Str)=z:=Ztd rfl
theorem Xgl (z:Str):Zfi (.str z) (.str ("-":Str))=some (.bl (decide (z.cps.toList[0]?=some 45))):=by have h:=Xju z.cps.toList;rw [str_mk] at h;exact h
theorem Zvk (h:z.cps.toList[0]?=some 45):Yn z (some 1) none=Zco z:=Ztd ((Zji _ 1).trans (by rw [Zqz];unfold Zdn;rw [if_pos h]))
theorem Xdo (h:¬z.cps.toList[0]?=some 45):Zco z=z:=Ztd (by rw [Zqz];unfold Zdn;rw [if_neg h])
theorem Zxa:∀l:List Nat,l.any (id∘fun c=>!dgN c)=!l.all dgN
 | []=>rfl
 | a::r=>by rw [CH,E5,Bool.not_and,Zxa r];rfl
theorem Xhg (l:List Nat):Xiv [.lst (l.map fun c=>D.bl (!dgN c))]=some (.bl (!l.all dgN)):=by have:=any_bools (l.map fun c=>!dgN c);rw [Dt] at this;refine Eq.trans this ?_;congr 2;rw [G3];exact Zxa l
theorem s0_l:("0":Str).cps.toList=[48]:=by decide +kernel
theorem eq_0 (z:Str):(z=("0":Str))↔z.cps.toList=[48]:=⟨fun h=>by rw [h,s0_l],fun h=>Ztd (by rw [h,s0_l])⟩
theorem Xge (c:Nat):((⟨#[c]⟩:Str)=("0":Str))↔c=48:=by rw [eq_0];simp
theorem Xrb (h1:decide (1<=(Zdn l).length/\(Zdn l).length<=20)=true)(h2:(Zdn l).all dgN=true):isN l=(decide (l=[48])||!decide ((Zdn l)[0]?=some 48)):=by unfold isN;rw [h1,h2];rfl
theorem Xds {c:Nat}(hz:z.length<=1000)(ed:Zdn z.cps.toList=c::r):gIx (.str (Zco z)) (.int 0)=some (.str ⟨#[c]⟩):=by unfold gIx;simp only [];have:=Zob z.cps.toList;rw [Jz] at this;rw [if_pos (by show (Zco z).length<=1000000;rw [Zfe];omega),Zho (xs:=(Zco z).cps.toList) (i:=0) (k:=0) (x:=c) rfl (by rw [Zqz,ed];rfl)];rfl
theorem Zyd (h:plain 1000 z=true):Zbl [.str z]=.ok (.bl (isN z.cps.toList)):=by
 have hz:=plain_len h;have e1:fIf (cE (fSm Zfi (fV 0) (fC (.str ("-":Str))))) (fSl Ziv (fV 0) (Jw (fC (.int 1))) Zba) (f1 Yf (fV 0)) [some (.str z),none]=.ok (.str (Zco z)):=by
  have hs:fSm Zfi (fV 0) (fC (.str ("-":Str))) [some (.str z),none]=.ok (.bl (decide (z.cps.toList[0]?=some 45))):=by show oR (Zfi (.str z) (.str ("-":Str)))=_;rw [Xgl];rfl
  by_cases hi:z.cps.toList[0]?=some 45;exact Xlr (Xr (hs.trans (congrArg R.ok (congrArg D.bl (decide_eq_true hi))))) (Zyb rfl (Zbj rfl) rfl ((Zgo _ _ h (by decide)).trans (by rw [Zvk hi])));refine Xod (Xr (hs.trans (congrArg R.ok (congrArg D.bl (decide_eq_false hi))))) (Zda rfl ?_);rw [Xdo hi];rfl
 have hF:(Zco z).length<=1000:=by have:=Zob z.cps.toList;rw [Jz] at this;rw [Zfe];omega
 have hl:fA Zcn (Zb (fV 1) Zr) [some (.str z),some (.str (Zco z))]=.ok (.int (Zco z).length):=Zdd (Zg rfl rfl) (Zut (z:=Zco z) hF);have sg:∀c:Nat,f1 Xlb (Je Zjm Zjm (fC (.str ("0":Str))) (fV 2) (fC (.str ("9":Str)))) [some (.str z),some (.str (Zco z)),some (.str ⟨#[c]⟩)]=.ok (.bl (!dgN c)):=fun c=>by unfold dgN;by_cases h1:48<=c;exact Zda (Zdl rfl rfl ((le_0 c).trans (Zey h1)) rfl (le_9 c)) (by simp [h1]);exact Zda (Zdu rfl rfl ((le_0 c).trans (Zfd h1))) (by simp [h1])
 have an:fA Xiv (Zb (Zbq 2 1 (Ztw (fV 1)) (Xi 2) Zjg (f1 Xlb (Je Zjm Zjm (fC (.str ("0":Str))) (fV 2) (fC (.str ("9":Str)))))) Zr) [some (.str z),some (.str (Zco z))]=.ok (.bl (!(Zdn z.cps.toList).all dgN)):=Zdd (Zg (Zej rfl (Xew (z:=Zco z) hF rfl) (Zei (v:=fun c=>D.bl (!dgN c)) rfl fun c _=>sg c)) rfl) (Xhg _);refine Zbc (Zm (Xo e1) ?_);have hl':=Zfe z;by_cases q1:1<=(Zdn z.cps.toList).length;by_cases q2:(Zdn z.cps.toList).length<=20;refine Zm (Xj (Yx (b:=true) (Xr (Zdl rfl hl (Zey (p:=(1:Int)<=(Zco z).length) (by omega)) rfl (Zey (p:=((Zco z).length:Int)<=20) (by omega))))) rfl) ?_;cases q3:(Zdn z.cps.toList).all dgN with
 | false =>
  rw [q3] at an;have e:isN z.cps.toList=false:=by unfold isN;rw [q3];simp
  rw [e];exact Xq (Xs (Xr an) (Xu rfl))
 | true =>
  rw [q3] at an;rw [Xrb (decide_eq_true ⟨q1,q2⟩) q3];refine Zm (Xj (Xr an) rfl) (Xu ?_);show fOr _ _ [some (.str z),some (.str (Zco z))]=_;by_cases h0:z.cps.toList=[48];have hq:f2 gEq (fV 0) (fC (.str ("0":Str))) [some (.str z),some (.str (Zco z))]=.ok (.bl true):=Zn rfl rfl ((Zcc _ _).trans (Zey ((eq_0 z).mpr h0)));rw [Xdz,hq,decide_eq_true h0];rfl;have hq:f2 gEq (fV 0) (fC (.str ("0":Str))) [some (.str z),some (.str (Zco z))]=.ok (.bl false):=Zn rfl rfl ((Zcc _ _).trans (Zfd fun q=>h0 ((eq_0 z).mp q)));rw [Xdz,hq,decide_eq_false h0,GV];cases ed:Zdn z.cps.toList with
  | nil=>rw [ed] at q1;exact absurd q1 (by decide)
  | cons c r =>refine Zn (Zn rfl rfl (Xds hz ed)) rfl ((Xlz _ _).trans ?_);congr 2;by_cases hc:c=48;rw [decide_eq_true ((Xge c).mpr hc),hc];rfl;rw [decide_eq_false (fun q=>hc ((Xge c).mp q)),decide_eq_false (by simpa using hc)]
 have e:isN z.cps.toList=false:=by unfold isN;rw [decide_eq_false (fun q=>q2 q.2)];rfl
 rw [e];exact Xq (Xs (Yx (b:=false) (Xr (Zdl rfl hl (Zey (p:=(1:Int)<=(Zco z).length) (by omega)) rfl (Zfd (p:=((Zco z).length:Int)<=20) (by omega))))) (Xu rfl));have e:isN z.cps.toList=false:=by unfold isN;rw [decide_eq_false (fun q=>q1 q.1)];rfl
 rw [e];exact Xq (Xs (Yx (b:=false) (Xr (Zdu rfl hl (Zfd (p:=(1:Int)<=(Zco z).length) (by omega))))) (Xu rfl))
def sgD (c:Nat):D:=.str ⟨#[c]⟩
theorem Zhv {s:FS}{i:Nat}{p:Nat->Bool}{mk:Option D->Env}(hset:∀o d,Xi i d (mk o)=.ok (mk (some d)))(hs:∀c,s (mk (some (sgD c)))=if p c then .ok (.nx (mk (some (sgD c)))) else .ok (.ret .non)) :
  ∀(l:List Nat) (o:Option D),(l.all p=true->∃o',Zeb (Xi i) s (l.map sgD) (mk o)=.ok (.nx (mk o')))/\(l.all p=false->Zeb (Xi i) s (l.map sgD) (mk o)=.ok (.ret .non))
 | [],o=>⟨fun _=>⟨o,rfl⟩,fun h=>nomatch h⟩
 | c::r,o=>by
  have h1:=hs c;have ih:=Zhv hset hs r (some (sgD c));rw [AG,Jf (hset o (sgD c)),h1];cases e:p c with
  | true =>rw [if_pos rfl,E5,e,CI];exact ih
  | false =>rw [if_neg Ar,E5,e,C3];exact ⟨fun z=>absurd z (by decide),fun _=>rfl⟩
theorem d09:("0123456789":Str).cps.toList=[48,49,50,51,52,53,54,55,56,57]:=by decide +kernel
theorem Xeq (c:Nat):Zfz (sgD c) (.str ("0123456789":Str))=some (.bl (!dgN c)):=by show some (D.bl (!decide (c∈("0123456789":Str).cps.toList)))=_;rw [d09];unfold dgN;congr 3;simp only [decide_eq_decide];simp;omega
theorem daz:("abcdefghijklmnopqrstuvwxyz":Str).cps.toList=(A7 26).map (·+97):=by decide +kernel
def azN (c:Nat):Bool:=decide (97<=c/\c<=122)
theorem Xeg (c:Nat):Zfz (sgD c) (.str ("abcdefghijklmnopqrstuvwxyz":Str))=some (.bl (!azN c)):=by show some (D.bl (!decide (c∈("abcdefghijklmnopqrstuvwxyz":Str).cps.toList)))=_;rw [daz];unfold azN;congr 3;simp only [decide_eq_decide,B9,Bj];constructor;rintro ⟨a,h,rfl⟩;omega;intro h;exact ⟨c - 97,by omega,by omega⟩
theorem mi_l:("-":Str).cps.toList=[45]:=by decide +kernel
theorem Zga (z:Str):(z=("-":Str))↔z.cps.toList=[45]:=⟨fun h=>by rw [h,mi_l],fun h=>Ztd (by rw [h,mi_l])⟩
theorem Xhw (l:List Nat):(l.take 1=[45])↔l[0]?=some 45:=by
 cases l with
 | nil=>simp
 | cons a r=>simp
theorem Zpj (h:plain 1000 z=true):Xm [.str z]=.ok (if isN z.cps.toList then .int (pvN z.cps.toList) else .non):=by
  have hz:=plain_len h;have hF:(Zco z).length<=1000:=by have:=Zob z.cps.toList;rw [Jz] at this;rw [Zfe];omega
  have e1:(sIf (cE (f2 gEq (fSl Ziv (fV 0) Zba (Jw (fC (.int 1)))) (fC (.str ("-":Str))))) (Yw 1 (fSl Ziv (fV 0) (Jw (fC (.int 1))) Zba)) sNx) [some (.str z),some (.str z),none]=.ok (.nx [some (.str z),some (.str (Zco z)),none]):=by
    have hs:f2 gEq (fSl Ziv (fV 0) Zba (Jw (fC (.int 1)))) (fC (.str ("-":Str))) [some (.str z),some (.str z),none]=.ok (.bl (decide (z.cps.toList[0]?=some 45))):=by refine Zn (Zyb rfl rfl (Zbj rfl) (Zgo _ _ h (by decide))) rfl ((Zcc _ _).trans ?_);congr 2;rw [decide_eq_decide,Zga,<- Xhw];rw [show (some (1:Int))=some ((1:Nat):Int) from rfl,Zqn]
    by_cases hi:z.cps.toList[0]?=some 45;rw [decide_eq_true hi] at hs;exact Xs (Xr hs) ((Xo (Zyb rfl (Zbj rfl) rfl ((Zgo _ _ h (by decide)).trans (by rw [Zvk hi])))).trans rfl);rw [decide_eq_false hi] at hs;refine (Xj (Xr hs) rfl).trans ?_;rw [Xdo hi];rfl
  have hl:fA Zcn (Zb (fV 1) Zr) [some (.str z),some (.str (Zco z)),none]=.ok (.int (Zco z).length):=Zdd (Zg rfl rfl) (Zut (z:=Zco z) hF);have hl':=Zfe z;refine Zbc (Zm (Xo (Zda rfl rfl)) (Zm e1 ?_));have lp:=Zhv (s:=Zec) (i:=2) (p:=dgN) (mk:=fun o=>[some (.str z),some (.str (Zco z)),o]) (fun _ _=>rfl) (fun c=>by
    cases e:dgN c with
    | true=>exact Xj (Xr (Zn rfl rfl ((Xeq c).trans (by rw [e];rfl)))) rfl
    | false=>exact Xs (Xr (Zn rfl rfl ((Xeq c).trans (by rw [e];rfl)))) rfl) (Zdn z.cps.toList) none
  by_cases q1:1<=(Zdn z.cps.toList).length;by_cases q2:(Zdn z.cps.toList).length<=20;refine Zm (Xj (Ji (Xr (Zn hl rfl (Zfd (p:=((Zco z).length:Int)<1) (by omega)))) (Xr (Zn hl rfl (Zfd (p:=(20:Int)<(Zco z).length) (by omega))))) rfl) ?_;cases q3:(Zdn z.cps.toList).all dgN with
  | false =>
    have e:isN z.cps.toList=false:=by unfold isN;rw [q3];simp
    rw [e];exact Xq (Zea (Xew (z:=Zco z) hF rfl) (lp.2 q3))
  | true =>
    obtain ⟨o',lp⟩:=lp.1 q3;refine Zm (Zea (Xew (z:=Zco z) hF rfl) lp) ?_;cases ed:Zdn z.cps.toList with
    | nil=>rw [ed] at q1;exact absurd q1 (by decide)
    | cons c r =>
      have c1:cE (f2 gEq (f2 gIx (fV 1) (fC (.int 0))) (fC (.str ("0":Str)))) [some (.str z),some (.str (Zco z)),o']=.ok (decide (c=48)):=Xr (Zn (Zn rfl rfl (Xds hz ed)) rfl ((Zcc _ _).trans (by congr 2;rw [decide_eq_decide];exact Xge c)));have c2:cE (f2 gNe (fV 0) (fC (.str ("0":Str)))) [some (.str z),some (.str (Zco z)),o']=.ok (!decide (z.cps.toList=[48])):=Xr (Zn rfl rfl ((Xlz _ _).trans (by congr 3;rw [decide_eq_decide];exact eq_0 z)));have hN:=Xrb (decide_eq_true ⟨q1,q2⟩) q3;rw [ed] at hN;have hN:isN z.cps.toList=(decide (z.cps.toList=[48])||!decide (c=48)):=by rw [hN];congr 2;rw [decide_eq_decide];simp
      have fin:isN z.cps.toList=true->Ys (fA Zoc (Zb (fV 0) Zr)) [some (.str z),some (.str (Zco z)),o']=.ok (.ret (.int (pvN z.cps.toList))):=fun hn=>by
        refine Xu (Zdd (Zg rfl rfl) ?_);have hlz:z.length<=600:=by
          have hq:z.cps.toList.length<=(Zdn z.cps.toList).length+1:=by unfold Zdn;split;rw [Cc];omega;omega
          rw [Jz] at hq;omega
        unfold Zoc;simp only [];rw [if_pos hlz,Zmy hn];rfl
      by_cases k1:c=48;rw [decide_eq_true k1] at c1;by_cases k2:z.cps.toList=[48];rw [decide_eq_true k2] at c2;have hn:isN z.cps.toList=true:=by rw [hN,decide_eq_true k2];rfl
      rw [if_pos hn];exact Zm (Xj (Zlk c1 c2) rfl) (fin hn);rw [decide_eq_false k2] at c2;have hn:isN z.cps.toList=false:=by rw [hN,decide_eq_false k2,decide_eq_true k1];rfl
      rw [hn];exact Xq (Xs (Zlk c1 c2) (Xu rfl));rw [decide_eq_false k1] at c1;have hn:isN z.cps.toList=true:=by rw [hN,decide_eq_false k1];simp
      rw [if_pos hn];exact Zm (Xj (Xjh c1) rfl) (fin hn)
  have e:isN z.cps.toList=false:=by unfold isN;rw [decide_eq_false (fun q=>q2 q.2)];rfl
  rw [e];exact Xq (Xs (Ji (Xr (Zn hl rfl (Zfd (p:=((Zco z).length:Int)<1) (by omega)))) (Xr (Zn hl rfl (Zey (p:=(20:Int)<(Zco z).length) (by omega))))) (Xu rfl));have e:isN z.cps.toList=false:=by unfold isN;rw [decide_eq_false (fun q=>q1 q.1)];rfl
  rw [e];exact Xq (Xs (Zeh (Xr (Zn hl rfl (Zey (p:=((Zco z).length:Int)<1) (by omega))))) (Xu rfl))
theorem Xao (h:plain 1000 z=true):Jc [.str z]=.ok (if Zcv z then .str z else .non):=by
  have hz:=plain_len h;have hl:fA Zcn (Zb (fV 0) Zr) [some (.str z),none]=.ok (.int z.length):=Zdd (Zg rfl rfl) (Zut hz);have lp:=Zhv (s:=Zfm) (i:=1) (p:=azN) (mk:=fun o=>[some (.str z),o]) (fun _ _=>rfl) (fun c=>by
    cases e:azN c with
    | true=>exact Xj (Xr (Zn rfl rfl ((Xeg c).trans (by rw [e];rfl)))) rfl
    | false=>exact Xs (Xr (Zn rfl rfl ((Xeg c).trans (by rw [e];rfl)))) rfl) z.cps.toList none
  have en:Zcv z=(decide (1<=z.length/\z.length<=8)&&z.cps.toList.all azN):=rfl;refine Zbc ?_;show Zij [some (.str z),none]=_;by_cases q1:1<=z.length;by_cases q2:z.length<=8;refine Zm (Xj (Ji (Xr (Zn hl rfl (Zfd (p:=(z.length:Int)<1) (by omega)))) (Xr (Zn hl rfl (Zfd (p:=(8:Int)<z.length) (by omega))))) rfl) ?_;rw [en,decide_eq_true ⟨q1,q2⟩,CI];cases q3:z.cps.toList.all azN with
  | false=>exact Xq (Zea (Xew hz rfl) (lp.2 q3))
  | true =>obtain ⟨o',lp⟩:=lp.1 q3;exact Zm (Zea (Xew hz rfl) lp) (Xu (Zda rfl rfl))
  rw [en,decide_eq_false (fun q=>q2 q.2)];exact Xq (Xs (Ji (Xr (Zn hl rfl (Zfd (p:=(z.length:Int)<1) (by omega)))) (Xr (Zn hl rfl (Zey (p:=(8:Int)<z.length) (by omega))))) (Xu rfl));rw [en,decide_eq_false (fun q=>q1 q.1)];exact Xq (Xs (Zeh (Xr (Zn hl rfl (Zey (p:=(z.length:Int)<1) (by omega))))) (Xu rfl))
theorem Zkx (h:q (ds.map some++Aa (N - ds.length) none)=.ok (.ret d)):run N q ds=.ok d:=by unfold run;rw [h];rfl
theorem Zbt (h:q (ds.map some++Aa (N - ds.length) none)=.err c none):run N q ds=.err c none:=by unfold run;rw [h];rfl
theorem Zxv {a b:FS}(h:a ρ=.err c none):Xp a b ρ=.err c none:=by rw [Zlf,h];rfl
theorem y_set {i:Nat}(h:e ρ=.err c none):Yw i e ρ=.err c none:=by rw [Ztz,h];rfl
theorem y_ret (h:e ρ=.err c none):Ys e ρ=.err c none:=by rw [Zxj,h];rfl
theorem y_call {a:FA}(ha:a ρ=.ok xs)(h:F xs=.err c none):Xe F a ρ=.err c none:=by rw [Zqu,ha];exact h
theorem Zyj {g:List D->Option D}{a:FA}(ha:a ρ=.err c none):fA g a ρ=.err c none:=by rw [Xng,ha];rfl
theorem Zcq {r:FA}(ha:a ρ=.err c none):Zb a r ρ=.err c none:=by rw [Zle,ha];rfl
theorem Zcw {r:FA}{x:D}(ha:a ρ=.ok x)(hr:r ρ=.err c none):Zb a r ρ=.err c none:=by rw [Zle,ha,hr];rfl
theorem y_raise {a:FA}(h:a ρ=.ok xs):Zed c a ρ=.err c none:=by unfold Zed;rw [h];rfl
theorem Zqh (h:plain 490 z=true):Xap (.str z)=some (.str z):=if_pos h
theorem Zgc (h:plain 490 z=true):Zt [.str z]=if isN z.cps.toList then .ok (.int (pvN z.cps.toList)) else .err "NoLine" none:=by
 have hn:=Zyd (Xb h (by decide));cases e:isN z.cps.toList with
 | false =>rw [e] at hn;exact Zbt (Zxv (Xs (Yx (b:=false) (Xr (Xd (Zg rfl rfl) hn))) (y_raise (Zg (Zda rfl (Zqh h)) rfl))))
 | true =>rw [e] at hn;refine Zkx (Zm (Xj (Yx (b:=true) (Xr (Xd (Zg rfl rfl) hn))) rfl) (Xu (Zdd (Zg rfl rfl) ?_)));have hlz:=plain_len h;unfold Zoc;simp only [];rw [if_pos (by omega),Zmy e];rfl
theorem Zjy (h:plain 490 z=true):Yg [.str z]=if Zcv z then .ok (.str z) else .err "NoLine" none:=by
 have hn:=Zjn (z:=z) (by have:=plain_len h;show z.length<=1000;omega);cases e:Zcv z with
 | false =>rw [e] at hn;exact Zbt (Zxv (Xs (Yx (b:=false) (Xr (Xd (Zg rfl rfl) hn))) (y_raise (Zg (Zda rfl (Zqh h)) rfl))))
 | true =>rw [e] at hn;exact Zkx (Zm (Xj (Yx (b:=true) (Xr (Xd (Zg rfl rfl) hn))) rfl) (Xu (Zda rfl rfl)))
def wz (w:List Nat):Str:=⟨w.toArray⟩
theorem Ztm (w:List Nat):(wz w).cps.toList=w:=rfl
def Zcp {α:Type}:List (Option α)->Option (List α)
 | []=>some []
 | none::_=>none
 | some a::r=>(Zcp r).map (a::·)
def told {α:Type}(f:α->D):Option α->R D
 | some a=>.ok (f a)
 | none=>.err "NoLine" none
theorem Zcr {c:Nat}:∀(l w:List Nat),w∈Zq c l->w.length<=l.length/\∀x∈w,x∈l
 | [],w,h=>by rw [Zq] at h;rw [Ak.mp h];exact ⟨AF _,fun _ z=>z⟩
 | a::r,w,h=>by rw [Zq] at h;split at h;rcases Af.mp h with e | e;rw [e];exact ⟨BC _,fun _ z=>nomatch z⟩;obtain ⟨h1,h2⟩:=Zcr r w e;exact ⟨Gk h1,fun x hx=>.tail _ (h2 x hx)⟩;split at h;rename_i e;rw [Ak.mp h];exact ⟨by simp,fun x hx=>by rw [Ak.mp hx];exact .head _⟩;rename_i w0 ws e;rcases Af.mp h with e1 | e1;obtain ⟨h1,h2⟩:=Zcr r w0 (by rw [e];exact .head _);rw [e1];refine ⟨Nat.succ_le_succ h1,fun x hx=>?_⟩;rcases Af.mp hx with z | z;rw [z];exact .head _;exact .tail _ (h2 x z);obtain ⟨h1,h2⟩:=Zcr r w (by rw [e];exact .tail _ e1);exact ⟨Gk h1,fun x hx=>.tail _ (h2 x hx)⟩
theorem Zbu {c:Nat}:∀l:List Nat,(Zq c l).length<=l.length+1
 | []=>AF _
 | a::r=>by have ih:=Zbu (c:=c) r;rw [Zq];split;rw [AK,AK];omega;split;simp;rename_i w ws e;rw [e] at ih;rw [AK] at ih ⊢;rw [AK];omega
theorem Yk {c:Nat}(h:plain n z=true)(hw:w∈Zq c z.cps.toList):plain n (wz w)=true:=by obtain ⟨h1,h2⟩:=Zcr _ _ hw;rw [Jz] at h1;have:=plain_len h;exact Zbx (by omega) fun x hx=>Jp h x (h2 x hx)
theorem Zhi (h:z.length<=1000):Zag (.str z) (.str (" ":Str))=some (.lst ((Zq 32 z.cps.toList).map Jo)):=by unfold Zag;simp only [];rw [sp_1];exact if_pos ⟨by decide,by omega⟩
theorem Xck (h:z.length<=1000):Zag (.str z) (.str (":":Str))=some (.lst ((Zq 58 z.cps.toList).map Jo)):=by unfold Zag;simp only [];rw [co_1];exact if_pos ⟨by decide,by omega⟩
theorem Xcc {y:D}(ha:a ρ=.ok (.str z))(hb:b ρ=.ok y)(h:g (.str z) y=some d):fSm g a b ρ=.ok d:=by unfold fSm;rw [ha,Zbz];show (b ρ).bind _=_;rw [hb,Zbz,h];rfl
theorem Xdc {enc:α->D}{f:α->Option D}{xs:List α}(hn:ρ.length=n)(h:∀x∈xs,e (ρ++[some (enc x)])=told id (f x)):Zmn 1 (Xi n) e ρ (xs.map enc)=match Zcp (xs.map f) with
  | some ds=>.ok ds
  | none=>.err "NoLine" none:=by
 induction xs with
 | nil=>rfl
 | cons x r ih =>
  have ih:=ih fun y hy=>h y (.tail _ hy);have h1:=h x (.head _);have hb:(Xi n (enc x) (ρ++Aa 1 none)).calm=.ok (ρ++[some (enc x)]):=by show R.ok _=_;congr 1;show (ρ++[none]).set n (some (enc x))=_;rw [<- hn,Dz _ _ (AF _),Hl];rfl
  rw [AG,AG,Zmn,hb,Zbz,h1];cases e1:f x with
  | none=>rfl
  | some d =>
   show (Zmn 1 (Xi n) e ρ (r.map enc)).bind _=_;rw [ih,Zcp];cases Zcp (r.map f) with
   | none=>rfl
   | some ds=>rfl
theorem Zoi {it:FI}{enc:α->D}{f:α->Option D}{xs:List α}(hn:ρ.length=n)(hi:it ρ=.ok (xs.map enc))(h:∀x∈xs,e (ρ++[some (enc x)])=told id (f x)):Zel n 1 it (Xi n) e ρ=told D.lst (Zcp (xs.map f)):=by
 unfold Zel;rw [if_pos hn,hi,Zbz,Xdc hn h];cases Zcp (xs.map f) with
 | none=>rfl
 | some ds=>rfl
def nuW (w:List Nat):Option D:=if isN w then some (.int (pvN w)) else none
def Xlq (l:List Nat):Option (List D):=if l=[45] then some [] else Zcp ((Zq 32 l).map nuW)
def dD:Option (List D)->D
 | some xs=>.lst xs
 | none=>.non
theorem Xdk (h:q (ds.map some++Aa (N - ds.length) none)=Ys e ρ)(he:e ρ=told D.lst o):run N q ds=told D.lst o:=by
 cases o with
 | none=>exact Zbt (h.trans (y_ret he))
 | some xs=>exact Zkx (h.trans (Xu he))
theorem Zxp (h:z.length<=1000)(ha:a ρ=.ok (.str z)):Zbo (fSm Zag a (fC (.str (" ":Str)))) ρ=.ok ((Zq 32 z.cps.toList).map Jo):=by refine Zge (Xcc ha rfl (Zhi h)) ?_;have:=Zbu (c:=32) z.cps.toList;rw [Jz] at this;rw [Al];show _<=1000000;omega
theorem Zyf (h:plain 490 z=true):Yr [.str z]=told D.lst (Xlq z.cps.toList):=by
 have hz:=plain_len h;unfold Xlq;by_cases e:z.cps.toList=[45];rw [if_pos e];exact Zkx (Xq (Xs (Xr (Zn rfl rfl ((Zcc _ _).trans (Zey ((Zga z).mpr e))))) (Xu rfl)));rw [if_neg e];refine Xdk (ρ:=[some (.str z)]) (Zm (Xj (Xr (Zn rfl rfl ((Zcc _ _).trans (Zfd fun q=>e ((Zga z).mp q))))) rfl) rfl) (Zoi rfl (Zxp (by omega) rfl) fun w hw=>?_);have hr:=Zgc (Yk h hw);rw [Ztm] at hr;unfold nuW;cases hN:isN w with
 | true=>rw [hN] at hr;exact Xd (Zg rfl rfl) hr
 | false=>rw [hN] at hr;exact y_call (Zg rfl rfl) hr
def orN:Option D->D
 | some d=>d
 | none=>.non
theorem Zkh {α:Type}{f:α->Option D}:∀{xs:List α},(∀x∈xs,∀d,f x=some d->eqv d .non=false)->((xs.map fun x=>orN (f x)).any fun y=>eqv y .non)=(Zcp (xs.map f)).isNone/\∀ds,Zcp (xs.map f)=some ds->(xs.map fun x=>orN (f x))=ds
 | [],_=>⟨rfl,fun ds h=>by cases h;rfl⟩
 | x::r,h=>by
  obtain ⟨i1,i2⟩:=Zkh fun y hy=>h y (.tail _ hy);rw [AG,AG,CH,i1];cases e:f x with
  | none=>exact ⟨rfl,fun ds z=>by cases z⟩
  | some d =>have hd:=h x (.head _) d e;refine ⟨?_,fun ds z=>?_⟩;rw [show orN (some d)=d from rfl,hd,Zcp];cases Zcp (r.map f)<;>rfl;rw [Zcp] at z;obtain ⟨es,e1,rfl⟩:=AD.mp z;rw [i2 es e1];rfl
theorem Xek (w:List Nat)(d:D)(h:nuW w=some d):eqv d .non=false:=by unfold nuW at h;split at h;cases h;rfl;cases h
theorem Ztg (w:List Nat):orN (nuW w)=if isN w then .int (pvN w) else .non:=by unfold nuW;split<;>rfl
theorem Xdg:∀ws:List (List Nat),Zgy (ws.map fun w=>orN (nuW w))=0
 | []=>rfl
 | w::r=>by rw [AG,Zgy,Xdg r,Ztg];split<;>rfl
theorem Xnr (ws:List (List Nat)):gIn .non (.lst (ws.map fun w=>orN (nuW w)))=some (.bl (Zcp (ws.map nuW)).isNone):=by unfold gIn;simp only [];rw [Xdg,if_pos ⟨by decide,by decide⟩,(Zkh fun w _=>Xek w).1]
theorem Xaw (h:plain 490 z=true):Ya [.str z]=.ok (dD (Xlq z.cps.toList)):=by
 have hz:=plain_len h;unfold Xlq;by_cases e:z.cps.toList=[45];rw [if_pos e];exact Zbc (Xq (Xs (Xr (Zn rfl rfl ((Zcc _ _).trans (Zey ((Zga z).mpr e))))) (Xu rfl)));rw [if_neg e];refine Zbc (Zm (Xj (Xr (Zn rfl rfl ((Zcc _ _).trans (Zfd fun q=>e ((Zga z).mp q))))) rfl) (Zm (Xo (Zej rfl (Zxp (by omega) rfl) (Zei (v:=fun w=>orN (nuW w)) rfl fun w hw=>?_))) ?_));have hr:=Zpj (Xb (Yk h hw) (by decide));rw [Ztm] at hr;rw [Ztg];exact Xd (Zg rfl rfl) hr;have hi:=Xnr (Zq 32 z.cps.toList);cases e1:Zcp ((Zq 32 z.cps.toList).map nuW) with
 | none =>rw [e1] at hi;exact Xq (Xs (Xr (Zn rfl rfl hi)) (Xu rfl))
 | some ds =>rw [e1] at hi;refine Zm (Xj (Xr (Zn rfl rfl hi)) rfl) (Xu ?_);rw [<- (Zkh fun w _=>Xek w).2 ds e1];rfl
def pcW (w:List Nat):Option D:=match Zq 58 w with
 | [a,b]=>if isN a&&Zcv (wz b) then some (.tup [.int (pvN a),.str (wz b)]) else none
 | _=>none
def Xlj (l:List Nat):Option (List D):=if l=[45] then some [] else Zcp ((Zq 32 l).map pcW)
theorem Zex {c:Nat}:∀{w:List Nat},c∈w->Zq c w=(w.takeWhile fun d=>d != c)::Zq c ((w.dropWhile fun d=>d != c).drop 1)
 | [],h=>nomatch h
 | a::r,h=>by
  by_cases e:a=c;subst e;rw [Zq,if_pos rfl];simp;have hr:c∈r:=by rcases Af.mp h with z | z;exact absurd z.symm e;exact z
  rw [Zq,if_neg e,Zex hr];have e2:(a != c)=true:=by simpa using e
  rw [List.takeWhile_cons_of_pos (p:=fun d=>d != c) e2,List.dropWhile_cons_of_pos (p:=fun d=>d != c) e2]
theorem Zsx {c:Nat}(h:c∈w):2<=(Zq c w).length:=by
 rw [Zex h,AK];have:Zq c ((w.dropWhile fun d=>d != c).drop 1)≠[]:=by
  cases (w.dropWhile fun d=>d != c).drop 1 with
  | nil=>intro z;cases z
  | cons a r =>rw [Zq];split;intro z;cases z;split<;>(intro z;cases z)
 cases e:Zq c ((w.dropWhile fun d=>d != c).drop 1) with
 | nil=>exact absurd e this
 | cons a r=>simp
theorem Xlv (h:58∈w):Zcv (wz w)=false:=by
 cases e:Zcv (wz w) with
 | false=>rfl
 | true =>have:=Xom e 58 h;omega
theorem Xos (h:58∈w):pcW w=if isN (w.takeWhile fun d=>d != 58)&&Zcv (wz ((w.dropWhile fun d=>d != 58).drop 1)) then some (.tup [.int (pvN (w.takeWhile fun d=>d != 58)),.str (wz ((w.dropWhile fun d=>d != 58).drop 1))]) else none:=by
 unfold pcW;rw [Zex h];by_cases hb:58∈(w.dropWhile fun d=>d != 58).drop 1;rw [Xlv hb,Bool.and_false,if_neg Ar];have h2:=Zsx hb;generalize Zq 58 ((w.dropWhile fun d=>d != 58).drop 1)=L at h2
 match L,h2 with
 | x::y::s,_=>rfl
 rw [Js hb]
theorem Xfx (h:58∉w):pcW w=none:=by unfold pcW;rw [Js h]
theorem Xcm (h:plain n (wz w)=true):plain n (wz (w.takeWhile fun d=>d != 58))=true:=
  Zbx (by
    have h1:=plain_len h;have h2:=(Fj (fun d=>d != 58) (l:=w)).length_le;have h3:=Jz (wz w);rw [Ztm] at h3;omega) fun c hc=>Jp h c ((Fj (fun d=>d != 58) (l:=w)).subset hc)
theorem Xbw (h:plain n (wz w)=true):plain n (wz ((w.dropWhile fun d=>d != 58).drop 1))=true:=
  Zbx (by
    have h1:=plain_len h;have h2:=(Fm (fun d=>d != 58) (l:=w)).length_le;have h3:=Jz (wz w);rw [Ztm] at h3;rw [Cc];omega) fun c hc=>Jp h c ((Fm (fun d=>d != 58) (l:=w)).subset (CJ hc))
theorem Xij (h:z.length<=1000):Zsq (.str z) (.str (":":Str))=some (.tup (if 58∈z.cps.toList then [Jo (z.cps.toList.takeWhile fun d=>d != 58),Jo [58],Jo ((z.cps.toList.dropWhile fun d=>d != 58).drop 1)] else [.str z,Jo [],Jo []])):=by unfold Zsq;simp only [];rw [co_1];exact if_pos (by omega)
theorem Zxx (h:plain 490 (wz w)=true):Zay [.str (wz w)]=told id (pcW w):=by
 have hz:=plain_len h;have hp:=Xij (z:=wz w) (by omega);rw [Ztm] at hp;by_cases hc:58∈w;rw [if_pos hc] at hp;rw [Xos hc];have h1:=Zgc (Xcm h);have h2:=Zjy (Xbw h);rw [Ztm] at h1;have st:∀r,(Ys (fA Zdq (Zb (Xe Zt (Zb (f2 gIx (fV 1) (fC (.int 0))) Zr)) (Zb (Xe Yg (Zb (f2 gIx (fV 1) (fC (.int 2))) Zr)) Zr)))) [some (.str (wz w)),some (.tup [Jo (w.takeWhile fun d=>d != 58),Jo [58],Jo ((w.dropWhile fun d=>d != 58).drop 1)])]=r->Zdi [some (.str (wz w)),none]=r:=fun r hr=>Zm (Xo (Xcc rfl rfl hp)) hr;cases e1:isN (w.takeWhile fun d=>d != 58) with
 | false =>rw [e1] at h1;exact Zbt (st _ (y_ret (Zyj (Zcq (y_call (Zg (Zn rfl rfl (Zxi _ _)) rfl) h1)))))
 | true =>
  rw [e1] at h1;cases e2:Zcv (wz ((w.dropWhile fun d=>d != 58).drop 1)) with
  | false =>rw [e2] at h2;exact Zbt (st _ (y_ret (Zyj (Zcw (Xd (Zg (Zn rfl rfl (Zxi _ _)) rfl) h1) (Zcq (y_call (Zg (Zn rfl rfl (Xev _ _ _ _)) rfl) h2))))))
  | true =>rw [e2] at h2;exact Zkx (st _ (Xu (Zdd (Zg (Xd (Zg (Zn rfl rfl (Zxi _ _)) rfl) h1) (Zg (Xd (Zg (Zn rfl rfl (Xev _ _ _ _)) rfl) h2) rfl)) rfl)))
 rw [if_neg hc] at hp;rw [Xfx hc];have h1:=Zgc h;rw [Ztm] at h1;have h2:=Zjy (z:=wz []) rfl;rw [show Zcv (wz [])=false from rfl] at h2;have st:∀r,(Ys (fA Zdq (Zb (Xe Zt (Zb (f2 gIx (fV 1) (fC (.int 0))) Zr)) (Zb (Xe Yg (Zb (f2 gIx (fV 1) (fC (.int 2))) Zr)) Zr)))) [some (.str (wz w)),some (.tup [.str (wz w),Jo [],Jo []])]=r->Zdi [some (.str (wz w)),none]=r:=fun r hr=>Zm (Xo (Xcc rfl rfl hp)) hr;cases e1:isN w with
 | false =>rw [e1] at h1;exact Zbt (st _ (y_ret (Zyj (Zcq (y_call (Zg (Zn rfl rfl (Zxi _ _)) rfl) h1)))))
 | true =>rw [e1] at h1;exact Zbt (st _ (y_ret (Zyj (Zcw (Xd (Zg (Zn rfl rfl (Zxi _ _)) rfl) h1) (Zcq (y_call (Zg (Zn rfl rfl (Xev _ _ _ _)) rfl) h2))))))
theorem Xje (h:plain 490 z=true):Yq [.str z]=told D.lst (Xlj z.cps.toList):=by
 have hz:=plain_len h;unfold Xlj;by_cases e:z.cps.toList=[45];rw [if_pos e];exact Zkx (Xq (Xs (Xr (Zn rfl rfl ((Zcc _ _).trans (Zey ((Zga z).mpr e))))) (Xu rfl)));rw [if_neg e];refine Xdk (ρ:=[some (.str z)]) (Zm (Xj (Xr (Zn rfl rfl ((Zcc _ _).trans (Zfd fun q=>e ((Zga z).mp q))))) rfl) rfl) (Zoi rfl (Zxp (by omega) rfl) fun w hw=>?_);have hr:=Zxx (Yk h hw);cases hN:pcW w with
 | some d=>rw [hN] at hr;exact Xd (Zg rfl rfl) hr
 | none=>rw [hN] at hr;exact y_call (Zg rfl rfl) hr
theorem lenL (ws:List (List Nat)):Zcn [.lst (ws.map Jo)]=some (.int ws.length):=by show some (D.int ((ws.map Jo).length:Nat))=_;rw [Al]
theorem Xmz {a:List Nat}(ha:plain 490 (wz a)=true)(he:e ρ=.ok (.str (wz a))):cE (f2 gIs (Xe Xm (Zb e Zr)) (fC .non)) ρ=.ok (!isN a):=by
 have h1:=Zpj (Xb ha (by decide:490<=1000));rw [Ztm] at h1;cases hN:isN a with
 | true=>rw [hN] at h1;exact Xr (Zn (Xd (Zg he rfl) h1) rfl rfl)
 | false=>rw [hN] at h1;exact Xr (Zn (Xd (Zg he rfl) h1) rfl rfl)
theorem Xdl {a:List Nat}(ha:plain 490 (wz a)=true)(he:e ρ=.ok (.str (wz a))):cE (f2 gIs (Xe Jc (Zb e Zr)) (fC .non)) ρ=.ok (!Zcv (wz a)):=by
 have h1:=Xao (Xb ha (by decide:490<=1000));cases hN:Zcv (wz a) with
 | true=>rw [hN] at h1;exact Xr (Zn (Xd (Zg he rfl) h1) rfl rfl)
 | false=>rw [hN] at h1;exact Xr (Zn (Xd (Zg he rfl) h1) rfl rfl)
theorem Xic {acc:List D}(h:plain 490 (wz w)=true)(hl:acc.length<1000):∃o3',Yb [some Z,some (.lst acc),some (Jo w),o3]=match pcW w with
    | some d=>.ok (.nx [some Z,some (.lst (acc++[d])),some (Jo w),o3'])
    | none=>.ok (.ret .non):=by
  have hz:=plain_len h;have hs:=Xck (z:=wz w) (by omega);rw [Ztm] at hs;refine ⟨some (.lst ((Zq 58 w).map Jo)),?_⟩;have st:∀r,((Xp (sIf (cOr (cE (f2 gNe (fA Zcn (Zb (fV 3) Zr)) (fC (.int 2)))) (cOr (cE (f2 gIs (Xe Xm (Zb (f2 gIx (fV 3) (fC (.int 0))) Zr)) (fC .non))) (cE (f2 gIs (Xe Jc (Zb (f2 gIx (fV 3) (fC (.int 1))) Zr)) (fC .non))))) (Ys (fC .non)) sNx)
    (Zsw 1 (fA Zdq (Zb (Xe Xm (Zb (f2 gIx (fV 3) (fC (.int 0))) Zr)) (Zb (f1 Yf (f2 gIx (fV 3) (fC (.int 1)))) Zr))))) [some Z,some (.lst acc),some (Jo w),some (.lst ((Zq 58 w).map Jo))]=r)->Yb [some Z,some (.lst acc),some (Jo w),o3]=r:=fun r hr=>Zm (Xo (Xcc rfl rfl hs)) hr
  refine st _ ?_;have ln:fA Zcn (Zb (fV 3) Zr) [some Z,some (.lst acc),some (Jo w),some (.lst ((Zq 58 w).map Jo))]=.ok (.int (Zq 58 w).length):=Zdd (Zg rfl rfl) (lenL _);by_cases h2:(Zq 58 w).length=2;have hp:∀x∈Zq 58 w,plain 490 (wz x)=true:=fun x hx=>Yk h hx;unfold pcW;generalize Zq 58 w=L at h2 ln hp ⊢
  match L,h2 with
  | [a,b],_ =>
    have pa:=hp a (.head _);have pb:=hp b (.tail _ (.head _));have n1:cE (f2 gNe (fA Zcn (Zb (fV 3) Zr)) (fC (.int 2))) [some Z,some (.lst acc),some (Jo w),some (.lst ([a,b].map Jo))]=.ok false:=Xr (Zn ln rfl ((Zrr _ _).trans (by rfl)));have n2:=Xmz (ρ:=[some Z,some (.lst acc),some (Jo w),some (.lst ([a,b].map Jo))]) (e:=f2 gIx (fV 3) (fC (.int 0))) pa (Zn rfl rfl (Zkm _ _));have n3:=Xdl (ρ:=[some Z,some (.lst acc),some (Jo w),some (.lst ([a,b].map Jo))]) (e:=f2 gIx (fV 3) (fC (.int 1))) pb (Zn rfl rfl (Ztf _ _ _));show _=match (if (isN a&&Zcv (wz b))=true then some (D.tup [.int (pvN a),.str (wz b)]) else none) with | some d=>_ | none=>_
    cases e1:isN a with
    | false =>rw [e1] at n2;exact Xq (Xs (Ji n1 (Zeh n2)) (Xu rfl))
    | true =>
      rw [e1] at n2;cases e2:Zcv (wz b) with
      | false =>rw [e2] at n3;exact Xq (Xs (Ji n1 (Ji n2 n3)) (Xu rfl))
      | true =>rw [e2] at n3;have h1:=Zpj (Xb pa (by decide:490<=1000));rw [Ztm,e1] at h1;exact Zm (Xj (Ji n1 (Ji n2 n3)) rfl) (Zsy rfl (Zdd (Zg (Xd (Zg (Zn rfl rfl (Zkm _ _)) rfl) h1) (Zg (Zda (Zn rfl rfl (Ztf _ _ _)) rfl) rfl)) rfl) (DU hl (by decide)))
  have n1:cE (f2 gNe (fA Zcn (Zb (fV 3) Zr)) (fC (.int 2))) [some Z,some (.lst acc),some (Jo w),some (.lst ((Zq 58 w).map Jo))]=.ok true:=Xr (Zn ln rfl ((Zrr _ _).trans (by rw [decide_eq_false (by omega)];rfl)));have e:pcW w=none:=by
    unfold pcW;generalize Zq 58 w=L at h2
    match L,h2 with
    | [],_=>rfl
    | [_],_=>rfl
    | _::_::_::_,_=>rfl
    | [_,_],h=>exact absurd rfl h
  rw [e];exact Xq (Xs (Zeh n1) (Xu rfl))
theorem Zxo {Z:D}:∀(ws:List (List Nat)) (acc:List D) (o2 o3:Option D),(∀w∈ws,plain 490 (wz w)=true)->acc.length+ws.length<=1000->∃a2 a3,Zeb (Xi 2) Yb (ws.map Jo) [some Z,some (.lst acc),o2,o3]=match Zcp (ws.map pcW) with
  | some ds=>.ok (.nx [some Z,some (.lst (acc++ds)),a2,a3])
  | none=>.ok (.ret .non)
 | [],acc,o2,o3,_,_=>⟨o2,o3,by rw [show Zcp ([].map pcW)=some [] from rfl];show R.ok (Fl.nx [some Z,some (.lst acc),o2,o3])=R.ok (Fl.nx [some Z,some (.lst (acc++[])),o2,o3]);rw [Cf]⟩
 | w::r,acc,o2,o3,h,hl=>by
  have hlen:(w::r).length=r.length+1:=rfl;obtain ⟨o3',t⟩:=Xic (Z:=Z) (acc:=acc) (o3:=o3) (h w (.head _)) (by omega);rw [AG,AG,Jf (ρ1:=[some Z,some (.lst acc),some (Jo w),o3]) rfl,t];cases e:pcW w with
  | none=>exact ⟨none,none,rfl⟩
  | some d =>
   obtain ⟨a2,a3,ih⟩:=Zxo (Z:=Z) r (acc++[d]) (some (Jo w)) o3' (fun x hx=>h x (.tail _ hx)) (by rw [AE];show acc.length+1+r.length<=1000;omega);refine ⟨a2,a3,?_⟩;show Zeb (Xi 2) Yb (r.map Jo) [some Z,some (.lst (acc++[d])),some (Jo w),o3']=_;rw [ih,Zcp];cases Zcp (r.map pcW) with
   | none=>rfl
   | some ds =>show R.ok (Fl.nx [some Z,some (.lst (acc++[d]++ds)),a2,a3])=R.ok (Fl.nx [some Z,some (.lst (acc++d::ds)),a2,a3]);rw [CG];rfl
theorem Xfi (h:plain 490 z=true):Xz [.str z]=.ok (dD (Xlj z.cps.toList)):=by
 have hz:=plain_len h;unfold Xlj;by_cases e:z.cps.toList=[45];rw [if_pos e];exact Zbc (Xq (Xs (Xr (Zn rfl rfl ((Zcc _ _).trans (Zey ((Zga z).mpr e))))) (Xu rfl)));rw [if_neg e];have hc:=Zbu (c:=32) z.cps.toList;rw [Jz] at hc;obtain ⟨a2,a3,lp⟩:=Zxo (Z:=.str z) (Zq 32 z.cps.toList) [] none none (fun w hw=>Yk h hw) (by show 0+_<=1000;omega);refine Zbc (Zm (Xj (Xr (Zn rfl rfl ((Zcc _ _).trans (Zfd fun q=>e ((Zga z).mp q))))) rfl) (Zm (Xo rfl) ?_));cases e1:Zcp ((Zq 32 z.cps.toList).map pcW) with
 | none =>rw [e1] at lp;exact Xq (Zea (Zxp (by omega) rfl) lp)
 | some ds =>rw [e1] at lp;exact Zm (Zea (Zxp (by omega) rfl) lp) (Xu rfl)
def kdW (p:Str):Option Kd:=match Zq 32 p.cps.toList with
 | [a,b,c,d]=>if Zcv (wz a)&&(isN b&&(isN c&&isN d)) then some ⟨wz a,pvN b,pvN c,pvN d⟩ else none
 | _=>none
def Xle (z:Str):Option (List Kd):=if z.cps.toList=[45] then some [] else (Zcp ((Txt.split z (" / ":Str)).map kdW)).bind fun ks=>if ff 0 [] ks=none then some ks else none
theorem Zwy {y:Str}:∀{ps:List Str} {p:Str},p∈ps->p.length<=(Ap y ps).length/\∀c∈p.cps.toList,c∈(Ap y ps).cps.toList
 | [],p,h=>nomatch h
 | [q],p,h=>by rw [Ak.mp h];exact ⟨AF _,fun _ z=>z⟩
 | q::r::l,p,h=>by have e:Ap y (q::r::l)=q++y++Ap y (r::l):=rfl;rw [e,len_app,len_app,Zil,Zil];rcases Af.mp h with rfl | h;exact ⟨by omega,fun c hc=>As _ (As _ hc)⟩;obtain ⟨h1,h2⟩:=Zwy (y:=y) h;exact ⟨by omega,fun c hc=>Ag _ (h2 c hc)⟩
theorem Zjq {y:Str}(hy:1<=y.length):∀ps:List Str,ps.length<=(Ap y ps).length+1
 | []=>BC _
 | [q]=>Nat.le_add_left _ _
 | q::r::l=>by have e:Ap y (q::r::l)=q++y++Ap y (r::l):=rfl;have ih:=Zjq hy (r::l);rw [e,len_app,len_app];rw [AK];omega
theorem Xoa:(" / ":Str).length=3:=by decide +kernel
theorem Zpx (h:plain n z=true)(hp:p∈Txt.split z (" / ":Str)):plain n p=true:=by obtain ⟨h1,h2⟩:=Zwy (y:=(" / ":Str)) hp;rw [DK] at h1 h2;have:=plain_len h;rw [<- str_mk p];exact Zbx (by rw [Jz];omega) fun c hc=>Jp h c (h2 c hc)
theorem Zkq (z:Str):(Txt.split z (" / ":Str)).length<=z.length+1:=by have:=Zjq (y:=(" / ":Str)) (by rw [Xoa];decide) (Txt.split z (" / ":Str));rw [DK] at this;exact this
theorem Xik (h:z.length<=1000)(ha:a ρ=.ok (.str z)):Zbo (fSm Zdk a (fC (.str (" / ":Str)))) ρ=.ok ((Txt.split z (" / ":Str)).map D.str):=by refine Zge (Xcc ha rfl ?_) ?_;unfold Zdk;simp only [];exact if_pos ⟨by rw [Xoa];decide,by omega⟩;have:=Zkq z;rw [Al];show _<=1000000;omega
theorem Xeb (h:¬(Zq 32 p.cps.toList).length=4):kdW p=none:=by
 unfold kdW;generalize Zq 32 p.cps.toList=L at h
 match L,h with
 | [],_=>rfl
 | [_],_=>rfl
 | [_,_],_=>rfl
 | [_,_,_],_=>rfl
 | _::_::_::_::_::_,_=>rfl
 | [_,_,_,_],h=>exact absurd rfl h
theorem Zyu (h:plain 490 p=true):Zal [.str p]=told kD (kdW p):=by
  have hz:=plain_len h;have hs:=Zhi (z:=p) (by omega);have st:∀r,((Xp (sIf (cE (f2 gNe (fA Zcn (Zb (fV 1) Zr)) (fC (.int 4)))) (Zed "NoLine" (Zb (f1 Xap (fV 0)) Zr)) sNx)
    (Ys (fA Zdq (Zb (Xe Yg (Zb (f2 gIx (fV 1) (fC (.int 0))) Zr)) (Zb (Xe Zt (Zb (f2 gIx (fV 1) (fC (.int 1))) Zr)) (Zb (Xe Zt (Zb (f2 gIx (fV 1) (fC (.int 2))) Zr)) (Zb (Xe Zt (Zb (f2 gIx (fV 1) (fC (.int 3))) Zr)) Zr))))))) [some (.str p),some (.lst ((Zq 32 p.cps.toList).map Jo))]=r)->Zeu [some (.str p),none]=r:=fun r hr=>Zm (Xo (Xcc rfl rfl hs)) hr
  have ln:fA Zcn (Zb (fV 1) Zr) [some (.str p),some (.lst ((Zq 32 p.cps.toList).map Jo))]=.ok (.int (Zq 32 p.cps.toList).length):=Zdd (Zg rfl rfl) (lenL _);by_cases h4:(Zq 32 p.cps.toList).length=4;have hp:∀x∈Zq 32 p.cps.toList,plain 490 (wz x)=true:=fun x hx=>Yk h hx;unfold kdW;generalize Zq 32 p.cps.toList=L at h4 ln hp st ⊢
  match L,h4 with
  | [a,b,c,d],_ =>
    have h1:=Zjy (hp a (.head _));have h2:=Zgc (hp b (.tail _ (.head _)));have h3:=Zgc (hp c (.tail _ (.tail _ (.head _))));have h4:=Zgc (hp d (.tail _ (.tail _ (.tail _ (.head _)))));rw [Ztm] at h2 h3 h4;have go:∀r,(Ys (fA Zdq (Zb (Xe Yg (Zb (f2 gIx (fV 1) (fC (.int 0))) Zr)) (Zb (Xe Zt (Zb (f2 gIx (fV 1) (fC (.int 1))) Zr)) (Zb (Xe Zt (Zb (f2 gIx (fV 1) (fC (.int 2))) Zr)) (Zb (Xe Zt (Zb (f2 gIx (fV 1) (fC (.int 3))) Zr)) Zr)))))) [some (.str p),some (.lst ([a,b,c,d].map Jo))]=r->Zeu [some (.str p),none]=r:=fun r hr=>st r (Zm (Xj (Xr (Zn ln rfl ((Zrr _ _).trans rfl))) rfl) hr);have x0:Zb (f2 gIx (fV 1) (fC (.int 0))) Zr [some (.str p),some (.lst ([a,b,c,d].map Jo))]=.ok [.str (wz a)]:=Zg (Zn rfl rfl (Zkm _ _)) rfl;have x1:Zb (f2 gIx (fV 1) (fC (.int 1))) Zr [some (.str p),some (.lst ([a,b,c,d].map Jo))]=.ok [.str (wz b)]:=Zg (Zn rfl rfl (Ztf _ _ _)) rfl;have x2:Zb (f2 gIx (fV 1) (fC (.int 2))) Zr [some (.str p),some (.lst ([a,b,c,d].map Jo))]=.ok [.str (wz c)]:=Zg (Zn rfl rfl (Xgs _ _ _ _)) rfl;have x3:Zb (f2 gIx (fV 1) (fC (.int 3))) Zr [some (.str p),some (.lst ([a,b,c,d].map Jo))]=.ok [.str (wz d)]:=Zg (Zn rfl rfl (ix_l3 _ _ _ _ _)) rfl;show _=told kD (if (Zcv (wz a)&&(isN b&&(isN c&&isN d)))=true then some ⟨wz a,pvN b,pvN c,pvN d⟩ else none);cases e1:Zcv (wz a) with
    | false=>rw [e1] at h1;exact Zbt (go _ (y_ret (Zyj (Zcq (y_call x0 h1)))))
    | true =>
      rw [e1] at h1;cases e2:isN b with
      | false=>rw [e2] at h2;exact Zbt (go _ (y_ret (Zyj (Zcw (Xd x0 h1) (Zcq (y_call x1 h2))))))
      | true =>
        rw [e2] at h2;cases e3:isN c with
        | false=>rw [e3] at h3;exact Zbt (go _ (y_ret (Zyj (Zcw (Xd x0 h1) (Zcw (Xd x1 h2) (Zcq (y_call x2 h3)))))))
        | true =>
          rw [e3] at h3;cases e4:isN d with
          | false=>rw [e4] at h4;exact Zbt (go _ (y_ret (Zyj (Zcw (Xd x0 h1) (Zcw (Xd x1 h2) (Zcw (Xd x2 h3) (Zcq (y_call x3 h4))))))))
          | true=>rw [e4] at h4;exact Zkx (go _ (Xu (Zdd (Zg (Xd x0 h1) (Zg (Xd x1 h2) (Zg (Xd x2 h3) (Zg (Xd x3 h4) rfl)))) rfl)))
  rw [Xeb h4];exact Zbt (st _ (Zxv (Xs (Xr (Zn ln rfl ((Zrr _ _).trans (by rw [decide_eq_false (by omega)];rfl)))) (y_raise (Zg (Zda rfl (Zqh h)) rfl)))))
theorem Zvd {α β:Type}{f:α->Option β}{g:β->D}:∀xs:List α,Zcp (xs.map fun x=>(f x).map g)=(Zcp (xs.map f)).map fun l=>l.map g
 | []=>rfl
 | x::r=>by
  rw [AG,AG];cases e:f x with
  | none=>rfl
  | some b =>show (Zcp (r.map fun x=>(f x).map g)).map (g b::·)=((Zcp (r.map f)).map (b::·)).map fun l=>l.map g;rw [Zvd r];cases Zcp (r.map f)<;>rfl
theorem Zwx {α β:Type}{f:α->Option β}:∀{xs:List α} {ks:List β},Zcp (xs.map f)=some ks->ks.length=xs.length/\∀k∈ks,∃x∈xs,f x=some k
 | [],ks,h=>by cases h;exact ⟨rfl,fun _ z=>nomatch z⟩
 | x::r,ks,h=>by
  rw [AG] at h;cases e:f x with
  | none=>rw [e] at h;cases h
  | some b =>rw [e] at h;obtain ⟨l,h1,rfl⟩:=AD.mp h;obtain ⟨i1,i2⟩:=Zwx h1;refine ⟨by rw [AK,AK,i1],fun k hk=>?_⟩;rcases Af.mp hk with rfl | hk;exact ⟨x,.head _,e⟩;obtain ⟨y,hy,ey⟩:=i2 k hk;exact ⟨y,.tail _ hy,ey⟩
theorem Xrg {k:Kd}(h:kdW p=some k):Zcv k.name=true:=by unfold kdW at h;split at h;split at h;rename_i q;cases h;rw [Ae] at q;exact q.1;cases h;cases h
theorem Xez (h:Zcv z=true):Xel z:=by have:=Xpz h;show z.length<=1000;omega
theorem Zzp {g:α->D}(o:Option α):told id (o.map g)=told g o:=by cases o<;>rfl
theorem Xkx (h:plain 490 z=true):Yv [.str z]=told tD (Xle z):=by
 have hz:=plain_len h;unfold Xle;by_cases e:z.cps.toList=[45];rw [if_pos e];exact Zkx (Xq (Xs (Xr (Zn rfl rfl ((Zcc _ _).trans (Zey ((Zga z).mpr e))))) (Xu rfl)));rw [if_neg e];have hc:Zel 2 1 (Zbo (fSm Zdk (fV 0) (fC (.str (" / ":Str))))) (Xi 2) (Xe Zal (Zb (fV 2) Zr)) [some (.str z),none]=told D.lst (Zcp ((Txt.split z (" / ":Str)).map fun p=>(kdW p).map kD)):=
  Zoi rfl (Xik (by omega) rfl) fun p hp=>by
   rw [Zzp];have hr:=Zyu (Zpx h hp);cases hN:kdW p with
   | some d=>rw [hN] at hr;exact Xd (Zg rfl rfl) hr
   | none=>rw [hN] at hr;exact y_call (Zg rfl rfl) hr
 rw [Zvd] at hc;have n1:cE (f2 gEq (fV 0) (fC (.str ("-":Str)))) [some (.str z),none]=.ok false:=Xr (Zn rfl rfl ((Zcc _ _).trans (Zfd fun q=>e ((Zga z).mp q))));cases e1:Zcp ((Txt.split z (" / ":Str)).map kdW) with
 | none =>rw [e1] at hc;exact Zbt (Zm (Xj n1 rfl) (Zxv (y_set hc)))
 | some ks =>
  rw [e1] at hc;obtain ⟨k1,k2⟩:=Zwx e1;have kc:=Zkq z;have hf:=Xbd (ks:=ks) (fun x hx=>by obtain ⟨p,_,hp⟩:=k2 x hx;exact Xez (Xrg hp)) (by omega);have hf':Xe Zgk (Zb (fV 1) Zr) [some (.str z),some (tD ks)]=.ok (rK ks):=Xd (Zg rfl rfl) hf;show _=told tD (if ff 0 [] ks=none then some ks else none);unfold rK at hf';cases e2:ff 0 [] ks with
  | none =>rw [e2] at hf';rw [if_pos rfl];exact Zkx (Zm (Xj n1 rfl) (Zm (Xo hc) (Zm (Xj (Xr (Zn hf' rfl rfl)) rfl) (Xu rfl))))
  | some j =>rw [e2] at hf';rw [if_neg (by simp)];exact Zbt (Zm (Xj n1 rfl) (Zm (Xo hc) (Zxv (Xs (Xr (Zn hf' rfl rfl)) (y_raise (Zg (Zda rfl (Zqh h)) rfl))))))
theorem Zyw :gIn (.str z) (.lst (es.map D.str))=some (.bl (decide (z∈es))):=by
 have hd:∀l:List Str,Zgy (l.map D.str)=0:=fun l=>by
  induction l with
  | nil=>rfl
  | cons a r ih=>rw [AG,Zgy,ih];rfl
 unfold gIn;simp only [];rw [hd,if_pos ⟨BC 20,BC 20⟩];congr 2;rw [G3]
 induction es with
 | nil=>rfl
 | cons a r ih =>
  rw [CH,ih];have e:((fun y=>eqv y (.str z))∘D.str) a=decide (z=a):=by show (a==z)=_;by_cases q:z=a;subst q;simp;rw [decide_eq_false q];simpa using fun w=>q w.symm
  rw [e];by_cases q:z=a;simp [q];simp [q]
theorem Xoi {c:FE}{k:Int}(ha:a ρ=.ok (.int i))(hb:b ρ=.ok (.int j))(hc:c ρ=.ok (.int k)):Je gLe gLt a b c ρ=.ok (.bl (decide (i<=j/\j<k))):=by by_cases q:i<=j;exact Zdl ha hb (Zey q) hc (by show some (D.bl (decide (j<k)))=_;simp [q]);rw [decide_eq_false (fun z=>q z.1)];exact Zdu ha hb (Zfd q)
theorem p18 :f2 Zis (fC (.int 10)) (fC (.int 18)) ρ=.ok (.int (10 ^ 18)):=Zn rfl rfl rfl
theorem sl_4 (a b c d:List Nat):gSl (.lst ([a,b,c,d].map Jo)) (some 1) none=some (.lst ([b,c,d].map Jo)):=rfl
theorem ff1 (k:Nat)(es:List Str)(x:Kd)(h:Zcv x.name=true):ff k es [x]=if 8<=k\/x.name∈es\/Zqs x=false then some k else none:=by unfold ff;rw [h,CI];rfl
theorem Xgv (h:plain 490 p=true)(hl:acc.length<1000):∃a3 a4,Xv [some Z,some (tD acc),some (.str p),o3,o4]=match kdW p with
    | some k=>if ff acc.length (acc.map (·.name)) [k]=none then .ok (.nx [some Z,some (tD (acc++[k])),some (.str p),a3,a4]) else .ok (.ret .non)
    | none=>.ok (.ret .non):=by
  have hz:=plain_len h;have hs:=Zhi (z:=p) (by omega);by_cases h4:(Zq 32 p.cps.toList).length=4
  · have hp:∀x∈Zq 32 p.cps.toList,plain 490 (wz x)=true:=fun x hx=>Yk h hx;unfold kdW;generalize Zq 32 p.cps.toList=L at h4 hp hs ⊢
    match L,h4 with
    | [a,b,c,d],_ =>
      have pa:=hp a (.head _);refine ⟨some (.lst ([a,b,c,d].map Jo)),some (.lst ([b,c,d].map fun w=>orN (nuW w))),?_⟩;unfold Xv;refine Zm (Xo (Xcc rfl rfl hs)) ?_;have n1:cE (f2 gNe (fA Zcn (Zb (fV 3) Zr)) (fC (.int 4))) [some Z,some (tD acc),some (.str p),some (.lst ([a,b,c,d].map Jo)),o4]=.ok false:=Xr (Zn (Zdd (Zg rfl rfl) (lenL _)) rfl ((Zrr _ _).trans rfl));have n2:=Xdl (ρ:=[some Z,some (tD acc),some (.str p),some (.lst ([a,b,c,d].map Jo)),o4]) (e:=f2 gIx (fV 3) (fC (.int 0))) pa (Zn rfl rfl (Zkm _ _));show _=match (if (Zcv (wz a)&&(isN b&&(isN c&&isN d)))=true then some (⟨wz a,pvN b,pvN c,pvN d⟩:Kd) else none) with | some k=>_ | none=>_
      cases e1:Zcv (wz a) with
      | false =>rw [e1] at n2;exact Xq (Xs (Ji n1 n2) (Xu rfl))
      | true =>
        rw [e1] at n2;refine Zm (Xj (Ji n1 n2) rfl) ?_;have cm:Zbq 5 1 (Zbo (fSl gSl (fV 3) (Jw (fC (.int 1))) Zba)) (Xi 5) Zjg (Xe Xm (Zb (fV 5) Zr)) [some Z,some (tD acc),some (.str p),some (.lst ([a,b,c,d].map Jo)),o4]=.ok (.lst ([b,c,d].map fun w=>orN (nuW w))):=
          Zej rfl (Zge (Zyb rfl (Zbj rfl) rfl (sl_4 a b c d)) (show 3<=1000000 by decide)) (Zei (v:=fun w=>orN (nuW w)) rfl fun w hw=>by
            have hr:=Zpj (Xb (hp w (.tail _ hw)) (by decide:490<=1000));rw [Ztm] at hr;rw [Ztg];exact Xd (Zg rfl rfl) hr)
        refine Zm (Xo cm) ?_;show (Xp _ _) [some Z,some (tD acc),some (.str p),some (.lst ([a,b,c,d].map Jo)),some (.lst ([b,c,d].map fun w=>orN (nuW w)))]=_;have i1:cE (f2 gIn (fC .non) (fV 4)) [some Z,some (tD acc),some (.str p),some (.lst ([a,b,c,d].map Jo)),some (.lst ([b,c,d].map fun w=>orN (nuW w)))]=.ok (Zcp ([b,c,d].map nuW)).isNone:=Xr (Zn rfl rfl (Xnr _));rw [CI];cases e2:(isN b&&(isN c&&isN d)) with
        | false =>
          have z:(Zcp ([b,c,d].map nuW)).isNone=true:=by
            show (Zcp [nuW b,nuW c,nuW d]).isNone=true;unfold nuW;cases k1:isN b with
            | false=>rfl
            | true =>
              cases k2:isN c with
              | false=>rfl
              | true =>
                cases k3:isN d with
                | false=>rfl
                | true=>rw [k1,k2,k3] at e2;cases e2
          rw [z] at i1;exact Xq (Xs (Zeh i1) (Xu rfl))
        | true =>
          rw [Ae,Ae] at e2;obtain ⟨k1,k2,k3⟩:=e2;have vb:orN (nuW b)=.int (pvN b):=by rw [Ztg,if_pos k1]
          have vc:orN (nuW c)=.int (pvN c):=by rw [Ztg,if_pos k2]
          have vd:orN (nuW d)=.int (pvN d):=by rw [Ztg,if_pos k3]
          have lst4:([b,c,d].map fun w=>orN (nuW w))=[.int (pvN b),.int (pvN c),.int (pvN d)]:=by show [orN (nuW b),orN (nuW c),orN (nuW d)]=_;rw [vb,vc,vd]
          have z:(Zcp ([b,c,d].map nuW)).isNone=false:=by show (Zcp [nuW b,nuW c,nuW d]).isNone=false;unfold nuW;rw [k1,k2,k3];rfl
          rw [z] at i1;rw [lst4] at i1 ⊢;rw [if_pos rfl];obtain ⟨K,hK⟩:∃K:Kd,K=⟨wz a,pvN b,pvN c,pvN d⟩:=⟨_,rfl⟩;have i2:cE (f2 gIn (f2 gIx (fV 3) (fC (.int 0))) (Zbq 5 1 (Zbo (fV 1)) (Xi 5) Zjg (f1 Yf (f2 gIx (fV 5) (fC (.int 0)))))) [some Z,some (tD acc),some (.str p),some (.lst ([a,b,c,d].map Jo)),some (.lst [.int (pvN b),.int (pvN c),.int (pvN d)])]=.ok (decide (wz a∈acc.map (·.name))):=by
            have cn:Zbq 5 1 (Zbo (fV 1)) (Xi 5) Zjg (f1 Yf (f2 gIx (fV 5) (fC (.int 0)))) [some Z,some (tD acc),some (.str p),some (.lst ([a,b,c,d].map Jo)),some (.lst [.int (pvN b),.int (pvN c),.int (pvN d)])]=.ok (.lst ((acc.map (·.name)).map D.str)):=by rw [show (acc.map (·.name)).map D.str=acc.map fun k:Kd=>D.str k.name by rw [Dt];rfl];exact Zej rfl (Zge (xs:=acc.map kD) rfl (by rw [Al];show _<=1000000;omega)) (Zei (v:=fun k:Kd=>D.str k.name) rfl fun k _=>Zda (Zn rfl rfl (kD_0 k)) rfl)
            exact Xr (Zn (Zn rfl rfl (Zkm _ _)) cn Zyw)
          have i3:cE (f2 gGt (fA Zcn (Zb (fV 1) Zr)) (fC (.int 7))) [some Z,some (tD acc),some (.str p),some (.lst ([a,b,c,d].map Jo)),some (.lst [.int (pvN b),.int (pvN c),.int (pvN d)])]=.ok (decide ((7:Int)<acc.length)):=Xr (Zn (Zdd (Zg rfl rfl) (by show some (D.int ((acc.map kD).length:Nat))=some (D.int acc.length);rw [Al])) rfl rfl);have hff:=ff1 acc.length (acc.map (·.name)) K (by rw [hK];exact e1);rw [<- hK];show _=if ff acc.length (acc.map (·.name)) [K]=none then R.ok (Fl.nx [some Z,some (tD (acc++[K])),some (.str p),some (.lst ([a,b,c,d].map Jo)),some (.lst [.int (pvN b),.int (pvN c),.int (pvN d)])]) else .ok (.ret .non)
          rw [hff];have hKn:K.name=wz a:=by rw [hK]
          by_cases q1:wz a∈acc.map (·.name);rw [decide_eq_true q1] at i2;rw [if_pos (Dy (Am (by rw [hKn];exact q1))),if_neg (by simp)];exact Xq (Xs (Ji i1 (Zeh i2)) (Xu rfl));rw [decide_eq_false q1] at i2;by_cases q2:(7:Int)<acc.length;rw [decide_eq_true q2] at i3;rw [if_pos (Am (by omega)),if_neg (by simp)];exact Xq (Xs (Ji i1 (Ji i2 i3)) (Xu rfl));rw [decide_eq_false q2] at i3;refine Zm (Xj (Ji i1 (Ji i2 i3)) rfl) ?_;have c1:=Zmr (ρ:=[some Z,some (tD acc),some (.str p),some (.lst ([a,b,c,d].map Jo)),some (.lst [.int (pvN b),.int (pvN c),.int (pvN d)])]) (a:=fC (.int 1)) (b:=f2 gIx (fV 4) (fC (.int 0))) (c:=fC (.int 200)) rfl (Zn rfl rfl (Zkm _ _)) rfl;have c2:=Zmr (ρ:=[some Z,some (tD acc),some (.str p),some (.lst ([a,b,c,d].map Jo)),some (.lst [.int (pvN b),.int (pvN c),.int (pvN d)])]) (a:=fC (.int 1)) (b:=f2 gIx (fV 4) (fC (.int 1))) (c:=f2 Zis (fC (.int 10)) (fC (.int 18))) rfl (Zn rfl rfl (Ztf _ _ _)) p18;have c3:=Xoi (ρ:=[some Z,some (tD acc),some (.str p),some (.lst ([a,b,c,d].map Jo)),some (.lst [.int (pvN b),.int (pvN c),.int (pvN d)])]) (a:=fC (.int 0)) (b:=f2 gIx (fV 4) (fC (.int 2))) (c:=f2 Zis (fC (.int 10)) (fC (.int 18))) rfl (Zn rfl rfl (Xgs _ _ _ _)) p18;have hno:Zqs K=decide ((1<=pvN b/\pvN b<=200)/\(1<=pvN c/\pvN c<=1000000000000000000)/\0<=pvN d/\pvN d<=999999999999999999):=by rw [hK];rfl
          have bad:¬((1<=pvN b/\pvN b<=200)/\(1<=pvN c/\pvN c<=1000000000000000000)/\0<=pvN d/\pvN d<=999999999999999999)->(if (if 8<=acc.length\/K.name∈acc.map (·.name)\/Zqs K=false then some acc.length else none)=none then R.ok (Fl.nx [some Z,some (tD (acc++[K])),some (.str p),some (.lst ([a,b,c,d].map Jo)),some (.lst [.int (pvN b),.int (pvN c),.int (pvN d)])]) else .ok (.ret .non))=.ok (.ret .non):=fun q=>by rw [if_pos (Dy (Dy (by rw [hno];exact decide_eq_false q))),if_neg (by simp)]
          by_cases r1:1<=pvN b/\pvN b<=200;rw [decide_eq_true r1] at c1;by_cases r2:1<=pvN c/\pvN c<=10 ^ 18;rw [decide_eq_true r2] at c2;by_cases r3:0<=pvN d/\pvN d<10 ^ 18;rw [decide_eq_true r3] at c3;have hC:¬(8<=acc.length\/K.name∈acc.map (·.name)\/Zqs K=false):=by intro q;rcases q with q | q | q;omega;rw [hKn] at q;exact q1 q;rw [hno,decide_eq_false_iff_not] at q;exact q ⟨r1,⟨r2.1,by have:=r2.2;omega⟩,r3.1,by have:=r3.2;omega⟩
          rw [if_neg hC,if_pos rfl];refine Zm (Xj (Ji (Yx (b:=true) (Xr c1)) (Ji (Yx (b:=true) (Xr c2)) (Yx (b:=true) (Xr c3)))) rfl) ?_;have hq:fA Zdq (Zb (f1 Yf (f2 gIx (fV 3) (fC (.int 0)))) (Zb (f1 Yf (f2 gIx (fV 4) (fC (.int 0)))) (Zb (f1 Yf (f2 gIx (fV 4) (fC (.int 1)))) (Zb (f1 Yf (f2 gIx (fV 4) (fC (.int 2)))) Zr)))) [some Z,some (tD acc),some (.str p),some (.lst ([a,b,c,d].map Jo)),some (.lst [.int (pvN b),.int (pvN c),.int (pvN d)])]=.ok (.tup [.str (wz a),.int (pvN b),.int (pvN c),.int (pvN d)]):=Zdd (Zg (Zda (Zn rfl rfl (Zkm _ _)) rfl) (Zg (Zda (Zn rfl rfl (Zkm _ _)) rfl) (Zg (Zda (Zn rfl rfl (Ztf _ _ _)) rfl) (Zg (Zda (Zn rfl rfl (Xgs _ _ _ _)) rfl) rfl)))) rfl;refine (Zsy (xs:=acc.map kD) rfl hq (by rw [Al];show _<1000000;omega)).trans ?_;have:tD (acc++[K])=.lst (acc.map kD++[.tup [.str (wz a),.int (pvN b),.int (pvN c),.int (pvN d)]]):=by rw [hK];show D.lst ((acc++[_]).map kD)=_;rw [BY];rfl
          rw [this];rfl;rw [decide_eq_false r3] at c3;rw [bad (fun q=>r3 ⟨q.2.2.1,by have:=q.2.2.2;omega⟩)];exact Xq (Xs (Ji (Yx (b:=true) (Xr c1)) (Ji (Yx (b:=true) (Xr c2)) (Yx (b:=false) (Xr c3)))) (Xu rfl));rw [decide_eq_false r2] at c2;rw [bad (fun q=>r2 ⟨q.2.1.1,by have:=q.2.1.2;omega⟩)];exact Xq (Xs (Ji (Yx (b:=true) (Xr c1)) (Zeh (Yx (b:=false) (Xr c2)))) (Xu rfl));rw [decide_eq_false r1] at c1;rw [bad (fun q=>r1 q.1)];exact Xq (Xs (Zeh (Yx (b:=false) (Xr c1))) (Xu rfl))
  refine ⟨none,none,?_⟩;rw [Xeb h4];unfold Xv;exact Zm (Xo (Xcc rfl rfl hs)) (Xq (Xs (Zeh (Xr (Zn (Zdd (Zg rfl rfl) (lenL _)) rfl ((Zrr _ _).trans (by rw [decide_eq_false (by omega)];rfl))))) (Xu rfl)))
theorem Zug (k:Nat)(es:List Str)(x:Kd)(r:List Kd):ff k es (x::r)=if 8<=k\/x.name∈es\/(Zcv x.name&&Zqs x)=false then some k else ff (k+1) (es++[x.name]) r:=rfl
theorem Zwl (xs:List Kd)(k:Nat)(es:List Str)(x:Kd):ff k es (x::xs)=none↔ff k es [x]=none/\ff (k+1) (es++[x.name]) xs=none:=by rw [Zug,Zug];by_cases c:8<=k\/x.name∈es\/(Zcv x.name&&Zqs x)=false;rw [if_pos c,if_pos c];simp;rw [if_neg c,if_neg c];exact ⟨fun h=>⟨rfl,h⟩,fun h=>h.2⟩
def Xlp (n:Nat)(es:List Str)(ps:List Str):Option (List Kd):=(Zcp (ps.map kdW)).bind fun ks=>if ff n es ks=none then some ks else none
theorem Zvm {Z:D}:∀(ps:List Str) (acc:List Kd) (o2 o3 o4:Option D),(∀p∈ps,plain 490 p=true)->acc.length+ps.length<=1000->∃a2 a3 a4,Zeb (Xi 2) Xv (ps.map D.str) [some Z,some (tD acc),o2,o3,o4]=match Xlp acc.length (acc.map (·.name)) ps with
    | some ks=>.ok (.nx [some Z,some (tD (acc++ks)),a2,a3,a4])
    | none=>.ok (.ret .non)
  | [],acc,o2,o3,o4,_,_=>⟨o2,o3,o4,by
      show R.ok (Fl.nx [some Z,some (tD acc),o2,o3,o4])=R.ok (Fl.nx [some Z,some (tD (acc++[])),o2,o3,o4]);rw [Cf]⟩
  | p::r,acc,o2,o3,o4,h,hl=>by
    have hlen:(p::r).length=r.length+1:=rfl;obtain ⟨b3,b4,t⟩:=Xgv (Z:=Z) (acc:=acc) (o3:=o3) (o4:=o4) (h p (.head _)) (by omega);rw [AG,Jf (ρ1:=[some Z,some (tD acc),some (.str p),o3,o4]) rfl,t];unfold Xlp;rw [AG];cases e:kdW p with
    | none=>exact ⟨none,none,none,rfl⟩
    | some k =>
      obtain ⟨a2,a3,a4,ih⟩:=Zvm (Z:=Z) r (acc++[k]) (some (.str p)) b3 b4 (fun x hx=>h x (.tail _ hx)) (by rw [AE];show acc.length+1+r.length<=1000;omega);refine ⟨a2,a3,a4,?_⟩;rw [AE,BY] at ih;show (R.bind (if ff acc.length (acc.map (·.name)) [k]=none then R.ok (Fl.nx [some Z,some (tD (acc++[k])),some (.str p),b3,b4]) else .ok (.ret .non)) _)=match ((Zcp (r.map kdW)).map (k::·)).bind (fun ks=>if ff acc.length (acc.map (·.name)) ks=none then some ks else none) with | some ks=>_ | none=>_
      by_cases c:ff acc.length (acc.map (·.name)) [k]=none;rw [if_pos c];show Zeb (Xi 2) Xv (r.map D.str) [some Z,some (tD (acc++[k])),some (.str p),b3,b4]=_;rw [ih];unfold Xlp;cases Zcp (r.map kdW) with
      | none=>rfl
      | some ks =>
        show (match (if ff (acc.length+1) (acc.map (·.name)++[k.name]) ks=none then some ks else none) with | some ks=>R.ok (Fl.nx [some Z,some (tD (acc++[k]++ks)),a2,a3,a4]) | none=>.ok (.ret .non))=match (if ff acc.length (acc.map (·.name)) (k::ks)=none then some (k::ks) else none) with | some ks=>R.ok (Fl.nx [some Z,some (tD (acc++ks)),a2,a3,a4]) | none=>.ok (.ret .non)
        by_cases c2:ff (acc.length+1) (acc.map (·.name)++[k.name]) ks=none;rw [if_pos c2,if_pos ((Zwl ks acc.length (acc.map (·.name)) k).mpr ⟨c,c2⟩)];show R.ok (Fl.nx [some Z,some (tD (acc++[k]++ks)),a2,a3,a4])=R.ok (Fl.nx [some Z,some (tD (acc++k::ks)),a2,a3,a4]);rw [CG];rfl;rw [if_neg c2,if_neg (fun z=>c2 ((Zwl ks acc.length (acc.map (·.name)) k).mp z).2)]
      rw [if_neg c];show R.ok (Fl.ret D.non)=_;cases Zcp (r.map kdW) with
      | none=>rfl
      | some ks =>
        show _=match (if ff acc.length (acc.map (·.name)) (k::ks)=none then some (k::ks) else none) with | some ks=>R.ok (Fl.nx [some Z,some (tD (acc++ks)),a2,a3,a4]) | none=>.ok (.ret .non)
        rw [if_neg (fun z=>c ((Zwl ks acc.length (acc.map (·.name)) k).mp z).1)]
theorem Xfy (h:plain 490 z=true):Yj [.str z]=.ok (dD ((Xle z).map fun ks=>ks.map kD)):=by
 have hz:=plain_len h;unfold Xle;by_cases e:z.cps.toList=[45];rw [if_pos e];exact Zbc (Xq (Xs (Xr (Zn rfl rfl ((Zcc _ _).trans (Zey ((Zga z).mpr e))))) (Xu rfl)));rw [if_neg e];have hc:=Zkq z;obtain ⟨a2,a3,a4,lp⟩:=Zvm (Z:=.str z) (Txt.split z (" / ":Str)) [] none none none (fun w hw=>Zpx h hw) (by show 0+_<=1000;omega);refine Zbc (Zm (Xj (Xr (Zn rfl rfl ((Zcc _ _).trans (Zfd fun q=>e ((Zga z).mp q))))) rfl) (Zm (Xo rfl) ?_));show (Xp _ _) [some (.str z),some (tD []),none,none,none]=.ok (.ret (dD ((Xlp 0 [] (Txt.split z (" / ":Str))).map fun ks=>ks.map kD)));have lp:Zeb (Xi 2) Xv ((Txt.split z (" / ":Str)).map D.str) [some (.str z),some (tD []),none,none,none]=match Xlp 0 [] (Txt.split z (" / ":Str)) with
  | some ks=>.ok (.nx [some (.str z),some (tD ks),a2,a3,a4])
  | none=>.ok (.ret .non):=lp
 cases e1:Xlp 0 [] (Txt.split z (" / ":Str)) with
 | none =>rw [e1] at lp;exact Xq (Zea (Xik (by omega) rfl) lp)
 | some ks =>rw [e1] at lp;exact Zm (Zea (Xik (by omega) rfl) lp) (Xu rfl)
def askD:Option (List D)->D
 | some xs=>.tup [.str ("told":Str),.lst xs]
 | none=>.tup [.str ("none":Str),.lst []]
def Xjo:FS:=(Xp (sIf (cE (f2 gEq (fV 0) (fC (.int 0)))) (Ys (fA Zdq (Zb (fC (.str ("told":Str))) (Zb (Xe Yr (Zb (fV 1) Zr)) Zr)))) sNx)
    (Xp (sIf (cE (f2 gEq (fV 0) (fC (.int 1)))) (Ys (fA Zdq (Zb (fC (.str ("told":Str))) (Zb (Xe Yq (Zb (fV 1) Zr)) Zr)))) sNx)
    (Ys (fA Zdq (Zb (fC (.str ("told":Str))) (Zb (Xe Yv (Zb (fV 1) Zr)) Zr))))))
def Xdb:FS:=(Xp (sIf (Zxy (cE (f1 (Zpn [("NoLine",true)]) (fV 2))) (cE (f1 (Zpn [("NoLine",true)]) (fV 2)))) (sIf (Zxy (Zlc (cE (f1 (Zpn [("NoLine",false)]) (fV 2)))) (Zlc (cE (f1 (Zpn [("NoLine",false)]) (fV 2))))) (Ys (fA Zdq (Zb (fC (.str ("none":Str))) (Zb (fA Zaz Zr) Zr)))) sNx) sNx)
    (Ys (fA Zdq (Zb (fC (.str ("other":Str))) (Zb (fA Zaz Zr) Zr)))))
theorem Xbm:Zgn=Xdp ["NoLine"] 3 2 Xjo Xdb:=rfl
theorem Xnv:Zpn [("NoLine",true)] (.exc "NoLine" none)=some (.bl true):=rfl
theorem Xpi:Zpn [("NoLine",false)] (.exc "NoLine" none)=some (.bl false):=rfl
theorem Xfk:Xdb [none,none,some (.exc "NoLine" none)]=.ok (.ret (.tup [.str ("none":Str),.lst []])):=Xq (Xs (Zlk (Xr (Zda rfl Xnv)) (Xr (Zda rfl Xnv))) (Xs (Zlk (Yx (b:=false) (Xr (Zda rfl Xpi))) (Yx (b:=false) (Xr (Zda rfl Xpi)))) (Xu rfl)))
theorem Xea {b:FS}{a:FS}(h:a ρ=Ys e ρ):Xp a b ρ=Ys e ρ:=by rw [Zlf,h];unfold Ys;cases e ρ<;>rfl
theorem Zkt {w:Int}(hb:Xjo [some (.int w),some (.str z),none]=Ys (fA Zdq (Zb (fC (.str ("told":Str))) (Zb (Xe F (Zb (fV 1) Zr)) Zr))) [some (.int w),some (.str z),none])(hF:F [.str z]=told D.lst o):Jl [.int w,.str z]=.ok (askD o):=by
 refine Zbc ?_;rw [Xbm];show Xdp ["NoLine"] 3 2 Xjo Xdb [some (.int w),some (.str z),none]=_;rw [Xfu,hb];cases o with
 | some xs=>rw [show Ys _ [some (.int w),some (.str z),none]=R.ok (.ret (.tup [.str ("told":Str),.lst xs])) from Xu (Zdd (Zg rfl (Zg (Xd (Zg rfl rfl) hF) rfl)) rfl)];rfl
 | none =>rw [show Ys _ [some (.int w),some (.str z),none]=R.err "NoLine" none from y_ret (Zyj (Zcw rfl (Zcq (y_call (Zg rfl rfl) hF))))];show (if ["NoLine"].contains "NoLine"=true then (Xdb [none,none,some (.exc "NoLine" none)]).calm.bind _ else _)=_;rw [if_pos (show ["NoLine"].contains "NoLine"=true by decide),Xfk];rfl
theorem Xft:gEq (.str ("none":Str)) (.str ("none":Str))=some (.bl true):=(Zcc _ _).trans (Zey rfl)
theorem Xfz:gEq (.str ("told":Str)) (.str ("told":Str))=some (.bl true):=(Zcc _ _).trans (Zey rfl)
def Xnq:FS:=(Xp (Xhj (Xe Jl (Zb (fV 0) (Zb (fV 1) Zr))) (Zxz (Zdy (Xi 3) (Zdy (Xi 4) Zvz))))
    (Xp (sIf (cE (f2 gIs (fV 2) (fC .non))) (Ys (f2 gEq (fV 3) (fC (.str ("none":Str))))) sNx)
    (Ys (Ztl (f2 gEq (fV 3) (fC (.str ("told":Str)))) (Ztl (f1 (Zus "list") (fV 4)) (f2 gEq (fV 4) (fV 2)))))))
theorem Zkw {w:Int}(ha:Jl [.int w,.str z]=.ok (askD o))(hd:∀xs,o=some xs->dep (.lst xs)<=20):Xnq [some (.int w),some (.str z),some (dD o),none,none]=.ok (.ret (.bl true)):=by
 cases o with
 | some xs =>refine Zm (Xrl (ρ':=[some (.int w),some (.str z),some (.lst xs),some (.str ("told":Str)),some (.lst xs)]) (Xd (Zg rfl (Zg rfl rfl)) ha) rfl) (Zm (Xj (Xr (Zn rfl rfl rfl)) rfl) (Xu (Zkb (Zn rfl rfl Xfz) (Zkb (Zda rfl rfl) (Zn rfl rfl (Zzx (hd xs rfl)))))))
 | none =>exact Zm (Xrl (ρ':=[some (.int w),some (.str z),some .non,some (.str ("none":Str)),some (.lst [])]) (Xd (Zg rfl (Zg rfl rfl)) ha) rfl) (Xq (Xs (Xr (Zn rfl rfl rfl)) (Xu (Zn rfl rfl Xft))))
theorem Xbn:Zgv=Xp (Yw 2 (Xe Ya (Zb (fV 1) Zr)))
    (Xp (sIf (cE (f2 gEq (fV 0) (fC (.int 1)))) (Yw 2 (Xe Xz (Zb (fV 1) Zr))) sNx)
    (Xp (sIf (cE (f2 gEq (fV 0) (fC (.int 2)))) (Yw 2 (Xe Yj (Zb (fV 1) Zr))) sNx) Xnq)):=rfl
theorem Zoa {α:Type}{f:α->Option D}(h:∀x d,f x=some d->dep d<=1):∀{xs:List α} {ds:List D},Zcp (xs.map f)=some ds->Zgy ds<=1
 | [],ds,e=>by cases e;exact BC _
 | x::r,ds,e=>by
  rw [AG] at e;cases e1:f x with
  | none=>rw [e1] at e;cases e
  | some d =>rw [e1] at e;obtain ⟨l,e2,rfl⟩:=AD.mp e;rw [Zgy];exact Gd.mpr ⟨h x d e1,Zoa h e2⟩
theorem Xgf (w:List Nat)(d:D)(h:nuW w=some d):dep d<=1:=by unfold nuW at h;split at h;cases h;exact BC _;cases h
theorem Xhk (w:List Nat)(d:D)(h:pcW w=some d):dep d<=1:=by unfold pcW at h;split at h;split at h;cases h;exact AF 1;cases h;cases h
theorem Zwf:∀ks:List Kd,Zgy (ks.map kD)<=1
 | []=>BC _
 | k::r=>by rw [AG,Zgy];exact Gd.mpr ⟨AF 1,Zwf r⟩
theorem Zuv (h:Zgy xs<=1):dep (.lst xs)<=20:=by show Zgy xs+1<=20;omega
theorem Zjk (h:plain 490 z=true){w:Int}(hw:w=0\/w=1\/w=2):Jv [.int w,.str z]=.ok (.bl true):=by
 have d0:=Xaw h;have d1:=Xfi h;have d2:=Xfy h;have dp0:∀xs,Xlq z.cps.toList=some xs->dep (.lst xs)<=20:=fun xs e=>by unfold Xlq at e;split at e;cases e;exact Zuv (BC _);exact Zuv (Zoa Xgf e)
 have dp1:∀xs,Xlj z.cps.toList=some xs->dep (.lst xs)<=20:=fun xs e=>by unfold Xlj at e;split at e;cases e;exact Zuv (BC _);exact Zuv (Zoa Xhk e)
 refine Zbc ?_;rw [Xbn];refine Zm (Xo (Xd (Zg rfl rfl) d0)) ?_;rcases hw with rfl | rfl | rfl;have ha:=Zkt (w:=0) (z:=z) (F:=Yr) (Xea (Xs (Xr (Zn rfl rfl ((Zcx _ _).trans rfl))) rfl)) (Zyf h);exact Zm (Xj (Xr (Zn rfl rfl ((Zcx _ _).trans rfl))) rfl) (Zm (Xj (Xr (Zn rfl rfl ((Zcx _ _).trans rfl))) rfl) (Zkw ha dp0));have ha:=Zkt (w:=1) (z:=z) (F:=Yq) (Zm (Xj (Xr (Zn rfl rfl ((Zcx _ _).trans rfl))) rfl) (Xea (Xs (Xr (Zn rfl rfl ((Zcx _ _).trans rfl))) rfl))) (Xje h);exact Zm (Xs (Xr (Zn rfl rfl ((Zcx _ _).trans rfl))) (Xo (Xd (Zg rfl rfl) d1))) (Zm (Xj (Xr (Zn rfl rfl ((Zcx _ _).trans rfl))) rfl) (Zkw ha dp1));have rt:Yv [.str z]=told D.lst ((Xle z).map fun ks=>ks.map kD):=by rw [Xkx h];cases Xle z<;>rfl
 have ha:=Zkt (w:=2) (z:=z) (F:=Yv) (Zm (Xj (Xr (Zn rfl rfl ((Zcx _ _).trans rfl))) rfl) (Zm (Xj (Xr (Zn rfl rfl ((Zcx _ _).trans rfl))) rfl) rfl)) rt;refine Zm (Xj (Xr (Zn rfl rfl ((Zcx _ _).trans rfl))) rfl) (Zm (Xs (Xr (Zn rfl rfl ((Zcx _ _).trans rfl))) (Xo (Xd (Zg rfl rfl) d2))) (Zkw ha fun xs e=>?_));obtain ⟨ks,_,rfl⟩:=AD.mp e;exact Zuv (Zwf ks)
theorem Zke (e:z.cps.toList=l)(hl:l.length<=n)(h:∀c∈l,c<128):plain n z=true:=by have:z=⟨l.toArray⟩:=Ztd e;rw [this];exact Zbx hl h
theorem Zkz {s:Str}(hs:∀c∈s.cps.toList,c<128):∀(ws:List Str),(∀w∈ws,∀c∈w.cps.toList,c<128)->∀c∈(Ap s ws).cps.toList,c<128
 | [],_,c,h=>nomatch h
 | [w],hw,c,h=>hw w (.head _) c h
 | w::v::r,hw,c,h=>by have e:Ap s (w::v::r)=w++s++Ap s (v::r):=rfl;rw [e,Zil,Zil] at h;rcases An.mp h with h | h;rcases An.mp h with h | h;exact hw w (.head _) c h;exact hs c h;exact Zkz hs (v::r) (fun u hu=>hw u (.tail _ hu)) c h
theorem plain_at (hl:z.length<=n)(h:∀c∈z.cps.toList,c<128):plain n z=true:=Zke rfl (by rw [Jz];exact hl) h
theorem Xno:∀c∈(" ":Str).cps.toList,c<128:=by decide +kernel
theorem sl_lt:∀c∈(" / ":Str).cps.toList,c<128:=by decide +kernel
theorem e19:(10:Nat) ^ 19=10000000000000000000:=by decide
theorem join_1 (h:∀w∈ws,plain n w=true):plain (ws.length*(n+1)) (Ap (" ":Str) ws)=true:=plain_at (Zpm Zme ws fun w hw=>plain_len (h w hw)) (Zkz Xno ws fun w hw=>Jp (h w hw))
theorem Xee (h:∀w∈ws,plain n w=true):plain (ws.length*(n+3)) (Ap (" / ":Str) ws)=true:=plain_at (Znb (by rw [Xoa];decide) ws fun w hw=>plain_len (h w hw)) (Zkz sl_lt ws fun w hw=>Jp (h w hw))
theorem Zcm {k:Nat}(hk:0<k)(h:i.natAbs<10 ^ k):plain (k+1) (Zen i)=true:=Zke (l:=Xbl i) rfl (Xcf hk h) fun c hc=>by have:=Xci i c hc;omega
theorem Zlt (ha:a ρ=.ok (.str s))(hb:b ρ=.ok (.lst (ws.map D.str)))(hs:s.length<=3)(hn:n<=100)(hl:ws.length<=1000)(h:∀w∈ws,plain n w=true):Zfr a b ρ=.ok (.str (Ap s ws)):=by unfold Zfr;rw [ha,Zbz];show (b ρ).bind _=_;rw [hb,Zbz,Zys hs hn hl fun w hw=>plain_len (h w hw)];rfl
theorem Zwi (he:e ρ=.ok (.int i))(h:i.natAbs<10 ^ 19):fA Zkr (Zb e Zr) ρ=.ok (.str (Zen i)):=Zdd (Zg he rfl) (if_pos (Xhe (k:=19) (by decide) h))
def nmA (ks:List Kd)(k:Nat):Str:=(ks[k]?.map (·.name)).getD ("":Str)
theorem Zul {k:Nat}(h:k<ks.length):nmA ks k=ks[k].name:=by unfold nmA;rw [AH h];rfl
def strD:D->D
 | .int i=>.str (Zen i)
 | d=>d
theorem Zkl {k:Kd}(h:Zmd k):plain 8 k.name=true:=Zro _ h.nm
theorem Zzj (ns:List Int)(hn:ns.length<=63)(hk:Xpv ks)(kl:ks.length<=5)(R:Row [3,6,40,3,8] os):∃z,plain 440 z=true/\Zbn [.scr ns,tD ks,iD os]=.ok (.str z):=by
  have ol:os.length=5:=R.len;have b0:=R.at_ 0 (by decide);have b1:=R.at_ 1 (by decide);have b2:=R.at_ 2 (by decide);have x0:∀(ρ:Env) (r),ρ=some (.scr ns)::some (tD ks)::some (iD os)::r->f2 gIx (fV 2) (fC (.int 0)) ρ=.ok (.int (os.getD 0 0)):=fun ρ r e=>by subst e;exact Zn rfl rfl (Zad rfl (k:=0) (by omega))
  have x1:∀(ρ:Env) (r),ρ=some (.scr ns)::some (tD ks)::some (iD os)::r->f2 gIx (fV 2) (fC (.int 1)) ρ=.ok (.int (os.getD 1 0)):=fun ρ r e=>by subst e;exact Zn rfl rfl (Zad rfl (k:=1) (by omega))
  have x2:∀(ρ:Env) (r),ρ=some (.scr ns)::some (tD ks)::some (iD os)::r->f2 gIx (fV 2) (fC (.int 2)) ρ=.ok (.int (os.getD 2 0)):=fun ρ r e=>by subst e;exact Zn rfl rfl (Zad rfl (k:=2) (by omega))
  by_cases h0:os.getD 0 0=0
  · obtain ⟨vs,hv,RV⟩:=Zpl ns hn (i:=3) (by decide) (by decide) (Aa 5 (10 ^ 18)) (by decide) (by decide);have vl:vs.length=5:=RV.len;have vb:∀v∈vs,0<=v/\v<10 ^ 18:=fun v hv'=>by
      obtain ⟨j,hj,rfl⟩:=DG.mp hv';have:=RV.at_ j (by rw [<- RV.len];exact hj);rw [show vs.getD j 0=vs[j] by simp [Bh,hj]] at this;refine ⟨this.1,Int.lt_of_lt_of_le this.2 ?_⟩;rw [vl] at hj
      match j,hj with
      | 0,_=>decide
      | 1,_=>decide
      | 2,_=>decide
      | 3,_=>decide
      | 4,_=>decide
    obtain ⟨us,hus,hum,hul⟩:∃us:List Int,gSl (iD vs) none (some (os.getD 1 0))=some (iD us)/\(∀u∈us,u∈vs)/\us.length<=5:=by refine ⟨cut vs none (some (os.getD 1 0)),Ztu vs _ _,fun u hu=>?_,?_⟩;unfold cut at hu;exact CJ (DF hu);unfold cut;rw [BH,Cc];omega
    have hp:∀w∈us.map fun u=>Zen (u - 5),plain 20 w=true:=fun w hw=>by obtain ⟨u,hu,rfl⟩:=B9.mp hw;have:=vb u (hum u hu);exact Zcm (k:=19) (by decide) (by rw [e19];omega)
    refine ⟨_,Xb (join_1 hp) (by rw [Al];omega),?_⟩;refine Zbc (Xq (Xs (Xr (Zn (x0 _ _ rfl) rfl ((Zcx _ _).trans (Zey h0)))) (Zm (Xo (Zyb (Xd (Zg rfl (Zg rfl (Zg (Zn (Zdd (Zg (Zn rfl rfl rfl) rfl) rfl) rfl rfl) rfl))) hv) rfl (Zbj (x1 _ _ rfl)) hus)) (Xu ?_))));refine Zlt rfl ?_ (by rw [Zme];decide) (n:=20) (by decide) (by rw [Al];omega) hp;rw [Dt];exact Zej rfl (Zge (xs:=us.map D.int) rfl (by rw [Al];show _<=1000000;omega)) (Zei (v:=D.str∘fun u=>Zen (u - 5)) rfl fun u hu=>by
      have:=vb u (hum u hu);exact Zwi (Zn rfl rfl rfl) (by rw [e19];omega))
  · by_cases h1:os.getD 0 0=1
    · have hp:∀w∈(A7 ks.length).map fun (k:Nat)=>Zen ((k:Int)*os.getD 2 0)++(":":Str)++nmA ks k,plain 30 w=true:=fun w hw=>by
        obtain ⟨k,hk',rfl⟩:=B9.mp hw;rw [Bj] at hk';have hm:=Ce hk';have hi:plain 20 (Zen ((k:Int)*os.getD 2 0))=true:=Zcm (k:=19) (by decide) (by
          have e:(10:Nat) ^ 19=10000000000000000000:=by decide
          rw [e];have b2':os.getD 2 0<40:=b2.2;have q:(k:Int)*os.getD 2 0<=5*40:=EV (by omega) (by omega) b2.1 (by decide);have q2:0<=(k:Int)*os.getD 2 0:=DI (by omega) b2.1;omega)
        exact Xb (Zcj (Zcj hi (by decide +kernel:plain 1 (":":Str)=true)) (by rw [Zul hk'];exact Zkl (hk.ok _ hm))) (by decide)
      refine ⟨_,Xb (join_1 hp) (by rw [Al,C9];omega),?_⟩;refine Zbc (Zm (Xj (Xr (Zn (x0 _ _ rfl) rfl ((Zcx _ _).trans (Zfd h0)))) rfl) (Xq (Xs (Xr (Zn (x0 _ _ rfl) rfl ((Zcx _ _).trans (Zey h1)))) (Xu ?_))));refine Zlt rfl ?_ (by rw [Zme];decide) (n:=30) (by decide) (by rw [Al,C9];omega) hp;rw [Dt];refine Zej rfl (Zsn (j:=ks.length) (Zg (Zdd (Zg rfl rfl) (by show some (D.int ((ks.map kD).length:Nat))=_;rw [Al])) rfl) (by omega)) ?_;rw [Int.toNat_natCast];refine Zei (enc:=fun (k:Nat)=>D.int (0+(k:Int))) rfl fun k hk'=>?_;rw [Bj] at hk';have b2':os.getD 2 0<40:=b2.2;have q:(k:Int)*os.getD 2 0<=5*40:=EV (by omega) (by omega) b2.1 (by decide);have q2:0<=(k:Int)*os.getD 2 0:=DI (by omega) b2.1;have hi:plain 20 (Zen ((k:Int)*os.getD 2 0))=true:=Zcm (k:=19) (by decide) (by
        have e:(10:Nat) ^ 19=10000000000000000000:=by decide
        rw [e];omega)
      have hm:=Ce hk';have cp:plain 1 (":":Str)=true:=by decide +kernel
      have hnm:plain 8 (nmA ks k)=true:=by rw [Zul hk'];exact Zkl (hk.ok _ hm)
      have m1:f2 Zdv (fV 4) (f2 gIx (fV 2) (fC (.int 2))) [some (.scr ns),some (tD ks),some (iD os),none,some (.int (0+(k:Int)))]=.ok (.int ((k:Int)*os.getD 2 0)):=by refine Zn rfl (x2 _ _ rfl) ?_;rw [Ew];exact mulR b2.1 (by omega)
      have t1:f2 gIx (f2 gIx (fV 1) (fV 4)) (fC (.int 0)) [some (.scr ns),some (tD ks),some (iD os),none,some (.int (0+(k:Int)))]=.ok (.str (nmA ks k)):=by refine Zn (Zn rfl rfl (x:=tD ks) (y:=.int (0+(k:Int))) (z:=kD ks[k]) ?_) rfl (by rw [Zul hk'];exact kD_0 _);rw [Ew];exact Xdt (k:=k) rfl (by rw [Bu,AH hk'];rfl)
      exact Zn (Zn (Zwi m1 (by rw [e19];omega)) rfl (add_str hi cp (by decide))) t1 (add_str (Zcj hi cp) hnm (by decide))
    have hp1:∀k∈ks,∀w∈[k.name,Zen k.w,Zen k.wo,Zen k.al],plain 20 w=true:=fun k hk'=>by
      have K:=hk.ok k hk';have e:(10:Nat) ^ 19=10000000000000000000:=by decide
      have i1:k.w.natAbs<10 ^ 19:=by have:=K.w1;have:=K.w2;rw [e];omega
      have i2:k.wo.natAbs<10 ^ 19:=by have:=K.o1;have:=K.o2;rw [e];omega
      have i3:k.al.natAbs<10 ^ 19:=by have:=K.a1;have:=K.a2;rw [e];omega
      have j1:plain 20 (Zen k.w)=true:=Zcm (by decide) i1;have j2:plain 20 (Zen k.wo)=true:=Zcm (by decide) i2;have j3:plain 20 (Zen k.al)=true:=Zcm (by decide) i3;have j0:plain 20 k.name=true:=Xb (Zkl K) (by decide);exact A3.mpr ⟨j0,A3.mpr ⟨j1,A3.mpr ⟨j2,A3.mpr ⟨j3,fun _ z=>nomatch z⟩⟩⟩⟩
    have hp:∀w∈ks.map fun k=>Ap (" ":Str) [k.name,Zen k.w,Zen k.wo,Zen k.al],plain 84 w=true:=fun w hw=>by obtain ⟨k,hk',rfl⟩:=B9.mp hw;have h4:=join_1 (hp1 k hk');rw [show [k.name,Zen k.w,Zen k.wo,Zen k.al].length*(20+1)=84 from rfl] at h4;exact h4
    refine ⟨_,Xb (Xee hp) (by rw [Al];omega),?_⟩;have y0:cE (f2 gEq (f2 gIx (fV 2) (fC (.int 0))) (fC (.int 0))) [some (.scr ns),some (tD ks),some (iD os),none]=.ok false:=Xr (Zn (x0 _ _ rfl) rfl ((Zcx _ _).trans (Zfd h0)));have y1:cE (f2 gEq (f2 gIx (fV 2) (fC (.int 0))) (fC (.int 1))) [some (.scr ns),some (tD ks),some (iD os),none]=.ok false:=Xr (Zn (x0 _ _ rfl) rfl ((Zcx _ _).trans (Zfd h1)));refine Zbc (Zm (Xj y0 rfl) (Zm (Xj y1 rfl) (Xu ?_)));show Zfr _ _ [some (.scr ns),some (tD ks),some (iD os),none]=_;refine Zlt rfl ?_ (by rw [Xoa];decide) (n:=84) (by decide) (by rw [Al];omega) hp;rw [Dt];refine Zej rfl (Zge (xs:=ks.map kD) rfl (by rw [Al];show _<=1000000;omega)) (Zei (v:=D.str∘fun k:Kd=>Ap (" ":Str) [k.name,Zen k.w,Zen k.wo,Zen k.al]) rfl fun k hk'=>?_);have K:=hk.ok k hk';refine Zlt rfl ?_ (by rw [Zme];decide) (n:=20) (by decide) (show 4<=1000 by decide) (hp1 k hk');have e:(10:Nat) ^ 19=10000000000000000000:=by decide
    refine Zej rfl (Xqy (xs:=[.str k.name,.int k.w,.int k.wo,.int k.al]) rfl (show 4<=1000000 by decide)) ?_;have a0:fA Zkr (Zb (fV 5) Zr) [some (.scr ns),some (tD ks),some (iD os),none,some (kD k),some (.str k.name)]=.ok (.str k.name):=Zdd (Zg rfl rfl) rfl;have a1:∀i:Int,i.natAbs<10 ^ 19->fA Zkr (Zb (fV 5) Zr) [some (.scr ns),some (tD ks),some (iD os),none,some (kD k),some (.int i)]=.ok (.str (Zen i)):=fun i hi=>Zwi rfl hi;have w1:=a1 k.w (by have:=K.w1;have:=K.w2;rw [e];omega);have w2:=a1 k.wo (by have:=K.o1;have:=K.o2;rw [e];omega);have w3:=a1 k.al (by have:=K.a1;have:=K.a2;rw [e];omega);have hall:∀x∈[D.str k.name,D.int k.w,D.int k.wo,D.int k.al],fA Zkr (Zb (fV 5) Zr) ([some (.scr ns),some (tD ks),some (iD os),none,some (kD k)]++[some (id x)])=.ok (strD x):=A3.mpr ⟨a0,A3.mpr ⟨w1,A3.mpr ⟨w2,A3.mpr ⟨w3,fun _ z=>nomatch z⟩⟩⟩⟩;have cc:=Zei (n:=5) (enc:=id) (v:=strD) (xs:=[D.str k.name,D.int k.w,D.int k.wo,D.int k.al]) rfl hall;rw [List.map_id] at cc;exact cc
def sgA:Str:=" !\"#$&'()*+,-./0123456789:;<=>?@ABCDEFGHIJKLMNOPQRSTUVWXYZ"
def sgB:Str:="[\\]^_`abcdefghijklmnopqrstuvwxyz{|}~"
def sgC:Str:="0123456789 -/:a"
def sgS:Str:=sgA++sgB
theorem Xdh:(sgS++sgC).cps.toList.length=109:=by decide +kernel
theorem Xnb:∀c∈(sgS++sgC).cps.toList,c<128:=by decide +kernel
theorem Xoe:plain 94 sgS=true:=by decide +kernel
theorem Xnt:plain 15 sgC=true:=by decide +kernel
theorem Xps:plain 94 sgA=true:=by decide +kernel
theorem Xme:plain 94 sgB=true:=by decide +kernel
def Xlm:List Str:=["01","-0",Xip ("1":Str) 21,"","abcdefghi","a 1 1 1","201","0","1:a","a:1","/","-","1:",":a","1::a"]
theorem Xpq:∀z∈Xlm,plain 21 z=true:=by decide +kernel
def mkB (z:Str)(os:List Int)(r:Env):Env:=some (.str z)::some (iD os)::some (.lst (Xlm.map D.str))::some (.str sgS)::r
theorem sg_at (h0:0<=i)(h1:i<109):∃c,c<128/\gIx (.str (sgS++sgC)) (.int i)=some (.str ⟨#[c]⟩):=by
 have hi:i.toNat<(sgS++sgC).cps.toList.length:=by rw [Xdh];omega
 refine ⟨(sgS++sgC).cps.toList[i.toNat],Xnb _ (Ce hi),?_⟩;have hl:(sgS++sgC).length=109:=by rw [<- Jz,Xdh]
 unfold gIx;simp only [];rw [if_pos (by rw [hl];decide),Zho (k:=i.toNat) (by omega) (AH hi)];rfl
theorem Xmk (h0:0<=i)(h1:i<15):∃z,plain 21 z=true/\gIx (.lst (Xlm.map D.str)) (.int i)=some (.str z):=by
 have hi:i.toNat<Xlm.length:=by show _<15;omega
 exact ⟨Xlm[i.toNat],Xpq _ (Ce hi),Xdt (k:=i.toNat) (by omega) (by rw [Bu,AH hi];rfl)⟩
theorem cutT (z:Str){a:Int}(h0:0<=a):(Yn z none (some a)).cps.toList=z.cps.toList.take a.toNat:=by obtain ⟨n,rfl⟩:=Cq h0;exact Zqn z n
theorem cutF (z:Str){a:Int}(h0:0<=a):(Yn z (some a) none).cps.toList=z.cps.toList.drop a.toNat:=by obtain ⟨n,rfl⟩:=Cq h0;exact Zji z n
theorem Zvb (h:plain n z=true)(lo hi:Option Int):plain n (Yn z lo hi)=true:=Zmk lo hi h
theorem Zon {a b:Nat}(h:plain n z=true)(hab:a<=b)(hl:∀c∈l,c<128)(e:y.cps.toList=z.cps.toList.take a++l++z.cps.toList.drop b):plain (n+l.length) y=true:=by have hz:=plain_len h;refine Zke e ?_ fun c hc=>?_;rw [AE,AE,BH,Cc,Jz];omega;rcases An.mp hc with hc | hc;rcases An.mp hc with hc | hc;exact Jp h c (DF hc);exact hl c hc;exact Jp h c (CJ hc)
theorem Zeq:∀l:List Nat,(Ap (" ":Str) ((Zq 32 l).map wz)).cps.toList=l
 | []=>rfl
 | a::r=>by
  have ih:=Zeq r;rw [Zq];by_cases e:a=32;subst e;rw [if_pos rfl];cases h:Zq 32 r with
  | nil =>
   rw [h] at ih;cases r with
   | nil=>cases h
   | cons b s=>exact absurd ih.symm (by simp [Ap,Cp])
  | cons w ws =>rw [h] at ih;rw [AG,AG,Zhx sp_1];rw [AG] at ih;rw [ih];rfl
  rw [if_neg e];cases h:Zq 32 r with
  | nil =>
   rw [h] at ih;cases r with
   | nil=>cases h
   | cons b s=>exact absurd ih.symm (by simp [Ap,Cp])
  | cons w ws =>
   rw [h] at ih;cases ws with
   | nil =>have ih:w=r:=ih;show (wz (a::w)).cps.toList=_;rw [ih];rfl
   | cons v vs =>rw [AG,AG,Zhx sp_1] at ih ⊢;show (a::w)++_=_;rw [Ef];congr 1
theorem Xbz {o:Str}(ho:plain 21 o=true):∀(ws:List Str) (j:Nat),(∀w∈ws,∀c∈w.cps.toList,c<128)->(Ap (" ":Str) ws).length<=n->plain (n+21) (Ap (" ":Str) (ws.set j o))=true:=fun ws j hw hl=>by
 refine plain_at ?_ (Zkz Xno _ fun w hw'=>?_);have:∀(ws:List Str) (j:Nat),(Ap (" ":Str) (ws.set j o)).length<=(Ap (" ":Str) ws).length+21:=by
  intro ws;have h21:=plain_len ho
  induction ws with
  | nil=>intro j;exact BC _
  | cons w r ih =>
   intro j;cases r with
   | nil =>
    cases j with
    | zero=>show o.length<=w.length+21;omega
    | succ j=>exact Dq _ _
   | cons v r =>
    cases j with
    | zero =>show (o++(" ":Str)++Ap (" ":Str) (v::r)).length<=(w++(" ":Str)++Ap (" ":Str) (v::r)).length+21;rw [len_app,len_app,len_app,len_app];omega
    | succ j =>
     have:=ih j;cases hs:(v::r).set j o with
     | nil =>have:=congrArg Ho hs;rw [CM] at this;cases this
     | cons u s =>rw [hs] at this;rw [List.set_cons_succ,hs];show (w++(" ":Str)++Ap (" ":Str) (u::s)).length<=(w++(" ":Str)++Ap (" ":Str) (v::r)).length+21;rw [len_app,len_app,len_app,len_app];omega
 have:=this ws j;omega;rcases EU hw' with h | h;exact hw w h;rw [h];exact Jp ho
theorem Zmp:∀ws:List Str,Jg (ws.map D.str)=true
 | []=>rfl
 | w::r=>by rw [AG,Jg,Zmp r];rfl
theorem Zws {k:Nat}{m:List Int}{o5 o6 o7 o8:Option D}(hz:plain n z=true)(hn:n<=469)(hm:gSl (iD os) (some (1+4*(k:Int))) (some (5+4*(k:Int)))=some (iD m))(hml:m.length=4)(m0:0<=m.getD 0 0/\m.getD 0 0<4)(m1:0<=m.getD 1 0)(m2:0<=m.getD 2 0/\m.getD 2 0<109)(m3:0<=m.getD 3 0/\m.getD 3 0<15) :
  ∃z' a5 a6 a7 a8,plain (n+21) z'=true/\Jn (mkB z os [some (.int (0+(k:Int))),o5,o6,o7,o8])=.ok (.nx (mkB z' os [some (.int (0+(k:Int))),a5,a6,a7,a8])):=by
 obtain ⟨c,hc,hsg⟩:=sg_at m2.1 m2.2;have hl:=plain_len hz;have zl:=Jz z;have pz:plain 1000 z=true:=Xb hz (by omega);have s1:Yw 5 (fSl gSl (fV 1) (Jw (f2 Jy (fC (.int 1)) (f2 Zdv (fC (.int 4)) (fV 4)))) (Jw (f2 Jy (fC (.int 5)) (f2 Zdv (fC (.int 4)) (fV 4))))) (mkB z os [some (.int (0+(k:Int))),o5,o6,o7,o8])=.ok (.nx (mkB z os [some (.int (0+(k:Int))),some (iD m),o6,o7,o8])):=by rw [Ew];exact Xo (Zyb rfl (Zbj (Zn rfl (Zn rfl rfl (Ztn (by decide) (by decide))) rfl)) (Zbj (Zn rfl (Zn rfl rfl (Ztn (by decide) (by decide))) rfl)) hm)
 have i0:gIx (iD m) (.int 0)=some (.int (m.getD 0 0)):=Zad rfl (k:=0) (by omega);have i1:gIx (iD m) (.int 1)=some (.int (m.getD 1 0)):=Zad rfl (k:=1) (by omega);have i2:gIx (iD m) (.int 2)=some (.int (m.getD 2 0)):=Zad rfl (k:=2) (by omega);have i3:gIx (iD m) (.int 3)=some (.int (m.getD 3 0)):=Zad rfl (k:=3) (by omega);have s2:Yw 6 (f1 Yf (f2 gIx (f2 Jy (fV 3) (fC (.str ("0123456789 -/:a":Str)))) (f2 gIx (fV 5) (fC (.int 2))))) (mkB z os [some (.int (0+(k:Int))),some (iD m),o6,o7,o8])=.ok (.nx (mkB z os [some (.int (0+(k:Int))),some (iD m),some (sgD c),o7,o8])):=Xo (Zda (Zn (Zn rfl rfl (add_str Xoe Xnt (by decide))) (Zn rfl rfl i2) hsg) rfl);obtain ⟨a,ha⟩:∃a:Int,a=m.getD 1 0 % ((z.length:Int)+1):=⟨_,rfl⟩;have a0:0<=a:=by rw [ha];exact BA _ (by omega)
 have a1:a<(z.length:Int)+1:=by rw [ha];exact Bo _ (by omega)
 have s3:Yw 7 (f2 Zfl (f2 gIx (fV 5) (fC (.int 1))) (f2 Jy (fA Zcn (Zb (fV 0) Zr)) (fC (.int 1)))) (mkB z os [some (.int (0+(k:Int))),some (iD m),some (sgD c),o7,o8])=.ok (.nx (mkB z os [some (.int (0+(k:Int))),some (iD m),some (sgD c),some (.int a),o8])):=by rw [ha];exact Xo (Zn (Zn rfl rfl i1) (Zn (Zdd (Zg rfl rfl) (Zut (z:=z) (by show z.length<=1000;omega))) rfl rfl) (Zbd (by omega)))
 have ct:∀(y:Str),y=z->∀(o8:Option D),fSl Ziv (fV 0) Zba (Jw (fV 7)) (mkB y os [some (.int (0+(k:Int))),some (iD m),some (sgD c),some (.int a),o8])=.ok (.str (Yn z none (some a))):=fun y e o8=>by subst e;exact Zyb rfl rfl (Zbj rfl) (Zgo _ _ pz (by decide))
 have cf:∀(o8:Option D),fSl Ziv (fV 0) (Jw (fV 7)) Zba (mkB z os [some (.int (0+(k:Int))),some (iD m),some (sgD c),some (.int a),o8])=.ok (.str (Yn z (some a) none)):=fun o8=>Zyb rfl (Zbj rfl) rfl (Zgo _ _ pz (by decide));have cf1:∀(o8:Option D),fSl Ziv (fV 0) (Jw (f2 Jy (fV 7) (fC (.int 1)))) Zba (mkB z os [some (.int (0+(k:Int))),some (iD m),some (sgD c),some (.int a),o8])=.ok (.str (Yn z (some (a+1)) none)):=fun o8=>Zyb rfl (Zbj (Zn rfl rfl rfl)) rfl (Zgo _ _ pz (by decide));have pt:plain n (Yn z none (some a))=true:=Zvb hz _ _;have pf:plain n (Yn z (some a) none)=true:=Zvb hz _ _;have pf1:plain n (Yn z (some (a+1)) none)=true:=Zvb hz _ _;have pc:plain 1 (⟨#[c]⟩:Str)=true:=Zbx (l:=[c]) (AF 1) fun d hd=>by rw [Ak.mp hd];exact hc
 have ck:∀(j:Int) (y:Str) (o8:Option D),cE (f2 gEq (f2 gIx (fV 5) (fC (.int 0))) (fC (.int j))) (mkB y os [some (.int (0+(k:Int))),some (iD m),some (sgD c),some (.int a),o8])=.ok (decide (m.getD 0 0=j)):=fun j y o8=>Xr (Zn (Zn rfl rfl i0) rfl (Zcx _ _));unfold Jn;have hc4:m.getD 0 0=0\/m.getD 0 0=1\/m.getD 0 0=2\/m.getD 0 0=3:=by omega
 rcases hc4 with e | e | e | e<;>simp only [e] at ck;have py:plain (n+21) (Yn z none (some a)++(⟨#[c]⟩:Str)++Yn z (some a) none)=true:=Xb (Zon (l:=[c]) (a:=a.toNat) (b:=a.toNat) hz (AF _) (fun d hd=>by rw [Ak.mp hd];exact hc) (by rw [Zil,Zil,cutT z a0,cutF z a0])) (by show n+1<=_;omega);refine ⟨_,some (iD m),some (sgD c),some (.int a),o8,py,?_⟩;exact Zm s1 (Zm s2 (Zm s3 (Zm (Xs (ck 0 _ _) (Xo (Zn (Zn (ct z rfl o8) rfl (add_str pt pc (by omega))) (cf o8) (add_str (Zcj pt pc) pf (by omega))))) (Zm (Xj (ck 1 _ _) rfl) (Zm (Xj (ck 2 _ _) rfl) (Xj (ck 3 _ _) rfl))))));have py:plain (n+21) (Yn z none (some a)++Yn z (some (a+1)) none)=true:=Xb (Zon (l:=[]) (a:=a.toNat) (b:=(a+1).toNat) hz (by omega) (fun d hd=>nomatch hd) (by rw [Zil,cutT z a0,cutF z (by omega),Cf])) (by show n+0<=_;omega);refine ⟨_,some (iD m),some (sgD c),some (.int a),o8,py,?_⟩;exact Zm s1 (Zm s2 (Zm s3 (Zm (Xj (ck 0 _ _) rfl) (Zm (Xs (ck 1 _ _) (Xo (Zn (ct z rfl o8) (cf1 o8) (add_str pt pf1 (by omega))))) (Zm (Xj (ck 2 _ _) rfl) (Xj (ck 3 _ _) rfl))))));have py:plain (n+21) (Yn z none (some a)++(⟨#[c]⟩:Str)++Yn z (some (a+1)) none)=true:=Xb (Zon (l:=[c]) (a:=a.toNat) (b:=(a+1).toNat) hz (by omega) (fun d hd=>by rw [Ak.mp hd];exact hc) (by rw [Zil,Zil,cutT z a0,cutF z (by omega)])) (by show n+1<=_;omega);refine ⟨_,some (iD m),some (sgD c),some (.int a),o8,py,?_⟩;exact Zm s1 (Zm s2 (Zm s3 (Zm (Xj (ck 0 _ _) rfl) (Zm (Xj (ck 1 _ _) rfl) (Zm (Xs (ck 2 _ _) (Xo (Zn (Zn (ct z rfl o8) rfl (add_str pt pc (by omega))) (cf1 o8) (add_str (Zcj pt pc) pf1 (by omega))))) (Xj (ck 3 _ _) rfl))))));obtain ⟨o,ho,hodd⟩:=Xmk m3.1 m3.2;obtain ⟨ws,hws⟩:∃ws,ws=(Zq 32 z.cps.toList).map wz:=⟨_,rfl⟩;have hsp:Zag (.str z) (.str (" ":Str))=some (.lst (ws.map D.str)):=by rw [Zhi (by omega),hws,Dt];rfl
 have wl:1<=ws.length:=by
  rw [hws,Al];cases h:Zq 32 z.cps.toList with
  | nil =>
   have:=Zeq z.cps.toList;rw [h] at this;cases hh:z.cps.toList with
   | nil=>rw [hh] at h;cases h
   | cons b s=>rw [hh] at this;exact absurd this.symm (by simp [Ap,Cp])
  | cons w r=>simp
 have wc:ws.length<=1000:=by rw [hws,Al];have:=Zbu (c:=32) z.cps.toList;omega
 obtain ⟨j,hj⟩:∃j:Int,j=m.getD 1 0 % (ws.length:Int):=⟨_,rfl⟩;have j0:0<=j:=by rw [hj];exact BA _ (by omega)
 have j1:j<ws.length:=by rw [hj];exact Bo _ (by omega)
 have hjoin:(Ap (" ":Str) ws).length<=n:=by rw [hws,<- Jz,Zeq,Jz];exact hl
 have hwp:∀w∈ws,∀d∈w.cps.toList,d<128:=fun w hw=>by rw [hws] at hw;obtain ⟨x,hx,rfl⟩:=B9.mp hw;exact Jp (Yk hz hx)
 have py:=Xbz ho ws j.toNat hwp hjoin;refine ⟨_,some (iD m),some (sgD c),some (.int a),some (.lst ((ws.set j.toNat o).map D.str)),py,?_⟩;have t1:Yw 8 (fSm Zag (fV 0) (fC (.str (" ":Str)))) (mkB z os [some (.int (0+(k:Int))),some (iD m),some (sgD c),some (.int a),o8])=.ok (.nx (mkB z os [some (.int (0+(k:Int))),some (iD m),some (sgD c),some (.int a),some (.lst (ws.map D.str))])):=Xo (Xcc rfl rfl hsp);have kk:f2 Zfl (f2 gIx (fV 5) (fC (.int 1))) (fA Zcn (Zb (fV 8) Zr)) (mkB z os [some (.int (0+(k:Int))),some (iD m),some (sgD c),some (.int a),some (.lst (ws.map D.str))])=.ok (.int j):=by rw [hj];exact Zn (Zn rfl rfl i1) (Zdd (Zg rfl rfl) (by show some (D.int ((ws.map D.str).length:Nat))=_;rw [Al])) (Zbd (by omega))
 have t2:Xqk 8 (f2 Zfl (f2 gIx (fV 5) (fC (.int 1))) (fA Zcn (Zb (fV 8) Zr))) (f2 gIx (fV 2) (f2 gIx (fV 5) (fC (.int 3)))) (mkB z os [some (.int (0+(k:Int))),some (iD m),some (sgD c),some (.int a),some (.lst (ws.map D.str))])=.ok (.nx (mkB z os [some (.int (0+(k:Int))),some (iD m),some (sgD c),some (.int a),some (.lst ((ws.set j.toNat o).map D.str))])):=by
  unfold Xqk;rw [show f2 gIx (fV 2) (f2 gIx (fV 5) (fC (.int 3))) (mkB z os [some (.int (0+(k:Int))),some (iD m),some (sgD c),some (.int a),some (.lst (ws.map D.str))])=.ok (.str o) from Zn rfl (Zn rfl rfl i3) hodd,Zbz];show (f2 Zfl _ _ _).bind _=_;rw [kk,Zbz];show (if flat (.str o)=true/\Jg (ws.map D.str)=true then _ else _)=_;rw [if_pos ⟨rfl,Zmp ws⟩];have hix:ixD (ws.map D.str).length j=some j.toNat:=by unfold ixD;rw [if_pos j0,Al,if_pos j1]
  rw [hix];show R.ok (Fl.nx ((mkB z os _).set 8 (some (.lst ((ws.map D.str).set j.toNat (.str o))))))=_;rw [<- List.map_set];rfl
 have hp490:∀w∈ws.set j.toNat o,w.length<=490:=fun w hw=>by rcases EU hw with h | h;rw [hws] at h;obtain ⟨x,hx,rfl⟩:=B9.mp h;have:=plain_len (Yk hz hx);omega;rw [h];have:=plain_len ho;omega
 have gj:Zpg (.str (" ":Str)) (.lst ((ws.set j.toNat o).map D.str))=some (.str (Ap (" ":Str) (ws.set j.toNat o))):=by unfold Zpg;simp only [];rw [Zgb,FN];have h1:=Ztp (ws.set j.toNat o) hp490;rw [CM] at h1 ⊢;rw [if_pos (by show _<=1000000;rw [Zme];omega)]
 have t3:Yw 0 (Zfr (fC (.str (" ":Str))) (fV 8)) (mkB z os [some (.int (0+(k:Int))),some (iD m),some (sgD c),some (.int a),some (.lst ((ws.set j.toNat o).map D.str))])=.ok (.nx (mkB (Ap (" ":Str) (ws.set j.toNat o)) os [some (.int (0+(k:Int))),some (iD m),some (sgD c),some (.int a),some (.lst ((ws.set j.toNat o).map D.str))])):=by refine Xo ?_;unfold Zfr;show oR (Zpg (.str (" ":Str)) (.lst ((ws.set j.toNat o).map D.str)))=_;rw [gj];rfl
 exact Zm s1 (Zm s2 (Zm s3 (Zm (Xj (ck 0 _ _) rfl) (Zm (Xj (ck 1 _ _) rfl) (Zm (Xj (ck 2 _ _) rfl) (Xs (ck 3 _ _) (Zm t1 (Zm t2 t3))))))))
theorem Xga (R:Row ([3]++[4,400,109,15,4,400,109,15]) os){k:Nat}(hk:k<2):∃m:List Int,gSl (iD os) (some (1+4*(k:Int))) (some (5+4*(k:Int)))=some (iD m)/\m.length=4/\(0<=m.getD 0 0/\m.getD 0 0<4)/\0<=m.getD 1 0/\(0<=m.getD 2 0/\m.getD 2 0<109)/\0<=m.getD 3 0/\m.getD 3 0<15:=by
 have ol:os.length=9:=R.len;refine ⟨(os.drop (1+4*k)).take 4,(Ztu os _ _).trans ?_,?_,?_⟩;rw [Xqa (by omega) (by omega) (by omega),show (1+4*(k:Int)).toNat=1+4*k by omega,show (5+4*(k:Int)).toNat - (1+4*k)=4 by omega];rfl;rw [BH,Cc];omega;have g:∀j,j<4->((os.drop (1+4*k)).take 4).getD j 0=os.getD (1+4*k+j) 0:=fun j hj=>by simp [Bh,hj]
 have b:∀j,j<4->0<=os.getD (1+4*k+j) 0/\os.getD (1+4*k+j) 0<([3]++[4,400,109,15,4,400,109,15]:List Int).getD (1+4*k+j) 0:=fun j hj=>R.at_ _ (by show _<9;omega);rw [g 0 (by decide),g 1 (by decide),g 2 (by decide),g 3 (by decide)];have b0:=b 0 (by decide);have b1:=b 1 (by decide);have b2:=b 2 (by decide);have b3:=b 3 (by decide)
 match k,hk with
 | 0,_=>exact ⟨b0,b1.1,b2,b3⟩
 | 1,_=>exact ⟨b0,b1.1,b2,b3⟩
theorem Zwv (R:Row ([3]++[4,400,109,15,4,400,109,15]) os)(hz:plain 440 z=true):∃z',plain 490 z'=true/\Zam [.str z,iD os]=.ok (.str z'):=by
 have ol:os.length=9:=R.len;have b0:=R.at_ 0 (by decide);have b0':os.getD 0 0<3:=b0.2;suffices h:∃z' r,plain 490 z'=true/\Zeb (Xi 4) Jn (Ziy 0 (os.getD 0 0).toNat) (mkB z os [none,none,none,none,none])=.ok (.nx (mkB z' os r)) by
  obtain ⟨z',r,h1,h2⟩:=h;refine ⟨z',h1,?_⟩;refine Zbc ?_;show Zhs [some (.str z),some (iD os),none,none,none,none,none,none,none]=_;have o1:fA Zaz (Zb (fC (.str ("01":Str))) (Zb (fC (.str ("-0":Str))) (Zb (f2 Zth (fC (.str ("1":Str))) (fC (.int 21))) (Zb (fC (.str ("":Str))) (Zb (fC (.str ("abcdefghi":Str))) (Zb (fC (.str ("a 1 1 1":Str))) (Zb (fC (.str ("201":Str))) (Zb (fC (.str ("0":Str))) (Zb (fC (.str ("1:a":Str))) (Zb (fC (.str ("a:1":Str))) (Zb (fC (.str ("/":Str))) (Zb (fC (.str ("-":Str))) (Zb (fC (.str ("1:":Str))) (Zb (fC (.str (":a":Str))) (Zb (fC (.str ("1::a":Str))) Zr))))))))))))))) [some (.str z),some (iD os),none,none,none,none,none,none,none]=.ok (.lst (Xlm.map D.str)):=by
   have hm:Zth (.str ("1":Str)) (.int 21)=some (.str (Xip ("1":Str) 21)):=by unfold Zth;simp only [];rw [if_pos ⟨by decide,by decide,by decide +kernel⟩];rfl
   refine Zdd (Zg rfl (Zg rfl (Zg (Zn rfl rfl hm) rfl))) rfl
  refine Zm (Xo o1) (Zm (Xo rfl) (Zm (Xo (Zn rfl rfl (add_str Xps Xme (by decide)))) (Zm (Zea (Zsn (j:=os.getD 0 0) (Zg (Zn rfl rfl (Zad rfl (k:=0) (by omega))) rfl) (by omega)) h2) (Xu (Zda rfl rfl)))))
 have t:∀{y:Str} {n k:Nat} {o5 o6 o7 o8:Option D},k<2->plain n y=true->n<=469->∃z' a5 a6 a7 a8,plain (n+21) z'=true/\Jn (mkB y os [some (.int (0+(k:Int))),o5,o6,o7,o8])=.ok (.nx (mkB z' os [some (.int (0+(k:Int))),a5,a6,a7,a8])):=fun hk hy hn=>by obtain ⟨m,hm,hl,c0,c1,c2,c3⟩:=Xga R hk;exact Zws hy hn hm hl c0 c1 c2 c3
 have hc:(os.getD 0 0).toNat=0\/(os.getD 0 0).toNat=1\/(os.getD 0 0).toNat=2:=by omega
 rw [Xkg];rcases hc with hc | hc | hc;rw [hc];exact ⟨z,_,Xb hz (by decide),rfl⟩;obtain ⟨z1,a5,a6,a7,a8,p1,e1⟩:=t (y:=z) (n:=440) (k:=0) (o5:=none) (o6:=none) (o7:=none) (o8:=none) (by decide) hz (by decide);rw [hc,Zdb,Jf (ρ1:=mkB z os [some (.int (0+((0:Nat):Int))),none,none,none,none]) rfl,e1];exact ⟨z1,_,Xb p1 (by decide),rfl⟩;obtain ⟨z1,a5,a6,a7,a8,p1,e1⟩:=t (y:=z) (n:=440) (k:=0) (o5:=none) (o6:=none) (o7:=none) (o8:=none) (by decide) hz (by decide);obtain ⟨z2,c5,c6,c7,c8,p2,e2⟩:=t (y:=z1) (n:=461) (k:=1) (o5:=a5) (o6:=a6) (o7:=a7) (o8:=a8) (by decide) p1 (by decide);rw [hc,Zdb,Jf (ρ1:=mkB z os [some (.int (0+((0:Nat):Int))),none,none,none,none]) rfl,e1];refine ⟨z2,[some (.int (0+((1:Nat):Int))),c5,c6,c7,c8],Xb p2 (by decide),?_⟩;show Zeb (Xi 4) Jn (rg (0+1) 1) (mkB z1 os [some (.int (0+((0:Nat):Int))),a5,a6,a7,a8])=_;rw [Zdb,Jf (ρ1:=mkB z1 os [some (.int (0+((1:Nat):Int))),a5,a6,a7,a8]) rfl,e2];rfl
def abS:Str:="abcdefghi"
theorem Xmx:plain 9 abS=true:=by decide +kernel
theorem Xjg (c:Nat)(hc:c<128):plain 10 ((⟨#[c]⟩:Str)++(" 1 1 0":Str))=true:=Xb (Zcj (Zbx (l:=[c]) (AF 1) fun d hd=>by rw [Ak.mp hd];exact hc) (by decide +kernel:plain 6 (" 1 1 0":Str)=true)) (by decide)
def Xeh:FS:=(Xp (Yw 4 (Xe Zam (Zb (fV 3) (Zb (Xe Yi (Zb (fV 0) (Zb (fC (.int 2)) (Zb (f2 Jy (fA Zaz (Zb (fC (.int 3)) Zr)) (f2 Zdv (fA Zaz (Zb (fC (.int 4)) (Zb (fC (.int 400)) (Zb (fC (.int 109)) (Zb (fC (.int 15)) Zr))))) (fC (.int 2)))) Zr)))) Zr))))
    (Xp (Znt (Zhp (Zb (fC (.int 2)) Zr)) (Xi 5) Zku)
    (Ys (fC (.bl true)))))
theorem Zvi (hy:plain 490 y=true)(hz:plain 490 z=true){w:Nat}(ht:t<2)(hw:w<3):Zhh [A,B,C,some (.str y),some (.str z),some (.int (0+(t:Int))),some (.int (0+(w:Int)))]=.ok (.nx [A,B,C,some (.str y),some (.str z),some (.int (0+(t:Int))),some (.int (0+(w:Int)))]):=by have h1:=Zjk hz (w:=0+(w:Int)) (by omega);have h2:=Zjk hy (w:=(0+(w:Int)+(0+(t:Int))) % 3) (by omega);exact Xj (Ji (Yx (b:=true) (Xr (Xd (Zg rfl (Zg rfl rfl)) h1))) (Yx (b:=true) (Xr (Xd (Zg (Zn (Zn rfl rfl rfl) rfl (Zbd (by decide))) (Zg rfl rfl)) h2)))) rfl
theorem Xqm (hy:plain 490 y=true)(hz:plain 490 z=true)(ht:t<2)(o:Option D):∃o',Zku [A,B,C,some (.str y),some (.str z),some (.int (0+(t:Int))),o]=.ok (.nx [A,B,C,some (.str y),some (.str z),some (.int (0+(t:Int))),o']):=by refine ⟨some (.int (0+((2:Nat):Int))),?_⟩;refine Zea (Zsn (j:=3) rfl (by decide)) ?_;rw [show (3:Int).toNat=3 from rfl,Xkg];rw [Zdb,Jf (ρ1:=[A,B,C,some (.str y),some (.str z),some (.int (0+(t:Int))),some (.int (0+((0:Nat):Int)))]) rfl,Zvi hy hz ht (by decide)];show Zeb (Xi 6) Zhh (rg (0+1) 2) [A,B,C,some (.str y),some (.str z),some (.int (0+(t:Int))),some (.int (0+((0:Nat):Int)))]=_;rw [Zdb,Jf (ρ1:=[A,B,C,some (.str y),some (.str z),some (.int (0+(t:Int))),some (.int (0+((1:Nat):Int)))]) rfl,Zvi hy hz ht (by decide)];show Zeb (Xi 6) Zhh (rg (0+1+1) 1) [A,B,C,some (.str y),some (.str z),some (.int (0+(t:Int))),some (.int (0+((1:Nat):Int)))]=_;rw [Zdb,Jf (ρ1:=[A,B,C,some (.str y),some (.str z),some (.int (0+(t:Int))),some (.int (0+((2:Nat):Int)))]) rfl,Zvi hy hz ht (by decide)];rfl
theorem Znh (ns:List Int)(hn:ns.length<=63)(hy:plain 440 y=true):Xeh [some (.scr ns),B,C,some (.str y),none,none,none]=.ok (.ret (.bl true)):=by obtain ⟨vs,hv,RV⟩:=Zpl ns hn (i:=2) (by decide) (by decide) ([3]++[4,400,109,15,4,400,109,15]) (by decide) (Zpc (by decide));obtain ⟨z,pz,hb⟩:=Zwv RV hy;have py:=Xb hy (by decide:440<=490);obtain ⟨o1,t1⟩:=Xqm (A:=some (.scr ns)) (B:=B) (C:=C) py pz (t:=0) (by decide) none;obtain ⟨o2,t2⟩:=Xqm (A:=some (.scr ns)) (B:=B) (C:=C) py pz (t:=1) (by decide) o1;refine Zm (ρ':=[some (.scr ns),B,C,some (.str y),some (.str z),none,none]) (Xo (Xd (Zg rfl (Zg (Xd (Zg rfl (Zg rfl (Zg (Zn rfl (Zn rfl rfl rfl) rfl) rfl))) hv) rfl)) hb)) (Zm (ρ':=[some (.scr ns),B,C,some (.str y),some (.str z),some (.int (0+((1:Nat):Int))),o2]) (Zea (Zsn (j:=2) rfl (by decide)) ?_) (Xu rfl));rw [show (2:Int).toNat=2 from rfl,Xkg];rw [Zdb,Jf (ρ1:=[some (.scr ns),B,C,some (.str y),some (.str z),some (.int (0+((0:Nat):Int))),none]) rfl,t1];show Zeb (Xi 5) Zku (rg (0+1) 1) [some (.scr ns),B,C,some (.str y),some (.str z),some (.int (0+((0:Nat):Int))),o1]=_;rw [Zdb,Jf (ρ1:=[some (.scr ns),B,C,some (.str y),some (.str z),some (.int (0+((1:Nat):Int))),o1]) rfl,t2];rfl
theorem Zrl (ns:List Int)(hn:ns.length<=63):Xkl [.scr ns]=.ok (.bl true):=by
 obtain ⟨ks,hks,kl,K⟩:=Xcr ns hn (i:=0) (m:=5) (by decide) (by decide) (by decide) (by decide);obtain ⟨os,hos,R⟩:=Zpl ns hn (i:=1) (by decide) (by decide) [3,6,40,3,8] (by decide) (Zpc (by decide));obtain ⟨z,pz,hl⟩:=Zzj ns hn K (by omega) R;have ol:os.length=5:=R.len;have b1:=R.at_ 1 (by decide);have b3:=R.at_ 3 (by decide);refine Zbc (Zm (Xo (Xd (Zg rfl (Zg rfl (Zg rfl rfl))) hks)) (Zm (Xo (Xd (Zg rfl (Zg rfl (Zg rfl rfl))) hos)) (Zm (Xo (Xd (Zg rfl (Zg rfl (Zg rfl rfl))) hl)) ?_)));show (Xp (sIf _ _ _) (Xp (sIf _ _ _) Xeh)) [some (.scr ns),some (tD ks),some (iD os),some (.str z),none,none,none]=_;obtain ⟨y,py,e1⟩:∃y,plain 440 y=true/\(sIf (cE (f2 gEq (fV 3) (fC (.str ("":Str))))) (Yw 3 (f1 Yf (f2 gIx (fA Zaz (Zb (fC (.str ("":Str))) (Zb (fC (.str ("-":Str))) Zr))) (fA Xnm (Zb (f2 gGt (f2 gIx (fV 2) (fC (.int 3))) (fC (.int 0))) Zr))))) sNx) [some (.scr ns),some (tD ks),some (iD os),some (.str z),none,none,none]=.ok (.nx [some (.scr ns),some (tD ks),some (iD os),some (.str y),none,none,none]):=by by_cases e:z=("":Str);have hx:f2 gIx (fV 2) (fC (.int 3)) [some (.scr ns),some (tD ks),some (iD os),some (.str z),none,none,none]=.ok (.int (os.getD 3 0)):=Zn rfl rfl (Zad rfl (k:=3) (by omega));have st:∀(b:Bool) (x:Str),f2 gGt (f2 gIx (fV 2) (fC (.int 3))) (fC (.int 0)) [some (.scr ns),some (tD ks),some (iD os),some (.str z),none,none,none]=.ok (.bl b)->gIx (.lst [.str ("":Str),.str ("-":Str)]) (.int (if b=true then 1 else 0))=some (.str x)->f1 Yf (f2 gIx (fA Zaz (Zb (fC (.str ("":Str))) (Zb (fC (.str ("-":Str))) Zr))) (fA Xnm (Zb (f2 gGt (f2 gIx (fV 2) (fC (.int 3))) (fC (.int 0))) Zr))) [some (.scr ns),some (tD ks),some (iD os),some (.str z),none,none,none]=.ok (.str x):=fun b x hb hx'=>Zda (Zn rfl (Zdd (Zg hb rfl) rfl) hx') rfl;by_cases q:0<os.getD 3 0;exact ⟨("-":Str),by decide +kernel,Xs (Xr (Zn rfl rfl ((Zcc _ _).trans (Zey e)))) (Xo (st true _ (Zn hx rfl (Zey q)) (Ztf _ _ _)))⟩;exact ⟨("":Str),by decide +kernel,Xs (Xr (Zn rfl rfl ((Zcc _ _).trans (Zey e)))) (Xo (st false _ (Zn hx rfl (Zfd q)) (Zkm _ _)))⟩;exact ⟨z,pz,Xj (Xr (Zn rfl rfl ((Zcc _ _).trans (Zfd e)))) rfl⟩
 refine Zm e1 ?_;have hx4:f2 gIx (fV 2) (fC (.int 4)) [some (.scr ns),some (tD ks),some (iD os),some (.str y),none,none,none]=.ok (.int (os.getD 4 0)):=Zn rfl rfl (Zad rfl (k:=4) (by omega));have hx1:f2 gIx (fV 2) (fC (.int 1)) [some (.scr ns),some (tD ks),some (iD os),some (.str y),none,none,none]=.ok (.int (os.getD 1 0)):=Zn rfl rfl (Zad rfl (k:=1) (by omega));by_cases e:os.getD 4 0=0;obtain ⟨x,hxs⟩:∃x:Str,x=Yn abS none (some (8+os.getD 1 0 % 2)):=⟨_,rfl⟩;have px:plain 9 x=true:=by rw [hxs];exact Zmk _ _ Xmx
 have hp:∀w∈x.cps.toList.map fun c=>(⟨#[c]⟩:Str)++(" 1 1 0":Str),plain 10 w=true:=fun w hw=>by obtain ⟨c,hc,rfl⟩:=B9.mp hw;exact Xjg c (Jp px c hc)
 have xl:=plain_len px;rw [<- Jz] at xl;refine Zm (ρ':=[some (.scr ns),some (tD ks),some (iD os),some (.str (Ap (" / ":Str) (x.cps.toList.map fun c=>(⟨#[c]⟩:Str)++(" 1 1 0":Str)))),none,none,none]) (Xs (Xr (Zn hx4 rfl ((Zcx _ _).trans (Zey e)))) (Xo (Zlt rfl ?_ (by rw [Xoa];decide) (n:=10) (by decide) (by rw [Al];omega) hp))) (Znh ns hn (Xb (Xee hp) (by rw [Al];omega)));rw [Dt];refine Zej rfl (Xew (z:=x) (by show x.length<=1000;rw [<- Jz];omega) (Zyb rfl rfl (Zbj (Zn rfl (Zn hx1 rfl (Zbd (by decide))) rfl)) ((Zgo (x:=abS) _ _ Xmx (by decide)).trans (by rw [hxs])))) (Zei (v:=D.str∘fun c=>(⟨#[c]⟩:Str)++(" 1 1 0":Str)) rfl fun c hc=>?_);exact Zn rfl rfl (add_str (n:=1) (m:=6) (Zbx (l:=[c]) (AF 1) fun d hd=>by rw [Ak.mp hd];exact Jp px c hc) (by decide +kernel) (by decide));exact Zm (Xj (Xr (Zn hx4 rfl ((Zcx _ _).trans (Zfd e)))) rfl) (Znh ns hn py)
end Dl
set_option maxHeartbeats 4000000
namespace K93
open PySem PySem.Spec PyProof.Rows L2
open Dl (D R FE FT FA FO FS FI FB Fl)
variable {P q:Av}{w:AO}{K:AB}{C:String->Addr}{mg:Str->Option Value}{f a:Addr}{fd:BB}{xs:List V}{l:PySem.W.OpenLaw}{h:AY}{loose:List Str}{XP:(Str->Option Value)->AY->Prop}{YP:AO->AY->Prop}{d:DefRec}
def top (i:Nat):Stmt:=PySem.Challenge.pw_selvage_k93_lines_refused.main.body.getD i (.Pass ⟨0,0,0,0⟩)
abbrev Zhe:Stmt:=top 11
abbrev Zkk:Stmt:=top 12
abbrev Zuj:Stmt:=top 13
abbrev Zdw:Stmt:=top 17
abbrev Zds:Stmt:=top 18
abbrev Zgf:Stmt:=top 19
abbrev Zbe:Stmt:=top 20
abbrev Zgj:Stmt:=top 21
abbrev Zcs:Stmt:=top 22
abbrev Zfb:Stmt:=top 23
abbrev Zbf:Stmt:=top 24
abbrev Zgl:Stmt:=top 26
abbrev Zhk:Stmt:=top 27
abbrev Zhw:Stmt:=top 28
abbrev Zes:Stmt:=top 29
abbrev Zet:Stmt:=top 30
abbrev Zgd:Stmt:=top 31
abbrev Jm:Stmt:=top 32
abbrev Zak:Stmt:=top 33
abbrev Jk:Stmt:=top 34
abbrev Zfc:Stmt:=top 35
abbrev Zez:Stmt:=top 36
abbrev Zgh:Stmt:=top 37
abbrev Zao:Stmt:=top 38
abbrev Xjq:Stmt:=top 39
theorem Zmo:Xk ["text"] ["text"] (Zk Zhe):=⟨rfl,rfl,rfl,by decide +kernel,rfl,by decide +kernel,by decide +kernel⟩
theorem Zmf:Xk ["name","width","worth","allowed"] ["name","width","worth","allowed"] (Zk Zkk):=⟨rfl,rfl,rfl,by decide +kernel,rfl,by decide +kernel,by decide +kernel⟩
theorem Zxu:Xk ["table","earlier","place","kind","name"] ["table"] (Zk Zuj):=⟨rfl,rfl,rfl,by decide +kernel,rfl,by decide +kernel,by decide +kernel⟩
theorem Zid:Xk ["word","figures"] ["word"] (Zk Zdw):=⟨rfl,rfl,rfl,by decide +kernel,rfl,by decide +kernel,by decide +kernel⟩
theorem Zfo:Xk ["word"] ["word"] (Zk Zds):=⟨rfl,rfl,rfl,by decide +kernel,rfl,by decide +kernel,by decide +kernel⟩
theorem Zhy:Xk ["word"] ["word"] (Zk Zgf):=⟨rfl,rfl,rfl,by decide +kernel,rfl,by decide +kernel,by decide +kernel⟩
theorem Zem:Xk ["line"] ["line"] (Zk Zbe):=⟨rfl,rfl,rfl,by decide +kernel,rfl,by decide +kernel,by decide +kernel⟩
theorem Zii:Xk ["text","words"] ["text"] (Zk Zgj):=⟨rfl,rfl,rfl,by decide +kernel,rfl,by decide +kernel,by decide +kernel⟩
theorem Zgu:Xk ["line","table"] ["line"] (Zk Zcs):=⟨rfl,rfl,rfl,by decide +kernel,rfl,by decide +kernel,by decide +kernel⟩
theorem Zgw:Xk ["word","parts"] ["word"] (Zk Zfb):=⟨rfl,rfl,rfl,by decide +kernel,rfl,by decide +kernel,by decide +kernel⟩
theorem Zeg:Xk ["line"] ["line"] (Zk Zbf):=⟨rfl,rfl,rfl,by decide +kernel,rfl,by decide +kernel,by decide +kernel⟩
theorem Ziq:Xk ["_law_script","_law_place","_law_seed","_law_cell_here"] ["_law_script","_law_place"] (Zk Zgl):=⟨rfl,rfl,rfl,by decide +kernel,rfl,by decide +kernel,by decide +kernel⟩
theorem Zjp:Xk ["_law_cell_here","_law_k","_law_one","_law_two"] ["_law_cell_here","_law_k"] (Zk Zhk):=⟨rfl,rfl,rfl,by decide +kernel,rfl,by decide +kernel,by decide +kernel⟩
theorem Zjv:Xk ["_law_script","_law_place","_law_sizes","_law_cell_here","_law_left","_law_some","_law_k","_law_other"] ["_law_script","_law_place","_law_sizes"] (Zk Zhw):=⟨rfl,rfl,rfl,by decide +kernel,rfl,by decide +kernel,by decide +kernel⟩
theorem Zgp:Xk ["_law_script","_law_place","_law_most","_law_pool","_law_some","_law_flaw","_law_gain","_law_table_here","_law_k","_law_at","_law_width","_law_worth","_law_allowed","_law_name_here"] ["_law_script","_law_place","_law_most"] (Zk Zes):=⟨rfl,rfl,rfl,by decide +kernel,rfl,by decide +kernel,by decide +kernel⟩
theorem Zgm:Xk ["_law_word","_law_figures","_law_sign"] ["_law_word"] (Zk Zet):=⟨rfl,rfl,rfl,by decide +kernel,rfl,by decide +kernel,by decide +kernel⟩
theorem Zif:Xk ["_law_word","_law_sign"] ["_law_word"] (Zk Zgd):=⟨rfl,rfl,rfl,by decide +kernel,rfl,by decide +kernel,by decide +kernel⟩
theorem Zbs:Xk ["_law_line_here","_law_found"] ["_law_line_here"] (Zk Jm):=⟨rfl,rfl,rfl,by decide +kernel,rfl,by decide +kernel,by decide +kernel⟩
theorem Zbv:Xk ["_law_line_here","_law_found","_law_word","_law_parts"] ["_law_line_here"] (Zk Zak):=⟨rfl,rfl,rfl,by decide +kernel,rfl,by decide +kernel,by decide +kernel⟩
theorem Zcy:Xk ["_law_line_here","_law_found","_law_part","_law_words","_law_some"] ["_law_line_here"] (Zk Jk):=⟨rfl,rfl,rfl,by decide +kernel,rfl,by decide +kernel,by decide +kernel⟩
theorem Zgt:Xk ["_law_which","_law_line_here","e"] ["_law_which","_law_line_here"] (Zk Zfc):=⟨rfl,rfl,rfl,by decide +kernel,rfl,by decide +kernel,by decide +kernel⟩
theorem Zgq:Xk ["_law_which","_law_line_here","_law_due","_law_word","_law_found"] ["_law_which","_law_line_here"] (Zk Zez):=⟨rfl,rfl,rfl,by decide +kernel,rfl,by decide +kernel,by decide +kernel⟩
theorem Zic:Xk ["_law_line_here","_law_some","_law_odd","_law_signs","_law_k","_law_mine","_law_sign","_law_at","_law_words"] ["_law_line_here","_law_some"] (Zk Zgh):=⟨rfl,rfl,rfl,by decide +kernel,rfl,by decide +kernel,by decide +kernel⟩
theorem Zhn:Xk ["_law_script","_law_table_here","_law_some","_law_numbers"] ["_law_script","_law_table_here","_law_some"] (Zk Zao):=⟨rfl,rfl,rfl,by decide +kernel,rfl,by decide +kernel,by decide +kernel⟩
theorem Xqo:Xk ["_law_script","_law_table_here","_law_some","_law_line_here","_law_bent_here","_law_turn","_law_which"] ["_law_script"] (Zk Xjq):=⟨rfl,rfl,rfl,by decide +kernel,rfl,by decide +kernel,by decide +kernel⟩
structure Txt (mg:Str->Option Value)(K:AB)(C:String->Addr):Prop where
 all:mg "all"=none
 len:mg "len"=none
 enumerate:mg "enumerate"=none
 any:mg "any"=none
 int:mg "int"=none
 range:mg "range"=none
 min:mg "min"=none
 isinstance:mg "isinstance"=none
 ValueError:mg "ValueError"=none
 list:mg "list"=none
 str:mg "str"=none
 MOST_KINDS:∃t,mg "MOST_KINDS"=CA (.int 8 t)
 LONGEST_NAME:∃t,mg "LONGEST_NAME"=CA (.int 8 t)
 GREATEST_WIDTH:∃t,mg "GREATEST_WIDTH"=CA (.int 200 t)
 GREATEST_WORTH:∃t,mg "GREATEST_WORTH"=CA (.int 1000000000000000000 t)
 GREATEST_ALLOWED:∃t,mg "GREATEST_ALLOWED"=CA (.int 999999999999999999 t)
 NONE:∃t,mg "NONE"=CA (.str ("-":Str) t)
 MOST_FIGURES:∃t,mg "MOST_FIGURES"=CA (.int 20 t)
 mCutError:mg "CutError"=some (.ref (C "CutError"))
 eCutError:Zly K (C "CutError")
 mNotATable:mg "NotATable"=some (.ref (C "NotATable"))
 kNotATable:Zuz K (C "NotATable")
 mNotARoll:mg "NotARoll"=some (.ref (C "NotARoll"))
 kNotARoll:Zuz K (C "NotARoll")
 mNoLine:mg "NoLine"=some (.ref (C "NoLine"))
 eNoLine:Zly K (C "NoLine")
 sNoLine_CutError:BG K (.ref (C "NoLine")) (.ref (C "CutError"))=some true
 sNoLine_NotATable:BG K (.ref (C "NoLine")) (.ref (C "NotATable"))=some false
 sNoLine_NotARoll:BG K (.ref (C "NoLine")) (.ref (C "NotARoll"))=some false
 wNoLine:BG K (.ref (C "NoLine")) (.type "ValueError")=some true
section
variable {base:AY}
theorem Zvy (F:Fun K "is_name" "is_name" Zhe f fd)(T:Txt mg K C):Zbr P w K mg base CX0 7 f fd ["text"] (spD K C 1 2 Dl.Zbi):=by
 refine F.okC Zmo (Γ':=[]) (Δ':=[]) rfl fun cdv A outer s H E hr=>?_;have sc:=Zmo;have hu:_+64<Bk:=hr.units;have nd0:Bt (["text","sign"]:List Str):=by decide +kernel
 exact ⟨_,(Zj (Zw (Zrk (Zfh Zep Zep Zbm Zbm Znr Zd (Yc (r:=Zcl K) Yh Jt rfl T.len PySem.boot_len (Zh (Zo 0) Zl Za) (he:=Za)) (Zgg rfl T.LONGEST_NAME.choose_spec ⟨_,rfl⟩)) (Zqo (Yc (r:=Zzm K) (Zvq rfl) Xht rfl T.all HC (Zh (Zdp (n:=1) (Zk Zhe) ["text"] ["text"] ["sign"] ⟨rfl,by decide +kernel,by decide +kernel,by decide +kernel,by decide +kernel,by decide +kernel,rfl,by decide +kernel⟩ (Zlm (Zo 0)) (fun _ _ _ _ _=>(Zan 1 (hN:=nd0))) (fun _ _ _ _ _=>Zce) (fun _ _ _ _ _=>(Zfh Zqw Zqw Zki Zki Xet Zp (Zo 1 (hv:=Am rfl)) Zp))) Zl Zab) (he:=Zab))))))⟩
theorem Zog (F:Fun K "is_number" "is_number" Zdw f fd)(T:Txt mg K C):Zbr P w K mg base CX0 7 f fd ["word"] (spD K C 1 2 Dl.Zbl):=by
  refine F.okC Zid (Γ':=[]) (Δ':=[]) rfl fun cdv A outer s H E hr=>?_;have sc:=Zid;have hu:_+64<Bk:=hr.units;have nd0:Bt (["word","figures","figure"]:List Str):=by decide +kernel
  exact ⟨_,(Ze [1] [1] (Zx (i:=1) sc.nd rfl (Am rfl) (ce_if (Zcz (Zze K (Zo 0) Zp Zc)) (Zek (Zo 0) (Jq Zd) Zaq) (Xy (Zo 0))))
      (Ze [1] [1] (Yd (Zch (Zfj Zep Zep Zbm Zbm Znr Zd (Yc (r:=Zcl K) Yh Jt rfl T.len PySem.boot_len (Zh (Zo 1) Zl Za) (he:=Za)) (Zgg rfl T.MOST_FIGURES.choose_spec ⟨_,rfl⟩))) (Zj (Zw Zoo)) Zu)
      (Ze [1] [1] (Yd (Zcz (Yc (r:=Xax K) (Zuc rfl) Xhm rfl T.any HB (Zh (Zdp (n:=2) (Zk Zdw) ["word","figures"] ["word","figures"] ["figure"] ⟨rfl,by decide +kernel,by decide +kernel,by decide +kernel,by decide +kernel,by decide +kernel,rfl,by decide +kernel⟩ (Zlm (Zo 1)) (fun _ _ _ _ _=>(Zan 2 (hN:=nd0))) (fun _ _ _ _ _=>Zce) (fun _ _ _ _ _=>(Xqn (Zfh Zqw Zqw Zki Zki Xet Zp (Zo 2 (hv:=Am rfl)) Zp)))) Zl Zab) (he:=Zab))) (Zj (Zw Zoo)) Zu)
      (Zj (Zw (ce_or (Zje (r:=Zfq K) (Yu hu) Yt (Zo 0) Zp (Xg _)) (Zqo (Zje (r:=Xgw K) (Zmj hu) Zlx (Xh K (Zo 1) Zd Zi) Zp (Xg _)))))))))⟩
theorem Zoe (F:Fun K "_law_cell" "_law_cell" Zgl f fd)(T:Txt mg K C):Zbr P w K mg base CX0 7 f fd ["_law_script","_law_place"] (spD K C 2 2 Dl.Zat):=by
  refine F.okC Ziq (Γ':=[]) (Δ':=[]) rfl fun cdv A outer s H E hr=>?_;have sc:=Ziq;have hu:_+64<Bk:=hr.units;exact ⟨_,(Ze [] [] (Yd (Xf Zxe Znf (Zo 1) (Yc (r:=Zcl K) Yh Jt rfl T.len PySem.boot_len (Zh (Zo 0) Zl Za) (he:=Za)) (Xg _)) (Zj (Zw (Xy (Xh K (Zo 0) (Zo 1) Zap)))) Zu)
      (Ze [2] [2] (Zx (i:=2) sc.nd rfl (Am rfl) Zd)
      (Ze [2] [2] (Zdo [2] [2] A6 rfl (Zbk (Xcb K (Zo 0) Zaq (Jq Zd))) (Zbb (i:=3) (hN:=sc.nd) (hi:=rfl) (hx:=Am rfl)) (Zj (Zx (i:=2) sc.nd rfl (Am rfl) (Zv Zai Jh (Zv Zy Xa (Zv Zy Xa (Zv Ja Yz (Zo 2) Zd) (Zv Zai Jh (Zo 3) Zd)) Zd) Zd))))
      (Zj (Zw (Zv Zai Jh (Zv Zy Xa (Zo 2) (Zv Ja Yz Zd (Zo 1))) Zd))))))⟩
theorem Zsm (F:Fun K "_law_mix" "_law_mix" Zhk f fd)(T:Txt mg K C):Zbr P w K mg base CX0 7 f fd ["_law_cell_here","_law_k"] (spD K C 2 2 Dl.Zbh):=by
  refine F.okC Zjp (Γ':=[]) (Δ':=[]) rfl fun cdv A outer s H E hr=>?_;have sc:=Zjp;have hu:_+64<Bk:=hr.units;exact ⟨_,(Ze [2] [2] (Zx (i:=2) sc.nd rfl (Am rfl) (Zv Zai Jh (Zv Zee Zca (Zv Zy Xa (Zv Zy Xa (Zv Zai Jh (Zo 0) Zd) (Zv Ja Yz Zd (Zo 1))) Zd) Zd) Zd))
      (Ze [2,3] [2,3] (Zx (i:=3) sc.nd rfl (Am rfl) (Zv Zai Jh (Zv Zy Xa (Zv Zy Xa (Zv Ja Yz (Zo 2) Zd) (Zv Ja Yz (Zv Ja Yz Zd (Zo 1)) (Zo 1))) Zd) Zd))
      (Zj (Zw (Zv Zqm Zwt (Zo 3) Zd)))))⟩
theorem Znp (F:Fun K "_law_whole" "_law_whole" Zet f fd)(T:Txt mg K C):Zbr P w K mg base CX0 7 f fd ["_law_word"] (spD K C 1 2 Dl.Xm):=by
  refine F.okC Zgm (Γ':=[]) (Δ':=[]) rfl fun cdv A outer s H E hr=>?_;have sc:=Zgm;have hu:_+64<Bk:=hr.units;exact ⟨_,(Ze [1] [1] (Zx (i:=1) sc.nd rfl (Am rfl) (Xy (Zo 0)))
      (Ze [1] [1] (Yd (Xf (r:=Zfq K) (Yu hu) Yt (Zek (Zo 0) Zaq (Jq Zd)) Zp (Xg _)) (Zj (Zx (i:=1) sc.nd rfl (Am rfl) (Zek (Zo 0) (Jq Zd) Zaq))) Zu)
      (Ze [1] [1] (Yd (Zvf (Zir (Xf Zxe Znf (Yc (r:=Zcl K) Yh Jt rfl T.len PySem.boot_len (Zh (Zo 1) Zl Za) (he:=Za)) Zd (Xg _)) (Zgs (Xf Zxs Zmu (Yc (r:=Zcl K) Yh Jt rfl T.len PySem.boot_len (Zh (Zo 1) Zl Za) (he:=Za)) Zd (Xg _))))) (Zj (Zw Zah)) Zu)
      (Ze [1] [1] (Zdo [1] [1] A6 rfl (Zlm (Zo 1)) (Zbb (i:=2) (hN:=sc.nd) (hi:=rfl) (hx:=Am rfl)) (Zj (Yd (Xf Zne Zjd (Zo 2) Zp rfl) (Zj (Zw Zah)) Zu)))
      (Ze [1] [1] (Yd (Zvf (Zww (Xf (r:=Zfq K) (Yu hu) Yt (Xh K (Zo 1) Zd Zi) Zp (Xg _)) (Zos (Xf (r:=Xgw K) (Zmj hu) Zlx (Zo 0) Zp (Xg _))))) (Zj (Zw Zah)) Zu)
      (Zj (Zw (Zci Zng Zqf rfl T.int C8 (Zh (Zo 0) Zl Za) (he:=Za)))))))))⟩
theorem Zop (F:Fun K "_law_name" "_law_name" Zgd f fd)(T:Txt mg K C):Zbr P w K mg base CX0 7 f fd ["_law_word"] (spD K C 1 2 Dl.Jc):=by
  refine F.okC Zif (Γ':=[]) (Δ':=[]) rfl fun cdv A outer s H E hr=>?_;have sc:=Zif;have hu:_+64<Bk:=hr.units;exact ⟨_,(Ze [] [] (Yd (Zvf (Zir (Xf Zxe Znf (Yc (r:=Zcl K) Yh Jt rfl T.len PySem.boot_len (Zh (Zo 0) Zl Za) (he:=Za)) Zd (Xg _)) (Zgs (Xf Zxs Zmu (Yc (r:=Zcl K) Yh Jt rfl T.len PySem.boot_len (Zh (Zo 0) Zl Za) (he:=Za)) Zd (Xg _))))) (Zj (Zw Zah)) Zu)
      (Ze [] [] (Zdo [] [] A6 rfl (Zlm (Zo 0)) (Zbb (i:=1) (hN:=sc.nd) (hi:=rfl) (hx:=Am rfl)) (Zj (Yd (Xf Zne Zjd (Zo 1) Zp rfl) (Zj (Zw Zah)) Zu)))
      (Zj (Zw (Xy (Zo 0))))))⟩
theorem Zpe (F:Fun K "_law_bent" "_law_bent" Zgh f fd)(T:Txt mg K C):Zbr P w K mg base CX0 7 f fd ["_law_line_here","_law_some"] (spD K C 2 2 Dl.Zam):=by
  refine F.okC Zic (Γ':=[]) (Δ':=[]) rfl fun cdv A outer s H E hr=>?_;have sc:=Zic;have hu:_+64<Bk:=hr.units;exact ⟨_,(Ze [2] [2] (Zx (i:=2) sc.nd rfl (Am rfl) (Yy (Zf Zp (Zf Zp (Zf (Zv Xjz Zym Zp Zd) (Zf Zp (Zf Zp (Zf Zp (Zf Zp (Zf Zp (Zf Zp (Zf Zp (Zf Zp (Zf Zp (Zf Zp (Zf Zp (Zf Zp Zl Zc) Zc) Zc) Zc) Zc) Zc) Zc) Zc) Zc) Zc) Zc) Zc) Xn) Zc) Zc)))
      (Ze [2,3] [2,3] (Zx (i:=3) sc.nd rfl (Am rfl) Zp)
      (Ze [2,3] [2,3] (Zx (i:=3) sc.nd rfl (Am rfl) (Zv Zy Xa (Zo 3) Zp))
      (Ze [2,3] [2,3] (Zdo [2,3] [2,3] A6 rfl (Zgi rfl T.range (Zh (Xh K (Zo 1) Zd Zi) Zl Xc)) (Zbb (i:=4) (hN:=sc.nd) (hi:=rfl) (hx:=Am rfl)) (Zau [2,3,5,6,7] [2,3,5,6,7] (Ze [2,3,5] [2,3,5] (Zx (i:=5) sc.nd rfl (Am rfl) (Xcb K (Zo 1) (Jq (Zv Zy Xa Zd (Zv Ja Yz Zd (Zo 4)))) (Jq (Zv Zy Xa Zd (Zv Ja Yz Zd (Zo 4))))))
      (Ze [2,3,5,6] [2,3,5,6] (Zx (i:=6) sc.nd rfl (Am rfl) (Xy (Xh K (Zv Zy Xa (Zo 3) Zp) (Xh K (Zo 5) Zd Zi) Zck)))
      (Ze [2,3,5,6,7] [2,3,5,6,7] (Zx (i:=7) sc.nd rfl (Am rfl) (Zv Zai Jh (Xh K (Zo 5) Zd Zi) (Zv Zy Xa (Yc (r:=Zcl K) Yh Jt rfl T.len PySem.boot_len (Zh (Zo 0) Zl Za) (he:=Za)) Zd)))
      (Ze [2,3,5,6,7] [2,3,5,6,7] (Yd (Xf (r:=Zfq K) (Yu hu) Yt (Xh K (Zo 5) Zd Zi) Zd (Xg _)) (Zau [0,2,3,5,6,7] [0,2,3,5,6,7] (Zj (Zx (i:=0) sc.nd rfl (Am rfl) (Zv Zy Xa (Zv Zy Xa (Zek (Zo 0) Zaq (Jq (Zo 7))) (Zo 6)) (Zek (Zo 0) (Jq (Zo 7)) Zaq))))) Zu)
      (Ze [2,3,5,6,7] [2,3,5,6,7] (Yd (Xf (r:=Zfq K) (Yu hu) Yt (Xh K (Zo 5) Zd Zi) Zd (Xg _)) (Zau [0,2,3,5,6,7] [0,2,3,5,6,7] (Zj (Zx (i:=0) sc.nd rfl (Am rfl) (Zv Zy Xa (Zek (Zo 0) Zaq (Jq (Zo 7))) (Zek (Zo 0) (Jq (Zv Zy Xa (Zo 7) Zd)) Zaq))))) Zu)
      (Ze [2,3,5,6,7] [2,3,5,6,7] (Yd (Xf (r:=Zfq K) (Yu hu) Yt (Xh K (Zo 5) Zd Zi) Zd (Xg _)) (Zau [0,2,3,5,6,7] [0,2,3,5,6,7] (Zj (Zx (i:=0) sc.nd rfl (Am rfl) (Zv Zy Xa (Zv Zy Xa (Zek (Zo 0) Zaq (Jq (Zo 7))) (Zo 6)) (Zek (Zo 0) (Jq (Zv Zy Xa (Zo 7) Zd)) Zaq))))) Zu)
      (Zj (Yd (Xf (r:=Zfq K) (Yu hu) Yt (Xh K (Zo 5) Zd Zi) Zd (Xg _)) (Zau [0,2,3,5,6,7,8] [0,2,3,5,6,7,8] (Ze [2,3,5,6,7,8] [2,3,5,6,7,8] (Zx (i:=8) sc.nd rfl (Am rfl) (Zbw K (Zo 0) Zp Zc))
      (Ze [2,3,5,6,7,8] [2,3,5,6,7,8] (Xoc (i:=8) (he:=(Xh K (Zo 2) (Xh K (Zo 5) Zd Zi) Zck)) (hk:=(Zv Zai Jh (Xh K (Zo 5) Zd Zi) (Yc (r:=Zcl K) Yh Jt rfl T.len PySem.boot_len (Zh (Zo 8) Zl Za) (he:=Za)))))
      (Zj (Zx (i:=0) sc.nd rfl (Am rfl) (Zfx K Zp (Zo 8) Za)))))) Zu))))))))))
      (Zj (Zw (Xy (Zo 0))))))))⟩
theorem Zwg (F:Fun K "is_kind" "is_kind" Zkk f fd)(T:Txt mg K C)(Dis_name:Def P w K mg base CX0 7 "is_name" ["text"] (spD K C 1 2 Dl.Zbi)):Zbr P w K mg base CX0 8 f fd ["name","width","worth","allowed"] (spD K C 4 2 Dl.Zcf):=by
  refine F.okC Zmf (Γ':=[]) (Δ':=[]) rfl fun cdv A outer s H E hr=>?_;have sc:=Zmf;have hu:_+64<Bk:=hr.units;exact ⟨_,(Ze [] [] (Yd (Zch (Zcz (Zz Dis_name (hr.mono (by decide)) rfl Zaf (Zh (Zo 0) Zl Za) (he:=Za)))) (Zj (Zw Zoo)) Zu)
      (Ze [] [] (Yd (Zch (Zfj Zep Zep Zbm Zbm Znr Zd (Zo 1) (Zgg rfl T.GREATEST_WIDTH.choose_spec ⟨_,rfl⟩))) (Zj (Zw Zoo)) Zu)
      (Zj (Zw (Zrk (Zfh Zep Zep Zbm Zbm Znr Zd (Zo 2) (Zgg rfl T.GREATEST_WORTH.choose_spec ⟨_,rfl⟩)) (Zqo (Zfh Zep Zep Zbm Zbm Znr Zd (Zo 3) (Zgg rfl T.GREATEST_ALLOWED.choose_spec ⟨_,rfl⟩))))))))⟩
theorem Zlh (F:Fun K "read_number" "read_number" Zds f fd)(T:Txt mg K C)(Dis_number:Def P w K mg base CX0 7 "is_number" ["word"] (spD K C 1 2 Dl.Zbl)):Zbr P w K mg base (CXE P w) 8 f fd ["word"] (spD K C 1 2 Dl.Zt):=by
  refine F.okCE Zfo (Γ':=[]) (Δ':=[]) rfl fun cdv A outer s H E hr=>?_;have sc:=Zfo;have hu:_+64<Bk:=hr.units;exact ⟨_,(Ze [] [] (Yd (Zch (Zcz (Zz Dis_number (hr.mono (by decide)) rfl Zaf (Zh (Zo 0) Zl Za) (he:=Za)))) (Zj (Zfw T.eNoLine.exc T.mNoLine (Zpq (Zqi (Zo 0) Zpv)))) Zu)
      (Zj (Zw (Zci Zng Zqf rfl T.int C8 (Zh (Zo 0) Zl Za) (he:=Za)))))⟩
theorem Zoq (F:Fun K "read_name" "read_name" Zgf f fd)(T:Txt mg K C)(Dis_name:Def P w K mg base CX0 7 "is_name" ["text"] (spD K C 1 2 Dl.Zbi)):Zbr P w K mg base (CXE P w) 8 f fd ["word"] (spD K C 1 2 Dl.Yg):=by
  refine F.okCE Zhy (Γ':=[]) (Δ':=[]) rfl fun cdv A outer s H E hr=>?_;have sc:=Zhy;have hu:_+64<Bk:=hr.units;exact ⟨_,(Ze [] [] (Yd (Zch (Zcz (Zz Dis_name (hr.mono (by decide)) rfl Zaf (Zh (Zo 0) Zl Za) (he:=Za)))) (Zj (Zfw T.eNoLine.exc T.mNoLine (Zpq (Zqi (Zo 0) Zpv)))) Zu)
      (Zj (Zw (Xy (Zo 0)))))⟩
theorem Zsi (F:Fun K "_law_row" "_law_row" Zhw f fd)(T:Txt mg K C)(D_law_cell:Def P w K mg base CX0 7 "_law_cell" ["_law_script","_law_place"] (spD K C 2 2 Dl.Zat))(D_law_mix:Def P w K mg base CX0 7 "_law_mix" ["_law_cell_here","_law_k"] (spD K C 2 2 Dl.Zbh)):Zbr P w K mg base CX0 8 f fd ["_law_script","_law_place","_law_sizes"] (spD K C 3 2 Dl.Yi):=by
  refine F.okC Zjv (Γ':=[]) (Δ':=[]) rfl fun cdv A outer s H E hr=>?_;have sc:=Zjv;have hu:_+64<Bk:=hr.units;exact ⟨_,(Ze [3] [3] (Zx (i:=3) sc.nd rfl (Am rfl) (Zz D_law_cell (hr.mono (by decide)) rfl Zaf (Zh (Zo 0) (Zh (Zo 1) Zl Za) Za) (he:=Za)))
      (Ze [3,4] [3,4] (Zx (i:=4) sc.nd rfl (Am rfl) (Xy (Zo 3)))
      (Ze [3,4,5] [3,4,5] (Zx (i:=5) sc.nd rfl (Am rfl) (Yy Zl))
      (Ze [3,4,5] [3,4,5] (Zdo [3,4,5] [3,4,5] A6 rfl (Zgi rfl T.range (Zh (Yc (r:=Zcl K) Yh Jt rfl T.len PySem.boot_len (Zh (Zo 2) Zl Za) (he:=Za)) Zl Yl)) (Zbb (i:=6) (hN:=sc.nd) (hi:=rfl) (hx:=Am rfl)) (Zj (Yd (Xf Zxe Znf (Zo 3) (Zv Zee Zca Zd Zd) (Xg _)) (Zj (Zjh (i:=5) (he:=(Zv Zai Jh (Zz D_law_mix (hr.mono (by decide)) rfl Zaf (Zh (Zo 3) (Zh (Zo 6) Zl Za) Za) (he:=Za)) (Xh K (Zo 2) (Zo 6) Zap))) (hse:=Xn))) (Zj (Yd (Xf Zxs Zmu (Zo 4) Zd (Xg _)) (Ze [3,4,5] [3,4,5] (Zjh (i:=5) (he:=(Zv Zai Jh (Zo 4) (Xh K (Zo 2) (Zo 6) Zap))) (hse:=Xn))
      (Zj (Zx (i:=4) sc.nd rfl (Am rfl) (Zv Zqm Zwt (Zo 4) (Xh K (Zo 2) (Zo 6) Zap))))) (Zau [3,4,5,7] [3,4,5,7] (Ze [3,4,5,7] [3,4,5,7] (Zx (i:=7) sc.nd rfl (Am rfl) (Zz D_law_cell (hr.mono (by decide)) rfl Zaf (Zh (Zo 0) (Zh (Zv Zai Jh (Zv Zy Xa (Zv Zy Xa (Zo 1) Zd) (Zo 6)) Zd) Zl Xn) Za) (he:=Za)))
      (Zj (Zjh (i:=5) (he:=(Zv Zai Jh (Zz D_law_mix (hr.mono (by decide)) rfl Zaf (Zh (Zo 7) (Zh (Zo 6) Zl Za) Za) (he:=Za)) (Xh K (Zo 2) (Zo 6) Zap))) (hse:=Xn))))))))))
      (Zj (Zw (Ztc 5)))))))⟩
theorem Zff (F:Fun K "_law_due_numbers" "_law_due_numbers" Jm f fd)(T:Txt mg K C)(D_law_whole:Def P w K mg base CX0 7 "_law_whole" ["_law_word"] (spD K C 1 2 Dl.Xm)):Zbr P w K mg base CX0 8 f fd ["_law_line_here"] (spD K C 1 2 Dl.Ya):=by
  refine F.okC Zbs (Γ':=[]) (Δ':=[]) rfl fun cdv A outer s H E hr=>?_;have sc:=Zbs;have hu:_+64<Bk:=hr.units;have nd0:Bt (["_law_line_here","_law_found","_law_word"]:List Str):=by decide +kernel
  exact ⟨_,(Ze [] [] (Yd (Xf (r:=Zfq K) (Yu hu) Yt (Zo 0) Zp (Xg _)) (Zj (Zw (Yy Zl))) Zu)
      (Ze [1] [1] (Zxr (i:=1) (n:=2) (Zk Jm) ["_law_line_here","_law_found"] ["_law_line_here","_law_found"] ["_law_word"] ⟨rfl,by decide +kernel,by decide +kernel,by decide +kernel,by decide +kernel,by decide +kernel,rfl,by decide +kernel⟩ rfl rfl (Zbk (Zbw K (Zo 0) Zp Zc)) (fun _ _ _ _ _=>(Zan 2 (hN:=nd0))) (fun _ _ _ _ _=>Zce) (fun _ _ _ _ _=>(Zz D_law_whole (hr.mono (by decide)) rfl Zaf (Zh (Zo 2 (hv:=Am rfl)) Zl Za) (he:=Za))))
      (Ze [1] [1] (Yd (Xf (r:=Xoq K false) (Zwu hu) Zui Zah (Zo 1) rfl) (Zj (Zw Zah)) Zu)
      (Zj (Zw (Ztc 1))))))⟩
theorem Zfu (F:Fun K "_law_due_cutting" "_law_due_cutting" Zak f fd)(T:Txt mg K C)(D_law_whole:Def P w K mg base CX0 7 "_law_whole" ["_law_word"] (spD K C 1 2 Dl.Xm))(D_law_name:Def P w K mg base CX0 7 "_law_name" ["_law_word"] (spD K C 1 2 Dl.Jc)):Zbr P w K mg base CX0 8 f fd ["_law_line_here"] (spD K C 1 2 Dl.Xz):=by
  refine F.okC Zbv (Γ':=[]) (Δ':=[]) rfl fun cdv A outer s H E hr=>?_;have sc:=Zbv;have hu:_+64<Bk:=hr.units;exact ⟨_,(Ze [] [] (Yd (Xf (r:=Zfq K) (Yu hu) Yt (Zo 0) Zp (Xg _)) (Zj (Zw (Yy Zl))) Zu)
      (Ze [1] [1] (Zx (i:=1) sc.nd rfl (Am rfl) (Yy Zl))
      (Ze [1] [1] (Zdo [1] [1] A6 rfl (Zbk (Zbw K (Zo 0) Zp Zc)) (Zbb (i:=2) (hN:=sc.nd) (hi:=rfl) (hx:=Am rfl)) (Zau [1,3] [1,3] (Ze [1,3] [1,3] (Zx (i:=3) sc.nd rfl (Am rfl) (Zbw K (Zo 2) Zp Zc))
      (Ze [1,3] [1,3] (Yd (Zvf (Zir (Xf (r:=Xgw K) (Zmj hu) Zlx (Yc (r:=Zcl K) Yh Jt rfl T.len PySem.boot_len (Zh (Zo 3) Zl Za) (he:=Za)) Zd (Xg _)) (Zir (Xf Zqc Zrf (Zz D_law_whole (hr.mono (by decide)) rfl Zaf (Zh (Xh K (Zo 3) Zd Zi) Zl Xc) (he:=Xc)) Zah (Xg _)) (Zgs (Xf Zqc Zrf (Zz D_law_name (hr.mono (by decide)) rfl Zaf (Zh (Xh K (Zo 3) Zd Zi) Zl Xc) (he:=Xc)) Zah (Xg _)))))) (Zj (Zw Zah)) Zu)
      (Zj (Zjh (i:=1) (he:=(Zef (Zf (Zz D_law_whole (hr.mono (by decide)) rfl Zaf (Zh (Xh K (Zo 3) Zd Zi) Zl Xc) (he:=Xc)) (Zf (Xy (Xh K (Zo 3) Zd Zi)) Zl Xc) Yl))) (hse:=Zko)))))))
      (Zj (Zw (Ztc 1))))))⟩
theorem Zhc (F:Fun K "_law_due_table" "_law_due_table" Jk f fd)(T:Txt mg K C)(D_law_whole:Def P w K mg base CX0 7 "_law_whole" ["_law_word"] (spD K C 1 2 Dl.Xm))(D_law_name:Def P w K mg base CX0 7 "_law_name" ["_law_word"] (spD K C 1 2 Dl.Jc)):Zbr P w K mg base CX0 8 f fd ["_law_line_here"] (spD K C 1 2 Dl.Yj):=by
  refine F.okC Zcy (Γ':=[]) (Δ':=[]) rfl fun cdv A outer s H E hr=>?_;have sc:=Zcy;have hu:_+64<Bk:=hr.units;have nd0:Bt (["_law_line_here","_law_found","_law_part","_law_words","_law_some","_law_word"]:List Str):=by decide +kernel
  have nd1:Bt (["_law_line_here","_law_found","_law_part","_law_words","_law_some","_law_kind"]:List Str):=by decide +kernel
  exact ⟨_,(Ze [] [] (Yd (Xf (r:=Zfq K) (Yu hu) Yt (Zo 0) Zp (Xg _)) (Zj (Zw (Yy Zl))) Zu)
      (Ze [1] [1] (Zx (i:=1) sc.nd rfl (Am rfl) (Yy Zl))
      (Ze [1] [1] (Zdo [1] [1] A6 rfl (Zbk (Znm K (Zo 0) Zp Zc)) (Zbb (i:=2) (hN:=sc.nd) (hi:=rfl) (hx:=Am rfl)) (Zau [1,3,4] [1,3,4] (Ze [1,3] [1,3] (Zx (i:=3) sc.nd rfl (Am rfl) (Zbw K (Zo 2) Zp Zc))
      (Ze [1,3] [1,3] (Yd (Zvf (Zir (Xf (r:=Xgw K) (Zmj hu) Zlx (Yc (r:=Zcl K) Yh Jt rfl T.len PySem.boot_len (Zh (Zo 3) Zl Za) (he:=Za)) Zd (Xg _)) (Zgs (Xf Zqc Zrf (Zz D_law_name (hr.mono (by decide)) rfl Zaf (Zh (Xh K (Zo 3) Zd Zi) Zl Xc) (he:=Xc)) Zah (Xg _))))) (Zj (Zw Zah)) Zu)
      (Ze [1,3,4] [1,3,4] (Zxr (i:=4) (n:=5) (Zk Jk) ["_law_line_here","_law_found","_law_part","_law_words","_law_some"] ["_law_line_here","_law_found","_law_part","_law_words","_law_some"] ["_law_word"] ⟨rfl,by decide +kernel,by decide +kernel,by decide +kernel,by decide +kernel,by decide +kernel,rfl,by decide +kernel⟩ rfl rfl (Zbk (Xcb K (Zo 3) (Jq Zd) Zaq)) (fun _ _ _ _ _=>(Zan 5 (hN:=nd0))) (fun _ _ _ _ _=>Zce) (fun _ _ _ _ _=>(Zz D_law_whole (hr.mono (by decide)) rfl Zaf (Zh (Zo 5 (hv:=Am rfl)) Zl Za) (he:=Za))))
      (Ze [1,3,4] [1,3,4] (Yd (Zvf (Zir (Xf (r:=Xoq K false) (Zwu hu) Zui Zah (Zo 4) rfl) (Zir (Xf (r:=Xoq K false) (Zwu hu) Zui (Xh K (Zo 3) Zd Zi) (Zdp (n:=5) (Zk Jk) ["_law_line_here","_law_found","_law_part","_law_words","_law_some"] ["_law_line_here","_law_found","_law_part","_law_words","_law_some"] ["_law_kind"] ⟨rfl,by decide +kernel,by decide +kernel,by decide +kernel,by decide +kernel,by decide +kernel,rfl,by decide +kernel⟩ (Zbk (Zo 1)) (fun _ _ _ _ _=>(Zan 5 (hN:=nd1))) (fun _ _ _ _ _=>Zce) (fun _ _ _ _ _=>(Xy (Xh K (Zo 5 (hv:=Am rfl)) Zd Zi)))) rfl) (Zgs (Xf Zxs Zmu (Yc (r:=Zcl K) Yh Jt rfl T.len PySem.boot_len (Zh (Zo 1) Zl Za) (he:=Za)) Zd (Xg _)))))) (Zj (Zw Zah)) Zu)
      (Ze [1,3,4] [1,3,4] (Yd (Zvf (Zir (Zch (Zfj Zep Zep Zbm Zbm Znr Zd (Xh K (Zo 4) Zd Zi) Zd)) (Zir (Zch (Zfj Zep Zep Zbm Zbm Znr Zd (Xh K (Zo 4) Zd Zi) (Zv Zee Zca Zd Zd))) (Zgs (Zch (Zfj Zep Zxe Zbm Znf Znr Zd (Xh K (Zo 4) Zd Zi) (Zv Zee Zca Zd Zd))))))) (Zj (Zw Zah)) Zu)
      (Zj (Zjh (i:=1) (he:=(Zef (Zf (Xy (Xh K (Zo 3) Zd Zi)) (Zf (Xy (Xh K (Zo 4) Zd Zi)) (Zf (Xy (Xh K (Zo 4) Zd Zi)) (Zf (Xy (Xh K (Zo 4) Zd Zi)) Zl Xc) Xc) Xc) Xc))) (hse:=Zko))))))))))
      (Zj (Zw (Ztc 1))))))⟩
theorem Xgb (F:Fun K "fault" "fault" Zuj f fd)(T:Txt mg K C)(Dis_kind:Def P w K mg base CX0 8 "is_kind" ["name","width","worth","allowed"] (spD K C 4 2 Dl.Zcf)):Zbr P w K mg base CX0 9 f fd ["table"] (spD K C 1 2 Dl.Zgk):=by
  refine F.okC Zxu (Γ':=[]) (Δ':=[]) rfl fun cdv A outer s H E hr=>?_;have sc:=Zxu;have hu:_+64<Bk:=hr.units;exact ⟨_,(Ze [1] [1] (Zx (i:=1) sc.nd rfl (Am rfl) Xfq)
      (Ze [1] [1] (Zdo [1] [1] A6 rfl (Xiz rfl T.enumerate (Zo 0) Za) (Xob rfl (Zpo (Zbb (i:=2) (hN:=sc.nd) (hi:=rfl) (hx:=Am rfl)) (Zpo (Zbb (i:=3) (hN:=sc.nd) (hi:=rfl) (hx:=Am rfl)) Xkk))) (Zau [1,4] [1,4] (Ze [1,4] [1,4] (Zx (i:=4) sc.nd rfl (Am rfl) (Xy (Xh K (Zo 3) Zd Zi)))
      (Ze [1,4] [1,4] (Yd (Zvf (Zir (Xf op_ge Xny (Zo 2) (Zgg rfl T.MOST_KINDS.choose_spec ⟨_,rfl⟩) (Xg _)) (Zgs (Xf (Xqu hu) Xfh (Zo 4) (Zo 1) rfl)))) (Zj (Zw (Xy (Zo 2)))) Zu)
      (Ze [1,4] [1,4] (Yd (Zch (Zcz (Zz Dis_kind (hr.mono (by decide)) rfl Zaf (Zh (Zo 4) (Zh (Xh K (Zo 3) Zd Zi) (Zh (Xh K (Zo 3) Zd Zi) (Zh (Xh K (Zo 3) Zd Zi) Zl Xc) Xc) Xc) Za) (he:=Za)))) (Zj (Zw (Xy (Zo 2)))) Zu)
      (Zj (Xjf (i:=1) (he:=Zoo) (hk:=(Zo 4)) (hu:=hu))))))))
      (Zj (Zw Zah))))⟩
theorem Zja (F:Fun K "read_numbers" "read_numbers" Zbe f fd)(T:Txt mg K C)(Dread_number:Def P w K mg base (CXE P w) 8 "read_number" ["word"] (spD K C 1 2 Dl.Zt)):Zbr P w K mg base (CXE P w) 9 f fd ["line"] (spD K C 1 2 Dl.Yr):=by
  refine F.okCE Zem (Γ':=[]) (Δ':=[]) rfl fun cdv A outer s H E hr=>?_;have sc:=Zem;have hu:_+64<Bk:=hr.units;have nd0:Bt (["line","word"]:List Str):=by decide +kernel
  exact ⟨_,(Ze [] [] (Yd (Xf (r:=Zfq K) (Yu hu) Yt (Zo 0) (Zld rfl T.NONE.choose_spec ⟨_,rfl⟩) (Xg _)) (Zj (Zw (Yy Zl))) Zu)
      (Zj (Zw (Zps (n:=1) (Zk Zbe) ["line"] ["line"] ["word"] ⟨rfl,by decide +kernel,by decide +kernel,by decide +kernel,by decide +kernel,by decide +kernel,rfl,by decide +kernel⟩ (Zbk (Zbw K (Zo 0) Zp Zc)) (fun _ _ _ _ _=>(Zan 1 (hN:=nd0))) (fun _ _ _ _ _=>(Zz Dread_number (hr.mono (by decide)) rfl Xjc (Zh (Zo 1 (hv:=Am rfl)) Zl Za) (he:=Za)))))))⟩
theorem Zol (F:Fun K "read_kind" "read_kind" Zgj f fd)(T:Txt mg K C)(Dread_name:Def P w K mg base (CXE P w) 8 "read_name" ["word"] (spD K C 1 2 Dl.Yg))(Dread_number:Def P w K mg base (CXE P w) 8 "read_number" ["word"] (spD K C 1 2 Dl.Zt)):Zbr P w K mg base (CXE P w) 9 f fd ["text"] (spD K C 1 2 Dl.Zal):=by
  refine F.okCE Zii (Γ':=[]) (Δ':=[]) rfl fun cdv A outer s H E hr=>?_;have sc:=Zii;have hu:_+64<Bk:=hr.units;exact ⟨_,(Ze [1] [1] (Zx (i:=1) sc.nd rfl (Am rfl) (Zbw K (Zo 0) Zp Zc))
      (Ze [1] [1] (Yd (Xf (r:=Xgw K) (Zmj hu) Zlx (Yc (r:=Zcl K) Yh Jt rfl T.len PySem.boot_len (Zh (Zo 1) Zl Za) (he:=Za)) Zd (Xg _)) (Zj (Zfw T.eNoLine.exc T.mNoLine (Zpq (Zqi (Zo 0) Zpv)))) Zu)
      (Zj (Zw (Zef (Zf (Zz Dread_name (hr.mono (by decide)) rfl Zlb (Zh (Xh K (Zo 1) Zd Zi) Zl Xc) (he:=Xc)) (Zf (Zz Dread_number (hr.mono (by decide)) rfl Zlb (Zh (Xh K (Zo 1) Zd Zi) Zl Xc) (he:=Xc)) (Zf (Zz Dread_number (hr.mono (by decide)) rfl Zlb (Zh (Xh K (Zo 1) Zd Zi) Zl Xc) (he:=Xc)) (Zf (Zz Dread_number (hr.mono (by decide)) rfl Zlb (Zh (Xh K (Zo 1) Zd Zi) Zl Xc) (he:=Xc)) Zl Yl) Yl) Yl) Yl))))))⟩
theorem Zlz (F:Fun K "read_piece" "read_piece" Zfb f fd)(T:Txt mg K C)(Dread_number:Def P w K mg base (CXE P w) 8 "read_number" ["word"] (spD K C 1 2 Dl.Zt))(Dread_name:Def P w K mg base (CXE P w) 8 "read_name" ["word"] (spD K C 1 2 Dl.Yg)):Zbr P w K mg base (CXE P w) 9 f fd ["word"] (spD K C 1 2 Dl.Zay):=by
  refine F.okCE Zgw (Γ':=[]) (Δ':=[]) rfl fun cdv A outer s H E hr=>?_;have sc:=Zgw;have hu:_+64<Bk:=hr.units;exact ⟨_,(Ze [1] [1] (Zx (i:=1) sc.nd rfl (Am rfl) (Xgi K (Zo 0) Zp Zc))
      (Zj (Zw (Zef (Zf (Zz Dread_number (hr.mono (by decide)) rfl Zlb (Zh (Xh K (Zo 1) Zd Zi) Zl Xc) (he:=Xc)) (Zf (Zz Dread_name (hr.mono (by decide)) rfl Zlb (Zh (Xh K (Zo 1) Zd Zi) Zl Xc) (he:=Xc)) Zl Yl) Yl)))))⟩
theorem Zlv (F:Fun K "_law_table" "_law_table" Zes f fd)(T:Txt mg K C)(D_law_row:Def P w K mg base CX0 8 "_law_row" ["_law_script","_law_place","_law_sizes"] (spD K C 3 2 Dl.Yi)):Zbr P w K mg base CX0 9 f fd ["_law_script","_law_place","_law_most"] (spD K C 3 2 Dl.Zax):=by
  refine F.okC Zgp (Γ':=[]) (Δ':=[]) rfl fun cdv A outer s H E hr=>?_;have sc:=Zgp;have hu:_+64<Bk:=hr.units;exact ⟨_,(Ze [3] [3] (Zx (i:=3) sc.nd rfl (Am rfl) (Yy (Zf Zp (Zf Zp (Zf Zp (Zf Zp (Zf Zp (Zf Zp (Zf Zp (Zf Zp (Zf Zp (Zf Zp Zl Zc) Zc) Zc) Zc) Zc) Zc) Zc) Zc) Zc) Zc)))
      (Ze [3] [3] (Zx (i:=3) sc.nd rfl (Am rfl) (Zv Zy Xa (Zo 3) (Yy (Zf Zp (Zf Zp (Zf Zp (Zf Zp (Zf Zp (Zf Zp Zl Zc) Zc) Zc) Zc) Zc) Zc))))
      (Ze [3,4] [3,4] (Zx (i:=4) sc.nd rfl (Am rfl) (Zz D_law_row (hr.mono (by decide)) rfl Zaf (Zh (Zo 0) (Zh (Zo 1) (Zh (Zv Zy Xa (Yy (Zf (Zv Zy Xa (Zo 2) Zd) (Zf Zd (Zf Zd (Zf Zd (Zf Zd (Zf Zd Zl Zc) Zc) Zc) Zc) Zc) Xn)) (Zv Ja Yz (Yy (Zf Zd (Zf Zd (Zf Zd Zl Zc) Zc) Zc)) (Zo 2))) Zl Xn) Za) Za) (he:=Za)))
      (Ze [3,4,5] [3,4,5] (Zx (i:=5) sc.nd rfl (Am rfl) (Xy (Xh K (Yy (Zf Zd (Zf Zd (Zf Zd (Zf (Zv Zee Zca Zd Zd) Zl Xn) Zc) Zc) Zc)) (Xh K (Zo 4) Zd Zi) Zck)))
      (Ze [3,4,5,6] [3,4,5,6] (Zx (i:=6) sc.nd rfl (Am rfl) (Xy (Xh K (Yy (Zf Zd (Zf Zd (Zf (Zv Zee Zca Zd Zd) (Zf (Zv Ja Yz Zd (Zv Zee Zca Zd Zd)) Zl Xn) Xn) Zc) Zc)) (Xh K (Zo 4) Zd Zi) Zck)))
      (Ze [3,4,5,6,7] [3,4,5,6,7] (Zx (i:=7) sc.nd rfl (Am rfl) (Yy Zl))
      (Ze [3,4,5,6,7] [3,4,5,6,7] (Zdo [3,4,5,6,7] [3,4,5,6,7] A6 rfl (Zgi rfl T.range (Zh (Xh K (Zo 4) Zd Zi) Zl Xc)) (Zbb (i:=8) (hN:=sc.nd) (hi:=rfl) (hx:=Am rfl)) (Zau [3,4,5,6,7,9,10,11,12,13] [3,4,5,6,7,9,10,11,12,13] (Ze [3,4,5,6,7,9] [3,4,5,6,7,9] (Zx (i:=9) sc.nd rfl (Am rfl) (Zv Zy Xa (Zv Ja Yz Zd (Zo 8)) Zd))
      (Ze [3,4,5,6,7,9,10] [3,4,5,6,7,9,10] (Zx (i:=10) sc.nd rfl (Am rfl) (Xy (Xh K (Xjt (Zh Zd (Zh Zd (Zh Zd (Zh Zd (Zh Zd (Zh Zd (Zh Zd (Zh Zd (Zh Zd (Zh Zd (Zh (Xh K (Yy (Zf Zd (Zf Zd Zl Zc) Zc)) (Zv Zai Jh (Zo 8) Zd) plain_bin) Zl Xc) Zc) Zc) Zc) Zc) Zc) Zc) Zc) Zc) Zc) Zc)) (Xh K (Zo 4) (Zo 9) Zap) Zck)))
      (Ze [3,4,5,6,7,9,10,11] [3,4,5,6,7,9,10,11] (Zx (i:=11) sc.nd rfl (Am rfl) (Zv Zy Xa Zd (Xh K (Zo 4) (Zv Zy Xa (Zo 9) Zd) plain_bin)))
      (Ze [3,4,5,6,7,9,10,11] [3,4,5,6,7,9,10,11] (Yd (Xf (r:=Zfq K) (Yu hu) Yt (Xh K (Zo 4) Zd Zi) Zd (Xg _)) (Zj (Zx (i:=11) sc.nd rfl (Am rfl) (Zv Zy Xa (Zv Ja Yz Zd (Zo 10)) (Zv Zai Jh (Xh K (Zo 4) (Zv Zy Xa (Zo 9) Zd) plain_bin) Zd)))) Zu)
      (Ze [3,4,5,6,7,9,10,11] [3,4,5,6,7,9,10,11] (Yd (Xf (r:=Zfq K) (Yu hu) Yt (Xh K (Zo 4) Zd Zi) Zd (Xg _)) (Zj (Zx (i:=11) sc.nd rfl (Am rfl) (Zv Zy Xa Zd (Zv Zai Jh (Xh K (Zo 4) (Zv Zy Xa (Zo 9) Zd) plain_bin) Zd)))) Zu)
      (Ze [3,4,5,6,7,9,10,11] [3,4,5,6,7,9,10,11] (Yd (Xf (r:=Zfq K) (Yu hu) Yt (Xh K (Zo 4) Zd Zi) Zd (Xg _)) (Zj (Zx (i:=11) sc.nd rfl (Am rfl) (Xy (Zo 10)))) Zu)
      (Ze [3,4,5,6,7,9,10,11,12] [3,4,5,6,7,9,10,11,12] (Zx (i:=12) sc.nd rfl (Am rfl) (Yc (r:=Xbk) (Znl rfl) Zve rfl T.min Em (Zh (Zv Ja Yz (Xh K (Yy (Zf Zd (Zf Zd (Zf Zd (Zf Zd (Zf Zd (Zf Zd Zl Zc) Zc) Zc) Zc) Zc) Zc)) (Xh K (Zo 4) (Zv Zy Xa (Zo 9) Zd) plain_bin) Zck) (Zo 5)) (Zh (Zv Xdq Zwc (Zv Zee Zca Zd Zd) Zd) Zl Xn) Xn) (he:=Xn)))
      (Ze [3,4,5,6,7,9,10,11,12,13] [3,4,5,6,7,9,10,11,12,13] (Zx (i:=13) sc.nd rfl (Am rfl) (Xy (Xh K (Zo 3) (Zv Zai Jh (Zv Zy Xa (Xh K (Zo 4) Zd Zi) (Zv Ja Yz (Zv Zy Xa (Zv Ja Yz Zd (Xh K (Zo 4) Zd Zi)) Zd) (Zo 8))) Zd) plain_bin)))
      (Zj (Zjh (i:=7) (he:=(Zef (Zf (Xy (Zo 13)) (Zf (Xy (Zo 10)) (Zf (Yc (r:=Xbk) (Znl rfl) Zve rfl T.min Em (Zh (Zv Ja Yz (Zo 11) (Zo 6)) (Zh (Zv Zee Zca Zd Zd) Zl Xn) Xn) (he:=Xn)) (Zf (Xy (Zo 12)) Zl Za) Yl) Za) Za))) (hse:=Zko)))))))))))))
      (Zj (Zw (Ztc 7))))))))))⟩
theorem Zom (F:Fun K "_law_line" "_law_line" Zao f fd)(T:Txt mg K C)(D_law_row:Def P w K mg base CX0 8 "_law_row" ["_law_script","_law_place","_law_sizes"] (spD K C 3 2 Dl.Yi)):Zbr P w K mg base CX0 9 f fd ["_law_script","_law_table_here","_law_some"] (spD K C 3 2 Dl.Zbn):=by
  refine F.okC Zhn (Γ':=[]) (Δ':=[]) rfl fun cdv A outer s H E hr=>?_;have sc:=Zhn;have hu:_+64<Bk:=hr.units;have nd0:Bt (["_law_script","_law_table_here","_law_some","_law_numbers","_law_one"]:List Str):=by decide +kernel
  have nd1:Bt (["_law_script","_law_table_here","_law_some","_law_numbers","_law_k"]:List Str):=by decide +kernel
  have nd2:Bt (["_law_script","_law_table_here","_law_some","_law_numbers","_law_kind"]:List Str):=by decide +kernel
  have nd3:Bt (["_law_script","_law_table_here","_law_some","_law_numbers","_law_kind","_law_one"]:List Str):=by decide +kernel
  exact ⟨_,(Ze [] [] (Yd (Xf (r:=Zfq K) (Yu hu) Yt (Xh K (Zo 2) Zd Zi) Zd (Xg _)) (Ze [3] [3] (Zx (i:=3) sc.nd rfl (Am rfl) (Xcb K (Zz D_law_row (hr.mono (by decide)) rfl Zaf (Zh (Zo 0) (Zh Zd (Zh (Zv Ja Yz (Yy (Zf (Zv Zee Zca Zd Zd) Zl Xn)) Zd) Zl Xn) Zc) Za) (he:=Za)) Zaq (Jq (Xh K (Zo 2) Zd Zi))))
      (Zj (Zw (Zfx K Zp (Zdp (n:=4) (Zk Zao) ["_law_script","_law_table_here","_law_some","_law_numbers"] ["_law_script","_law_table_here","_law_some","_law_numbers"] ["_law_one"] ⟨rfl,by decide +kernel,by decide +kernel,by decide +kernel,by decide +kernel,by decide +kernel,rfl,by decide +kernel⟩ (Zbk (Zo 3)) (fun _ _ _ _ _=>(Zan 4 (hN:=nd0))) (fun _ _ _ _ _=>Zce) (fun _ _ _ _ _=>(Zci (r:=Zvj) Zih Zla rfl T.str C7 (Zh (Zv Xdq Zwc (Zo 4 (hv:=Am rfl)) Zd) Zl Xn) (he:=Xn)))) Zab)))) Zu)
      (Ze [] [] (Yd (Xf (r:=Zfq K) (Yu hu) Yt (Xh K (Zo 2) Zd Zi) Zd (Xg _)) (Zj (Zw (Zfx K Zp (Zdp (n:=4) (Zk Zao) ["_law_script","_law_table_here","_law_some","_law_numbers"] ["_law_script","_law_table_here","_law_some","_law_numbers"] ["_law_k"] ⟨rfl,by decide +kernel,by decide +kernel,by decide +kernel,by decide +kernel,by decide +kernel,rfl,by decide +kernel⟩ (Zgi rfl T.range (Zh (Yc (r:=Zcl K) Yh Jt rfl T.len PySem.boot_len (Zh (Zo 1) Zl Za) (he:=Za)) Zl Yl)) (fun _ _ _ _ _=>(Zan 4 (hN:=nd1))) (fun _ _ _ _ _=>Zce) (fun _ _ _ _ _=>(Zv Zy Xa (Zv Zy Xa (Zci (r:=Zvj) Zih Zla rfl T.str C7 (Zh (Zv Ja Yz (Zo 4 (hv:=Am rfl)) (Xh K (Zo 2 (hv:=Dy (Am rfl))) Zd Zi)) Zl Xn) (he:=Xn)) Zp) (Xh K (Xh K (Zo 1 (hv:=Dy (Am rfl))) (Zo 4 (hv:=Am rfl)) Zap) Zd Zi)))) Zab))) Zu)
      (Zj (Zw (Zfx K Zp (Zdp (n:=4) (Zk Zao) ["_law_script","_law_table_here","_law_some","_law_numbers"] ["_law_script","_law_table_here","_law_some","_law_numbers"] ["_law_kind"] ⟨rfl,by decide +kernel,by decide +kernel,by decide +kernel,by decide +kernel,by decide +kernel,rfl,by decide +kernel⟩ (Zbk (Zo 1)) (fun _ _ _ _ _=>(Zan 4 (hN:=nd2))) (fun _ _ _ _ _=>Zce) (fun _ _ _ _ _=>(Zfx K Zp (by exact Zwq (n:=5) (Zk Zao) ["_law_script","_law_table_here","_law_some","_law_numbers","_law_kind"] ["_law_script","_law_table_here","_law_some","_law_numbers","_law_kind"] ["_law_one"] ⟨rfl,by decide +kernel,by decide +kernel,by decide +kernel,by decide +kernel,by decide +kernel,rfl,by decide +kernel⟩ (Xhb K (Zo 4 (hv:=Am rfl))) (fun _ _ _ _ _=>(Zan 5 (hN:=nd3))) (fun _ _ _ _ _=>Zce) (fun _ _ _ _ _=>(Zci (r:=Zvj) Zih Zla rfl T.str C7 (Zh (Zo 5 (hv:=Am rfl)) Zl Za) (he:=Za)))) Zab))) Zab)))))⟩
theorem Zni (F:Fun K "read_table" "read_table" Zcs f fd)(T:Txt mg K C)(Dread_kind:Def P w K mg base (CXE P w) 9 "read_kind" ["text"] (spD K C 1 2 Dl.Zal))(Dfault:Def P w K mg base CX0 9 "fault" ["table"] (spD K C 1 2 Dl.Zgk)):Zbr P w K mg base (CXE P w) 10 f fd ["line"] (spD K C 1 2 Dl.Yv):=by
  refine F.okCE Zgu (Γ':=[]) (Δ':=[]) rfl fun cdv A outer s H E hr=>?_;have sc:=Zgu;have hu:_+64<Bk:=hr.units;have nd0:Bt (["line","table","text"]:List Str):=by decide +kernel
  exact ⟨_,(Ze [] [] (Yd (Xf (r:=Zfq K) (Yu hu) Yt (Zo 0) (Zld rfl T.NONE.choose_spec ⟨_,rfl⟩) (Xg _)) (Zj (Zw (Yy Zl))) Zu)
      (Ze [1] [1] (Zyi (i:=1) (n:=2) (Zk Zcs) ["line","table"] ["line","table"] ["text"] ⟨rfl,by decide +kernel,by decide +kernel,by decide +kernel,by decide +kernel,by decide +kernel,rfl,by decide +kernel⟩ rfl rfl (Zbk (Znm K (Zo 0) Zp Zc)) (fun _ _ _ _ _=>(Zan 2 (hN:=nd0))) (fun _ _ _ _ _=>(Zz Dread_kind (hr.mono (by decide)) rfl Xjc (Zh (Zo 2 (hv:=Am rfl)) Zl Za) (he:=Za))))
      (Ze [1] [1] (Yd (Xf Xhn Zun (Zz Dfault (hr.mono (by decide)) rfl Zaf (Zh (Zo 1) Zl Za) (he:=Za)) Zah (Xg _)) (Zj (Zfw T.eNoLine.exc T.mNoLine (Zpq (Zqi (Zo 0) Zpv)))) Zu)
      (Zj (Zw (Ztc 1))))))⟩
theorem Zjb (F:Fun K "read_cutting" "read_cutting" Zbf f fd)(T:Txt mg K C)(Dread_piece:Def P w K mg base (CXE P w) 9 "read_piece" ["word"] (spD K C 1 2 Dl.Zay)):Zbr P w K mg base (CXE P w) 10 f fd ["line"] (spD K C 1 2 Dl.Yq):=by
  refine F.okCE Zeg (Γ':=[]) (Δ':=[]) rfl fun cdv A outer s H E hr=>?_;have sc:=Zeg;have hu:_+64<Bk:=hr.units;have nd0:Bt (["line","word"]:List Str):=by decide +kernel
  exact ⟨_,(Ze [] [] (Yd (Xf (r:=Zfq K) (Yu hu) Yt (Zo 0) (Zld rfl T.NONE.choose_spec ⟨_,rfl⟩) (Xg _)) (Zj (Zw (Yy Zl))) Zu)
      (Zj (Zw (Zps (n:=1) (Zk Zbf) ["line"] ["line"] ["word"] ⟨rfl,by decide +kernel,by decide +kernel,by decide +kernel,by decide +kernel,by decide +kernel,rfl,by decide +kernel⟩ (Zbk (Zbw K (Zo 0) Zp Zc)) (fun _ _ _ _ _=>(Zan 1 (hN:=nd0))) (fun _ _ _ _ _=>(Zz Dread_piece (hr.mono (by decide)) rfl Xjc (Zh (Zo 1 (hv:=Am rfl)) Zl Za) (he:=Za)))))))⟩
theorem Zlr (F:Fun K "_law_asked" "_law_asked" Zfc f fd)(T:Txt mg K C)(Dread_table:Def P w K mg base (CXE P w) 10 "read_table" ["line"] (spD K C 1 2 Dl.Yv))(Dread_numbers:Def P w K mg base (CXE P w) 9 "read_numbers" ["line"] (spD K C 1 2 Dl.Yr))(Dread_cutting:Def P w K mg base (CXE P w) 10 "read_cutting" ["line"] (spD K C 1 2 Dl.Yq)):Zbr P w K mg base CX0 11 f fd ["_law_which","_law_line_here"] (spD K C 2 2 Dl.Jl):=by
  refine F.okC Zgt (Γ':=[]) (Δ':=[]) rfl fun cdv A outer s H E hr=>?_;have sc:=Zgt;have hu:_+64<Bk:=hr.units;exact ⟨_,(Zj (Xrp (i:=2) (Γ1:=[]) (Δ1:=[]) (Γ2:=[]) (Δ2:=[]) ["NoLine"] T.mCutError (fun E pn=>(Ze [] [] (Yd (Xf (r:=Zfq K) (Yu hu) Yt (Zo 0) Zd (Xg _)) (Zj (Zw (Zef (Zf Zp (Zf (Zz Dread_numbers (hr.mono (by decide)) rfl Zlb (Zh (Zo 1) Zl Za) (he:=Za)) Zl Yl) Zc)))) Zu)
      (Ze [] [] (Yd (Xf (r:=Zfq K) (Yu hu) Yt (Zo 0) Zd (Xg _)) (Zj (Zw (Zef (Zf Zp (Zf (Zz Dread_cutting (hr.mono (by decide)) rfl Zlb (Zh (Zo 1) Zl Za) (he:=Za)) Zl Yl) Zc)))) Zu)
      (Zj (Zw (Zef (Zf Zp (Zf (Zz Dread_table (hr.mono (by decide)) rfl Zlb (Zh (Zo 1) Zl Za) (he:=Za)) Zl Yl) Zc)))))))
      (fun ea=>(Ze [] [] (Yd (Zvf (Zww (Zcz (Zxc K (tb:=[("NoLine",true)]) rfl T.isinstance rfl T.mNoLine (all_cons ⟨T.eNoLine.k,T.eNoLine.cls.kitO T.eNoLine.se⟩ Zhr) (Zo 2) Za)) (Zos (Zcz (Xpd K (tb:=[("NoLine",true)]) rfl T.isinstance rfl T.ValueError Zok (all_cons ⟨T.eNoLine.k,Xib T.wNoLine⟩ Zhr) (Zo 2) Za))))) (Zj (Yd (Zvf (Zww (Zch (Zcz (Zxc K (tb:=[("NoLine",false)]) rfl T.isinstance rfl T.mNotATable (all_cons ⟨T.eNoLine.k,T.kNotATable.kitO T.sNoLine_NotATable⟩ Zhr) (Zo 2) Za))) (Zos (Zch (Zcz (Zxc K (tb:=[("NoLine",false)]) rfl T.isinstance rfl T.mNotARoll (all_cons ⟨T.eNoLine.k,T.kNotARoll.kitO T.sNoLine_NotARoll⟩ Zhr) (Zo 2) Za)))))) (Zj (Zw (Zef (Zf Zp (Zf (Yy Zl) Zl Zin) Zc)))) Zu)) Zu)
      (Zj (Zw (Zef (Zf Zp (Zf (Yy Zl) Zl Zin) Zc)))))) (all_cons (T.eCutError.k.exm T.sNoLine_CutError) Zhr) sc.nd rfl rfl))⟩
theorem Zmv (F:Fun K "_law_right" "_law_right" Zez f fd)(T:Txt mg K C)(D_law_due_numbers:Def P w K mg base CX0 8 "_law_due_numbers" ["_law_line_here"] (spD K C 1 2 Dl.Ya))(D_law_asked:Def P w K mg base CX0 11 "_law_asked" ["_law_which","_law_line_here"] (spD K C 2 2 Dl.Jl))(D_law_due_cutting:Def P w K mg base CX0 8 "_law_due_cutting" ["_law_line_here"] (spD K C 1 2 Dl.Xz))(D_law_due_table:Def P w K mg base CX0 8 "_law_due_table" ["_law_line_here"] (spD K C 1 2 Dl.Yj)):Zbr P w K mg base CX0 12 f fd ["_law_which","_law_line_here"] (spD K C 2 2 Dl.Jv):=by
  refine F.okC Zgq (Γ':=[]) (Δ':=[]) rfl fun cdv A outer s H E hr=>?_;have sc:=Zgq;have hu:_+64<Bk:=hr.units;exact ⟨_,(Ze [2] [2] (Zx (i:=2) sc.nd rfl (Am rfl) (Zz D_law_due_numbers (hr.mono (by decide)) rfl Zaf (Zh (Zo 1) Zl Za) (he:=Za)))
      (Ze [2] [2] (Yd (Xf (r:=Zfq K) (Yu hu) Yt (Zo 0) Zd (Xg _)) (Zj (Zx (i:=2) sc.nd rfl (Am rfl) (Zz D_law_due_cutting (hr.mono (by decide)) rfl Zaf (Zh (Zo 1) Zl Za) (he:=Za)))) Zu)
      (Ze [2] [2] (Yd (Xf (r:=Zfq K) (Yu hu) Yt (Zo 0) Zd (Xg _)) (Zj (Zx (i:=2) sc.nd rfl (Am rfl) (Zz D_law_due_table (hr.mono (by decide)) rfl Zaf (Zh (Zo 1) Zl Za) (he:=Za)))) Zu)
      (Ze [2,3,4] [2,3,4] (Zwe rfl (Zz D_law_asked (hr.mono (by decide)) rfl Zaf (Zh (Zo 0) (Zh (Zo 1) Zl Za) Za) (he:=Za)) (Zwb (i:=3) sc.nd rfl (Am rfl) (Zwb (i:=4) sc.nd rfl (Am rfl) Xol)))
      (Ze [2,3,4] [2,3,4] (Yd (Xf Zqc Zrf (Zo 2) Zah (Xg _)) (Zj (Zw (Zje (r:=Zfq K) (Yu hu) Yt (Zo 3) Zp (Xg _)))) Zu)
      (Zj (Zw (Zrk (Zje (r:=Zfq K) (Yu hu) Yt (Zo 3) Zp (Xg _)) (Zrk (Xqb K (ty:="list") Zzv rfl T.isinstance rfl T.list HA (Zo 4) Za) (Zqo (Zje (r:=Zfq K) (Yu hu) Yt (Zo 4) (Zo 2) (Xg _))))))))))))⟩
theorem oklaw (F:Fun K "law" "law" Xjq f fd)(T:Txt mg K C)(D_law_table:Def P w K mg base CX0 9 "_law_table" ["_law_script","_law_place","_law_most"] (spD K C 3 2 Dl.Zax))(D_law_row:Def P w K mg base CX0 8 "_law_row" ["_law_script","_law_place","_law_sizes"] (spD K C 3 2 Dl.Yi))(D_law_line:Def P w K mg base CX0 9 "_law_line" ["_law_script","_law_table_here","_law_some"] (spD K C 3 2 Dl.Zbn))(D_law_bent:Def P w K mg base CX0 7 "_law_bent" ["_law_line_here","_law_some"] (spD K C 2 2 Dl.Zam))(D_law_right:Def P w K mg base CX0 12 "_law_right" ["_law_which","_law_line_here"] (spD K C 2 2 Dl.Jv)):Zbr P w K mg base CX0 13 f fd ["_law_script"] (spD K C 1 2 Dl.Xkl):=by
  refine F.okC Xqo (Γ':=[]) (Δ':=[]) rfl fun cdv A outer s H E hr=>?_;have sc:=Xqo;have hu:_+64<Bk:=hr.units;have nd0:Bt (["_law_script","_law_table_here","_law_some","_law_line_here","_law_bent_here","_law_turn","_law_which","_law_letter"]:List Str):=by decide +kernel
  exact ⟨_,(Ze [1] [1] (Zx (i:=1) sc.nd rfl (Am rfl) (Zz D_law_table (hr.mono (by decide)) rfl Zaf (Zh (Zo 0) (Zh Zd (Zh Zd Zl Zc) Zc) Za) (he:=Za)))
      (Ze [1,2] [1,2] (Zx (i:=2) sc.nd rfl (Am rfl) (Zz D_law_row (hr.mono (by decide)) rfl Zaf (Zh (Zo 0) (Zh Zd (Zh (Yy (Zf Zd (Zf Zd (Zf Zd (Zf Zd (Zf Zd Zl Zc) Zc) Zc) Zc) Zc)) Zl Zin) Zc) Za) (he:=Za)))
      (Ze [1,2,3] [1,2,3] (Zx (i:=3) sc.nd rfl (Am rfl) (Zz D_law_line (hr.mono (by decide)) rfl Zaf (Zh (Zo 0) (Zh (Zo 1) (Zh (Zo 2) Zl Za) Za) Za) (he:=Za)))
      (Ze [1,2,3] [1,2,3] (Yd (Xf (r:=Zfq K) (Yu hu) Yt (Zo 3) Zp (Xg _)) (Zj (Zx (i:=3) sc.nd rfl (Am rfl) (Xy (Xh K (Yy (Zf Zp (Zf Zp Zl Zc) Zc)) (Zci Zvx Xgx rfl T.int C8 (Zh (Zje Zxs Zmu (Xh K (Zo 2) Zd Zi) Zd (Xg _)) Zl Zpw) (he:=Zpw)) Zry)))) Zu)
      (Ze [1,2,3] [1,2,3] (Yd (Xf (r:=Zfq K) (Yu hu) Yt (Xh K (Zo 2) Zd Zi) Zd (Xg _)) (Zj (Zx (i:=3) sc.nd rfl (Am rfl) (Zfx K Zp (Zdp (n:=7) (Zk Xjq) ["_law_script","_law_table_here","_law_some","_law_line_here","_law_bent_here","_law_turn","_law_which"] ["_law_script","_law_table_here","_law_some","_law_line_here","_law_bent_here","_law_turn","_law_which"] ["_law_letter"] ⟨rfl,by decide +kernel,by decide +kernel,by decide +kernel,by decide +kernel,by decide +kernel,rfl,by decide +kernel⟩ (Zlm (Zek Zp Zaq (Jq (Zv Zy Xa Zd (Zv Zai Jh (Xh K (Zo 2) Zd Zi) Zd))))) (fun _ _ _ _ _=>(Zan 7 (hN:=nd0))) (fun _ _ _ _ _=>Zce) (fun _ _ _ _ _=>(Zv Zy Xa (Zo 7 (hv:=Am rfl)) Zp))) Zab))) Zu)
      (Ze [1,2,3,4] [1,2,3,4] (Zx (i:=4) sc.nd rfl (Am rfl) (Zz D_law_bent (hr.mono (by decide)) rfl Zaf (Zh (Zo 3) (Zh (Zz D_law_row (hr.mono (by decide)) rfl Zaf (Zh (Zo 0) (Zh Zd (Zh (Zv Zy Xa (Yy (Zf Zd Zl Zc)) (Zv Ja Yz (Yy (Zf Zd (Zf Zd (Zf Zd (Zf Zd Zl Zc) Zc) Zc) Zc)) Zd)) Zl Xn) Zc) Za) (he:=Za)) Zl Yl) Za) (he:=Za)))
      (Ze [1,2,3,4] [1,2,3,4] (Zdo [1,2,3,4] [1,2,3,4] A6 rfl (Zgi rfl T.range (Zh Zd Zl Zc)) (Zbb (i:=5) (hN:=sc.nd) (hi:=rfl) (hx:=Am rfl)) (Zj (Zdo [1,2,3,4] [1,2,3,4] A6 rfl (Zgi rfl T.range (Zh Zd Zl Zc)) (Zbb (i:=6) (hN:=sc.nd) (hi:=rfl) (hx:=Am rfl)) (Zj (Yd (Zvf (Zir (Zch (Zcz (Zz D_law_right (hr.mono (by decide)) rfl Zaf (Zh (Zo 6) (Zh (Zo 4) Zl Za) Za) (he:=Za)))) (Zgs (Zch (Zcz (Zz D_law_right (hr.mono (by decide)) rfl Zaf (Zh (Zv Zai Jh (Zv Zy Xa (Zo 6) (Zo 5)) Zd) (Zh (Zo 3) Zl Za) Xn) (he:=Xn))))))) (Zj (Zw Zoo)) Zu)))))
      (Zj (Zw Zoo)))))))))⟩
end
def Xit (K:AB):Sp:=fun vs H Q _=>∃(a:Addr) (ns:List Int),vs=[.ref a]/\FzL K H a (ns.map V.int)/\ns.length<=63/\∀H',Q (.bl true) H'
theorem fz_of {H:Hp}(hO:Only H)(h:SqL K H a xs):FzL K H a xs:=by rcases h with (h | h) | h;rcases hO a with z | ⟨o,ys,z⟩;rw [h] at z;cases z;rw [h] at z;cases z;exact .inl h;exact .inr h
theorem Xce (ns:List Int)(h:ns.length<=63):Dl.Xkl [.scr ns]=.ok (.bl true):=Dl.Zrl ns h
theorem all_mk {fa f1 f2 f3 f4 f5 f6 f7 f8 f9 f10 f11 f12 f13 f14 f15 f16 f17 f18 f19 f20 f21 f22 f23 f24 f25:Addr}(X:K.In h)(G:h.Ns Ad mg)(hfa:mg "law"=some (.ref fa))
  {fd1 fd2 fd3 fd4 fd5 fd6 fd7 fd8 fd9 fd10 fd11 fd12 fd13 fd14 fd15 fd16 fd17 fd18 fd19 fd20 fd21 fd22 fd23 fd24 fd25:BB}
  (a1:Bq K Ad "is_name"=some (some (.ref f1))) (F1:Fun K "is_name" "is_name" Zhe f1 fd1)
  (a2:Bq K Ad "is_kind"=some (some (.ref f2))) (F2:Fun K "is_kind" "is_kind" Zkk f2 fd2)
  (a3:Bq K Ad "fault"=some (some (.ref f3))) (F3:Fun K "fault" "fault" Zuj f3 fd3)
  (a4:Bq K Ad "is_number"=some (some (.ref f4))) (F4:Fun K "is_number" "is_number" Zdw f4 fd4)
  (a5:Bq K Ad "read_number"=some (some (.ref f5))) (F5:Fun K "read_number" "read_number" Zds f5 fd5)
  (a6:Bq K Ad "read_name"=some (some (.ref f6))) (F6:Fun K "read_name" "read_name" Zgf f6 fd6)
  (a7:Bq K Ad "read_numbers"=some (some (.ref f7))) (F7:Fun K "read_numbers" "read_numbers" Zbe f7 fd7)
  (a8:Bq K Ad "read_kind"=some (some (.ref f8))) (F8:Fun K "read_kind" "read_kind" Zgj f8 fd8)
  (a9:Bq K Ad "read_table"=some (some (.ref f9))) (F9:Fun K "read_table" "read_table" Zcs f9 fd9)
  (a10:Bq K Ad "read_piece"=some (some (.ref f10))) (F10:Fun K "read_piece" "read_piece" Zfb f10 fd10)
  (a11:Bq K Ad "read_cutting"=some (some (.ref f11))) (F11:Fun K "read_cutting" "read_cutting" Zbf f11 fd11)
  (a12:Bq K Ad "_law_cell"=some (some (.ref f12))) (F12:Fun K "_law_cell" "_law_cell" Zgl f12 fd12)
  (a13:Bq K Ad "_law_mix"=some (some (.ref f13))) (F13:Fun K "_law_mix" "_law_mix" Zhk f13 fd13)
  (a14:Bq K Ad "_law_row"=some (some (.ref f14))) (F14:Fun K "_law_row" "_law_row" Zhw f14 fd14)
  (a15:Bq K Ad "_law_table"=some (some (.ref f15))) (F15:Fun K "_law_table" "_law_table" Zes f15 fd15)
  (a16:Bq K Ad "_law_whole"=some (some (.ref f16))) (F16:Fun K "_law_whole" "_law_whole" Zet f16 fd16)
  (a17:Bq K Ad "_law_name"=some (some (.ref f17))) (F17:Fun K "_law_name" "_law_name" Zgd f17 fd17)
  (a18:Bq K Ad "_law_due_numbers"=some (some (.ref f18))) (F18:Fun K "_law_due_numbers" "_law_due_numbers" Jm f18 fd18)
  (a19:Bq K Ad "_law_due_cutting"=some (some (.ref f19))) (F19:Fun K "_law_due_cutting" "_law_due_cutting" Zak f19 fd19)
  (a20:Bq K Ad "_law_due_table"=some (some (.ref f20))) (F20:Fun K "_law_due_table" "_law_due_table" Jk f20 fd20)
  (a21:Bq K Ad "_law_asked"=some (some (.ref f21))) (F21:Fun K "_law_asked" "_law_asked" Zfc f21 fd21)
  (a22:Bq K Ad "_law_right"=some (some (.ref f22))) (F22:Fun K "_law_right" "_law_right" Zez f22 fd22)
  (a23:Bq K Ad "_law_bent"=some (some (.ref f23))) (F23:Fun K "_law_bent" "_law_bent" Zgh f23 fd23)
  (a24:Bq K Ad "_law_line"=some (some (.ref f24))) (F24:Fun K "_law_line" "_law_line" Zao f24 fd24)
  (a25:Bq K Ad "law"=some (some (.ref f25))) (F25:Fun K "law" "law" Xjq f25 fd25)
  (z1:Bq K Ad "all"=some none)
  (z2:Bq K Ad "len"=some none)
  (z3:Bq K Ad "enumerate"=some none)
  (z4:Bq K Ad "any"=some none)
  (z5:Bq K Ad "int"=some none)
  (z6:Bq K Ad "range"=some none)
  (z7:Bq K Ad "min"=some none)
  (z8:Bq K Ad "isinstance"=some none)
  (z9:Bq K Ad "ValueError"=some none)
  (z10:Bq K Ad "list"=some none)
  (z11:Bq K Ad "str"=some none)
  {tv1:Tok} (v1:Bq K Ad "MOST_KINDS"=some (some (.int 8 tv1)))
  {tv2:Tok} (v2:Bq K Ad "LONGEST_NAME"=some (some (.int 8 tv2)))
  {tv3:Tok} (v3:Bq K Ad "GREATEST_WIDTH"=some (some (.int 200 tv3)))
  {tv4:Tok} (v4:Bq K Ad "GREATEST_WORTH"=some (some (.int 1000000000000000000 tv4)))
  {tv5:Tok} (v5:Bq K Ad "GREATEST_ALLOWED"=some (some (.int 999999999999999999 tv5)))
  {tv6:Tok} (v6:Bq K Ad "NONE"=some (some (.str ("-":Str) tv6)))
  {tv7:Tok} (v7:Bq K Ad "MOST_FIGURES"=some (some (.int 20 tv7)))
  {cCutError cNotATable cNotARoll cNoLine:Addr} {kCutError kNotATable kNotARoll kNoLine:_}
  (gCutError:Bq K Ad "CutError"=some (some (.ref cCutError)))
  (xCutError:EZ K cCutError bmV "ValueError.__new__"=true)
  (tCutError:DH K (.ref cCutError)=some (.type "type"))
  (kCutError:E1 K cCutError=some kCutError)
  (gaCutError:B5 K (.ref cCutError) "__getattribute__"=some (some (.builtin "BaseException.__getattribute__")))
  (geCutError:B5 K (.ref cCutError) "__getattr__"=some none)
  (lkCutError:B5 K (.ref cCutError) "__class__"=some (some (.builtin "object.__class__")))
  (soCutError:BG K (.ref cCutError) (.type "object")=some true)
  (sbCutError:BG K (.ref cCutError) (.type "BaseException")=some true)
  (seCutError:BG K (.ref cCutError) (.ref cCutError)=some true)
  (gNotATable:Bq K Ad "NotATable"=some (some (.ref cNotATable)))
  (tNotATable:DH K (.ref cNotATable)=some (.type "type"))
  (kNotATable:E1 K cNotATable=some kNotATable)
  (seNotATable:BG K (.ref cNotATable) (.ref cNotATable)=some true)
  (gNotARoll:Bq K Ad "NotARoll"=some (some (.ref cNotARoll)))
  (tNotARoll:DH K (.ref cNotARoll)=some (.type "type"))
  (kNotARoll:E1 K cNotARoll=some kNotARoll)
  (seNotARoll:BG K (.ref cNotARoll) (.ref cNotARoll)=some true)
  (gNoLine:Bq K Ad "NoLine"=some (some (.ref cNoLine)))
  (xNoLine:EZ K cNoLine bmV "ValueError.__new__"=true)
  (tNoLine:DH K (.ref cNoLine)=some (.type "type"))
  (kNoLine:E1 K cNoLine=some kNoLine)
  (gaNoLine:B5 K (.ref cNoLine) "__getattribute__"=some (some (.builtin "BaseException.__getattribute__")))
  (geNoLine:B5 K (.ref cNoLine) "__getattr__"=some none)
  (lkNoLine:B5 K (.ref cNoLine) "__class__"=some (some (.builtin "object.__class__")))
  (soNoLine:BG K (.ref cNoLine) (.type "object")=some true)
  (sbNoLine:BG K (.ref cNoLine) (.type "BaseException")=some true)
  (seNoLine:BG K (.ref cNoLine) (.ref cNoLine)=some true)
  (sNoLine_CutError:BG K (.ref cNoLine) (.ref cCutError)=some true)
  (sNoLine_NotATable:BG K (.ref cNoLine) (.ref cNotATable)=some false)
  (sNoLine_NotARoll:BG K (.ref cNoLine) (.ref cNotARoll)=some false)
  (wNoLine:BG K (.ref cNoLine) (.type "ValueError")=some true)
  : ∃fd:BB,(∀(s:Ab) (v:Value),D7 s fd ⟨[v],[]⟩ [("_law_script",v)])/\∀base:AY,K.In base->base.Ns Ad mg->Zbr l.prog w K mg base CX0 13 fa fd ["_law_script"] (Xit K):=by
 have e:=hfa.symm.trans (Bn X G a25);cases e;obtain ⟨C,hCutError,hNotATable,hNotARoll,hNoLine⟩:∃C:String->Addr,C "CutError"=cCutError/\C "NotATable"=cNotATable/\C "NotARoll"=cNotARoll/\C "NoLine"=cNoLine:=⟨fun x=>if x="CutError" then cCutError else if x="NotATable" then cNotATable else if x="NotARoll" then cNotARoll else if x="NoLine" then cNoLine else 0,by simp,by simp,by simp,by simp⟩;subst hCutError;subst hNotATable;subst hNotARoll;subst hNoLine;have T:Txt mg K C:=⟨BK X G z1,BK X G z2,BK X G z3,BK X G z4,BK X G z5,BK X G z6,BK X G z7,BK X G z8,BK X G z9,BK X G z10,BK X G z11,⟨tv1,Bn X G v1⟩,⟨tv2,Bn X G v2⟩,⟨tv3,Bn X G v3⟩,⟨tv4,Bn X G v4⟩,⟨tv5,Bn X G v5⟩,⟨tv6,Bn X G v6⟩,⟨tv7,Bn X G v7⟩,Bn X G gCutError,⟨xCutError,tCutError,⟨_,kCutError⟩,gaCutError,geCutError,lkCutError,soCutError,sbCutError,seCutError⟩,Bn X G gNotATable,⟨tNotATable,⟨_,kNotATable⟩,seNotATable⟩,Bn X G gNotARoll,⟨tNotARoll,⟨_,kNotARoll⟩,seNotARoll⟩,Bn X G gNoLine,⟨xNoLine,tNoLine,⟨_,kNoLine⟩,gaNoLine,geNoLine,lkNoLine,soNoLine,sbNoLine,seNoLine⟩,sNoLine_CutError,sNoLine_NotATable,sNoLine_NotARoll,wNoLine⟩;obtain ⟨oc,od,kV,doc,pm,an,cdv,ct,osl,rfl,lk,hcd⟩:=F25.ex;refine ⟨FZ "law" "law" (Zdr Xjq) (Zae Xjq) (Zk Xjq) .none kV doc pm an cdv ct,fun s v=>.of_eq rfl,fun base _ _=>?_⟩;have b1:=F1.binds (ps:=["text"]) fun _ _ _ _ _ _=>Zdz (fun _=>rfl);have Dis_name:Def l.prog w K mg base CX0 7 "is_name" ["text"] (spD K (C) 1 2 Dl.Zbi):=⟨f1,_,Bn X G a1,F1.kp,b1,Zvy F1 T⟩;have b4:=F4.binds (ps:=["word"]) fun _ _ _ _ _ _=>Zdz (fun _=>rfl);have Dis_number:Def l.prog w K mg base CX0 7 "is_number" ["word"] (spD K (C) 1 2 Dl.Zbl):=⟨f4,_,Bn X G a4,F4.kp,b4,Zog F4 T⟩;have b12:=F12.binds (ps:=["_law_script","_law_place"]) fun _ _ _ _ _ _=>Ztj (fun _ _=>rfl);have D_law_cell:Def l.prog w K mg base CX0 7 "_law_cell" ["_law_script","_law_place"] (spD K (C) 2 2 Dl.Zat):=⟨f12,_,Bn X G a12,F12.kp,b12,Zoe F12 T⟩;have b13:=F13.binds (ps:=["_law_cell_here","_law_k"]) fun _ _ _ _ _ _=>Ztj (fun _ _=>rfl);have D_law_mix:Def l.prog w K mg base CX0 7 "_law_mix" ["_law_cell_here","_law_k"] (spD K (C) 2 2 Dl.Zbh):=⟨f13,_,Bn X G a13,F13.kp,b13,Zsm F13 T⟩;have b16:=F16.binds (ps:=["_law_word"]) fun _ _ _ _ _ _=>Zdz (fun _=>rfl);have D_law_whole:Def l.prog w K mg base CX0 7 "_law_whole" ["_law_word"] (spD K (C) 1 2 Dl.Xm):=⟨f16,_,Bn X G a16,F16.kp,b16,Znp F16 T⟩;have b17:=F17.binds (ps:=["_law_word"]) fun _ _ _ _ _ _=>Zdz (fun _=>rfl);have D_law_name:Def l.prog w K mg base CX0 7 "_law_name" ["_law_word"] (spD K (C) 1 2 Dl.Jc):=⟨f17,_,Bn X G a17,F17.kp,b17,Zop F17 T⟩;have b23:=F23.binds (ps:=["_law_line_here","_law_some"]) fun _ _ _ _ _ _=>Ztj (fun _ _=>rfl);have D_law_bent:Def l.prog w K mg base CX0 7 "_law_bent" ["_law_line_here","_law_some"] (spD K (C) 2 2 Dl.Zam):=⟨f23,_,Bn X G a23,F23.kp,b23,Zpe F23 T⟩;have b2:=F2.binds (ps:=["name","width","worth","allowed"]) fun _ _ _ _ _ _=>allN4 (fun _ _ _ _=>rfl);have Dis_kind:Def l.prog w K mg base CX0 8 "is_kind" ["name","width","worth","allowed"] (spD K (C) 4 2 Dl.Zcf):=⟨f2,_,Bn X G a2,F2.kp,b2,Zwg F2 T Dis_name⟩;have b5:=F5.binds (ps:=["word"]) fun _ _ _ _ _ _=>Zdz (fun _=>rfl);have Dread_number:Def l.prog w K mg base (CXE l.prog w) 8 "read_number" ["word"] (spD K (C) 1 2 Dl.Zt):=⟨f5,_,Bn X G a5,F5.kp,b5,Zlh F5 T Dis_number⟩;have b6:=F6.binds (ps:=["word"]) fun _ _ _ _ _ _=>Zdz (fun _=>rfl);have Dread_name:Def l.prog w K mg base (CXE l.prog w) 8 "read_name" ["word"] (spD K (C) 1 2 Dl.Yg):=⟨f6,_,Bn X G a6,F6.kp,b6,Zoq F6 T Dis_name⟩;have b14:=F14.binds (ps:=["_law_script","_law_place","_law_sizes"]) fun _ _ _ _ _ _=>Xbg (fun _ _ _=>rfl);have D_law_row:Def l.prog w K mg base CX0 8 "_law_row" ["_law_script","_law_place","_law_sizes"] (spD K (C) 3 2 Dl.Yi):=⟨f14,_,Bn X G a14,F14.kp,b14,Zsi F14 T D_law_cell D_law_mix⟩;have b18:=F18.binds (ps:=["_law_line_here"]) fun _ _ _ _ _ _=>Zdz (fun _=>rfl);have D_law_due_numbers:Def l.prog w K mg base CX0 8 "_law_due_numbers" ["_law_line_here"] (spD K (C) 1 2 Dl.Ya):=⟨f18,_,Bn X G a18,F18.kp,b18,Zff F18 T D_law_whole⟩;have b19:=F19.binds (ps:=["_law_line_here"]) fun _ _ _ _ _ _=>Zdz (fun _=>rfl);have D_law_due_cutting:Def l.prog w K mg base CX0 8 "_law_due_cutting" ["_law_line_here"] (spD K (C) 1 2 Dl.Xz):=⟨f19,_,Bn X G a19,F19.kp,b19,Zfu F19 T D_law_whole D_law_name⟩;have b20:=F20.binds (ps:=["_law_line_here"]) fun _ _ _ _ _ _=>Zdz (fun _=>rfl);have D_law_due_table:Def l.prog w K mg base CX0 8 "_law_due_table" ["_law_line_here"] (spD K (C) 1 2 Dl.Yj):=⟨f20,_,Bn X G a20,F20.kp,b20,Zhc F20 T D_law_whole D_law_name⟩;have b3:=F3.binds (ps:=["table"]) fun _ _ _ _ _ _=>Zdz (fun _=>rfl);have Dfault:Def l.prog w K mg base CX0 9 "fault" ["table"] (spD K (C) 1 2 Dl.Zgk):=⟨f3,_,Bn X G a3,F3.kp,b3,Xgb F3 T Dis_kind⟩;have b7:=F7.binds (ps:=["line"]) fun _ _ _ _ _ _=>Zdz (fun _=>rfl);have Dread_numbers:Def l.prog w K mg base (CXE l.prog w) 9 "read_numbers" ["line"] (spD K (C) 1 2 Dl.Yr):=⟨f7,_,Bn X G a7,F7.kp,b7,Zja F7 T Dread_number⟩;have b8:=F8.binds (ps:=["text"]) fun _ _ _ _ _ _=>Zdz (fun _=>rfl);have Dread_kind:Def l.prog w K mg base (CXE l.prog w) 9 "read_kind" ["text"] (spD K (C) 1 2 Dl.Zal):=⟨f8,_,Bn X G a8,F8.kp,b8,Zol F8 T Dread_name Dread_number⟩;have b10:=F10.binds (ps:=["word"]) fun _ _ _ _ _ _=>Zdz (fun _=>rfl);have Dread_piece:Def l.prog w K mg base (CXE l.prog w) 9 "read_piece" ["word"] (spD K (C) 1 2 Dl.Zay):=⟨f10,_,Bn X G a10,F10.kp,b10,Zlz F10 T Dread_number Dread_name⟩;have b15:=F15.binds (ps:=["_law_script","_law_place","_law_most"]) fun _ _ _ _ _ _=>Xbg (fun _ _ _=>rfl);have D_law_table:Def l.prog w K mg base CX0 9 "_law_table" ["_law_script","_law_place","_law_most"] (spD K (C) 3 2 Dl.Zax):=⟨f15,_,Bn X G a15,F15.kp,b15,Zlv F15 T D_law_row⟩;have b24:=F24.binds (ps:=["_law_script","_law_table_here","_law_some"]) fun _ _ _ _ _ _=>Xbg (fun _ _ _=>rfl);have D_law_line:Def l.prog w K mg base CX0 9 "_law_line" ["_law_script","_law_table_here","_law_some"] (spD K (C) 3 2 Dl.Zbn):=⟨f24,_,Bn X G a24,F24.kp,b24,Zom F24 T D_law_row⟩;have b9:=F9.binds (ps:=["line"]) fun _ _ _ _ _ _=>Zdz (fun _=>rfl);have Dread_table:Def l.prog w K mg base (CXE l.prog w) 10 "read_table" ["line"] (spD K (C) 1 2 Dl.Yv):=⟨f9,_,Bn X G a9,F9.kp,b9,Zni F9 T Dread_kind Dfault⟩;have b11:=F11.binds (ps:=["line"]) fun _ _ _ _ _ _=>Zdz (fun _=>rfl);have Dread_cutting:Def l.prog w K mg base (CXE l.prog w) 10 "read_cutting" ["line"] (spD K (C) 1 2 Dl.Yq):=⟨f11,_,Bn X G a11,F11.kp,b11,Zjb F11 T Dread_piece⟩;have b21:=F21.binds (ps:=["_law_which","_law_line_here"]) fun _ _ _ _ _ _=>Ztj (fun _ _=>rfl);have D_law_asked:Def l.prog w K mg base CX0 11 "_law_asked" ["_law_which","_law_line_here"] (spD K (C) 2 2 Dl.Jl):=⟨f21,_,Bn X G a21,F21.kp,b21,Zlr F21 T Dread_table Dread_numbers Dread_cutting⟩;have b22:=F22.binds (ps:=["_law_which","_law_line_here"]) fun _ _ _ _ _ _=>Ztj (fun _ _=>rfl);have D_law_right:Def l.prog w K mg base CX0 12 "_law_right" ["_law_which","_law_line_here"] (spD K (C) 2 2 Dl.Jv):=⟨f22,_,Bn X G a22,F22.kp,b22,Zmv F22 T D_law_due_numbers D_law_asked D_law_due_cutting D_law_due_table⟩;exact (oklaw (C:=C) F25 T D_law_table D_law_row D_law_line D_law_bent D_law_right).imp fun vs H Q E h=>by obtain ⟨a,ns,rfl,hz,hl,q⟩:=h;refine ⟨[.scr ns],[],rfl,⟨.ref a,[],[],[],rfl,⟨a,rfl,hz,rfl⟩,⟨rfl,rfl⟩,rfl⟩,?_⟩;rw [Xce ns hl];rintro v H' _ ⟨B,r,_⟩;obtain ⟨rfl,_⟩:=r;exact q H'
theorem walk {K:Params->AB}(hn:l.most=some 63)(hdf:d.params.defaults=[])
    (hY:∀(w:AO) (h:AY),YP w h->(K w.params).In h)
    (F:∀(w:AO) (mg:Str->Option Value) (fa:Addr) (h:AY),(K w.params).In h->h.Ns Ad mg->mg d.name=some (.ref fa)->
      ∃fd:BB,(∀(s:Ab) (u:Value),D7 s fd ⟨[u],[]⟩ [("_law_script",u)])/\∀base:AY,(K w.params).In base->base.Ns Ad mg->Zbr l.prog w (K w.params) mg base CX0 13 fa fd ["_law_script"] (Xit (K w.params))) :
    PySem.W.WalkO q loose XP YP l.row.toRowW d [] (fun f vs=>PySem.call f vs):=
  L2.Xjp (n:=63) (k:=13) (x:="_law_script") (CX:=fun _=>CX0) (sp:=fun w=>Xit (K w.params)) hn (by decide) hdf ⟨rfl,by decide,by decide,rfl⟩ hY F (fun _ H a ns hl hO hS=>⟨a,ns,rfl,fz_of hO hS,hl,fun _=>rfl⟩) fun _ _ _ _ _ z=>z
end K93
open PySem PySem.W PyProof.Rows
set_option maxRecDepth 100000 in
set_option maxHeartbeats 0 in
theorem PySem.Challenge.cw_selvage_k93_lines_refused_holds : PySem.Challenge.rw_selvage_k93_lines_refused.Holds := by
 w_on;o_law;z_head;(case hw=>w_witness2)
 k_fill
 refine L2.Xde (fun _=>by kernel_rfl) (K93.walk (l:=PySem.Challenge.rw_selvage_k93_lines_refused) rfl rfl (fun w h Y=>Y) ?F)
 case F =>
  intro w mg fa h KX G hmg;refine' K93.all_mk KX G hmg ?a1 (L2.Jd ?l1 ?c1 ?k1) ?a2 (L2.Jd ?l2 ?c2 ?k2) ?a3 (L2.Jd ?l3 ?c3 ?k3) ?a4 (L2.Jd ?l4 ?c4 ?k4) ?a5 (L2.Jd ?l5 ?c5 ?k5) ?a6 (L2.Jd ?l6 ?c6 ?k6) ?a7 (L2.Jd ?l7 ?c7 ?k7) ?a8 (L2.Jd ?l8 ?c8 ?k8) ?a9 (L2.Jd ?l9 ?c9 ?k9) ?a10 (L2.Jd ?l10 ?c10 ?k10) ?a11 (L2.Jd ?l11 ?c11 ?k11) ?a12 (L2.Jd ?l12 ?c12 ?k12) ?a13 (L2.Jd ?l13 ?c13 ?k13) ?a14 (L2.Jd ?l14 ?c14 ?k14) ?a15 (L2.Jd ?l15 ?c15 ?k15) ?a16 (L2.Jd ?l16 ?c16 ?k16) ?a17 (L2.Jd ?l17 ?c17 ?k17) ?a18 (L2.Jd ?l18 ?c18 ?k18) ?a19 (L2.Jd ?l19 ?c19 ?k19) ?a20 (L2.Jd ?l20 ?c20 ?k20) ?a21 (L2.Jd ?l21 ?c21 ?k21) ?a22 (L2.Jd ?l22 ?c22 ?k22) ?a23 (L2.Jd ?l23 ?c23 ?k23) ?a24 (L2.Jd ?l24 ?c24 ?k24) ?a25 (L2.Jd ?l25 ?c25 ?k25) ?z1 ?z2 ?z3 ?z4 ?z5 ?z6 ?z7 ?z8 ?z9 ?z10 ?z11 ?v1 ?v2 ?v3 ?v4 ?v5 ?v6 ?v7 ?gCutError ?xCutError ?tCutError ?kCutError ?gaCutError ?geCutError ?lkCutError ?soCutError ?sbCutError ?seCutError ?gNotATable ?tNotATable ?kNotATable ?seNotATable ?gNotARoll ?tNotARoll ?kNotARoll ?seNotARoll ?gNoLine ?xNoLine ?tNoLine ?kNoLine ?gaNoLine ?geNoLine ?lkNoLine ?soNoLine ?sbNoLine ?seNoLine ?sNoLine_CutError ?sNoLine_NotATable ?sNoLine_NotARoll ?wNoLine
  (case a1=>k_is)
  (case l1=>k_is)
  (case c1=>k_is)
  (case k1=>k_is)
  (case a2=>k_is)
  (case l2=>k_is)
  (case c2=>k_is)
  (case k2=>k_is)
  (case a3=>k_is)
  (case l3=>k_is)
  (case c3=>k_is)
  (case k3=>k_is)
  (case a4=>k_is)
  (case l4=>k_is)
  (case c4=>k_is)
  (case k4=>k_is)
  (case a5=>k_is)
  (case l5=>k_is)
  (case c5=>k_is)
  (case k5=>k_is)
  (case a6=>k_is)
  (case l6=>k_is)
  (case c6=>k_is)
  (case k6=>k_is)
  (case a7=>k_is)
  (case l7=>k_is)
  (case c7=>k_is)
  (case k7=>k_is)
  (case a8=>k_is)
  (case l8=>k_is)
  (case c8=>k_is)
  (case k8=>k_is)
  (case a9=>k_is)
  (case l9=>k_is)
  (case c9=>k_is)
  (case k9=>k_is)
  (case a10=>k_is)
  (case l10=>k_is)
  (case c10=>k_is)
  (case k10=>k_is)
  (case a11=>k_is)
  (case l11=>k_is)
  (case c11=>k_is)
  (case k11=>k_is)
  (case a12=>k_is)
  (case l12=>k_is)
  (case c12=>k_is)
  (case k12=>k_is)
  (case a13=>k_is)
  (case l13=>k_is)
  (case c13=>k_is)
  (case k13=>k_is)
  (case a14=>k_is)
  (case l14=>k_is)
  (case c14=>k_is)
  (case k14=>k_is)
  (case a15=>k_is)
  (case l15=>k_is)
  (case c15=>k_is)
  (case k15=>k_is)
  (case a16=>k_is)
  (case l16=>k_is)
  (case c16=>k_is)
  (case k16=>k_is)
  (case a17=>k_is)
  (case l17=>k_is)
  (case c17=>k_is)
  (case k17=>k_is)
  (case a18=>k_is)
  (case l18=>k_is)
  (case c18=>k_is)
  (case k18=>k_is)
  (case a19=>k_is)
  (case l19=>k_is)
  (case c19=>k_is)
  (case k19=>k_is)
  (case a20=>k_is)
  (case l20=>k_is)
  (case c20=>k_is)
  (case k20=>k_is)
  (case a21=>k_is)
  (case l21=>k_is)
  (case c21=>k_is)
  (case k21=>k_is)
  (case a22=>k_is)
  (case l22=>k_is)
  (case c22=>k_is)
  (case k22=>k_is)
  (case a23=>k_is)
  (case l23=>k_is)
  (case c23=>k_is)
  (case k23=>k_is)
  (case a24=>k_is)
  (case l24=>k_is)
  (case c24=>k_is)
  (case k24=>k_is)
  (case a25=>k_is)
  (case l25=>k_is)
  (case c25=>k_is)
  (case k25=>k_is)
  (case z1=>k_is)
  (case z2=>k_is)
  (case z3=>k_is)
  (case z4=>k_is)
  (case z5=>k_is)
  (case z6=>k_is)
  (case z7=>k_is)
  (case z8=>k_is)
  (case z9=>k_is)
  (case z10=>k_is)
  (case z11=>k_is)
  (case v1=>k_is)
  (case v2=>k_is)
  (case v3=>k_is)
  (case v4=>k_is)
  (case v5=>k_is)
  (case v6=>k_is)
  (case v7=>k_is)
  (case gCutError=>k_is)
  (case xCutError=>kernel_rfl)
  (case tCutError=>k_is)
  (case kCutError=>k_is)
  (case gaCutError=>k_is)
  (case geCutError=>k_is)
  (case lkCutError=>k_is)
  (case soCutError=>k_is)
  (case sbCutError=>k_is)
  (case seCutError=>k_is)
  (case gNotATable=>k_is)
  (case tNotATable=>k_is)
  (case kNotATable=>k_is)
  (case seNotATable=>k_is)
  (case gNotARoll=>k_is)
  (case tNotARoll=>k_is)
  (case kNotARoll=>k_is)
  (case seNotARoll=>k_is)
  (case gNoLine=>k_is)
  (case xNoLine=>kernel_rfl)
  (case tNoLine=>k_is)
  (case kNoLine=>k_is)
  (case gaNoLine=>k_is)
  (case geNoLine=>k_is)
  (case lkNoLine=>k_is)
  (case soNoLine=>k_is)
  (case sbNoLine=>k_is)
  (case seNoLine=>k_is)
  (case sNoLine_CutError=>k_is)
  (case sNoLine_NotATable=>k_is)
  (case sNoLine_NotARoll=>k_is)
  (case wNoLine=>k_is)
