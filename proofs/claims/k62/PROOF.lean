import PyProof.Rows.All
import Wide.All
import OpenK.AllK
import Wide.FinOn
import Lean
import PyProof.EqAt
import PyProof.EqKinds
import PyProof.TupleCall
import PySem.Challenge.RW_selvage_k62_what_plans_leave
set_option Elab.async false
set_option linter.all false
set_option maxRecDepth 100000
set_option genSizeOfSpec false
set_option genInjectivity false
open List renaming replicate→Aa,mem_append→Ad,length_map→Ae,getElem?_eq_some_iff→Ah,mem_append_right→Ai,mem_cons→Aj,getElem?_eq_getElem→Al,mem_singleton→An,length_append→Ao,nodup_cons→Ap,mem_append_left→As,getElem?_append_left→Au,size_toArray→Ay,map_cons→AH,range→AJ,forall_mem_cons→AM,nodup_append→AO,mem_of_getElem?→AU,lookup_cons→AY,getD→A4,replicate_succ→Ba,length_take→Bb,getElem?_set_ne→Bc,Nodup→Bf,getElem?_map→Bh,getElem?_append_right→Bp,map_append→Bv,length_set→Bw,not_mem_nil→BA,length_cons→BB,getElem_mem→BC,zipWith→BD,mem_range→BE,mem_cons_of_mem→BG,nodup_nil→BI,flatten_cons→BM,map_map→BU,getElem?_set_self→BV,mem_cons_self→BX,mem_or_eq_of_mem_set→BZ,drop_eq_getElem_cons→B0,take_of_length_le→B5,set_append_right→Ca,getElem?_cons_succ→Cf,length_drop→Cp,length_replicate→Ct,length_range→Cu,mem_of_mem_take→Cz,mem_iff_getElem?→CB,mem_flatten→CD,any_eq_true→CF,all_eq_true→CG,append_assoc→CK,length_zip→CL,find?_cons→CM,zipWith_append→CP,map_congr_left→CQ,length_pos_iff→CS,zip_cons_cons→CU,mem_map→CZ,getD_eq_getElem?_getD→C8,mem_of_find?_eq_some→Dg,getElem?_zip_eq_some→Dh,of_mem_zip→Ds,append_nil→Dt,mem_flatMap→Dv,drop_length→Dz,forall_mem_append→DA,mem_replicate→DD,take_append_drop→DF,length_singleton→DG,mem_iff_getElem→DK,take_zipWith→DM,drop_zipWith→DP,length_zipWith→DU,filterMap_cons→DV,mem_filterMap→DY,map_take→D1,any_cons→D4,getElem?_set→Ec,range_succ→Ep,foldl_cons→Er,nil_append→Ex,map_drop→Ez,getElem?_concat_length→ED,nodup_iff_pairwise_ne→EF,set_eq_of_length_le→EV,getElem?_replicate→EW,getElem?_cons_zero→EX,zipWith_cons_cons→E2,range_succ_eq_map→E3,drop_of_length_le→E4,mem_of_mem_tail→Fn,mem_of_mem_drop→Fo,filter_eq_self→Fx,map_replicate→FN,getElem?_take→FP,foldl→FQ,find?_eq_none→FR,map_set→Ga,take_length→Gn,perm_middle→Gp,map_fst_zip→Gq,filter_cons→Gr,zip_append→GA,sum_append→GB,mem_filter→GC,length_nil→GD,drop_zero→GL,all_cons→GW,map_nil→G2,set_set→G9,any_map→Hd,length→Ht,count→HM,zip→Ij
open PySem renaming starEach→Ab,Shared→Ac,mainGlobals→Ag,sizeLine→Ak,assignEach→Aq,wpAny_bind→Av,Program→Aw,wpAny→Az,model→AA,eval→AF,foldedSetIterable→AQ,Around→AR,World→AS,backTo→AW,Heap→AZ,holding→A5,wpAny_pure→A6,compareOp→A9,cLine→Bi,wpAny_mono→Bl,Keyword→Bo,attributeBase→Bt,assign→Bu,bootBuiltins→BN,keywordEach→BO,swapsWith→BS,FuncData→B3,swapsWithSole→B7,swappedStores→B8,NameKind→Cb,evalEach→Ci,binaryOp→Cj,behindInMarks→Ck,sysModules→Co,backToKw→Cq,wpAny_truthy_bool→CH,standAt→CI,setItem→CV,ExceptHandler→C0,sliceBounds→C7,wpAny_passesOwn→C9,codeAny→Dj,tupleKind_room_in1→Dr,GenState→Du,wpAny_pyIter_list→Dw,sizeLine_eq→Dx,release→Dy,wpAny_holding→DC,call_meets→DQ,wpAny_execs_nil→DS,letOwnedTupleGo→DT,recursionLimit→D0,PyData→D6,tupleKind→Ea,BindsTo→Ef,Arguments→Eg,wpAny_Call_Name_kw→Eo,builtinsNs→Et,valueAt→Ey,callerA→EA,argBest→EB,noteFrame→EJ,PassesOwn→EL,subscripted→EO,numAt→EQ,getItem→E1,merged→E9,compEnvC→Fa,atKey→Fb,Result→Fd,Operator→Fe,wpAny_standAt→Fp,wpAny_comprehension_free→Fq,cellsFrom→FF,bindL→FG,bindC→FH,wpAny_noteFrame_againW→FW,seqIndex_neg→FY,relabel→FZ,rawInt→F0,leaving→Gb,entryPlaceOf→Gd,codeAny_mono→Ge,OsState→Gg,wpAny_loadName_local→Gs,seqIndex_of→Gu,Drawn→GH,wpAny_loadName_cell→GI,wpAny_Name→GM,typeLookup→GN,typeIs_str→GO,typeIs_int→GP,pyNext→GQ,getattributeRaised→GS,closureFor→GU,wpAny_assign_Name→G0,slot_list_getitem→G1,again→G4,UnaryOp→G7,CmpOp→Hh,Builtin→Hi,wpAny_pyIter_zip→Hj,wpAny_execs_cons→Hk,storeName→Hl,seqIndex?→Hm,wpAny_loadPart'→HB,codeAny_builtin→HC,setField→HS,reprText→HU,bindArgs→HV,behindIsImport→HW,rangeSize_one→HY,plainId_quiet→HZ,nums_intItems→Ib,intBits_le_64→Ic,evalPart_none→Ie,call_list_seq→Ig
open Or renaming inl→Af,inr→BL
open Nat renaming lt_of_lt_of_le→Ar,le_refl→AI,le_trans→AT,ne_of_lt→A8,lt_irrefl→Bg,le_add_right→Di,lt_of_succ_lt→Dp,min_eq_left→DE,sub_self→DZ,lt_trans→D2,zero_le→D9,ne_of_gt→Ff,min_self→Fg,le_of_lt→Fh,lt_of_le_of_lt→Gh,le_of_succ_le→Gm,min_eq_right→Gz,min_le_left→GK,zero_add→Ho,succ_mul→Hq,sub_zero→Hr,add_comm→Hs,le_succ→HL,max_lt→HX,succ→Il
open Bool renaming and_eq_true→Ax,false_ne_true→AC,false_eq_true→BH,eq_iff_iff→Cc,true_and→Ce,false_and→DL,not_eq_true→En,false_or→GZ
open Option renaming map_eq_some_iff→AB,bind_eq_some_iff→Bq,none→Da,not_isSome→Fv,isSome_map→Fw,getD_none→FK,bind_some→FL
open PySem.Heap renaming get?_push_of_some→AD,lt_size→AN,get?_push_size→BP,get?_update_other→DB,SameBut→E6,get?_update_self→Fj,NewAttrErr→GG
open PySem.W renaming Frag→AE,mg_none_of→BJ,nsIn→BY,mg_of→B6,findIn→Cm,hideAll_none→CJ,kia_one→CW,hideAll→CY,subIn→C6,keepIn→DO,codeIn→Es,typeIn→EH,exmOne→EK,hideAll_get→ES,excIn→ET,specialIn→FC,methodObj→FD,fnOf→Gc,codeHdIn→Gw,clsIn→Gx,kitOne→GR,instObj→G3
open Int renaming le_trans→AG,emod_lt_of_pos→BF,mul_le_mul_of_nonneg_left→BK,emod_nonneg→BQ,toNat_of_nonneg→Cs,toNat_lt→C5,zero_add→DH,mul_nonneg→DN,le_of_lt→D3,lt_add_one_iff→D8,toNat_natCast→Ek,le_add_of_nonneg_right→EM,add_nonneg→EN,add_assoc→EY,eq_ofNat_of_zero_le→E5,ofNat_lt→Fi,le_refl→Fy,add_le_add_right→Fz,add_le_add_left→FU,lt_of_le_of_lt→Gj,le_min→Gk,min_le_right→GF,mul_le_mul→GX,add_le_add→GY,toNat_le→Hx,ne_of_gt→Hy,lt_trans→HA
open PyProof.Rows renaming Keyed→AK,boot_list→AX,kindOf→Cw,callWith_type1→CA,envOfC→CN,boot_min→Dc,boot_int→De,AllBare→Dm,SortKind→D5,IntsAre→Ed,boot_dict→Em,pendingOf→EI,SortSt→Fc,subscriptTail→Fs,arrOf→FJ,subscriptTail_builtinR→FX,failedOf→Gv,Subscript_→GV,callWith_builtin1→HD,boot_tuple→HE,boot_sum→HF,boot_str→HG,boot_isinstance→HH,boot_bool→HI,boot_any→HJ,boot_all→HK
open PySem.PassesOwn renaming never→AL
open Option.some renaming inj→AV,injEq→Cr
open PySem.Value renaming ref→A7,bool→BW,int→DJ,none→DW,str→Ei,isStrOf→GJ,isInt→G5,float→G6,type→Hn
open PySem.PyData renaming strOk→Bk,canLay0→Ew,depth→EU,eqv→Fm,canLayAll0→Fu,depthAll→Gf,eqvAll→Gy
open PySem.NameKind renaming free→BR,cell→Gi
open Sum renaming inr→B4,inl→Ej
open True renaming intro→B9
open PySem.Builtin.List renaming listTooLong→Cg,listFitsIndex→HN
open PySem.Str renaming join→Cv,empty→Eu
open PySem.F renaming slot_list_getattribute→Cy,slot_int_rmul→Hf
open PySem.SeqAt renaming shaped→CO
open Classical renaming byContradiction→CT,skolem→Iq
open Nat.succ renaming inj→Do
open ForInStep renaming yield→Dq
open PySem.Calls renaming evalArgs_plain→DI,spliced_cons→DX,Name_function_global→EE,callWith_builtin→EZ,spliced_nil→FV
open Array renaming length_toList→DR,mem_toList_iff→Fk
open PySem.Obj renaming mapSeq→D7,mapFields→G8
open Sum.inr renaming inj→Eb
open PySem.Builtin.Range renaming rangeSize→Ee
open PySem.Builtin.Dict renaming updateFrom→El,selfAndRest→HP,pairItems→HQ,addKeywords→HR
open PySem.Builtin.Str renaming tooLong→EG
open PySem.Heap.DictOf renaming new→E7
open PySem.Around renaming under_plainId→E8
open PySem.Walks renaming list→Ft
open PySem.Heap.IsSliceOf renaming new→He
open List.Pairwise renaming nil→Hu,map→Hv,imp_of_mem→Hw
open PySem.SeqAt.EqAt renaming str_int→Ih,int_str→Ii
open PySem.EntryCells renaming newEntry→Ik
open List.cons renaming injEq→Io
open PySem.DictEntry renaming refKey→Ip
open PySem.AutoListH renaming list___mul___list_int_3→Ir
open PySem.W (isFn lookIn)




def PySem.W.Fast.tw3593106213083618436:=0
def PySem.W.Fast.tw8279901806724283402:=0
def PySem.W.Fast.tw580578413445297755:=0
def PySem.W.Fast.tw14688515710872732084:=0
def PySem.W.Fast.tw14968575021813814602:=0
def PySem.W.Fast.tw8226439808935521297:=0
def PySem.W.Fast.tw16927598769785173633:=0
def PySem.W.Fast.tw15870431039201246395:=0
def PySem.W.Fast.tw12173995542238587695:=0
def PySem.W.Fast.tw13622769435023210117:=0
def PySem.W.Fast.tw7966512276385042429:=0
theorem aT0 (h:True:=by first | exact .inl rfl | exact .inr rfl | assumption):True:=B9
theorem aT3 (h:True:=by first | exact Af rfl | exact BL (Af rfl) | exact BL (BL rfl)):True:=B9
namespace L2
open PySem PySem.Spec PyProof.Rows
variable {H H':Hp}{a b it C dx:Addr}{o:HO}{u cd:Value}{P prog:Aw}{w:AS}{h h':AZ}{x name m qual:Str}{e c tg iter:Expr}{X:Cx}{pins pins' pl:List (Addr×Obj)}{σ:St}{s s':Ac}{g':Array Du}{t' i j n tk:Nat}{d':GH}{ch fp:List Addr}{N ps ks:List Str}{M:Model}{A:AR}{E Q:Value->Ac->Prop}{v:V}{α:Type}{pos pos' p apos:Pos}{ta tb te tc:TE}{t:TA}{K:AE}{st:Stmt}{es:List Expr}{g:List Value->List Value->List Value}{op:Hh}{ti:TIp}{vs dvs:List V}{body:List Stmt}{f:Value->Value->Sem Value}{us ds:List Value}{mA mg:Str->Option Value}{fs':List (Str×V)}{CX:CXT}{fd:B3}{sp:Sp}{kws:List Bo}{nm:Option Str}{gV:List V->List V->List V}{sc scope:Scope}{outer:List Env}{params:Eg}{an od:Option Addr}
abbrev Key:=Sum Int Str
def Ztr:Key->Value->Bool
 | .inl k,v=>G5 k v
 | .inr x,v=>GJ x v
def keyH (w:AS):Key->Int
 | .inl k=>hashInt k
 | .inr x=>hashStr w x
theorem Yt:∀{k:Key} {v:Value},Ztr k v=true->(∃i t,k=Ej i/\v=DJ i t)\/(∃x t,k=B4 x/\v=Ei x t)
 | .inl i,v,h=>by obtain ⟨t,e⟩:=Value.isInt_shape (k:=i) (v:=v) h;exact .inl ⟨i,t,rfl,e⟩
 | .inr x,v,h=>by obtain ⟨t,e⟩:=Value.isStrOf_shape (x:=x) (v:=v) h;exact .inr ⟨x,t,rfl,e⟩
theorem Zxn (i:Int)(t:Tok):Ztr (.inl i) (.int i t)=true:=by simp [Ztr,G5]
theorem Zzf (x:Str)(t:Tok):Ztr (.inr x) (.str x t)=true:=by simp [Ztr,GJ]
theorem Xpe (a b:Int):decide ((Ej a:Key)=Ej b)=(a==b):=by by_cases e:a=b;subst e;simp;have h:¬(Ej a:Key)=Ej b:=fun q=>e (Sum.inl.inj q);rw [decide_eq_false h];exact (beq_eq_false_iff_ne.mpr e).symm
theorem Xqm (a b:Str):decide ((B4 a:Key)=B4 b)=decide (a=b):=by by_cases e:a=b;subst e;simp;have h:¬(B4 a:Key)=B4 b:=fun q=>e (Eb q);rw [decide_eq_false h,decide_eq_false e]
theorem Xpg (a:Int)(b:Str):decide ((Ej a:Key)=B4 b)=false:=decide_eq_false (fun q=>nomatch q)
theorem Xmg (a:Str)(b:Int):decide ((B4 a:Key)=Ej b)=false:=decide_eq_false (fun q=>nomatch q)
def Je (prog:Aw)(w:AS):PySem.KeyKind prog w Key where
 is:=Ztr
 hash:=keyH w
 inj:=fun v a b ha hb=>by
  rcases Yt ha with ⟨i,t,rfl,rfl⟩ | ⟨x,t,rfl,rfl⟩
  ·rcases Yt hb with ⟨j,u,rfl,e⟩ | ⟨y,u,rfl,e⟩
   ·injection e with e1 _;rw [e1]
   ·exact nomatch e
  ·rcases Yt hb with ⟨j,u,rfl,e⟩ | ⟨y,u,rfl,e⟩
   ·exact nomatch e
   ·injection e with e1 _;rw [e1]
 byValue:=fun k v h=>by
  rcases Yt h with ⟨i,t,rfl,rfl⟩ | ⟨x,t,rfl,rfl⟩<;>rfl
 pyHash:=fun hv h=>by
  rcases Yt hv with ⟨i,t,rfl,rfl⟩ | ⟨x,t,rfl,rfl⟩
  ·exact wpAny_pyHash_int h
  ·exact wpAny_pyHash_str h
 eqBool:=fun hu hv h=>by
  rcases Yt hu with ⟨i,t,rfl,rfl⟩ | ⟨x,t,rfl,rfl⟩
  ·rcases Yt hv with ⟨j,u,rfl,rfl⟩ | ⟨y,u,rfl,rfl⟩
   ·rw [Xpe] at h;exact wpAny_eqBool_int h
   ·rw [Xpg] at h;exact Ii i t y u _ _ _ _ h
  ·rcases Yt hv with ⟨j,u,rfl,rfl⟩ | ⟨y,u,rfl,rfl⟩
   ·rw [Xmg] at h;exact Ih x t j u _ _ _ _ h
   ·rw [Xqm] at h;exact wpAny_eqBool_str h
 «strs»:=fun k x t v h=>by
  rcases Yt h with ⟨i,u,rfl,e⟩ | ⟨y,u,rfl,e⟩
  ·exact nomatch e
  ·injection e with e1 _
   subst e1
   cases v<;>rfl
theorem Zqa (prog:Aw)(w:AS)(i:Int)(t:Tok):(Je prog w).is (.inl i) (.int i t)=true:=Zxn i t
theorem Zpq (prog:Aw)(w:AS)(x:Str)(t:Tok):(Je prog w).is (.inr x) (.str x t)=true:=Zzf x t
set_option genInjectivity true in
inductive V where
 | non | bl (b:Bool) | int (i:Int) | str (x:Str) | byt (b:Array UInt8) | flt (b:UInt64) | ref (a:Addr) | ty (n:String)
 deriving DecidableEq
def RelV:V->Value->Prop
 | .non,u=>u=DW
 | .bl b,u=>u=BW b
 | .int i,u=>∃t,u=DJ i t
 | .str x,u=>∃t,u=Ei x t
 | .byt b,u=>∃t,u=Value.bytes b t
 | .flt b,u=>∃t,u=G6 b t
 | .ref a,u=>u=A7 a
 | .ty n,u=>u=Hn n
abbrev Yw:List V->List Value->Prop:=Paired RelV
theorem Yw.length {xs:List V}{us:List Value}(r:Yw xs us):xs.length=us.length:=Paired.length r
theorem Yw.get:∀{xs:List V} {us:List Value} {i:Nat} {x:V},Yw xs us->xs[i]?=some x->∃u,us[i]?=some u/\RelV x u
 | _,_,_,_,.nil,e=>by simp at e
 | _,_,0,_,.cons r _,e=>by simp at e;subst e;exact ⟨_,rfl,r⟩
 | _,_,i+1,x,.cons _ t,e=>by obtain ⟨u,h1,h2⟩:=Yw.get (i:=i) (x:=x) t (by simpa using e);exact ⟨u,by simpa using h1,h2⟩
theorem Yw.set {x:V}{u:Value}(r:RelV x u):∀{xs:List V} {us:List Value} (i:Nat),Yw xs us->Yw (xs.set i x) (us.set i u)
 | _,_,_,.nil=>.nil
 | _,_,0,.cons _ t=>.cons r t
 | _,_,i+1,.cons q t=>.cons q (Yw.set r i t)
theorem Yw.append:∀{xs ys:List V} {us ws:List Value},Yw xs us->Yw ys ws->Yw (xs++ys) (us++ws)
 | _,_,_,_,.nil,s=>s
 | _,_,_,_,.cons r t,s=>.cons r (Yw.append t s)
theorem Yw.take:∀{xs:List V} {us:List Value} (n:Nat),Yw xs us->Yw (xs.take n) (us.take n)
 | _,_,0,_=>.nil
 | _,_,_+1,.nil=>.nil
 | _,_,n+1,.cons r t=>.cons r (Yw.take n t)
theorem Yw.drop:∀{xs:List V} {us:List Value} (n:Nat),Yw xs us->Yw (xs.drop n) (us.drop n)
 | _,_,0,r=>r
 | _,_,_+1,.nil=>.nil
 | _,_,n+1,.cons _ t=>Yw.drop n t
def Zsn:Option V->Option Value->Prop
 | some v,some u=>RelV v u
 | none,none=>True
 | _,_=>False
def KV {κ:Type}:List (κ×V)->List (κ×Value)->Prop:=Paired fun (p:κ×V) (q:κ×Value)=>p.1=q.1/\RelV p.2 q.2
def kV:Key->V
 | .inl i=>.int i
 | .inr x=>.str x
inductive HO where
 | lst (xs:List V)
 | tup (xs:List V)
 | dK (kvs:List (Key×V)) | dT (kvs:List (List Key×V))
 | set (S:Int->Bool) (n:Nat)
 | ins (C dx:Addr) (fs:List (Str×V))
 | own (x:Addr)
 | xd (fs:List (Str×V))
 | met (f x:Addr)
 | rng (lo hi:Int)
 | frz (o:Obj) (u:HO)
 | tbl (pos:Pos) (qual:Str)
 | ext (φ:AZ->Prop)
abbrev Hp:=Addr->Option HO
def upd (H:Hp)(a:Addr)(o:HO):Hp:=fun b=>if b=a then some o else H b
theorem Ye :upd H a o a=some o:=by unfold upd;rw [if_pos rfl]
theorem Xs (h:b≠a):upd H a o b=H b:=by unfold upd;rw [if_neg h]
theorem Xla {u:HO}:upd (upd H a o) a u=upd H a u:=by funext b;unfold upd;split<;>rfl
theorem ne_of {u:HO}(h:H a=some o)(h':H b=some u)(d:o≠u):a≠b:=by intro e;subst e;rw [h] at h';exact d (AV h')
theorem Xq (h:H a=some o)(h':H b=none):a≠b:=by intro e;subst e;rw [h] at h';cases h'
section
variable (P:Aw)(w:AS)
def Jt (H:Hp)(h:AZ)(a:Addr):HO->Prop
 | .lst xs=>xs.length<=Ak/\∃(its:List Value) (n:Nat),Yw xs its/\h.get? a=some {cls:=.type "list",data:=.seq its.toArray n}
 | .tup xs=>xs.length<=Ak/\∃its:List Value,Yw xs its/\IsTup h a its.toArray
 | .dK kvs=>kvs.length<=Ak/\(a==Co)=false/\∃vs,KV kvs vs/\h.DictOf (Je P w) a vs
 | .dT kvs=>kvs.length<=Ak/\(a==Co)=false/\∃xs:List (List Key×Addr×Value),
   Paired (fun (p:List Key×V) (q:List Key×Addr×Value)=>p.1=q.1/\H q.2.1=some (.tup (p.1.map kV))/\RelV p.2 q.2.2) kvs xs/\
   ∃o es ep,h.get? a=some o/\o.ExactDict/\o.data=.dict es ep/\es.toList=xs.map (entryOfKey (Ea (Je P w)))/\(xs.map (·.1)).Nodup
 | .set S n=>h.SetOf (intKind P w) a S n
 | .ins C dx fs=>H dx=some (.own a)/\fs.length<=1000/\dx≠a/\h.get? a=some (G3 C dx)/\
   ∃mA,h.Ns1 dx mA/\(∀f,Zsn (fs.lookup f) (mA f))/\PySem.Within mA (fs.map (·.1))
 | .own _=>∃o,h.get? a=some o
 | .xd fs=>∃mA,h.Ns1 a mA/\∀f,Zsn (fs.lookup f) (mA f)
 | .rng lo hi=>∃t u v,h.get? a=some {cls:=.type "range",data:=.fields #[.int lo t,.int hi u,.int 1 v]}
 | .frz o u=>h.get? a=some o/\Jt H h a u
 | .tbl pos qual=>∃ps,h.get? a=some {cls:=.none,data:=.fields ps}/\TriplesOk ps.toList/\∀v,codeAmong pos ps.toList=some v->∃c o vs t,v=.ref c/\H c=some (.frz o (.own 0))/\o.data=.fields vs/\vs[1]?=some (.str qual t)
 | .met f x=>h.get? a=some (FD (.ref f) (.ref x))
 | .ext φ=>φ h/\(∃o,h.get? a=some o)/\∀h1 h2:AZ,φ h1->(∀o,h1.get? a=some o->h2.get? a=some o)->φ h2
def HOk (H:Hp)(h:AZ):Prop:=∀a o,H a=some o->Jt P w H h a o
end
theorem Jt.lt (x:Jt P w H h a o):a<h.objs.size:=by
 cases o with
 | lst xs=>obtain ⟨_,_,_,_,e⟩:=x;exact AN e
 | tup xs=>obtain ⟨_,_,_,p⟩:=x;exact p.lt
 | dK kvs=>obtain ⟨_,_,_,_,o,_,_,e,_⟩:=x;exact AN e
 | dT kvs=>obtain ⟨_,_,_,_,o,_,_,e,_⟩:=x;exact AN e
 | set S n=>obtain ⟨o,_,_,_,e,_⟩:=x;exact AN e
 | ins C dx fs=>obtain ⟨_,_,_,e,_⟩:=x;exact AN e
 | own y=>obtain ⟨_,e⟩:=x;exact AN e
 | xd fs=>obtain ⟨_,⟨_,_,_,e,_⟩,_⟩:=x;exact AN e
 | rng lo hi=>obtain ⟨_,_,_,e⟩:=x;exact AN e
 | frz ob u=>obtain ⟨e,_⟩:=x;exact AN e
 | tbl pos qual=>obtain ⟨_,e,_⟩:=x;exact AN e
 | met f y=>exact AN (show h.get? a=some _ from x)
 | ext φ=>obtain ⟨_,⟨_,e⟩,_⟩:=x;exact AN e
theorem Paired.mapP {α β:Type}{F G:α->β->Prop}:∀{l₁:List α} {l₂:List β},Paired F l₁ l₂->(∀a b,F a b->G a b)->Paired G l₁ l₂
 | _,_,.nil,_=>.nil
 | _,_,.cons r t,f=>.cons (f _ _ r) (Paired.mapP t f)
theorem Jt.stay (x:Jt P w H h a o)(k:∀b u,(b=a\/H b=some (.own a))->h.get? b=some u->h'.get? b=some u)
  (ho:∀b,H b=some (.own a)->H' b=some (.own a)) (ht:∀b xs,H b=some (.tup xs)->H' b=some (.tup xs)) (hf:∀b o u,H b=some (.frz o u)->H' b=some (.frz o u)):Jt P w H' h' a o:=by
 induction o with
 | lst xs=>obtain ⟨z,its,n,r,e⟩:=x;exact ⟨z,its,n,r,k _ _ (.inl rfl) e⟩
 | tup xs=>obtain ⟨z,its,r,ob,e,c⟩:=x;exact ⟨z,its,r,ob,k _ _ (.inl rfl) e,c⟩
 | dK kvs=>obtain ⟨z,y,vs,r,ob,es,ep,e,c⟩:=x;exact ⟨z,y,vs,r,ob,es,ep,k _ _ (.inl rfl) e,c⟩
 | dT kvs =>obtain ⟨z,y,xs,r,ob,es,ep,e,c⟩:=x;exact ⟨z,y,xs,Paired.mapP r fun p q z=>⟨z.1,ht _ _ z.2.1,z.2.2⟩,ob,es,ep,k _ _ (.inl rfl) e,c⟩
 | set S n=>obtain ⟨ob,es,ep,t,e,c⟩:=x;exact ⟨ob,es,ep,t,k _ _ (.inl rfl) e,c⟩
 | ins C dx fs =>obtain ⟨d,z,ne,e,mA,⟨od,es,ep,e2,c⟩,r⟩:=x;exact ⟨ho _ d,z,ne,k _ _ (.inl rfl) e,mA,⟨od,es,ep,k _ _ (.inr d) e2,c⟩,r⟩
 | own y=>obtain ⟨ob,e⟩:=x;exact ⟨ob,k _ _ (.inl rfl) e⟩
 | xd fs=>obtain ⟨mA,⟨od,es,ep,e,c⟩,r⟩:=x;exact ⟨mA,⟨od,es,ep,k _ _ (.inl rfl) e,c⟩,r⟩
 | rng lo hi=>obtain ⟨t,u,v,e⟩:=x;exact ⟨t,u,v,k _ _ (.inl rfl) e⟩
 | frz ob u ih=>obtain ⟨e,q⟩:=x;exact ⟨k _ _ (.inl rfl) e,ih q⟩
 | tbl pos qual =>obtain ⟨ps,e,tr,hc⟩:=x;refine ⟨ps,k a _ (.inl rfl) e,tr,fun v hv=>?_⟩;obtain ⟨c,o,vs,t,e1,e2,e3⟩:=hc v hv;exact ⟨c,o,vs,t,e1,hf _ _ _ e2,e3⟩
 | met f y =>have e:h.get? a=some (FD (.ref f) (.ref y)):=x;show h'.get? a=some (FD (.ref f) (.ref y));exact k a _ (.inl rfl) e
 | ext φ=>obtain ⟨p,⟨o,e⟩,st⟩:=x;exact ⟨st _ _ p fun o q=>k _ _ (.inl rfl) q,⟨o,k _ _ (.inl rfl) e⟩,st⟩
theorem HOk.lt (x:HOk P w H h)(e:H a=some o):a<h.objs.size:=(x a o e).lt
theorem HOk.fresh (x:HOk P w H h)(e:h.objs.size<=a):H a=none:=by
 cases q:H a with
 | none=>rfl
 | some u=>exact absurd (Ar (x.lt q) e) (Bg _)
theorem HOk.kept (x:HOk P w H h)(k:∀b u,h.get? b=some u->h'.get? b=some u):HOk P w H h':=fun a o e =>
 (x a o e).stay (fun b u _ q=>k b u q) (fun _ q=>q) (fun _ _ q=>q) fun _ _ _ q=>q
theorem HOk.laid (x:HOk P w H h)(k:∀b u,h.get? b=some u->h'.get? b=some u)(hp:h.objs.size<=a)(new:Jt P w (upd H a o) h' a o):HOk P w (upd H a o) h':=fun b u e=>by have hn:=x.fresh hp;by_cases hb:b=a;subst hb;rw [Ye] at e;cases e;exact new;rw [Xs hb] at e;exact (x b u e).stay (fun c v _ q=>k c v q) (fun c q=>by rw [Xs (Xq q hn)];exact q) (fun c xs q=>by rw [Xs (Xq q hn)];exact q) fun c ob u q=>by rw [Xs (Xq q hn)];exact q
def Rd (H:Hp)(a:Addr)(u:HO):Prop:=H a=some u\/∃o,H a=some (.frz o u)
theorem Rd.ok {u:HO}(r:Rd H a u)(x:HOk P w H h):Jt P w H h a u:=by rcases r with r | ⟨o,r⟩;exact x a u r;obtain ⟨_,q⟩:=x a _ r;exact q
def Mut:Option HO->Prop
 | some (.lst _)=>True
 | some (.dK _)=>True
 | some (.dT _)=>True
 | some (.set _ _)=>True
 | some (.ins _ _ _)=>True
 | some (.ext _)=>True
 | _=>False
section
variable {x e:Addr}{o':HO}
theorem HOk.write (ok:HOk P w H h)(mu:Mut (H x))(he:e=x\/H e=some (.own x))(k:∀b u,b≠e->h.get? b=some u->h'.get? b=some u)(heo:∃u,h'.get? e=some u)
  (new:Jt P w (upd H x o') h' x o'):HOk P w (upd H x o') h':=fun b u q=>by
 have nown:∀c y,H c=some (.own y)->c≠x:=fun c y r z=>by subst z;rw [r] at mu;exact mu
 have ntup:∀c xs,H c=some (.tup xs)->c≠x:=fun c xs r z=>by subst z;rw [r] at mu;exact mu
 have nfrz:∀c ob u,H c=some (.frz ob u)->c≠x:=fun c ob u r z=>by subst z;rw [r] at mu;exact mu
 by_cases hb:b=x;subst hb;rw [Ye] at q;cases q;exact new;rw [Xs hb] at q;by_cases hbe:b=e;have q':H b=some (.own x):=by rcases he with z | z;exact absurd (hbe.trans z) hb;rw [hbe];exact z
 rw [q] at q';cases q';obtain ⟨v,hv⟩:=heo;exact ⟨v,by rw [hbe];exact hv⟩;refine (ok b u q).stay (fun c v hc r=>k c v ?_ r) (fun c r=>by rw [Xs (nown c b r)];exact r) (fun c xs r=>by rw [Xs (ntup c xs r)];exact r) fun c ob u r=>by rw [Xs (nfrz c ob u r)];exact r
 rcases hc with rfl | hc;exact hbe;rintro rfl;rcases he with z | z;exact nown c b hc z;rw [hc] at z;cases z;exact hb rfl
end
structure Un (fs ex:List Addr)(H H':Hp)(h h':AZ):Prop where
 keep:∀b o,h.get? b=some o->H b=none->b∉fs->b∉ex->h'.get? b=some o
 slot:∀b o,h.get? b=some o->H b=none->b∈fs->b∉ex->∃sl,h'.get? b=some {o with slots:=sl}
 free:∀b o,h.get? b=some o->H b=none->b∉ex->H' b=none
 there:∀b o,h.get? b=some o->b∉ex->∃o',h'.get? b=some o'
 tups:∀b xs,H b=some (.tup xs)->H' b=some (.tup xs)
 frzs:∀b o u,H b=some (.frz o u)->H' b=some (.frz o u)
 tbls:∀b p q,H b=some (.tbl p q)->H' b=some (.tbl p q)
section
variable {fs fs' ex ex':List Addr}{H1 H2:Hp}{h1 h2:AZ}{x e:Addr}
theorem Un.any (u:Un fs ex H H1 h h1){ob:Obj}(q:h.get? b=some ob)(n:H b=none)(hx:b∉ex):∃sl,h1.get? b=some {ob with slots:=sl}:=by by_cases hb:b∈fs;exact u.slot b ob q n hb hx;exact ⟨ob.slots,u.keep b ob q n hb hx⟩
theorem Un.kept (k:∀b u,h.get? b=some u->h'.get? b=some u):Un fs ex H H h h':=⟨fun b ob q _ _ _=>k b ob q,fun b ob q _ _ _=>⟨ob.slots,k b ob q⟩,fun _ _ _ n _=>n,fun b ob q _=>⟨ob,k b ob q⟩,fun _ _ q=>q,fun _ _ _ q=>q,fun _ _ _ q=>q⟩
theorem Un.refl:Un fs ex H H h h:=Un.kept fun _ _ q=>q
theorem Un.laid (k:∀b u,h.get? b=some u->h'.get? b=some u)(hp:h.objs.size<=a)(hn:H a=none):Un fs ex H (upd H a o) h h' where
 keep:=fun b u q _ _ _=>k b u q
 slot:=fun b u q _ _ _=>⟨u.slots,k b u q⟩
 free:=fun b u q n _=>by rw [Xs (A8 (Ar (AN q) hp))];exact n
 there:=fun b u q _=>⟨u,k b u q⟩
 tups:=fun b xs q=>by rw [Xs (Xq q hn)];exact q
 frzs:=fun b u xs q=>by rw [Xs (Xq q hn)];exact q
 tbls:=fun b p n q=>by rw [Xs (Xq q hn)];exact q
theorem Un.write (mu:Mut (H x))(he:e=x\/H e=some (.own x))(k:∀b u,b≠e->h.get? b=some u->h'.get? b=some u)(heo:∃u,h'.get? e=some u):Un fs ex H (upd H x o) h h':=by
  have hx:∀b,H b=none->b≠x:=fun b n z=>by subst z;rw [n] at mu;exact mu
  have hb:∀b,H b=none->b≠e:=fun b n z=>by subst z;rcases he with r | r;exact hx b n r;rw [n] at r;cases r
  have hm:∀b u,H b=some u->¬Mut (some u)->b≠x:=fun b u q nm z=>by subst z;rw [q] at mu;exact nm mu
  refine ⟨fun b u q n _ _=>k b u (hb b n) q,fun b u q n _ _=>⟨u.slots,k b u (hb b n) q⟩,fun b u q n _=>by rw [Xs (hx b n)];exact n,fun b u q _=>?_,
    fun b xs q=>by rw [Xs (hm b _ q fun z=>z)];exact q,fun b u xs q=>by rw [Xs (hm b _ q fun z=>z)];exact q,fun b p n q=>by rw [Xs (hm b _ q fun z=>z)];exact q⟩
  by_cases hbe:b=e;subst hbe;exact heo;exact ⟨u,k b u hbe q⟩
end
def trk (h:AZ)(H:Hp):List Addr:=(AJ h.objs.size).filter fun a=>(H a).isSome
def Xdr (h:AZ)(H:Hp):AZ:=CY h (trk h H)
theorem Zvq (h:AZ)(H:Hp):(Xdr h H).objs.size=h.objs.size:=PySem.W.hideAll_size _ _
theorem Xda {o:Obj}(e:h.get? b=some o)(n:H b=none):(Xdr h H).get? b=some o:=ES _ e fun hm=>by have q:(H b).isSome=true:=(GC.mp hm).2;rw [n] at q;simp at q
theorem Xlb {o:Obj}(e:(Xdr h H).get? b=some o):h.get? b=some o/\H b=none:=by
 have e':h.get? b=some o:=PySem.W.of_hideAll (trk h H) e;refine ⟨e',?_⟩;cases q:H b with
 | none=>rfl
 | some x =>have hm:b∈trk h H:=GC.mpr ⟨BE.mpr (AN e'),by simp [q]⟩;have z:(Xdr h H).get? b=none:=CJ (trk h H) hm;rw [z] at e;cases e
def Xke (g h:AZ)(L:Addr):List (Addr×Obj):=(AJ h.objs.size).filterMap fun a=>if a=L\/(g.get? a).isSome=true then none else (h.get? a).map fun o=>(a,o)
def rest (g h:AZ)(L d:Addr):List (Addr×Obj):=(Xke g h L).filter fun p=>decide (p.1≠d)
structure Mod (K:AE)(mg:Str->Option Value)(base:AZ):Prop where
 kin:K.In base
 glob:base.Ns Ag mg
 blt:∃mb,base.Ns Et mb/\∀x:Str,x≠"__name__"->mb x=BN x
 nolimit:base.NoLimit
structure Cx where
 prog:Aw
 w:AS
 K:AE
 mg:Str->Option Value
 base:AZ
 A:AR
 N:List Str
 s₀:Ac
 H₀:Hp
 env:Env
 outer:List Env
 stack:List Env
 ex:List Addr
 fn:Str->Bool
 calm:Bool
 pn:List (Addr×Obj)
 xe:Value->Ac->Prop
def frs (l:List Env):List Addr:=l.filterMap (·.frame)
abbrev Cx.fs (X:Cx):List Addr:=frs X.outer
def Vis (sc:Scope)(x:Str):Prop:=sc.names.lookup x=some .local\/sc.names.lookup x=some .cell\/sc.names.lookup x=some .free
def Loc (sc:Scope)(x:Str):Prop:=sc.names.lookup x=some .local\/sc.names.lookup x=some .cell
def Look (env:Env)(h:AZ)(m:Str->Option Value)(x:Str)(u:Value):Prop:=
 (env.kindOf x=some .local/\m x=some u)\/((env.kindOf x=some .cell\/env.kindOf x=some .free)/\∃c,env.cells.lookup x=some c/\h.IsCell c (some u))
structure Cx.Ok (X:Cx):Prop where
 mod:Mod X.K X.mg X.base
 kind:X.env.scope.kind=.function
 glob:X.env.globals=Ag
 blt:X.env.builtins=Et
 above:X.s₀.heap.objs.size<=X.env.locals
 inj:∀x y c,X.env.cells.lookup x=some c->X.env.cells.lookup y=some c->x=y
 has:∀x,(X.env.kindOf x=some .cell\/X.env.kindOf x=some .free)->∃c,X.env.cells.lookup x=some c
 cab:∀x c,X.fn x=true->X.env.cells.lookup x=some c->X.s₀.heap.objs.size<=c
 hd:X.calm=true->X.A.handled=none
 frames:X.A.frames=some X.stack
 stk:X.stack=X.outer\/(X.stack=X.env::X.outer/\X.env.frame=some X.env.locals)
 exf:∀b∈X.ex,b≠X.env.locals/\∀x c,X.env.cells.lookup x=some c->c≠b
 bs:∀b o,X.base.get? b=some o->X.s₀.heap.get? b=some o/\X.H₀ b=none
 bsz:X.base.objs.size<=X.s₀.heap.objs.size
 noex:∀b o,X.base.get? b=some o->b∉X.ex
 exfs:∀b∈X.ex,b∉X.fs
 funs:X.s₀.heap.FunFrames X.base X.outer
 frf:∀b∈X.fs,X.H₀ b=none
structure Inv (X:Cx)(pins:List (Addr×Obj))(σ:List (Option V))(H:Hp)(s:Ac):Prop where
 ok:X.Ok
 os:s.os=X.s₀.os
 bare:Dm s.gens
 base:Un X.fs X.ex X.H₀ H X.s₀.heap s.heap
 loc:∃m,s.heap.Ns X.env.locals m/\∀(i:Nat) (x:Str) (v:V),X.N[i]?=some x->σ[i]?=some (some v)->Vis X.env.scope x->∃u,RelV v u/\Look X.env s.heap m x u
 cell:∀x c,X.env.cells.lookup x=some c->∃v,s.heap.IsCell c v
 free:H X.env.locals=none
 freeC:∀x c,X.env.cells.lookup x=some c->H c=none
 pin:∀p∈X.pn++pins,s.heap.get? p.1=some p.2/\H p.1=none/\p.1≠X.env.locals/\p.1∉X.fs/\∀v,p.2.data≠.cell v
 hok:HOk X.prog X.w H s.heap
 len:σ.length=X.N.length
section
variable {σ:List (Option V)}
theorem Cx.Ok.nofr (ok:X.Ok){o:Obj}(e:X.base.get? b=some o):b∉X.fs:=fun hb=>by have:=(ok.funs.mem hb).1;rw [e] at this;cases this
theorem Inv.bs (I:Inv X pins σ H s):∀b o,X.base.get? b=some o->s.heap.get? b=some o/\H b=none:=fun b o e =>
 ⟨I.base.keep b o (I.ok.bs b o e).1 (I.ok.bs b o e).2 (I.ok.nofr e) (I.ok.noex b o e),I.base.free b o (I.ok.bs b o e).1 (I.ok.bs b o e).2 (I.ok.noex b o e)⟩
theorem Inv.bk (I:Inv X pins σ H s):∀b o,X.base.get? b=some o->s.heap.get? b=some o:=fun b o e=>(I.bs b o e).1
theorem Inv.mod (I:Inv X pins σ H s):Mod X.K X.mg X.base:=I.ok.mod
theorem Inv.kIn (I:Inv X pins σ H s):X.K.In s.heap:=I.ok.mod.kin.keeps I.bk
theorem Inv.lt (I:Inv X pins σ H s):X.env.locals<s.heap.objs.size:=let ⟨_,hn,_⟩:=I.loc;hn.lt
theorem Inv.sz (I:Inv X pins σ H s):X.s₀.heap.objs.size<=s.heap.objs.size:=AT I.ok.above (Fh I.lt)
theorem Inv.nofs (I:Inv X pins σ H s)(h:s.heap.objs.size<=a):a∉X.fs:=fun hb=>by obtain ⟨_,o,ho,_⟩:=I.ok.funs.mem hb;exact absurd (Ar (AN ho) (AT I.sz h)) (Bg _)
theorem Inv.cne (I:Inv X pins σ H s):∀x c,X.env.cells.lookup x=some c->c≠X.env.locals:=fun x c e z=>by obtain ⟨v,o,ho,hd⟩:=I.cell x c e;obtain ⟨m,⟨o',es,ep,ho',hd',_⟩,_⟩:=I.loc;rw [z,ho'] at ho;cases ho;rw [hd'] at hd;cases hd
theorem Inv.funs (I:Inv X pins σ H s):s.heap.FunFrames X.base X.outer:=by
 have all:∀(l:List Env),(∀b∈frs l,b∈X.fs)->X.s₀.heap.FunFrames X.base l->s.heap.FunFrames X.base l:=by
  intro l
  induction l with
  | nil=>intro _ _;trivial
  | cons env r ih =>intro hs hl;obtain ⟨hk,⟨L,o,hf,hn,ho,hd⟩,hr⟩:=hl;have hL:L∈X.fs:=hs L (by unfold frs;rw [DV,hf];exact BX);obtain ⟨sl,e⟩:=I.base.slot L o ho (I.ok.frf L hL) hL fun z=>I.ok.exfs L z hL;exact ⟨hk,⟨L,_,hf,hn,e,hd⟩,ih (fun b hb=>hs b (by unfold frs;rw [DV,hf];exact BG _ hb)) hr⟩
 exact all X.outer (fun _ hb=>hb) I.ok.funs
theorem Inv.stack (I:Inv X pins σ H s):s.heap.FunFrames X.base X.stack:=by rcases I.ok.stk with e | ⟨e,hf⟩;rw [e];exact I.funs;rw [e];obtain ⟨m,hn,_⟩:=I.loc;refine .cons (by rw [I.ok.kind];decide) hf hn ?_ I.funs;exact Heap.get?_none_of_le (AT I.ok.bsz I.ok.above)
theorem Inv.stkSub (I:Inv X pins σ H s):∀b∈frs X.stack,b∈X.env.locals::X.fs:=fun b hb=>by rcases I.ok.stk with e | ⟨e,hf⟩;rw [e] at hb;exact BG _ hb;rw [e] at hb;unfold frs at hb;rw [DV,hf] at hb;exact hb
theorem Inv.stkFree (I:Inv X pins σ H s):∀b∈frs X.stack,H b=none:=fun b hb=>by rcases Aj.mp (I.stkSub b hb) with e | hb;rw [e];exact I.free;obtain ⟨_,o,ho,_⟩:=I.ok.funs.mem hb;exact I.base.free b o ho (I.ok.frf b hb) fun z=>I.ok.exfs b z hb
theorem Inv.step (I:Inv X pins σ H s)
  (hch:∀b∈ch,(b∈X.ex\/X.s₀.heap.objs.size<=b)/\b≠X.env.locals/\(∀x c,X.env.cells.lookup x=some c->c≠b)/\∀p∈X.pn++pins,p.1≠b)
  (keep:∀b o,b≠X.env.locals->b∉X.fs->b∉ch->s.heap.get? b=some o->H b=none->h'.get? b=some o)
  (slot:∀b o,b≠X.env.locals->b∈X.fs->b∉ch->s.heap.get? b=some o->H b=none->∃sl,h'.get? b=some {o with slots:=sl}) (free:∀b o,b∉ch->s.heap.get? b=some o->H b=none->H' b=none)
  (there:∀b o,b∉ch->s.heap.get? b=some o->∃o',h'.get? b=some o')
  (tups:∀b xs,H b=some (.tup xs)->H' b=some (.tup xs)) (frzs:∀b o u,H b=some (.frz o u)->H' b=some (.frz o u)) (tbls:∀b p n,H b=some (.tbl p n)->H' b=some (.tbl p n))
  (ns:∀m,s.heap.Ns X.env.locals m->h'.Ns X.env.locals m) (hok:HOk X.prog X.w H' h') (hg:Dm g') :
  Inv X pins σ H' {s with heap:=h',gens:=g',drawn:=d',toks:=t'}:=by
 have neL:∀b o,X.s₀.heap.get? b=some o->b≠X.env.locals:=fun b o e=>A8 (Ar (AN e) I.ok.above);have neC:∀b o,X.s₀.heap.get? b=some o->b∉X.ex->b∉ch:=fun b o e hx hb=>by rcases (hch b hb).1 with z | z;exact hx z;exact absurd (Ar (AN e) z) (Bg _)
 have cellK:∀x c,X.env.cells.lookup x=some c->∀v,s.heap.IsCell c v->h'.IsCell c v:=fun x c e v ⟨o,ho,hd⟩=>by have nch:c∉ch:=fun z=>(hch c z).2.2.1 x c e rfl;by_cases hc:c∈X.fs;obtain ⟨sl,q⟩:=slot c o (I.cne x c e) hc nch ho (I.freeC x c e);exact ⟨_,q,hd⟩;exact ⟨o,keep c o (I.cne x c e) hc nch ho (I.freeC x c e),hd⟩
 refine ⟨I.ok,I.os,hg,⟨fun b o e n hb hx=>?_,fun b o e n hb hx=>?_,fun b o e n hx=>?_,fun b o e hx=>?_,fun b xs e=>tups b xs (I.base.tups b xs e),fun b o xs e=>frzs b o xs (I.base.frzs b o xs e),fun b p n e=>tbls b p n (I.base.tbls b p n e)⟩,?_,fun x c e=>?_,?_,fun x c e=>?_,fun p hp=>?_,hok,I.len⟩;exact keep b o (neL b o e) hb (neC b o e hx) (I.base.keep b o e n hb hx) (I.base.free b o e n hx);obtain ⟨sl,e1⟩:=I.base.slot b o e n hb hx;obtain ⟨sl',e2⟩:=slot b _ (neL b o e) hb (neC b o e hx) e1 (I.base.free b o e n hx);exact ⟨sl',e2⟩;obtain ⟨o',e1⟩:=I.base.there b o e hx;exact free b o' (neC b o e hx) e1 (I.base.free b o e n hx);obtain ⟨o',e1⟩:=I.base.there b o e hx;exact there b o' (neC b o e hx) e1;obtain ⟨m,hn,hl⟩:=I.loc;refine ⟨m,ns m hn,fun i x v e1 e2 e3=>?_⟩;obtain ⟨u,r,l⟩:=hl i x v e1 e2 e3;refine ⟨u,r,?_⟩;rcases l with l | ⟨k,c,e,z⟩;exact .inl l;exact .inr ⟨k,c,e,cellK x c e _ z⟩;obtain ⟨v,z⟩:=I.cell x c e;exact ⟨v,cellK x c e v z⟩;obtain ⟨m,⟨o,_,_,ho,_⟩,_⟩:=I.loc;exact free _ o (fun z=>(hch _ z).2.1 rfl) ho I.free;obtain ⟨v,o,ho,hd⟩:=I.cell x c e;exact free c o (fun z=>(hch c z).2.2.1 x c e rfl) ho (I.freeC x c e);obtain ⟨e,n,ne,nf,d⟩:=I.pin p hp;have nch:p.1∉ch:=fun z=>(hch p.1 z).2.2.2 p hp rfl;exact ⟨keep p.1 p.2 ne nf nch e n,free p.1 p.2 nch e n,ne,nf,d⟩
theorem Inv.un (I:Inv X pins σ H s)(u:Un X.fs [] H H' s.heap h')(hok:HOk X.prog X.w H' h'):Inv X pins σ H' {s with heap:=h',toks:=t'}:=by
  obtain ⟨m,⟨o,es,ep,ho,r⟩,_⟩:=id I.loc;obtain ⟨sl,hL⟩:=u.any ho I.free (by simp);exact I.step (g':=s.gens) (d':=s.drawn) (ch:=[]) (fun _ z=>nomatch z) (fun b o _ hb _ e n=>u.keep b o e n hb (by simp)) (fun b o _ hb _ e n=>u.slot b o e n hb (by simp)) (fun b o _ e n=>u.free b o e n (by simp)) (fun b o _ e=>u.there b o e (by simp)) u.tups u.frzs u.tbls (fun m' hm=>by
    obtain ⟨o',es',ep',ho',r'⟩:=hm;rw [ho] at ho';cases ho';exact ⟨_,es',ep',hL,r'⟩) hok I.bare
theorem Inv.call (I:Inv X pins σ H s)(u:Un (frs X.stack) ch H H' s.heap h')(hok:HOk X.prog X.w H' h')(hg:Dm g')
    (hch:∀b∈ch,(b∈X.ex\/X.s₀.heap.objs.size<=b)/\b≠X.env.locals/\(∀x c,X.env.cells.lookup x=some c->c≠b)/\∀p∈X.pn++pins,p.1≠b) :
    Inv X pins σ H' {s with heap:=h',gens:=g',drawn:=d',toks:=t'}:=by
  obtain ⟨m,⟨o,es,ep,ho,r⟩,_⟩:=id I.loc;obtain ⟨sl,hL⟩:=u.any ho I.free fun z=>(hch _ z).2.1 rfl;exact I.step (ch:=ch) hch (fun b o hL hb hc e n=>u.keep b o e n (fun z=>(Aj.mp (I.stkSub b z)).elim hL hb) hc) (fun b o _ _ hc e n=>u.any e n hc) (fun b o hc e n=>u.free b o e n hc) (fun b o hc e=>u.there b o e hc) u.tups u.frzs u.tbls (fun m' hm=>by
    obtain ⟨o',es',ep',ho',r'⟩:=hm;rw [ho] at ho';cases ho';exact ⟨_,es',ep',hL,r'⟩) hok hg
theorem Inv.turned (I:Inv X pins σ H s)(k:∀b o,b≠it->s.heap.get? b=some o->h'.get? b=some o)(hn:H it=none)(hL:it≠X.env.locals)
  (h1:it∈X.ex\/X.s₀.heap.objs.size<=it) (h2:∀x c,X.env.cells.lookup x=some c->c≠it) (h3:∀p∈X.pn++pins,p.1≠it):Inv X pins σ H {s with heap:=h',toks:=t'}:=by
 have nit:∀b u,H b=some u->b≠it:=fun b u e z=>by rw [z,hn] at e;cases e
 refine I.step (g':=s.gens) (d':=s.drawn) (ch:=[it]) (fun b hb=>?_) (fun b o _ _ hc e _=>k b o (fun z=>hc (by simp [z])) e) (fun b o _ _ hc e _=>⟨o.slots,k b o (fun z=>hc (by simp [z])) e⟩) (fun _ _ _ _ n=>n)
  (fun b o hc e=>⟨o,k b o (fun z=>hc (by simp [z])) e⟩) (fun _ _ e=>e) (fun _ _ _ e=>e) (fun _ _ _ e=>e) (fun m hm=>?_) (fun b u e=>?_) I.bare
 have e:b=it:=by simpa using hb
 subst e;exact ⟨h1,hL,h2,h3⟩;obtain ⟨o,es,ep,ho,r⟩:=hm;exact ⟨o,es,ep,k _ o (Ne.symm hL) ho,r⟩;refine (I.hok b u e).stay (fun c v hc q=>k c v ?_ q) (fun _ q=>q) (fun _ _ q=>q) fun _ _ _ q=>q;rcases hc with z | z;rw [z];exact nit b u e;exact nit c _ z
theorem Inv.tok (I:Inv X pins σ H s)(t:Nat):Inv X pins σ H {s with toks:=t}:=I.un (h':=s.heap) (t':=t) Un.refl I.hok
theorem Inv.kept {t':Nat}(I:Inv X pins σ H s)(k:∀b u,s.heap.get? b=some u->h'.get? b=some u):Inv X pins σ H {s with heap:=h',toks:=t'}:=I.un (Un.kept k) (I.hok.kept k)
theorem Inv.laid {a:Addr}{o:HO}{t':Nat}(I:Inv X pins σ H s)(k:∀b u,s.heap.get? b=some u->h'.get? b=some u)(hp:s.heap.objs.size<=a)(new:Jt X.prog X.w (upd H a o) h' a o) :
  Inv X pins σ (upd H a o) {s with heap:=h',toks:=t'}:=I.un (Un.laid k hp (I.hok.fresh hp)) (I.hok.laid k hp new)
theorem Inv.write {x e:Addr}{o:HO}{t':Nat}(I:Inv X pins σ H s)(mu:Mut (H x))(he:e=x\/H e=some (.own x))(k:∀b u,b≠e->s.heap.get? b=some u->h'.get? b=some u)(heo:∃u,h'.get? e=some u)
  (new:Jt X.prog X.w (upd H x o) h' x o):Inv X pins σ (upd H x o) {s with heap:=h',toks:=t'}:=I.un (Un.write mu he k heo) (I.hok.write mu he k heo new)
theorem Inv.pins_of (I:Inv X pins σ H s)(h:∀p∈pins',s.heap.get? p.1=some p.2/\H p.1=none/\p.1≠X.env.locals/\p.1∉X.fs/\∀v,p.2.data≠.cell v):Inv X pins' σ H s:=⟨I.ok,I.os,I.bare,I.base,I.loc,I.cell,I.free,I.freeC,fun p hp=>(Ad.mp hp).elim (fun z=>I.pin p (As _ z)) (h p),I.hok,I.len⟩
theorem Zqx (hN:N.Nodup)(a:N[i]?=some x)(b:N[j]?=some x):i=j:=by obtain ⟨h1,e1⟩:=Ah.mp a;obtain ⟨h2,e2⟩:=Ah.mp b;exact (List.getElem_inj hN).mp (e1.trans e2.symm)
theorem Zoc {Q:Unit->Ac->Prop}(I:Inv X pins σ H s)(hN:X.N.Nodup)(hi:X.N[i]?=some x)(hx:Loc X.env.scope x)(r:RelV v u)
  (h:∀s',Inv X pins (σ.set i (some v)) H s'->(∃a,E6 a s.heap s'.heap/\(a=X.env.locals\/X.env.cells.lookup x=some a))->Q () s') (hf:autoParam (X.fn x=true\/X.env.scope.names.lookup x=some .local) aT0._auto_1):Az M A (Hl X.env x u) Q E s:=by
 obtain ⟨m,hn,hl⟩:=id I.loc;have hcls:(X.env.scope.kind==.class||(X.env.scope.kind==.module&&X.env.locals != X.env.globals))=false:=by rw [I.ok.kind];rfl
 have hiσ:i<σ.length:=by rw [I.len];exact (Ah.mp hi).1
 have cne:=I.cne;have tracked:∀{a:Addr} {h':AZ},(∃o,s.heap.get? a=some o/\H a=none)->E6 a s.heap h'->HOk X.prog X.w H h':=fun {a h'} ha hs b ob e=>by obtain ⟨_,_,hfree⟩:=ha;refine (I.hok b ob e).stay (fun c w' hc q=>(hs.2 c ?_).trans q) (fun _ q=>q) (fun _ _ q=>q) fun _ _ _ q=>q;rintro rfl;rcases hc with rfl | hc;rw [hfree] at e;cases e;rw [hfree] at hc;cases hc
 rcases hx with hk | hk;refine wpAny_storeName_local hk hn (fun h' hn' hs=>?_) hcls;obtain ⟨oL,_,_,hoL,_⟩:=id hn;refine h _ ⟨I.ok,I.os,I.bare,⟨fun b o e n hb hx=>?_,fun b o e n hb hx=>?_,I.base.free,fun b o e hx=>?_,I.base.tups,I.base.frzs,I.base.tbls⟩,⟨_,hn',fun j y v' e1 e2 e3=>?_⟩,fun y c e=>?_,I.free,I.freeC,fun p hp=>?_,tracked ⟨oL,hoL,I.free⟩ hs,by simpa using I.len⟩ ⟨_,hs,.inl rfl⟩;exact (hs.2 b (A8 (Ar (AN e) I.ok.above))).trans (I.base.keep b o e n hb hx);obtain ⟨sl,e1⟩:=I.base.slot b o e n hb hx;exact ⟨sl,(hs.2 b (A8 (Ar (AN e) I.ok.above))).trans e1⟩;obtain ⟨o',e1⟩:=I.base.there b o e hx;exact ⟨o',(hs.2 b (A8 (Ar (AN e) I.ok.above))).trans e1⟩;by_cases hj:j=i;subst hj;rw [hi] at e1;cases e1;rw [BV hiσ] at e2;cases e2;exact ⟨u,r,.inl ⟨hk,by simp⟩⟩;rw [Bc (Ne.symm hj)] at e2;obtain ⟨u',r',q⟩:=hl j y v' e1 e2 e3;refine ⟨u',r',?_⟩;rcases q with ⟨k,e⟩ | ⟨k,c,e,z⟩;refine .inl ⟨k,?_⟩;have:y≠x:=fun e=>hj (Zqx hN e1 (e▸hi));simp [this,e];exact .inr ⟨k,c,e,z.sameBut hs (cne y c e)⟩;obtain ⟨w',z⟩:=I.cell y c e;exact ⟨w',z.sameBut hs (cne y c e)⟩;obtain ⟨e,n,ne,nf,d⟩:=I.pin p hp;exact ⟨(hs.2 p.1 ne).trans e,n,ne,nf,d⟩;have hfn:X.fn x=true:=by rcases hf with z | z;exact z;rw [z] at hk;cases hk
 obtain ⟨c,hc⟩:=I.ok.has x (.inl hk);obtain ⟨w',z⟩:=I.cell x c hc;refine wpAny_storeName_cell I.ok.kind hk hc z (fun h' hc' hs=>?_);obtain ⟨oc,hoc,hocd⟩:=id z;refine h {s with heap:=h'} ⟨I.ok,I.os,I.bare,⟨fun b o e n hb hx=>?_,fun b o e n hb hx=>?_,I.base.free,fun b o e hx=>?_,I.base.tups,I.base.frzs,I.base.tbls⟩,⟨m,hn.sameBut hs (Ne.symm (cne x c hc)),fun j y v' e1 e2 e3=>?_⟩,fun y c' e=>?_,I.free,I.freeC,fun p hp=>?_,tracked ⟨oc,hoc,I.freeC x c hc⟩ hs,by simpa using I.len⟩ ⟨c,hs,.inr hc⟩;exact (hs.2 b (A8 (Ar (AN e) (I.ok.cab x c hfn hc)))).trans (I.base.keep b o e n hb hx);obtain ⟨sl,e1⟩:=I.base.slot b o e n hb hx;exact ⟨sl,(hs.2 b (A8 (Ar (AN e) (I.ok.cab x c hfn hc)))).trans e1⟩;obtain ⟨o',e1⟩:=I.base.there b o e hx;exact ⟨o',(hs.2 b (A8 (Ar (AN e) (I.ok.cab x c hfn hc)))).trans e1⟩;by_cases hj:j=i;subst hj;rw [hi] at e1;cases e1;rw [BV hiσ] at e2;cases e2;exact ⟨u,r,.inr ⟨.inl hk,c,hc,hc'⟩⟩;rw [Bc (Ne.symm hj)] at e2;obtain ⟨u',r',q⟩:=hl j y v' e1 e2 e3;refine ⟨u',r',?_⟩;rcases q with q | ⟨k,c',e,z'⟩;exact .inl q;refine .inr ⟨k,c',e,z'.sameBut hs ?_⟩;rintro rfl;exact hj (Zqx hN e1 (I.ok.inj _ _ _ e hc▸hi));by_cases hcc:c'=c;subst hcc;exact ⟨_,hc'⟩;obtain ⟨w2,z2⟩:=I.cell y c' e;exact ⟨w2,z2.sameBut hs hcc⟩;obtain ⟨e,n,ne,nf,d⟩:=I.pin p hp;refine ⟨(hs.2 p.1 ?_).trans e,n,ne,nf,d⟩;intro q;rw [q,hoc] at e;have q':oc=p.2:=AV e;exact d w' (by rw [<- q'];exact hocd)
theorem Zlk {Q:Unit->Ac->Prop}(I:Inv X pins σ H s)(hN:X.N.Nodup)(hi:X.N[i]?=some x)(hx:Loc X.env.scope x)(r:RelV v u)
  (h:∀s',Inv X pins (σ.set i (some v)) H s'->Q () s') (hf:autoParam (X.fn x=true\/X.env.scope.names.lookup x=some .local) aT0._auto_1):Az M A (Hl X.env x u) Q E s:=
 Zoc I hN hi hx r (fun s' I' _=>h s' I') hf
theorem Inv.call' (I:Inv X pins σ H s)(ho:s'.os=s.os)(u:Un (frs X.stack) ch H H' s.heap s'.heap)(hok:HOk X.prog X.w H' s'.heap)(hg:Dm s'.gens)
  (hch:∀b∈ch,(b∈X.ex\/X.s₀.heap.objs.size<=b)/\b≠X.env.locals/\(∀x c,X.env.cells.lookup x=some c->c≠b)/\∀p∈X.pn++pins,p.1≠b):Inv X pins σ H' s':=by
 obtain ⟨h',g',d',t',o'⟩:=s';have e:o'=s.os:=ho;subst e;exact I.call (g':=g') (t':=t') (d':=d') u hok hg hch
end
abbrev XK:=Value->Option Addr->Hp->Prop
abbrev St:=List (Option V)
abbrev VK:=V->Hp->Prop
abbrev TE:=St->Hp->VK->Prop
abbrev TT:=St->Hp->(Bool->Hp->Prop)->Prop
abbrev TA:=St->Hp->(List V->Hp->Prop)->Prop
structure Ends where
 nx:St->Hp->Prop
 rt:VK
 bk:St->Hp->Prop:=fun _ _=>False
 ct:St->Hp->Prop:=fun _ _=>False
abbrev TS:=Ends->St->Hp->Prop
def EP (X:Cx)(pins:List (Addr×Obj))(σ:St)(Q:VK)(u:Value)(s':Ac):Prop:=∃v H',Inv X pins σ H' s'/\RelV v u/\Q v H'
def TP (X:Cx)(pins:List (Addr×Obj))(σ:St)(Q:Bool->Hp->Prop)(b:Bool)(s':Ac):Prop:=∃H',Inv X pins σ H' s'/\Q b H'
def AP (X:Cx)(pins:List (Addr×Obj))(σ:St)(Q:List V->Hp->Prop)(us:List Value)(s':Ac):Prop:=∃vs H',Inv X pins σ H' s'/\Yw vs us/\Q vs H'
def SP (X:Cx)(pins:List (Addr×Obj))(D:Ends)(f:Flow)(s':Ac):Prop:=
 match f with
 | .next=>∃σ' H',Inv X pins σ' H' s'/\D.nx σ' H'
 | .brk=>∃σ' H',Inv X pins σ' H' s'/\D.bk σ' H'
 | .cont=>∃σ' H',Inv X pins σ' H' s'/\D.ct σ' H'
 | .ret u=>∃v σ' H',Inv X pins σ' H' s'/\RelV v u/\D.rt v H'
def PE (X:Cx)(e:Expr)(t:TE):Prop:=
 ∀(pins:List (Addr×Obj)) (s:Ac) (σ:St) (H:Hp) (Q:VK),Inv X pins σ H s->t σ H Q->Az (AA X.prog X.w) X.A (AF e X.env) (EP X pins σ Q) X.xe s
def PT (X:Cx)(e:Expr)(t:TT):Prop:=
 ∀(pins:List (Addr×Obj)) (s:Ac) (σ:St) (H:Hp) (Q:Bool->Hp->Prop),Inv X pins σ H s->t σ H Q->Az (AA X.prog X.w) X.A (isTrue e X.env (AF e X.env)) (TP X pins σ Q) X.xe s
def PW (X:Cx)(e:Expr)(t:TT):Prop:=
 ∀(whole:Sem Value) (pins:List (Addr×Obj)) (s:Ac) (σ:St) (H:Hp) (Q:Bool->Hp->Prop),Inv X pins σ H s->t σ H Q->Az (AA X.prog X.w) X.A (isTrue e X.env whole) (TP X pins σ Q) X.xe s
theorem PW.pt {t:TT}(h:PW X e t):PT X e t:=h _
def PA (X:Cx)(es:List Expr)(t:TA):Prop:=
 ∀(pos:Pos) (pins:List (Addr×Obj)) (s:Ac) (σ:St) (H:Hp) (Q:List V->Hp->Prop),Inv X pins σ H s->t σ H Q->Az (AA X.prog X.w) X.A (spliced (AW pos (Ab es X.env))) (AP X pins σ Q) X.xe s
def PS (X:Cx)(st:Stmt)(t:TS):Prop:=
 ∀(pins:List (Addr×Obj)) (s:Ac) (σ:St) (H:Hp) (D:Ends),Inv X pins σ H s->t D σ H->Az (AA X.prog X.w) X.A (exec st X.env) (SP X pins D) X.xe s
def PSs (X:Cx)(st:List Stmt)(t:TS):Prop:=
 ∀(pins:List (Addr×Obj)) (s:Ac) (σ:St) (H:Hp) (D:Ends),Inv X pins σ H s->t D σ H->Az (AA X.prog X.w) X.A (execs st X.env) (SP X pins D) X.xe s
theorem thn {t:Sem α}{Q Q':α->Ac->Prop}(h:Az M A t Q E s)(hQ:∀a s,Q a s->Q' a s):Az M A t Q' E s:=Bl h hQ fun _ _ x=>x
section
def Zcr (i:Nat):TE:=fun σ H Q=>∃v,σ[i]?=some (some v)/\Q v H
def tC (v:V):TE:=fun _ H Q=>Q v H
theorem Xof (hN:X.N[i]?=some x)(hv:Vis X.env.scope x)(hd:(x==("__debug__":Str))=false:=by decide)(hcd:(x==("__classdict__":Str))=false:=by decide):PE X (.Name x pos) (Zcr i):=by intro pins s σ H Q I h;obtain ⟨v,e,h⟩:=h;obtain ⟨m,hn,hl⟩:=I.loc;obtain ⟨u,r,l⟩:=hl i x v hN e hv;have fin:EP X pins σ Q u s:=⟨v,H,I,r,h⟩;rcases l with ⟨hk,hm⟩ | ⟨hk,c,hc,hcell⟩;exact GM (Gs I.ok.kind hk hn hm fin) hd;rcases hk with hk | hk;exact GM (GI I.ok.kind hk hc hcell fin) hd;exact GM (wpAny_loadName_free I.ok.kind hk hc hcell fin hcd) hd
theorem Xnj {i j pos}:PE X (.Constant (.int i) j pos) (tC (.int i)):=fun _ _ _ H _ I h=>wpAny_Constant_int ⟨.int i,H,I.tok _,⟨_,rfl⟩,h⟩
theorem pe_bl {b j pos}:PE X (.Constant (.bool b) j pos) (tC (.bl b)):=fun _ _ _ H _ I h=>Constant_bool ⟨.bl b,H,I,rfl,h⟩
theorem Xqa {j pos}:PE X (.Constant .none j pos) (tC .non):=fun _ _ _ H _ I h=>Constant_none ⟨.non,H,I,rfl,h⟩
theorem Xor {x j pos}:PE X (.Constant (.str x) j pos) (tC (.str x)):=fun _ _ _ H _ I h=>Calls.Constant_str ⟨.str x,H,I.tok _,⟨_,rfl⟩,h⟩
def Gl (X:Cx)(x:Str):Prop:=X.env.kindOf x=some .globalImplicit
theorem Zpd (I:Inv X pins σ H s)(hg:Gl X x)(hm:X.mg x=some u)(h:Q u s)
  (hd:(x==("__debug__":Str))=false:=by decide):Az (AA X.prog X.w) X.A (AF (.Name x pos) X.env) Q E s:=
 EE I.ok.kind hg (Calls.loadGlobal_global (by rw [I.ok.glob];exact I.mod.glob.keeps I.bk) hm h) hd
theorem Zns (I:Inv X pins σ H s)(hg:Gl X x)(hm:X.mg x=none)(hv:BN x=some u)(h:Q u s)
  (hn:x≠"__name__":=by decide) (hd:(x==("__debug__":Str))=false:=by decide):Az (AA X.prog X.w) X.A (AF (.Name x pos) X.env) Q E s:=by
 obtain ⟨mb,h1,h2⟩:=I.mod.blt;exact EE I.ok.kind hg (Calls.loadGlobal_builtin (by rw [I.ok.glob];exact I.mod.glob.keeps I.bk) hm (by rw [I.ok.blt];exact h1.keeps I.bk) ((h2 x hn).trans hv) h) hd
theorem Xin (hg:Gl X x)(hm:X.mg x=none)(hv:BN x=some u)(r:RelV v u)(hn:x≠"__name__":=by decide)(hd:(x==("__debug__":Str))=false:=by decide):PE X (.Name x pos) (tC v):=fun _ _ _ H _ I h=>Zns I hg hm hv ⟨v,H,I,r,h⟩ hn hd
variable {a b:Expr}
def tB (t:TE):TT:=fun σ H Q=>t σ H fun x H1=>∃c,x=.bl c/\Q c H1
theorem Xoz {t:TE}(h:PE X e t)(he:∀whole,isTrue e X.env whole=(do let v <- whole;CI e.pos;A5 [v] (truthy v)):=by intro _;rfl):PT X e (tB t):=by intro pins s σ H Q I hw;refine isTrue_plain (thn (h pins s σ H _ I hw) fun v s1 hz9=>?_) (he _);obtain ⟨x,H1,I1,r1,q1⟩:=hz9;obtain ⟨d,rfl,q⟩:=q1;cases r1;exact CH ⟨H1,I1,q⟩
variable {tA tB':TT}{rest:List Expr}
def tAnd (t u:TT):TT:=fun σ H Q=>t σ H fun c H1=>if c=true then u σ H1 Q else Q false H1
def tOr (t u:TT):TT:=fun σ H Q=>t σ H fun c H1=>if c=true then Q true H1 else u σ H1 Q
def tNot (t:TT):TT:=fun σ H Q=>t σ H fun c H1=>Q (!c) H1
theorem Xfm (ha:PT X a tA):PW X (.BoolOp .And [a] pos) tA:=by
 intro wh pins s σ H Q I h;refine isTrue_and (thn (ha pins s σ H Q I h) fun c s1 e=>?_);cases c with
 | true=>exact isTrue_and_nil e
 | false=>exact e
theorem Xqf (ha:PT X a tA):PW X (.BoolOp .Or [a] pos) tA:=by
 intro wh pins s σ H Q I h;refine isTrue_or (thn (ha pins s σ H Q I h) fun c s1 e=>?_);cases c with
 | false=>exact isTrue_or_nil e
 | true=>exact e
theorem Xmo (ha:PT X a tA)(hb:PW X (.BoolOp .And (b::rest) pos) tB'):PW X (.BoolOp .And (a::b::rest) pos) (tAnd tA tB'):=by
 intro wh pins s σ H Q I h;refine isTrue_and (thn (ha pins s σ H _ I h) fun c s1 ⟨H1,I1,q1⟩=>?_);cases c with
 | true=>exact hb wh pins s1 σ H1 Q I1 q1
 | false=>exact ⟨H1,I1,q1⟩
theorem pw_or (ha:PT X a tA)(hb:PW X (.BoolOp .Or (b::rest) pos) tB'):PW X (.BoolOp .Or (a::b::rest) pos) (tOr tA tB'):=by
 intro wh pins s σ H Q I h;refine isTrue_or (thn (ha pins s σ H _ I h) fun c s1 ⟨H1,I1,q1⟩=>?_);cases c with
 | true=>exact ⟨H1,I1,q1⟩
 | false=>exact hb wh pins s1 σ H1 Q I1 q1
theorem Xpn (ha:PT X a tA):PT X (.UnaryOp .Not a pos) (tNot tA):=by intro pins s σ H Q I h;exact isTrue_not (ha pins s σ H (fun c H1=>Q (!c) H1) I h)
def Xbk (ta tb:TE):TE:=fun σ H Q=>ta σ H fun x H1=>∃c,x=.bl c/\if c=true then tb σ H1 Q else Q (.bl false) H1
def Zzq (ta:TE):TE:=fun σ H Q=>ta σ H fun x H1=>∃c,x=.bl c/\Q (.bl (!c)) H1
theorem Xml {op}{t:TE}(h:PE X a t):PE X (.BoolOp op [a] pos) t:=fun pins s σ H Q I hw=>BoolOp_one (h pins s σ H Q I hw)
theorem Xmb (ha:PE X a ta)(hb:PE X (.BoolOp .And (b::rest) pos) tb):PE X (.BoolOp .And (a::b::rest) pos) (Xbk ta tb):=by
 intro pins s σ H Q I h;refine BoolOp_and (thn (ha pins s σ H _ I h) fun v s1 hz9=>?_);obtain ⟨x,H1,I1,r1,q1⟩:=hz9;obtain ⟨c,rfl,q1⟩:=q1;cases r1;refine CH ?_;cases c with
 | true=>exact hb pins s1 σ H1 Q I1 q1
 | false=>exact ⟨.bl false,H1,I1,rfl,q1⟩
theorem Xot (ha:PE X a ta):PE X (.UnaryOp .Not a pos) (Zzq ta):=by intro pins s σ H Q I h;refine UnaryOp_ (thn (ha pins s σ H _ I h) fun v s1 hz9=>?_);obtain ⟨x,H1,I1,r1,q1⟩:=hz9;obtain ⟨c,rfl,q1⟩:=q1;cases r1;exact not_of (CH ⟨.bl (!c),H1,I1,rfl,q1⟩)
end
def SqL (K:AE)(H:Hp)(a:Addr)(xs:List V):Prop:=
 Rd H a (.lst xs)\/
  ∃(o:Obj) (its:Array Value) (n:Nat),K.lookup a=some o/\o.cls=.type "list"/\o.dict=none/\o.data=.seq its n/\its.size<=Ak/\Yw xs its.toList
def SqT (K:AE)(H:Hp)(a:Addr)(xs:List V):Prop:=
 Rd H a (.tup xs)\/
  ∃(o:Obj) (its:Array Value) (n:Nat),K.lookup a=some o/\o.cls=.type "tuple"/\o.data=.seq its n/\its.size<=Ak/\Yw xs its.toList
def absV:Value->Option V
 | .none=>some .non
 | .bool b=>some (.bl b)
 | .int i _=>some (.int i)
 | .str x _=>some (.str x)
 | .bytes b _=>some (.byt b)
 | .float b _=>some (.flt b)
 | .ref a=>some (.ref a)
 | .type n=>some (.ty n)
 | _=>none
theorem RelV.abs {x:V}(r:RelV x u):absV u=some x:=by
 cases x with
 | non=>cases r;rfl
 | bl _=>cases r;rfl
 | int _=>obtain ⟨t,rfl⟩:=r;rfl
 | str _=>obtain ⟨t,rfl⟩:=r;rfl
 | byt _=>obtain ⟨t,rfl⟩:=r;rfl
 | flt _=>obtain ⟨t,rfl⟩:=r;rfl
 | ref _=>cases r;rfl
 | ty _=>cases r;rfl
theorem RelV.inj {x y:V}{u:Value}(r:RelV x u)(q:RelV y u):x=y:=AV (r.abs.symm.trans q.abs)
theorem Yw.inj:∀{xs ys:List V} {us:List Value},Yw xs us->Yw ys us->xs=ys
 | _,_,_,.nil,.nil=>rfl
 | _,_,_,.cons r t,.cons r' t'=>by rw [r.inj r',Yw.inj t t']
section
variable {xs ys:List V}
theorem SqL.of (h:H a=some (.lst xs)):SqL K H a xs:=.inl (.inl h)
theorem SqT.of (h:H a=some (.tup xs)):SqT K H a xs:=.inl (.inl h)
theorem Inv.list (I:Inv X pins σ H s)(h:SqL X.K H a xs):∃its:List Value,Yw xs its/\PlainL s.heap a its.toArray/\xs.length<=Ak:=by rcases h with h | ⟨o,its,n,hk,hc,hd,hs,hz,r⟩;obtain ⟨z,its,n,r,e⟩:=h.ok I.hok;exact ⟨its,r,⟨_,n,e,rfl,rfl,rfl⟩,z⟩;refine ⟨its.toList,r,⟨o,n,I.kIn a o hk,hc,hd,by simpa using hs⟩,?_⟩;have e:=r.length;simp only [DR] at e;omega
theorem Inv.tuple (I:Inv X pins σ H s)(h:SqT X.K H a xs):∃its:List Value,Yw xs its/\IsTup s.heap a its.toArray/\xs.length<=Ak:=by rcases h with h | ⟨o,its,n,hk,hc,hs,hz,r⟩;obtain ⟨z,its,r,p⟩:=h.ok I.hok;exact ⟨its,r,p,z⟩;refine ⟨its.toList,r,⟨o,I.kIn a o hk,hc,n,by simpa using hs⟩,?_⟩;have e:=r.length;simp only [DR] at e;omega
theorem Inv.list_inj (I:Inv X pins σ H s)(h:SqL X.K H a xs)(h':SqL X.K H a ys):xs=ys:=by
 obtain ⟨its,r,⟨o,n,e,_,_,d⟩,_⟩:=I.list h;obtain ⟨its',r',⟨o',n',e',_,_,d'⟩,_⟩:=I.list h';rw [e] at e';cases e';rw [d] at d';injection d' with d1 _;have:its=its':=by simpa using congrArg Array.toList d1
 subst this;exact r.inj r'
end
abbrev Cx.wish (X:Cx)(E:Value->Ac->Prop):Cx:={X with xe:=E}
abbrev Cx.nox (X:Cx):Cx:=X.wish fun _ _=>False
theorem Cx.Ok.wish {X:Cx}(ok:X.Ok)(E:Value->Ac->Prop):(X.wish E).Ok:=⟨ok.mod,ok.kind,ok.glob,ok.blt,ok.above,ok.inj,ok.has,ok.cab,ok.hd,ok.frames,ok.stk,ok.exf,ok.bs,ok.bsz,ok.noex,ok.exfs,ok.funs,ok.frf⟩
theorem Cx.Ok.unwish (ok:(X.wish E).Ok):X.Ok:=⟨ok.mod,ok.kind,ok.glob,ok.blt,ok.above,ok.inj,ok.has,ok.cab,ok.hd,ok.frames,ok.stk,ok.exf,ok.bs,ok.bsz,ok.noex,ok.exfs,ok.funs,ok.frf⟩
theorem Inv.wish (I:Inv X pins σ H s)(E:Value->Ac->Prop):Inv (X.wish E) pins σ H s:=⟨I.ok.wish E,I.os,I.bare,I.base,I.loc,I.cell,I.free,I.freeC,I.pin,I.hok,I.len⟩
theorem Inv.unwish (I:Inv (X.wish E) pins σ H s):Inv X pins σ H s:=⟨I.ok.unwish,I.os,I.bare,I.base,I.loc,I.cell,I.free,I.freeC,I.pin,I.hok,I.len⟩
theorem SP.unwish {D:Ends}{f:Flow}{s':Ac}(h:SP (X.wish E) pins D f s'):SP X pins D f s':=by
 cases f with
 | next=>obtain ⟨σ',H',I,q⟩:=h;exact ⟨σ',H',I.unwish,q⟩
 | brk=>obtain ⟨σ',H',I,q⟩:=h;exact ⟨σ',H',I.unwish,q⟩
 | cont=>obtain ⟨σ',H',I,q⟩:=h;exact ⟨σ',H',I.unwish,q⟩
 | ret u=>obtain ⟨v,σ',H',I,r,q⟩:=h;exact ⟨v,σ',H',I.unwish,r,q⟩
theorem PSs.nox {st:List Stmt}{t:TS}(h:PSs X.nox st t):PSs X st t:=fun pins s σ H D I hw =>
 Bl (h pins s σ H D (I.wish _) hw) (fun _ _ q=>q.unwish) fun _ _ z=>False.elim z
section
variable {rest:List Stmt}{t u:TS}
def Zll:TS:=fun D σ H=>D.nx σ H
def Xfd (t u:TS):TS:=fun D σ H=>t {D with nx:=u D} σ H
theorem Xgy:PSs X [] Zll:=fun _ _ σ H _ I h=>DS ⟨σ,H,I,h⟩
theorem Xcb (h1:PS X st t)(h2:PSs X rest u):PSs X (st::rest) (Xfd t u):=by
 intro pins s σ H D I h;refine Hk (thn (h1 pins s σ H {D with nx:=u D} I h) fun f s1 q=>?_);cases f with
 | next =>obtain ⟨σ',H',I',q⟩:=q;exact h2 pins s1 σ' H' D I' q
 | ret v=>exact q
 | brk=>exact q
 | cont=>exact q
theorem Xhs (h1:PS X st t):PSs X [st] t:=by
 intro pins s σ H D I h;refine Hk (thn (h1 pins s σ H D I h) fun f s1 q=>?_);cases f with
 | next=>exact DS q
 | ret v=>exact q
 | brk=>exact q
 | cont=>exact q
theorem Inv.quiet (I:Inv X pins σ H s):interactive X.env=false:=by simp [interactive,I.ok.kind]
def Zie (te:TE):TS:=fun D σ H=>te σ H fun _ H1=>D.nx σ H1
theorem Xkl (he:PE X e te)(hs:BS e none pos.line X.env=pure false:=by rfl):PS X (.Expr e pos) (Zie te):=by intro pins s σ H D I h;exact wpAny_Expr_any (thn (he pins s σ H _ I h) fun v s1 ⟨x,H1,I1,r1,q1⟩=>⟨σ,H1,I1,q1⟩) I.quiet hs
def Xez (te:TE):TS:=fun D σ H=>te σ H D.rt
theorem Xnq (he:PE X e te):PS X (.Return (some e) pos) (Xez te):=by intro pins s σ H D I h;exact wpAny_Return_some (thn (he pins s σ H _ I h) fun v s1 ⟨x,H1,I1,r1,q1⟩=>⟨x,σ,H1,I1,r1,q1⟩)
def Xar (c:TT)(t u:TS):TS:=fun D σ H=>c σ H fun b H1=>if b=true then t D σ H1 else u D σ H1
theorem ps_if {a b:List Stmt}{tc:TT}(hc:PT X c tc)(ha:PSs X a t)(hb:PSs X b u):PS X (.If c a b pos) (Xar tc t u):=by
 intro pins s σ H D I h;refine wpAny_If (thn (hc pins s σ H _ I h) fun d s1 ⟨H1,I1,q1⟩=>?_);cases d with
 | true=>exact ha pins s1 σ H1 D I1 q1
 | false=>exact hb pins s1 σ H1 D I1 q1
def Zry:TS:=fun _ _ _=>False
theorem Xde:PS X st Zry:=fun _ _ _ _ _ _ h=>h.elim
end
abbrev TG:=V->St->Hp->(St->Hp->Prop)->Prop
abbrev TGs:=List V->St->Hp->(St->Hp->Prop)->Prop
def PG (X:Cx)(target:Expr)(t:TG):Prop:=
 ∀(pins:List (Addr×Obj)) (s:Ac) (σ:St) (H:Hp) (v:V) (u:Value) (Q:St->Hp->Prop),Inv X pins σ H s->RelV v u->t v σ H Q->
  Az (AA X.prog X.w) X.A (Bu target X.env u) (fun _ s'=>∃σ' H',Inv X pins σ' H' s'/\Q σ' H') X.xe s
def PGs (X:Cx)(ts:List Expr)(t:TGs):Prop:=
 ∀(pins:List (Addr×Obj)) (s:Ac) (σ:St) (H:Hp) (vs:List V) (us:List Value) (Q:St->Hp->Prop),Inv X pins σ H s->Yw vs us->t vs σ H Q->
  Az (AA X.prog X.w) X.A (assignInOrder ((Aq ts X.env).map (·.2)) us) (fun _ s'=>∃σ' H',Inv X pins σ' H' s'/\Q σ' H') X.xe s
abbrev TSet:=V->V->V->Hp->(Hp->Prop)->Prop
def PSet (X:Cx)(t:TSet):Prop:=
 ∀(pins:List (Addr×Obj)) (s:Ac) (σ:St) (H:Hp) (o i v:V) (ov iv u:Value) (Q:Hp->Prop),Inv X pins σ H s->RelV o ov->RelV i iv->RelV v u->t o i v H Q->
  Az (AA X.prog X.w) X.A (CV ov iv u) (fun _ s'=>∃H',Inv X pins σ H' s'/\Q H') X.xe s
abbrev TIp:=V->V->Hp->VK->Prop
def PIp (X:Cx)(op:Fe)(t:TIp):Prop:=
 ∀(pins:List (Addr×Obj)) (s:Ac) (σ:St) (H:Hp) (x y:V) (v u:Value) (Q:VK),Inv X pins σ H s->RelV x v->RelV y u->t x y H Q->
  Az (AA X.prog X.w) X.A (inplaceOp op v u) (EP X pins σ Q) X.xe s
def Zac (i:Nat):TG:=fun v σ H Q=>Q (σ.set i (some v)) H
theorem Xgd (hN:X.N.Nodup)(hi:X.N[i]?=some x)(hx:Loc X.env.scope x)(hf:autoParam (X.fn x=true\/X.env.scope.names.lookup x=some .local) aT0._auto_1):PG X (.Name x pos) (Zac i):=by intro pins s σ H v u Q I r h;exact G0 (Zlk I hN hi hx r (fun s' I'=>⟨_,H,I',h⟩) hf)
def Zuj:TGs:=fun vs σ H Q=>vs=[]/\Q σ H
def Zem (t:TG)(u:TGs):TGs:=fun vs σ H Q=>∃v r,vs=v::r/\t v σ H fun σ' H'=>u r σ' H' Q
theorem Xig:PGs X [] Zuj:=by intro pins s σ H vs us Q I r h;obtain ⟨e,h⟩:=h;subst e;cases r;exact assignInOrder_nil ⟨σ,H,I,h⟩
theorem Xcg {t:TG}{u:TGs}(h1:PG X e t)(h2:PGs X es u)
  (hs:(Aq (e::es) X.env).map (·.2)=Bu e X.env::(Aq es X.env).map (·.2):=by rfl):PGs X (e::es) (Zem t u):=by
 intro pins s σ H vs us Q I r h;obtain ⟨v,vr,e1,h⟩:=h;subst e1;cases r with
 | cons r rr =>rw [hs];refine assignInOrder_cons (thn (h1 pins s σ H _ _ _ I r h) fun _ s1 hz9=>?_);obtain ⟨σ1,H1,I1,q1⟩:=hz9;exact h2 pins s1 σ1 H1 _ _ Q I1 rr q1
def Zcf (K:AE)(n:Nat)(t:TGs):TG:=fun v σ H Q=>∃a xs,v=.ref a/\SqT K H a xs/\xs.length=n/\t xs σ H Q
theorem Xmr {k:Nat}{t:TGs}(hc:X.calm=true)(h:PGs X es t)
  (hn:(Aq es X.env).length=n:=by rfl) (hst:(Aq es X.env).findIdx? (·.1)=none:=by rfl):PG X (.Tuple es k pos) (Zcf X.K n t):=by
 intro pins s σ H v u Q I r hw;obtain ⟨a,xs,e1,hq,hl,hw⟩:=hw;subst e1;cases r;obtain ⟨its,rv,ht,hz⟩:=I.tuple hq;refine assign_Tuple_tuple (I.ok.hd hc) ht (by simp [hn,<- hl,rv.length]) hst fun h' hx=>?_;have I1:Inv X pins σ H {s with heap:=h'}:=I.kept (t':=s.toks) fun b o e=>hx b o (A8 (AN e)) e;exact h pins _ σ H xs _ Q I1 (by simpa using rv) hw
def Zbg (to ti:TE)(t:TSet):TG:=fun v σ H Q=>to σ H fun o H1=>ti σ H1 fun i H2=>t o i v H2 fun H3=>Q σ H3
theorem Xmh {o i:Expr}{to ti:TE}{t:TSet}(ho:PE X o to)(hi:PE X i ti)(hs:PSet X t)
    (ha:∀v,Bu (.Subscript o i pos) X.env v=(do
      let ov <- A5 [v] (AF o X.env)
      let iv <- A5 [v,ov] (AF i X.env)
      CI pos
      A5 [v,ov,iv] (CV ov iv v)
      Dy [v,ov,iv] []):=by intro _;rfl):PG X (.Subscript o i pos) (Zbg to ti t):=by
  intro pins s σ H v u Q I r h;rw [ha];refine Av (DC (thn (ho pins s σ H _ I h) fun ov s1 hz9=>?_));obtain ⟨x,H1,I1,r1,q1⟩:=hz9;refine Av (DC (thn (hi pins s1 σ H1 _ I1 q1) fun iv s2 hz9=>?_));obtain ⟨y,H2,I2,r2,q2⟩:=hz9;refine Av (Fp (Av (DC (thn (hs pins s2 σ H2 x y v ov iv u _ I2 r1 r2 r q2) fun _ s3 ⟨H3,I3,q3⟩=>?_))));exact wpAny_release ⟨σ,H3,I3,q3⟩
def Zfs (te:TE)(g:TG):TS:=fun D σ H=>te σ H fun x H1=>g x σ H1 D.nx
theorem Xmd {g:TG}(he:PE X e te)(hg:PG X tg g)(hs:B7 [tg] e pos.line X.env=pure false:=by rfl)(hw:B8 [tg] e X.env=pure none:=by rfl)
  (h1:(Aq [tg] X.env).map (·.2)=[Bu tg X.env]:=by rfl):PS X (.Assign [tg] e pos) (Zfs te g):=by
 intro pins s σ H D I h;refine wpAny_Assign_stores (thn (he pins s σ H _ I h) fun v s1 hz9=>?_) hs hw;obtain ⟨x,H1,I1,r1,q1⟩:=hz9;rw [h1];exact thn (hg pins s1 σ H1 x v _ I1 r1 q1) fun _ s2 q=>q
theorem Xoo (hN:X.N.Nodup)(hi:X.N[i]?=some x)(hx:Loc X.env.scope x)(he:PE X e te)(hs:BS e (some (.Name x pos')) pos.line X.env=pure false:=by rfl)(hf:autoParam (X.fn x=true\/X.env.scope.names.lookup x=some .local) aT0._auto_1) :
  PS X (.Assign [.Name x pos'] e pos) (Zfs te (Zac i)):=by
 intro pins s σ H D I h;refine wpAny_Assign_Name (thn (he pins s σ H _ I h) fun v s1 hz9=>?_) hs;obtain ⟨y,H1,I1,r1,q1⟩:=hz9;exact Zlk I1 hN hi hx r1 (fun s2 I2=>⟨_,H1,I2,q1⟩) hf
def tAug (i:Nat)(te:TE)(ti:TIp):TS:=fun D σ H=>∃x,σ[i]?=some (some x)/\te σ H fun y H1=>ti x y H1 fun z H2=>D.nx (σ.set i (some z)) H2
theorem Xps {op:Fe}(hN:X.N.Nodup)(hi:X.N[i]?=some x)(hx:Loc X.env.scope x)(he:PE X e te)(ho:PIp X op ti)(hf:autoParam (X.fn x=true\/X.env.scope.names.lookup x=some .local) aT0._auto_1) :
  PS X (.AugAssign (.Name x pos') op e pos) (tAug i te ti):=by
 intro pins s σ H D I h;obtain ⟨v,e1,h⟩:=h;obtain ⟨m,hn,hl⟩:=I.loc;have vis:Vis X.env.scope x:=by rcases hx with k | k;exact .inl k;exact .inr (.inl k)
 obtain ⟨u,r,l⟩:=hl i x v hi e1 vis;refine wpAny_AugAssign_Name ?_;have go:Az (AA X.prog X.w) X.A (AF e X.env) (fun w s₂=>Az (AA X.prog X.w) X.A (inplaceOp op u w) (fun r s₃=>Az (AA X.prog X.w) X.A (Hl X.env x r) (fun _=>SP X pins D .next) X.xe s₃) X.xe s₂) X.xe s:=by refine thn (he pins s σ H _ I h) fun w s1 hz9=>?_;obtain ⟨y,H1,I1,r1,q1⟩:=hz9;refine thn (ho pins s1 σ H1 v y u w _ I1 r r1 q1) fun z s2 hz9=>?_;obtain ⟨zv,H2,I2,r2,q2⟩:=hz9;exact Zlk I2 hN hi hx r2 (fun s3 I3=>⟨_,H2,I3,q2⟩) hf
 rcases l with ⟨hk,hm⟩ | ⟨hk,c,hc,hcell⟩;exact Gs I.ok.kind hk hn hm go;rcases hk with hk | hk;exact GI I.ok.kind hk hc hcell go;rcases hx with k | k;have:X.env.scope.names.lookup x=some .free:=hk;rw [k] at this;cases this;have:X.env.scope.names.lookup x=some .free:=hk;rw [k] at this;cases this
def ipI (f:Int->Int->Int):TIp:=fun x y H Q=>∃i j,x=.int i/\y=.int j/\Q (.int (f i j)) H
theorem Xpa:PIp X .Add (ipI fun i j=>i+j):=by intro pins s σ H x y v u Q I r1 r2 h;obtain ⟨i,j,e1,e2,q⟩:=h;subst e1;subst e2;obtain ⟨t,rfl⟩:=r1;obtain ⟨t',rfl⟩:=r2;exact iadd_int ⟨.int _,H,I.tok _,⟨_,rfl⟩,q⟩
structure It where
 go:Nat->Hp->Prop
 yld:Nat->Hp->V->Hp->Prop
 stop:Nat->Hp->Prop
def Zty (X:Cx)(pins:List (Addr×Obj))(H:Hp)(b:Addr):Prop:=
 H b=none/\b≠X.env.locals/\b∉X.fs/\(b∈X.ex\/X.s₀.heap.objs.size<=b)/\(∀x c,X.env.cells.lookup x=some c->c≠b)/\∀p∈X.pn++pins,p.1≠b
theorem Inv.fpOk (I:Inv X pins σ H s)(hb:s.heap.objs.size<=b)(hn:H' b=none):Zty X pins H' b:=by refine ⟨hn,Ff (Ar I.lt hb),I.nofs hb,.inr (AT I.sz hb),fun x c e z=>?_,fun p hp z=>?_⟩;obtain ⟨v,q⟩:=I.cell x c e;exact absurd (Ar q.lt (by rw [z];exact hb)) (Bg _);exact absurd (Ar (AN (I.pin p hp).1) (by rw [z];exact hb)) (Bg _)
structure Turn (P:Aw)(w:AS)(K:AE)(tg:Expr)(J:It)(fp:List Addr)(it:Addr)(tn:Nat->AZ->Prop):Prop where
  mem:it∈fp
  obj:∀i h,tn i h->∀b∈fp,∃o,h.get? b=some o/\∀v,o.data≠.cell v
  keep:∀i h h',tn i h->(∀b∈fp,∀o,h.get? b=some o->h'.get? b=some o)->tn i h'
  item:∀(X:Cx),X.prog=P->X.w=w->X.K=K->X.calm=true->∀(i:Nat) (pins:List (Addr×Obj)) (s:Ac) (σ:St) (H:Hp) (E:Value->Ac->Prop),Inv X pins σ H s->(∀b∈fp,Zty X pins H b)->tn i s.heap->J.go i H->
    Az (AA P w) X.A (GQ (.ref it)) (fun r s1=>∃u,r=some u/\
      Az (AA P w) X.A (DT tg (.ref it) u) (fun _ s2=>∃x H',Inv X pins σ H' s2/\RelV x u/\J.yld i H x H'/\tn (i+1) s2.heap/\∀b∈fp,H' b=none) E s1) E s
  done:∀(X:Cx),X.prog=P->X.w=w->X.K=K->X.calm=true->∀(i:Nat) (pins:List (Addr×Obj)) (s:Ac) (σ:St) (H:Hp) (E:Value->Ac->Prop),Inv X pins σ H s->(∀b∈fp,Zty X pins H b)->tn i s.heap->J.stop i H->
    Az (AA P w) X.A (GQ (.ref it)) (fun r s1=>r=none/\Inv X pins σ H s1) E s
  self:∀(A:AR) (i:Nat) (s:Ac) (Q:Value->Ac->Prop) (E:Value->Ac->Prop),tn i s.heap->Q (.ref it) s->Az (AA P w) A (pyIter (.ref it)) Q E s
abbrev TI:=St->Hp->(It->Hp->Prop)->Prop
def PIE (X:Cx)(pins:List (Addr×Obj))(σ:St)(tg:Expr)(R:It->Hp->Prop)(itv:Value)(s2:Ac):Prop:=
 ∃(it:Addr) (fp:List Addr) (tn:Nat->AZ->Prop) (J:It) (H':Hp),itv=.ref it/\Inv X pins σ H' s2/\Turn X.prog X.w X.K tg J fp it tn/\tn 0 s2.heap/\(∀b∈fp,Zty X pins H' b)/\R J H'
def PI (X:Cx)(tg iter:Expr)(wi:TI):Prop:=
 ∀(pins:List (Addr×Obj)) (s:Ac) (σ:St) (H:Hp) (R:It->Hp->Prop),Inv X pins σ H s->wi σ H R->
  Az (AA X.prog X.w) X.A (AF iter X.env) (fun v s1=>Az (AA X.prog X.w) X.A (pyIter v) (PIE X pins σ tg R) X.xe s1) X.xe s
theorem Xmm {o:Obj}{n:String}{vs:Array Value}{Q:Unit->Ac->Prop}(ho:s.heap.get? it=some o)(hc:o.cls=.type n)(hd:o.data=.fields vs)
    (hn:["enumerate","zip","dict_itemiterator","dict_reverseitemiterator","odict_iterator","itertools.zip_longest","itertools.pairwise"].contains n=false) (hQ:Q () s):Az M A (DT tg (.ref it) u) Q E s:=by
  unfold DT;cases tg<;>first
    | exact A6 hQ
    | (cases u<;>first
        | exact A6 hQ
        | (refine Av (wpAny_load ho ?_)
           rw [hc,hd];show Az M A (if (["enumerate","zip","dict_itemiterator","dict_reverseitemiterator","odict_iterator","itertools.zip_longest","itertools.pairwise"].contains n&&vs[0]?==some (F0 _))=true then _ else _) Q E s;rw [if_neg (by intro h;rw [hn,DL] at h;cases h)];exact A6 hQ))
def Itl (K:AE)(a:Addr):It:=
 ⟨fun i H=>∃xs x,SqL K H a xs/\xs[i]?=some x,fun i H x H'=>H'=H/\∀xs,SqL K H a xs->xs[i]?=some x,fun i H=>∃xs,SqL K H a xs/\xs.length<=i⟩
def Itr (lo:Int)(n:Nat):It:=⟨fun i _=>i<n,fun i H x H'=>H'=H/\x=.int (lo+i),fun i _=>n<=i⟩
theorem Zvg (a it:Addr):Turn P w K tg (Itl K a) [it] it (fun i h=>h.IsListIter it a i) where
 mem:=by simp
 obj:=fun i h st b hb=>by
  have e:b=it:=by simpa using hb
  subst e;obtain ⟨o,e,c,d⟩:=st;exact ⟨o,e,fun v z=>by rw [d] at z;cases z⟩
 keep:=fun i h h' st k=>st.at fun o e=>k it (by simp) o e
 item:=by intro X hP hw hK hc i pins s σ H E I hf st hg;subst hP hw hK;obtain ⟨xs,x,hq,hx⟩:=hg;obtain ⟨its,rv,p,hz⟩:=I.list hq;obtain ⟨u,hu,ru⟩:=rv.get hx;obtain ⟨f0,f1,f2,f3,f4,f5⟩:=hf it (by simp);refine wpAny_pyNext_list_item st p.isList (x:=u) (by simpa using hu) fun h' st' sb=>?_;have I1:Inv X pins σ H {s with heap:=h'}:=I.turned (t':=s.toks) (fun b o hb e=>(sb.2 b hb).trans e) f0 f1 f3 f4 f5;obtain ⟨o,e,c,d⟩:=id st';exact ⟨u,rfl,Xmm (s:={s with heap:=h'}) e c d (by decide) ⟨x,H,I1,ru,⟨rfl,fun ys hy=>by rw [I.list_inj hy hq];exact hx⟩,st',fun b hb=>(hf b hb).1⟩⟩
 done:=by intro X hP hw hK hc i pins s σ H E I hf st hg;subst hP hw hK;obtain ⟨xs,hq,hx⟩:=hg;obtain ⟨its,rv,p,hz⟩:=I.list hq;obtain ⟨f0,f1,f2,f3,f4,f5⟩:=hf it (by simp);have hl:=rv.length;exact wpAny_pyNext_list_end (I.ok.hd hc) st p.isList (by simp;omega) fun h' eb=>⟨rfl,I.turned (t':=s.toks) (fun b o hb e=>eb b o hb e) f0 f1 f3 f4 f5⟩
 self:=fun _ _ _ _ _ st h=>wpAny_pyIter_listiter st h
theorem Ztt (it:Addr)(lo:Int)(n:Nat):Turn P w K tg (Itr lo n) [it] it (fun i h=>IsRangeIter h it (lo+(i:Nat)*1) ((n:Int) - (i:Nat)) 1) where
  mem:=by simp
  obj:=fun i h st b hb=>by
    have e:b=it:=by simpa using hb
    subst e;exact ⟨_,st,fun v z=>by
      have z':Data.fields _=Data.cell v:=z;cases z'⟩
  keep:=fun i h h' st k=>k it (by simp) _ st
  item:=by intro X hP hw hK hc i pins s σ H E I hf st hg;subst hP hw hK;obtain ⟨f0,f1,f2,f3,f4,f5⟩:=hf it (by simp);have W:=Walks.range (prog:=X.prog) (w:=X.w) (I.ok.hd hc) it lo 1 n;refine W.item i s _ _ hg st fun v h' tk hv st' kk=>?_;obtain ⟨t,rfl⟩:=hv;have I1:Inv X pins σ H {s with heap:=h',toks:=tk}:=I.turned (fun b o hb e=>kk b o (by simpa using hb) e) f0 f1 f3 f4 f5;refine ⟨_,rfl,Xmm (s:={s with heap:=h',toks:=tk}) (n:="range_iterator") st' rfl rfl (by decide) ⟨.int (lo+i),H,I1,⟨t,?_⟩,⟨rfl,rfl⟩,st',fun b hb=>(hf b hb).1⟩⟩;rw [Int.mul_one]
  done:=by intro X hP hw hK hc i pins s σ H E I hf st hg;subst hP hw hK;obtain ⟨f0,f1,f2,f3,f4,f5⟩:=hf it (by simp);exact wpAny_pyNext_range_end (I.ok.hd hc) st (by have:n<=i:=hg;omega) fun h' eb=>⟨rfl,I.turned (t':=s.toks) (fun b o hb e=>eb b o hb e) f0 f1 f3 f4 f5⟩
  self:=fun _ _ _ _ _ st h=>wpAny_pyIter_rangeiter st h
def Xbm (K:AE)(tl:TE):TI:=fun σ H R=>tl σ H fun x H1=>∃a,x=.ref a/\(∃xs,SqL K H1 a xs)/\R (Itl K a) H1
theorem Xhx {l:Expr}{tl:TE}(hl:PE X l tl):PI X tg l (Xbm X.K tl):=by
 intro pins s σ H R I h;refine thn (hl pins s σ H _ I h) fun v s1 hz9=>?_;obtain ⟨x,H1,I1,r1,q1⟩:=hz9;obtain ⟨a,e,⟨xs,hq⟩,q⟩:=q1;subst e;cases r1;obtain ⟨its,rv,p,hz⟩:=I1.list hq;refine Dw p.isList ?_;refine ⟨s1.heap.objs.size,[s1.heap.objs.size],_,_,H1,rfl,I1.kept (t':=s1.toks) fun b o e=>AD _ e,Zvg a _,⟨_,BP _ rfl,rfl,rfl⟩,fun b hb=>?_,q⟩;have e:b=s1.heap.objs.size:=by simpa using hb
 subst e;exact I1.fpOk (AI _) (I1.hok.fresh (AI _))
theorem Xat {R:It->Hp->Prop}{lo hi:Int}{t u v:Tok}(I:Inv X pins σ H s)(h1:-(2 ^ 62)<=lo)(h2:lo<2 ^ 62)(h3:-(2 ^ 62)<=hi)(h4:hi<2 ^ 62)
    (q:R (Itr lo (hi - lo).toNat) H):Az (AA X.prog X.w) X.A (pyIter (.ref s.heap.objs.size)) (PIE X pins σ tg R) E {s with heap:=s.heap.push {cls:=.type "range",data:=.fields #[.int lo t,.int hi u,.int 1 v]},toks:=tk}:=by
  refine wpAny_pyIter_range (IsRange.new ..) (small_one h1 h2 h3 h4) ?_;have I1:Inv X pins σ H {s with heap:=s.heap.push {cls:=.type "range",data:=.fields #[.int lo t,.int hi u,.int 1 v]},toks:=tk}:=I.kept fun b o e=>AD _ e;refine ⟨(s.heap.push {cls:=.type "range",data:=.fields #[.int lo t,.int hi u,.int 1 v]}).objs.size,[(s.heap.push {cls:=.type "range",data:=.fields #[.int lo t,.int hi u,.int 1 v]}).objs.size],_,_,H,rfl,
    I1.kept (t':=tk) fun b o e=>AD _ e,Ztt _ lo (hi - lo).toNat,?_,fun b hb=>?_,q⟩
  have e1:lo+((0:Nat):Int)*1=lo:=by simp
  have e2:(((hi - lo).toNat:Nat):Int) - ((0:Nat):Int)=Ee lo hi 1:=by rw [HY];split<;>omega
  show IsRangeIter _ _ (lo+((0:Nat):Int)*1) ((((hi - lo).toNat:Nat):Int) - ((0:Nat):Int)) 1;rw [e1,e2];exact BP _ rfl;have e:b=(s.heap.push {cls:=.type "range",data:=.fields #[.int lo t,.int hi u,.int 1 v]}).objs.size:=by simpa using hb
  subst e;exact I1.fpOk (AI _) (I1.hok.fresh (AI _))
def Xdm (ta:TA):TI:=fun σ H R=>ta σ H fun vs H1=>∃j:Int,vs=[.int j]/\-(2 ^ 62)<=j/\j<2 ^ 62/\R (Itr 0 j.toNat) H1
theorem Zwj {a:Expr}{ta:TA}(hg:Gl X "range")(hm:X.mg "range"=none)(ha:PA X [a] ta)(hs:Ab [a] X.env=[(false,AF a X.env)]:=by rfl):PI X tg (.Call (.Name "range" p) [a] [] pos) (Xdm ta):=by
 intro pins s σ H R I h;refine Call_ (Zns I hg hm boot_range (CA (thn (ha pos pins s σ H _ I h) fun us s1 hz9=>?_) hs rfl));obtain ⟨vs,H1,I1,r1,q1⟩:=hz9;obtain ⟨j,e,q1,q2,q⟩:=q1;subst e;cases r1 with
 | cons r rr =>cases rr;obtain ⟨t,rfl⟩:=r;exact call_range_1 (Xat I1 (by omega) (by omega) q1 q2 (by simpa using q))
def Xey (wi:TI)(g:TG)(tb:TS):TS:=fun D σ H=>wi σ H fun J H1=>∃W:Nat->Nat->St->Hp->Prop,(∃m,W 0 m σ H1)/\∀i m σ H,W i m σ H->
 (J.stop i H/\D.nx σ H)\/(J.go i H/\∃N:St->Hp->Prop,(∀σ' H',N σ' H'->∃m',m'<m/\W (i+1) m' σ' H')/\∀x H',J.yld i H x H'->g x σ H' fun σ2 H2=>tb {D with nx:=N,ct:=N,bk:=D.nx} σ2 H2)
def Zng (fp:List Addr)(h:AZ):List (Addr×Obj):=fp.filterMap fun b=>(h.get? b).map fun o=>(b,o)
theorem Zef {o:Obj}(hb:b∈fp)(e:h.get? b=some o):(b,o)∈Zng fp h:=DY.mpr ⟨b,hb,by rw [e];rfl⟩
theorem Zwq {p:Addr×Obj}(hp:p∈Zng fp h):p.1∈fp/\h.get? p.1=some p.2:=by
 obtain ⟨b,hb,e⟩:=DY.mp hp;cases q:h.get? b with
 | none=>rw [q] at e;cases e
 | some o =>rw [q] at e;have e':(b,o)=p:=AV e;subst e';exact ⟨hb,q⟩
theorem Inv.pinned (I:Inv X pins σ H s)(hf:∀b∈fp,Zty X pins H b)(ho:∀b∈fp,∃o,s.heap.get? b=some o/\∀v,o.data≠.cell v):Inv X (pins++Zng fp s.heap) σ H s:=I.pins_of fun p hp=>(Ad.mp hp).elim (fun z=>I.pin p (Ai _ z)) fun z=>by obtain ⟨hb,e⟩:=Zwq z;obtain ⟨f0,f1,f2,_⟩:=hf p.1 hb;obtain ⟨o,e',d⟩:=ho p.1 hb;rw [e] at e';cases e';exact ⟨e,f0,f1,f2,d⟩
theorem Inv.unpinned (I:Inv X (pins++pl) σ H s):Inv X pins σ H s:=I.pins_of fun p hp=>I.pin p (Ai _ (As _ hp))
theorem Xri {wi:TI}{g:TG}{tb:TS}(hp:EL (AA X.prog X.w) X.A X.env X.xe)(hc:X.calm=true)(hi:PI X tg iter wi)(hg:PG X tg g)(hb:PSs X body tb)
  (hs:∀x,AQ iter X.env x=pure x:=by intro _;rfl):PS X (.For tg iter body [] pos) (Xey wi g tb):=by
 intro pins s σ H D I h;refine wpAny_For (thn (hi pins s σ H _ I h) fun v s1 h1=>thn h1 fun itv s2 h2=>?_) hs;obtain ⟨it,fp,tn,J,H2,e,I2,T,st2,f2,W,⟨m0,w0⟩,turn⟩:=h2;subst e;have stat:∀{H':Hp},(∀b∈fp,H' b=none)->∀b∈fp,Zty X pins H' b:=fun hn b hb=>⟨hn b hb,(f2 b hb).2⟩;refine codeAny_forLoop_any (fun n s'=>∃i σ' H',Inv X pins σ' H' s'/\tn i s'.heap/\(∀b∈fp,H' b=none)/\W i n σ' H') ?_ m0 ⟨0,σ,H2,I2,st2,fun b hb=>(f2 b hb).1,w0⟩;rintro n s3 ⟨i,σ3,H3,I3,st3,fr3,w3⟩;rcases turn i n σ3 H3 w3 with ⟨stop,qn⟩ | ⟨go,N,hN,step⟩
 ·refine C9 hp (thn (T.done X rfl rfl rfl hc i pins s3 σ3 H3 X.xe I3 (stat fr3) st3 stop) fun r s4 ⟨hr,I4⟩=>?_);subst hr;exact DS ⟨σ3,H3,I4,qn⟩
 ·refine C9 hp (thn (T.item X rfl rfl rfl hc i pins s3 σ3 H3 X.xe I3 (stat fr3) st3 go) fun r s4 ⟨u,hr,h4⟩=>?_);subst hr;refine C9 hp (thn h4 fun _ s5 hz9=>?_);obtain ⟨x,H5,I5,r5,y5,st5,fr5⟩:=hz9;have I5':=I5.pinned (stat fr5) (T.obj _ _ st5);refine C9 hp (thn (hg _ s5 σ3 H5 x u _ I5' r5 (step x H5 y5)) fun _ s6 hz9=>?_);obtain ⟨σ6,H6,I6,q6⟩:=hz9;refine C9 hp (thn (hb _ s6 σ6 H6 _ I6 q6) fun f s7 q7=>?_);have G4:∀{σ7:St} {H7:Hp},Inv X (pins++Zng fp s5.heap) σ7 H7 s7->N σ7 H7->∃m,m<n/\∃i σ' H',Inv X pins σ' H' s7/\tn i s7.heap/\(∀b∈fp,H' b=none)/\W i m σ' H':=fun {σ7 H7} I7 n7=>by obtain ⟨m',hm,w7⟩:=hN σ7 H7 n7;refine ⟨m',hm,i+1,σ7,H7,I7.unpinned,T.keep _ _ _ st5 fun b hb o e=>(I7.pin (b,o) (Ai _ (Ai _ (Zef hb e)))).1,fun b hb=>?_,w7⟩;obtain ⟨o,e,d⟩:=T.obj _ _ st5 b hb;exact (I7.pin (b,o) (Ai _ (Ai _ (Zef hb e)))).2.1
  cases f with
  | next=>obtain ⟨σ7,H7,I7,n7⟩:=q7;exact G4 I7 n7
  | cont=>obtain ⟨σ7,H7,I7,n7⟩:=q7;exact G4 I7 n7
  | brk=>obtain ⟨σ7,H7,I7,q7⟩:=q7;exact ⟨σ7,H7,I7.unpinned,q7⟩
  | ret v=>obtain ⟨x7,σ7,H7,I7,r7,q7⟩:=q7;exact ⟨x7,σ7,H7,I7.unpinned,r7,q7⟩
abbrev R2:=V->V->Hp->VK->Prop
def OpR (X:Cx)(f:Value->Value->Sem Value)(r:R2):Prop:=
 ∀(pins:List (Addr×Obj)) (s:Ac) (σ:St) (H:Hp) (x y:V) (v u:Value) (Q:VK),Inv X pins σ H s->RelV x v->RelV y u->r x y H Q->
  Az (AA X.prog X.w) X.A (f v u) (EP X pins σ Q) X.xe s
def UnR (X:Cx)(f:Value->Sem Value)(r:V->Hp->VK->Prop):Prop:=
 ∀(pins:List (Addr×Obj)) (s:Ac) (σ:St) (H:Hp) (x:V) (v:Value) (Q:VK),Inv X pins σ H s->RelV x v->r x H Q->
  Az (AA X.prog X.w) X.A (f v) (EP X pins σ Q) X.xe s
def Zar (X:Cx)(f:Value)(r:List V->Hp->VK->Prop):Prop:=
 ∀(pins:List (Addr×Obj)) (s:Ac) (σ:St) (H:Hp) (xs:List V) (us:List Value) (Q:VK),Inv X pins σ H s->Yw xs us->r xs H Q->
  Az (AA X.prog X.w) X.A (call f us) (EP X pins σ Q) X.xe s
def tOp (r:R2)(ta tb:TE):TE:=fun σ H Q=>ta σ H fun x H1=>tb σ H1 fun y H2=>r x y H2 Q
def tUn (r:V->Hp->VK->Prop)(ta:TE):TE:=fun σ H Q=>ta σ H fun x H1=>r x H1 Q
def rI (C:Int->Int->Prop)(g:Int->Int->V):R2:=fun x y H Q=>∃i j,x=.int i/\y=.int j/\C i j/\Q (g i j) H
def rI0 (g:Int->Int->V):R2:=fun x y H Q=>∃i j,x=.int i/\y=.int j/\Q (g i j) H
def rU (g:Int->V):V->Hp->VK->Prop:=fun x H Q=>∃i,x=.int i/\Q (g i) H
section
variable {a b:Expr}
theorem binT (ha:PE X a ta)(hb:PE X b tb){R:V->V->Hp->Prop}(I:Inv X pins σ H s)
  (h:ta σ H fun x H1=>tb σ H1 fun y H2=>R x y H2) {Q:Value->Ac->Prop} {f:Value->Value->Sem Value}
  (hf:∀v u s2 x y H2,Inv X pins σ H2 s2->RelV x v->RelV y u->R x y H2->Az (AA X.prog X.w) X.A (f v u) Q X.xe s2) :
  Az (AA X.prog X.w) X.A (AF a X.env) (fun v s₁=>Az (AA X.prog X.w) X.A (AF b X.env) (fun u s₂=>Az (AA X.prog X.w) X.A (f v u) Q X.xe s₂) X.xe s₁) X.xe s:=by
 refine thn (ha pins s σ H _ I h) fun v s1 hz9=>?_;obtain ⟨x,H1,I1,r1,q1⟩:=hz9;refine thn (hb pins s1 σ H1 _ I1 q1) fun u s2 hz9=>?_;obtain ⟨y,H2,I2,r2,q2⟩:=hz9;exact hf v u s2 x y H2 I2 r1 r2 q2
theorem pe_op {op:Fe}{r:R2}(ho:OpR X (Cj op) r)(ha:PE X a ta)(hb:PE X b tb):PE X (.BinOp a op b pos) (tOp r ta tb):=by intro pins s σ H Q I h;exact wpAny_BinOp (binT ha hb I h fun v u s2 x y H2 I2 rx ry q=>ho pins s2 σ H2 x y v u Q I2 rx ry q)
theorem pe_un {op:G7}{r:V->Hp->VK->Prop}(ho:UnR X (unaryOp op) r)(ha:PE X a ta):PE X (.UnaryOp op a pos) (tUn r ta):=by intro pins s σ H Q I h;exact UnaryOp_ (thn (ha pins s σ H _ I h) fun v s1 ⟨x,H1,I1,r1,q1⟩=>ho pins s1 σ H1 x v Q I1 r1 q1)
theorem opI {C:Int->Int->Prop}{g:Int->Int->Int}
  (rule:∀(i j:Int) (t u:Tok) (s:Ac) (Q:Value->Ac->Prop) (E:Value->Ac->Prop),C i j->Q (.int (g i j) s.toks) {s with toks:=s.toks+1}->Az (AA X.prog X.w) X.A (f (.int i t) (.int j u)) Q E s) :
  OpR X f (rI C fun i j=>.int (g i j)):=by
 intro pins s σ H x y v u Q I rx ry h;obtain ⟨i,j,rfl,rfl,hc,q⟩:=h;obtain ⟨t,rfl⟩:=rx;obtain ⟨t',rfl⟩:=ry;exact rule i j t t' s _ _ hc ⟨.int (g i j),H,I.tok _,⟨_,rfl⟩,q⟩
theorem opI0 {g:Int->Int->Int}
  (rule:∀(i j:Int) (t u:Tok) (s:Ac) (Q:Value->Ac->Prop) (E:Value->Ac->Prop),Q (.int (g i j) s.toks) {s with toks:=s.toks+1}->Az (AA X.prog X.w) X.A (f (.int i t) (.int j u)) Q E s) :
  OpR X f (rI0 fun i j=>.int (g i j)):=by
 intro pins s σ H x y v u Q I rx ry h;obtain ⟨i,j,rfl,rfl,q⟩:=h;obtain ⟨t,rfl⟩:=rx;obtain ⟨t',rfl⟩:=ry;exact rule i j t t' s _ _ ⟨.int (g i j),H,I.tok _,⟨_,rfl⟩,q⟩
theorem opB0 {g:Int->Int->Bool}
  (rule:∀(i j:Int) (t u:Tok) (s:Ac) (Q:Value->Ac->Prop) (E:Value->Ac->Prop),Q (.bool (g i j)) s->Az (AA X.prog X.w) X.A (f (.int i t) (.int j u)) Q E s) :
  OpR X f (rI0 fun i j=>.bl (g i j)):=by
 intro pins s σ H x y v u Q I rx ry h;obtain ⟨i,j,rfl,rfl,q⟩:=h;obtain ⟨t,rfl⟩:=rx;obtain ⟨t',rfl⟩:=ry;exact rule i j t t' s _ _ ⟨.bl (g i j),H,I,rfl,q⟩
def CPow (i j:Int):Prop:=0<=j/\j<=1000000/\i.natAbs<2 ^ 64
def Xly (i j:Int):Prop:=(-(2 ^ 64)<i/\i<2 ^ 64)\/(-(2 ^ 64)<j/\j<2 ^ 64)
theorem Xly.ok {i j:Int}(h:Xly i j):IntMulOk i j:=by rcases h with ⟨h1,h2⟩ | ⟨h1,h2⟩;exact .of_left (Ic h1 h2);exact .of_right (Ic h1 h2)
theorem Xmf:OpR X (Cj .Add) (rI0 fun i j=>.int (i+j)):=opI0 fun _ _ _ _ _ _ _ q=>add_int q
theorem Zdg:OpR X (Cj .Sub) (rI0 fun i j=>.int (i - j)):=opI0 fun _ _ _ _ _ _ _ q=>sub_int q
theorem Xqq:OpR X (Cj .Mult) (rI Xly fun i j=>.int (i*j)):=opI fun _ _ _ _ _ _ _ hc q=>mul_int q hc.ok
theorem Zai:OpR X (Cj .Mod) (rI (fun _ j=>0<j) fun i j=>.int (i % j)):=opI fun i j _ _ _ _ _ hc q=>by have h1:(0:Int)<j:=hc;exact mod_int' (by omega) (by rw [Int.fmod_eq_emod_of_nonneg i (by omega)];exact q)
theorem Zdi:OpR X (Cj .Pow) (rI CPow fun i j=>.int (i ^ j.toNat)):=opI fun _ _ _ _ _ _ _ hc q=>pow_int_small hc.1 hc.2.1 hc.2.2 q
theorem unI {f:Value->Sem Value}{g:Int->Int}
  (rule:∀(i:Int) (t:Tok) (s:Ac) (Q:Value->Ac->Prop) (E:Value->Ac->Prop),Q (.int (g i) s.toks) {s with toks:=s.toks+1}->Az (AA X.prog X.w) X.A (f (.int i t)) Q E s) :
  UnR X f (rU fun i=>.int (g i)):=by
 intro pins s σ H x v Q I rx h;obtain ⟨i,rfl,q⟩:=h;obtain ⟨t,rfl⟩:=rx;exact rule i t s _ _ ⟨.int (g i),H,I.tok _,⟨_,rfl⟩,q⟩
theorem Xmp:UnR X (unaryOp .USub) (rU fun i=>.int (-i)):=unI fun _ _ _ _ _ q=>neg_int q
end
def scal:V->V->Bool
 | .non,.non=>true | .non,.int _=>true | .int _,.non=>true | .non,.bl _=>true | .bl _,.non=>true | .non,.str _=>true | .str _,.non=>true
 | .int _,.int _=>true | .bl _,.bl _=>true | .str _,.str _=>true | .byt _,.byt _=>true
 | .int _,.str _=>true | .str _,.int _=>true | .bl _,.str _=>true | .str _,.bl _=>true
 | _,_=>false
def rEq:R2:=fun x y H Q=>scal x y=true/\Q (.bl (decide (x=y))) H
def rNe:R2:=fun x y H Q=>scal x y=true/\Q (.bl (!decide (x=y))) H
theorem Zyy {i j:Int}:decide (V.int i=V.int j)=(i==j):=by rw [Cc];simp
theorem Xfi {i j:Bool}:decide (V.bl i=V.bl j)=(i==j):=by rw [Cc];simp
theorem Zun {i j:Str}:decide (V.str i=V.str j)=(i==j):=by rw [Cc];simp
theorem Zzb {i j:Array UInt8}:decide (V.byt i=V.byt j)=(i.toList==j.toList):=by rw [Cc];cases i;cases j;simp
section
variable {a b:Expr}
theorem Yf {Q:VK}{k k':Bool}(I:Inv X pins σ H s)(q:Q (.bl k) H)(e:k=k'):EP X pins σ Q (.bool k') s:=by subst e;exact ⟨.bl k,H,I,rfl,q⟩
theorem op_eq:OpR X (A9 .Eq) rEq:=by
 intro pins s σ H x y v u Q I rx ry h;obtain ⟨hs,q⟩:=h;cases x with
 | non =>
  cases rx;cases y with
  | non=>cases ry;exact PySem.EqNone.eq_none_none (Yf I q (by simp))
  | bl j=>cases ry;exact PySem.EqNone.eq_none_bool (Yf I q (by simp))
  | int j=>obtain ⟨t',rfl⟩:=ry;exact PySem.EqNone.eq_none_int (Yf I q (by simp))
  | str j=>obtain ⟨t',rfl⟩:=ry;exact PySem.EqNone.eq_none_str (Yf I q (by simp))
  | _=>exact absurd (show false=true from hs) AC
 | bl i =>
  cases rx;cases y with
  | non=>cases ry;exact PySem.EqNone.eq_bool_none (Yf I q (by simp))
  | bl j=>cases ry;exact eq_bool (Yf I q Xfi)
  | str j=>obtain ⟨t',rfl⟩:=ry;exact PySem.EqMixed.eq_bool_str (Yf I q (by simp))
  | _=>exact absurd (show false=true from hs) AC
 | int i =>
  obtain ⟨t,rfl⟩:=rx;cases y with
  | non=>cases ry;exact PySem.EqNone.eq_int_none (Yf I q (by simp))
  | int j=>obtain ⟨t',rfl⟩:=ry;exact eq_int (Yf I q Zyy)
  | str j=>obtain ⟨t',rfl⟩:=ry;exact PySem.EqMixed.eq_int_str (Yf I q (by simp))
  | _=>exact absurd (show false=true from hs) AC
 | str i =>
  obtain ⟨t,rfl⟩:=rx;cases y with
  | non=>cases ry;exact PySem.EqNone.eq_str_none (Yf I q (by simp))
  | bl j=>cases ry;exact PySem.EqMixed.eq_str_bool (Yf I q (by simp))
  | int j=>obtain ⟨t',rfl⟩:=ry;exact PySem.EqMixed.eq_str_int (Yf I q (by simp))
  | str j=>obtain ⟨t',rfl⟩:=ry;exact eq_str (Yf I q Zun)
  | _=>exact absurd (show false=true from hs) AC
 | byt i =>
  obtain ⟨t,rfl⟩:=rx;cases y with
  | byt j=>obtain ⟨t',rfl⟩:=ry;exact PySem.W.eq_bytes (Yf I q Zzb)
  | _=>exact absurd (show false=true from hs) AC
 | _=>cases y<;>exact absurd (show false=true from hs) AC
theorem op_ne:OpR X (A9 .NotEq) rNe:=by
 intro pins s σ H x y v u Q I rx ry h;obtain ⟨hs,q⟩:=h;cases x with
 | non =>
  cases rx;cases y with
  | non=>cases ry;exact PySem.EqNone.ne_none_none (Yf I q (by simp))
  | bl j=>cases ry;exact PySem.EqNone.ne_none_bool (Yf I q (by simp))
  | int j=>obtain ⟨t',rfl⟩:=ry;exact PySem.EqNone.ne_none_int (Yf I q (by simp))
  | str j=>obtain ⟨t',rfl⟩:=ry;exact PySem.EqNone.ne_none_str (Yf I q (by simp))
  | _=>exact absurd (show false=true from hs) AC
 | bl i =>
  cases rx;cases y with
  | non=>cases ry;exact PySem.EqNone.ne_bool_none (Yf I q (by simp))
  | bl j=>cases ry;exact ne_bool (Yf I q (congrArg not Xfi))
  | str j=>obtain ⟨t',rfl⟩:=ry;exact PySem.EqMixed.ne_bool_str (Yf I q (by simp))
  | _=>exact absurd (show false=true from hs) AC
 | int i =>
  obtain ⟨t,rfl⟩:=rx;cases y with
  | non=>cases ry;exact PySem.EqNone.ne_int_none (Yf I q (by simp))
  | int j=>obtain ⟨t',rfl⟩:=ry;exact ne_int (Yf I q (congrArg not Zyy))
  | str j=>obtain ⟨t',rfl⟩:=ry;exact PySem.EqMixed.ne_int_str (Yf I q (by simp))
  | _=>exact absurd (show false=true from hs) AC
 | str i =>
  obtain ⟨t,rfl⟩:=rx;cases y with
  | non=>cases ry;exact PySem.EqNone.ne_str_none (Yf I q (by simp))
  | bl j=>cases ry;exact PySem.EqMixed.ne_str_bool (Yf I q (by simp))
  | int j=>obtain ⟨t',rfl⟩:=ry;exact PySem.EqMixed.ne_str_int (Yf I q (by simp))
  | str j=>obtain ⟨t',rfl⟩:=ry;exact ne_str (Yf I q (congrArg not Zun))
  | _=>exact absurd (show false=true from hs) AC
 | byt i =>
  obtain ⟨t,rfl⟩:=rx;cases y with
  | byt j=>obtain ⟨t',rfl⟩:=ry;exact PySem.W.ne_bytes (Yf I q (congrArg not Zzb))
  | _=>exact absurd (show false=true from hs) AC
 | _=>cases y<;>exact absurd (show false=true from hs) AC
theorem Ziy:OpR X (A9 .Lt) (rI0 fun i j=>.bl (decide (i<j))):=opB0 fun _ _ _ _ _ _ _ q=>lt_int q
theorem Xnv:OpR X (A9 .LtE) (rI0 fun i j=>.bl (decide (i<=j))):=opB0 fun _ _ _ _ _ _ _ q=>le_int q
theorem Zhi:OpR X (A9 .Gt) (rI0 fun i j=>.bl (decide (j<i))):=opB0 fun _ _ _ _ _ _ _ q=>gt_int q
theorem op_ge:OpR X (A9 .GtE) (rI0 fun i j=>.bl (decide (j<=i))):=opB0 fun _ _ _ _ _ _ _ q=>ge_int q
theorem Xom:OpR X (A9 .Is) (fun x y H Q=>y=.non/\Q (.bl (decide (x=.non))) H):=by
 intro pins s σ H x y v u Q I rx ry h;obtain ⟨rfl,q⟩:=h;cases ry;refine is_none_gen (Yf I q ?_);cases x<;>first
  | (cases rx;rfl)
  | (obtain ⟨t,rfl⟩:=rx;rfl)
theorem Xks:OpR X (A9 .IsNot) (fun x y H Q=>y=.non/\Q (.bl (!decide (x=.non))) H):=by
 intro pins s σ H x y v u Q I rx ry h;obtain ⟨rfl,q⟩:=h;cases ry;refine isnot_none_gen (Yf I q ?_);cases x<;>first
  | (cases rx;rfl)
  | (obtain ⟨t,rfl⟩:=rx;rfl)
theorem OpR.or {r r':R2}(h:OpR X f r)(h':OpR X f r'):OpR X f (fun x y H Q=>r x y H Q\/r' x y H Q):=by intro pins s σ H x y v u Q I rx ry q;rcases q with q | q;exact h pins s σ H x y v u Q I rx ry q;exact h' pins s σ H x y v u Q I rx ry q
theorem Zy (b:Expr)(h:op≠.In:=by decide)(h2:op≠.NotIn:=by decide):Ck op b=false:=by
 have e1:(op==CmpOp.In)=false:=by cases op<;>first | rfl | exact absurd rfl h
 have e2:(op==CmpOp.NotIn)=false:=by cases op<;>first | rfl | exact absurd rfl h2
 cases b<;>simp [Ck,e1,e2]
theorem Xio {r:R2}(ho:OpR X (A9 op) r)(ha:PE X a ta)(hb:PE X b tb)(hm:Ck op b=false):PE X (.Compare a [op] [b] pos) (tOp r ta tb):=by intro pins s σ H Q I h;exact wpAny_Compare1 (binT ha hb I h fun v u s2 x y H2 I2 rx ry q=>ho pins s2 σ H2 x y v u Q I2 rx ry q) hm
def Zzk (t:TE):TT:=fun σ H Q=>t σ H fun x H'=>∃k,x=.bl k/\Q k H'
theorem Xiv {r:R2}(ho:OpR X (A9 op) r)(ha:PE X a ta)(hb:PE X b tb)(hm:Ck op b=false):PT X (.Compare a [op] [b] pos) (Zzk (tOp r ta tb)):=by
  intro pins s σ H Q I h;refine wpAny_isTrue_Compare1 (thn (ha pins s σ H _ I h) fun v s1 ⟨x,H1,I1,r1,q1⟩=>thn (hb pins s1 σ H1 _ I1 q1) fun u s2 ⟨y,H2,I2,r2,q2⟩ =>
    thn (ho pins s2 σ H2 x y v u _ I2 r1 r2 q2) fun c s3 ⟨z,H3,I3,r3,k,e,q3⟩=>?_) hm
  subst e;cases r3;exact CH ⟨H3,I3,q3⟩
theorem Zjx:(Ak:Nat)<2 ^ 63:=by rw [Dx];decide
theorem Zua:OpR X (Cj .Add) (fun x y H Q=>∃i j,x=.str i/\y=.str j/\i.length+j.length<=Ak/\Q (.str (i++j)) H):=by intro pins s σ H x y v u Q I rx ry h;obtain ⟨i,j,rfl,rfl,hz,q⟩:=h;obtain ⟨t,rfl⟩:=rx;obtain ⟨t',rfl⟩:=ry;exact add_str (fun t' tk=>⟨.str (i++j),H,I.tok _,⟨_,rfl⟩,q⟩) hz
theorem vals1 {x:V}(r:Yw [x] us):∃u,us=[u]/\RelV x u:=by
 cases r with
 | cons r1 r2=>cases r2;exact ⟨_,rfl,r1⟩
theorem vals2 {x y:V}(r:Yw [x,y] us):∃u w',us=[u,w']/\RelV x u/\RelV y w':=by
 cases r with
 | cons r1 r2 =>
  cases r2 with
  | cons r3 r4=>cases r4;exact ⟨_,_,rfl,r1,r3⟩
theorem Zxl (hc:X.calm=true):Zar X (.builtin "min") (fun xs H Q=>∃i j,xs=[.int i,.int j]/\Q (.int (if j<i then j else i)) H):=by intro pins s σ H xs us Q I r h;obtain ⟨i,j,rfl,q⟩:=h;obtain ⟨u,w',rfl,⟨t,rfl⟩,⟨t',rfl⟩⟩:=vals2 r;refine min_two_ints (I.ok.hd hc) fun h' tk k=>⟨_,H,I.kept k,?_,q⟩;by_cases hj:j<i;rw [if_pos hj,if_pos hj];exact ⟨_,rfl⟩;rw [if_neg hj,if_neg hj];exact ⟨_,rfl⟩
end
structure ObjM (h:AZ)(x dx C:Addr)(mA:Str->Option Value):Prop where
 obj:h.get? x=some (G3 C dx)
 ns:h.Ns1 dx mA
 ne:dx≠x
theorem Zuw (n:h.Ns1 dx mA):∃od,h.get? dx=some od/\∀name,lookIn name od=some (mA name):=by
 obtain ⟨o,es,ep,ho,hd,hk,_,hm⟩:=n;refine ⟨o,ho,fun name=>?_⟩;have e:=hm name;unfold nsFind findBy at e;rw [<- Array.find?_toList] at e;unfold lookIn;rw [hd];dsimp only;split;rename_i y q;rw [q] at e;exact congrArg some e;rename_i q;rw [q] at e;have a:es.toList.any (·.refKey)=false:=by rw [List.any_eq_false];intro y hy;obtain ⟨z,t,hkey⟩:=hk y (Fk.mp hy);simp [Ip,hkey]
 have a':¬es.toList.any (·.refKey)=true:=by rw [a];exact AC
 rw [if_neg a'];exact congrArg some e
theorem ObjM.look {x:Addr}(I:ObjM h x dx C mA):∃od,PySem.W.InstAt h x (G3 C dx) C (some od)/\∀name,lookIn name od=some (mA name):=
 let ⟨od,ho,hl⟩:=Zuw I.ns
 ⟨od,⟨I.obj,rfl,rfl,ho⟩,hl⟩
section
variable {x f:Addr}{v:Value}
end
theorem Zsn.some_of {o:Option Value}(r:Zsn (some v) o):∃u,o=some u/\RelV v u:=by
 cases o with
 | none=>exact (show False from r).elim
 | some u=>exact ⟨u,rfl,r⟩
section
variable {fs:List (Str×V)}
theorem Xgh (hok:HOk P w H h)(e:H a=some (.ins C dx fs)):∃mA,ObjM h a dx C mA/\(∀f,Zsn (fs.lookup f) (mA f))/\PySem.Within mA (fs.map (·.1))/\fs.length<=1000/\H dx=some (.own a):=by obtain ⟨d,z,ne,ob,mA,n,r,q⟩:=(show Jt P w H h a (.ins C dx fs) from hok a _ e);exact ⟨mA,⟨ob,n,ne⟩,r,q,z,d⟩
end
structure Cls (K:AE)(C:Addr):Prop where
 pg:PySem.W.plainGet K C Eu=true
 hd:PySem.W.hasDictIn K C=true
 po:PySem.W.plainOver K C=true
 sa:Cm K (.ref C) "__setattr__"=some (some (.builtin "object.__setattr__"))
theorem Cls.get (c:Cls K C)(f:Str):PySem.W.plainGet K C f=true:=c.pg
structure Con (K:AE)(C:Addr)(f:Str)(v:V)(u:Value):Prop where
 at_:Cm K (.ref C) f=some (some u)
 rel:RelV v u
 get:FC K u "__get__"=some none
 cp:PySem.W.copiedNames.contains f=false
structure Meth (K:AE)(C:Addr)(m:Str)(f:Addr):Prop where
 at_:Cm K (.ref C) m=some (some (.ref f))
 fn:isFn K (.ref f)=true
 kp:DO K (.ref f)=true
section
variable {fs:List (Str×V)}{f:Str}
end
section
variable {o value:Expr}{f:Str}{tpos:Pos}{tv:TE}
end
section
variable {c:Value}{b:Bool}
inductive TyOf (K:AE)(H:Hp):V->Value->Prop where
 | non:TyOf K H .non (.type "NoneType")
 | bl (x:Bool):TyOf K H (.bl x) (.type "bool")
 | int (i:Int):TyOf K H (.int i) (.type "int")
 | str (x:Str):TyOf K H (.str x) (.type "str")
 | flt (x:UInt64):TyOf K H (.flt x) (.type "float")
 | lst {a:Addr} {xs:List V} (e:H a=some (.lst xs)):TyOf K H (.ref a) (.type "list")
 | frz {a:Addr} {o:Obj} {xs:List V} (e:H a=some (.frz o (.lst xs))):TyOf K H (.ref a) (.type "list")
 | tup {a:Addr} {xs:List V} (e:H a=some (.tup xs)):TyOf K H (.ref a) (.type "tuple")
 | dK {a:Addr} {kvs:List (Key×V)} (e:H a=some (.dK kvs)):TyOf K H (.ref a) (.type "dict")
 | dT {a:Addr} {kvs:List (List Key×V)} (e:H a=some (.dT kvs)):TyOf K H (.ref a) (.type "dict")
 | ins {a C dx:Addr} {fs:List (Str×V)} (e:H a=some (.ins C dx fs)) (cl:Cls K C) (ha:Cm K (.ref C) "__class__"=some (some (.builtin "object.__class__")))
   (hn:FC K (.builtin "object.__class__") "__get__"=some (some (.builtin "getset_descriptor.__get__"))) (htk:PySem.W.takesIn K (.builtin "object.__class__")=some true)
   (hm:PySem.W.mroIn K C (.type "object")=some true):TyOf K H (.ref a) (.ref C)
theorem Zux {x:V}{t:Value}(I:Inv X pins σ H s)(rx:RelV x u)(ty:TyOf X.K H x t)(e:GR X.K t c=some b)(h:∀tk,Q (.bool b) {s with toks:=tk}) :
  Az (AA X.prog X.w) A (call (.builtin "isinstance") [u,c]) Q E s:=by
 cases ty with
 | non=>cases (show u=DW from rx);exact CW PySem.W.kitx_none I.kIn B9 e (fun z=>nomatch z) h
 | bl y=>cases (show u=BW y from rx);exact CW PySem.W.kitx_bool I.kIn B9 e (fun z=>nomatch z) h
 | int i=>obtain ⟨t,q⟩:=(show ∃t,u=DJ i t from rx);cases q;exact CW PySem.W.kitx_int I.kIn B9 e (fun z=>nomatch z) h
 | str y=>obtain ⟨t,q⟩:=(show ∃t,u=Ei y t from rx);cases q;exact CW PySem.W.kitx_str I.kIn B9 e (fun z=>nomatch z) h
 | flt y=>obtain ⟨t,q⟩:=(show ∃t,u=G6 y t from rx);cases q;exact CW PySem.W.kitx_float I.kIn B9 e (fun z=>nomatch z) h
 | @lst a xs ea =>cases (show u=A7 a from rx);obtain ⟨_,_,n,_,h1⟩:=(show Jt X.prog X.w H s.heap a (.lst xs) from I.hok a _ ea);exact CW PySem.W.kitx_list I.kIn ⟨_,h1,rfl⟩ e (fun z=>nomatch z) h
 | @frz a ob xs ea =>cases (show u=A7 a from rx);obtain ⟨_,_,_,n,_,h1⟩:=(show Jt X.prog X.w H s.heap a (.frz ob (.lst xs)) from I.hok a _ ea);exact CW PySem.W.kitx_list I.kIn ⟨_,h1,rfl⟩ e (fun z=>nomatch z) h
 | @tup a xs ea =>cases (show u=A7 a from rx);obtain ⟨_,_,_,p⟩:=(show Jt X.prog X.w H s.heap a (.tup xs) from I.hok a _ ea);obtain ⟨o,h1,h2,_⟩:=p;exact CW PySem.W.kitx_tuple I.kIn ⟨o,h1,h2⟩ e (fun z=>nomatch z) h
 | @dK a kvs ea =>cases (show u=A7 a from rx);obtain ⟨_,_,vs,_,p⟩:=(show Jt X.prog X.w H s.heap a (.dK kvs) from I.hok a _ ea);obtain ⟨o,es,ep,h1,h2,_⟩:=p;exact CW PySem.W.kitx_dict I.kIn ⟨o,h1,h2.1⟩ e (fun z=>nomatch z) h
 | @dT a kvs ea =>cases (show u=A7 a from rx);obtain ⟨_,_,xs,_,o,es,ep,h1,h2,_⟩:=(show Jt X.prog X.w H s.heap a (.dT kvs) from I.hok a _ ea);exact CW PySem.W.kitx_dict I.kIn ⟨o,h1,h2.1⟩ e (fun z=>nomatch z) h
 | @ins a C dx fs ea cl ha hn htk hm =>cases (show u=A7 a from rx);obtain ⟨mA,O,_⟩:=Xgh I.hok ea;obtain ⟨od,J,_⟩:=O.look;exact CW (PySem.W.kitx_own (cl.get _) cl.hd ha hn htk hm) I.kIn J e (fun z=>nomatch z) h
end
structure Zgb (k:Nat)(A:AR):Prop where
 hd:A.handled=none
 dp:A.depth+3*k+5<D0
 un:A.units+16*k+200<Bi
 gd:A.guards=some []
theorem Zgb.mono {k:Nat}(r:Zgb k A)(h:j<=k):Zgb j A:=⟨r.hd,by have:=r.dp;omega,by have:=r.un;omega,r.gd⟩
theorem Zgb.deeper {k:Nat}{A:AR}(r:Zgb (k+1) A)(env:Env):Zgb k (A.deeper env):=⟨r.hd,by have:=r.dp;show A.depth+1+3*k+5<_;omega,by have:=r.un;show A.units+3+16*k+200<_;omega,r.gd⟩
theorem Zgb.depth {k:Nat}{A:AR}(r:Zgb k A):A.depth<D0:=by have:=r.dp;omega
theorem Zgb.units {k:Nat}{A:AR}(r:Zgb k A):A.units+64<Bi:=by have:=r.un;omega
def Zhg:TA:=fun _ H Q=>Q [] H
def Ja (ta:TE)(tr:TA):TA:=fun σ H Q=>ta σ H fun x H1=>tr σ H1 fun xs H2=>Q (x::xs) H2
theorem Xeh:PA X [] Zhg:=fun _ _ _ _ H Q I h=>FV ⟨[],H,I,.nil,h⟩
theorem Zqc (ha:PE X e te)(hr:PA X es t)(hs:Ab (e::es) X.env=(false,AF e X.env)::Ab es X.env:=by rfl):PA X (e::es) (Ja te t):=by intro pos pins s σ H Q I h;rw [hs];show Az _ _ (spliced ((false,AF e X.env)::AW pos (Ab es X.env))) _ _ s;refine DX (thn (ha pins s σ H _ I h) fun u s1 hz9=>?_);obtain ⟨x,H1,I1,r1,q1⟩:=hz9;exact thn (hr pos pins s1 σ H1 _ I1 q1) fun us s2 ⟨xs,H2,I2,r2,q2⟩=>⟨x::xs,H2,I2,.cons r1 r2,q2⟩
def Xfl (t:TA):TE:=fun σ H Q=>t σ H fun xs H1=>xs.length<=Ak/\∀p,H1 p=none->Q (.ref p) (upd H1 p (.tup xs))
def Xlz (t:TA):TE:=fun σ H Q=>t σ H fun xs H1=>xs.length<=Ak/\∀p,H1 p=none->Q (.ref p) (upd H1 p (.lst xs))
theorem Xpw {x1}(h:PA X es t):PE X (.Tuple es x1 pos) (Xfl t):=by intro pins s σ H Q I hq;refine wpAny_Tuple_spliced (thn (h pos pins s σ H _ I hq) fun us s1 ⟨xs,H1,I1,r,z,q⟩=>⟨by rw [<- r.length];exact z,?_⟩);have hf:H1 s1.heap.objs.size=none:=I1.hok.fresh (AI _);refine ⟨.ref s1.heap.objs.size,upd H1 s1.heap.objs.size (.tup xs),I1.laid (t':=s1.toks) (fun b u e=>AD _ e) (AI _) ?_,rfl,q _ hf⟩;exact ⟨z,us,r,⟨_,BP _ rfl,rfl,_,rfl⟩⟩
theorem Xob (h:PA X es t):PE X (.List es pos) (Xlz t):=by intro pins s σ H Q I hq;refine wpAny_List_spliced (thn (h pos pins s σ H _ I hq) fun us s1 ⟨xs,H1,I1,r,z,q⟩=>⟨by rw [<- r.length];exact z,?_⟩);have hf:H1 s1.heap.objs.size=none:=I1.hok.fresh (AI _);refine ⟨.ref s1.heap.objs.size,upd H1 s1.heap.objs.size (.lst xs),I1.laid (t':=s1.toks) (fun b u e=>AD _ e) (AI _) ?_,rfl,q _ hf⟩;exact ⟨z,us,0,r,BP _ rfl⟩
abbrev Sp:=List V->Hp->VK->XK->Prop
abbrev CXT:=List Env->Hp->Ac->XK->Value->Ac->Prop
structure Xmz (P:Aw)(w:AS)(K:AE)(mg:Str->Option Value)(base:AZ)(A:AR)(outer:List Env)(s:Ac)(H:Hp):Prop where
 frames:A.frames=some outer
 mod:Mod K mg base
 bs:∀b o,base.get? b=some o->s.heap.get? b=some o/\H b=none
 bsz:base.objs.size<=s.heap.objs.size
 funs:s.heap.FunFrames base outer
 frf:∀b∈frs outer,H b=none
 hok:HOk P w H s.heap
 bare:Dm s.gens
def CE (outer:List Env)(P:Aw)(w:AS)(H:Hp)(s:Ac)(Q:VK)(u:Value)(s':Ac):Prop:=
 ∃v H',s'.os=s.os/\Dm s'.gens/\Un (frs outer) [] H H' s.heap s'.heap/\HOk P w H' s'.heap/\RelV v u/\Q v H'
def CR (CX:CXT)(outer:List Env)(P:Aw)(w:AS)(H:Hp)(s:Ac)(Q:VK)(E:XK)(r:Fd)(s':Ac):Prop:=
 match r with
 | .ok (.ret u)=>CE outer P w H s Q u s'
 | .ok _=>False
 | .error e=>CX outer H s E e s'
structure Zbd (P:Aw)(w:AS)(K:AE)(mg:Str->Option Value)(base:AZ)(CX:CXT)(k:Nat)(f:Addr)(fd:B3)(ps:List Str)(sp:Sp):Prop where
 len:∀vs H Q E,sp vs H Q E->vs.length=ps.length
 run:∀(A:AR) (outer:List Env) (s:Ac) (H:Hp) (args:Args) (us:List Value) (vs:List V) (Q:VK) (E:XK),Zgb k A->Xmz P w K mg base A outer s H->Ef s fd args (ps.zip us)->Yw vs us->sp vs H Q E->
  Dj (AA P w) A (.call (.ref f) args) (CR CX outer P w H s Q E) s
theorem Zbd.imp {base:AZ}{k:Nat}{f:Addr}{sp':Sp}(F:Zbd P w K mg base CX k f fd ps sp)
  (h:∀vs H Q E,sp' vs H Q E->sp vs H Q E):Zbd P w K mg base CX k f fd ps sp':=
 ⟨fun vs H Q E q=>F.len vs H Q E (h _ _ _ _ q),fun A outer s H args us vs Q E hr he hb hv hs=>F.run A outer s H args us vs Q E hr he hb hv (h _ _ _ _ hs)⟩
theorem Inv.env0 (I:Inv X pins σ H s):Xmz X.prog X.w X.K X.mg X.base X.A X.stack s H:=⟨I.ok.frames,I.ok.mod,I.bs,AT I.ok.bsz I.sz,I.stack,I.stkFree,I.hok,I.bare⟩
theorem Inv.after {Q:VK}(I:Inv X pins σ H s)(h:CE X.stack X.prog X.w H s Q u s'):EP X pins σ Q u s':=by obtain ⟨v,H',os,bare,un,hok,r,q⟩:=h;obtain ⟨hh,g,d,t,os'⟩:=s';obtain rfl:os'=s.os:=os;exact ⟨v,H',I.call (h':=hh) (g':=g) (d':=d) (t':=t) (ch:=[]) un hok bare (fun b z=>absurd z (by simp)),r,q⟩
def Zmv (sp:Sp)(dvs:List V)(E:XK)(t:TA):TE:=fun σ H Q=>t σ H fun vs H1=>sp (vs++dvs) H1 Q E
def Binds (K:AE)(fd:B3)(ps:List Str)(ds:List Value):Prop:=
 ∀(s:Ac) (us:List Value),K.In s.heap->(us++ds).length=ps.length->Ef s fd ⟨us,[]⟩ (ps.zip (us++ds))
theorem Binds.all (h:∀us:List Value,us.length=ps.length->HV fd ⟨us,[]⟩=pure (ps.zip us)):Binds K fd ps []:=fun s us _ hl=>by rw [Dt] at hl ⊢;exact .of_eq (h us hl)
def Zfr (CX:CXT)(X:Cx)(E:XK):Prop:=∀(pins:List (Addr×Obj)) (σ:St) (H:Hp) (s:Ac) (e:Value) (s':Ac),Inv X pins σ H s->CX X.stack H s E e s'->X.xe e s'
section
variable {k:Nat}{f:Addr}{E:XK}{o:Expr}
theorem Xnb {Q:VK}(F:Zbd X.prog X.w X.K X.mg X.base CX k f fd ps sp)(hr:Zgb k X.A)(hb:Binds X.K fd ps ds)(hd:Yw dvs ds)(hx:Zfr CX X E)
  (I:Inv X pins σ H s) (r:Yw vs us) (h:sp (vs++dvs) H Q E):Az (AA X.prog X.w) X.A (call (.ref f) us) (EP X pins σ Q) X.xe s:=by
 have r2:Yw (vs++dvs) (us++ds):=r.append hd;have hl:(us++ds).length=ps.length:=by rw [<- r2.length];exact F.len _ _ _ _ h
 refine wpAny_call (Ge (F.run X.A X.stack s H ⟨us,[]⟩ (us++ds) (vs++dvs) Q E hr I.env0 (hb s us I.kIn hl) r2 h) fun r s' hq=>?_);cases r with
 | error e=>exact hx pins σ H s e s' I hq
 | ok fl =>
  cases fl with
  | ret u=>exact I.after hq
  | next=>exact False.elim hq
  | brk=>exact False.elim hq
  | cont=>exact False.elim hq
theorem Xhk (F:Zbd X.prog X.w X.K X.mg X.base CX k f fd ps sp)(hr:Zgb k X.A)(hg:Gl X x)(hm:X.mg x=some (.ref f))(hk:DO X.K (.ref f)=true)(hb:Binds X.K fd ps ds)(hd:Yw dvs ds)(hx:Zfr CX X E)
  (ha:PA X (e::es) t) (hdb:(x==("__debug__":Str))=false:=by decide) (he:Ab (e::es) X.env=(false,AF e X.env)::Ab es X.env:=by rfl) (hpl:(AW pos (Ab es X.env)).any (·.1)=false:=by rfl) :
  PE X (.Call (.Name x p) (e::es) [] pos) (Zmv sp dvs E t):=by
 intro pins s σ H Q I h;refine Eo (Zpd I hg hm ?_ hdb);refine PySem.W.callWith_K (h₀:=X.base) I.ok.mod.kin hk (thn (ha pos pins s σ H _ I h) fun us s1 ⟨vs,H1,I1,r,q⟩=>⟨I1.kIn,?_⟩) he hpl;exact Xnb F hr hb hd hx I1 r q
structure Mk (K:AE)(C f:Addr):Prop where
 makes:PySem.W.makesIn K C=true
 init:Cm K (.ref C) "__init__"=some (some (.ref f))
 fn:isFn K (.ref f)=true
 kp:DO K (.ref C)=true
end
section
variable {k:Nat}{f:Addr}{E:XK}{kpos:Pos}{o:Expr}{tk:TA}
structure KBinds (K:AE)(fd:B3)(ps ks:List Str)(g:List Value->List Value->List Value)(gV:List V->List V->List V):Prop where
 to:∀(s:Ac) (us ws:List Value),K.In s.heap->(g us ws).length=ps.length->Ef s fd ⟨us,ks.zip ws⟩ (ps.zip (g us ws))
 rel:∀{vs:List V} {us:List Value} {zs:List V} {ws:List Value},Yw vs us->Yw zs ws->Yw (gV vs zs) (g us ws)
end
structure Xd (N P:List Str)(sc:Scope):Prop where
 kind:sc.kind=.function
 co:sc.isCoroutine=false
 gen:sc.isGenerator=false
 nd:N.Nodup
 pre:N.take P.length=P
 par:∀x∈P,sc.names.lookup x=some .local\/sc.names.lookup x=some .cell
 nofree:∀y∈sc.names,y.2≠.free
theorem Zoa {Cw:Str->Option Cb}{x:Str}:∀{binds:List (Str×Value)} {m:Str->Option Value},(∀v,(x,v)∉binds)->FG Cw binds m x=m x
 | [],_,_=>rfl
 | (n,v)::r,m,h=>by
  unfold FG;rw [Zoa fun w hw=>h w (BG _ hw)];split;have:x≠n:=by rintro rfl;exact h v BX
  simp [this];rfl
theorem Zmy {Cw:Str->Option Cb}{x:Str}:∀{binds:List (Str×Value)} {m:Str->Option Value},(∀v,(x,v)∉binds)->FH Cw binds m x=m x
 | [],_,_=>rfl
 | (n,v)::r,m,h=>by
  unfold FH;rw [Zmy fun w hw=>h w (BG _ hw)];split;rfl;have:x≠n:=by rintro rfl;exact h v BX
  simp [this]
theorem Znb {Cw:Str->Option Cb}{x:Str}{v:Value}:∀{P:List Str} {vs:List Value} {i:Nat} {m:Str->Option Value},P.Nodup->P[i]?=some x->vs[i]?=some v->Cw x=some .local->
  FG Cw (P.zip vs) m x=some v
 | [],_,_,_,_,h,_,_=>by simp at h
 | _::_,[],_,_,_,_,h,_=>by simp at h
 | p::P,w::vs,0,m,nd,h1,h2,hk=>by simp at h1 h2;subst h1;subst h2;show FG Cw ((p,w)::P.zip vs) m p=_;unfold FG;rw [Zoa fun v hv=>(Ap.mp nd).1 (Ds hv).1,if_pos hk];simp
 | p::P,w::vs,i+1,m,nd,h1,h2,hk=>by show FG Cw ((p,w)::P.zip vs) m x=_;unfold FG;exact Znb (i:=i) (Ap.mp nd).2 (by simpa using h1) (by simpa using h2) hk
theorem Znf {Cw:Str->Option Cb}{x:Str}{v:Value}:∀{P:List Str} {vs:List Value} {i:Nat} {m:Str->Option Value},P.Nodup->P[i]?=some x->vs[i]?=some v->Cw x≠some .local->
  FH Cw (P.zip vs) m x=some v
 | [],_,_,_,_,h,_,_=>by simp at h
 | _::_,[],_,_,_,_,h,_=>by simp at h
 | p::P,w::vs,0,m,nd,h1,h2,hk=>by simp at h1 h2;subst h1;subst h2;show FH Cw ((p,w)::P.zip vs) m p=_;unfold FH;rw [Zmy fun v hv=>(Ap.mp nd).1 (Ds hv).1,if_neg hk];simp
 | p::P,w::vs,i+1,m,nd,h1,h2,hk=>by show FH Cw ((p,w)::P.zip vs) m x=_;unfold FH;exact Znf (i:=i) (Ap.mp nd).2 (by simpa using h1) (by simpa using h2) hk
def start (N:List Str)(vs:List V):St:=vs.map some++Aa (N.length - vs.length) none
def Zol (CX:CXT)(P:Aw)(w:AS)(K:AE)(mg:Str->Option Value)(base:AZ)(N:List Str)(qual:Str)(scope:Scope)(f:Addr)(cd:Value)(A:AR)(outer:List Env)(s:Ac)(H:Hp)(E:XK):Cx where
 prog:=P
 w:=w
 K:=K
 mg:=mg
 base:=base
 A:=A.deeper (CN qual scope s.heap.objs.size f cd)
 N:=N
 s₀:=s
 H₀:=H
 env:=CN qual scope s.heap.objs.size f cd
 outer:=outer
 stack:=CN qual scope s.heap.objs.size f cd::outer
 ex:=[]
 calm:=true
 fn:=fun _=>true
 pn:=[]
 xe:=fun e s'=>Az (AA P w) (A.deeper (CN qual scope s.heap.objs.size f cd)) (Gb (CN qual scope s.heap.objs.size f cd) e) (fun _ s''=>CX outer H s E e s'') (fun e' s''=>CX outer H s E e' s'') s'
theorem Zqo (h:sc.names.lookup x=some .cell):∃c,(FF n sc.names []).lookup x=some c:=by have q:=PySem.W.cellsFrom_some sc.names n [] (.inl h);exact Option.isSome_iff_exists.mp q
theorem Zut {base:AZ}{f:Addr}{s1:Ac}{E:XK}
    (S:Xd N ps scope) (hd:A.handled=none) (e0:Xmz P w K mg base A outer s H) (hl:vs.length=ps.length) (r:Yw vs us)
    (x:InCallC s s.heap.objs.size (FG (CN qual scope s.heap.objs.size f cd).kindOf (ps.zip us) fun _=>none) (FF (s.heap.objs.size+1) scope.names []) (FH (CN qual scope s.heap.objs.size f cd).kindOf (ps.zip us) fun _=>none) s1) :
    Inv (Zol CX P w K mg base N qual scope f cd A outer s H E) [] (start N vs) H s1:=by
  have hpl:ps.length<=N.length:=by have:=congrArg Ht S.pre;rw [Bb] at this;omega
  obtain ⟨h1,tk,rfl,hk⟩:=x.done;have noA:∀b:Addr,b∉(Zol CX P w K mg base N qual scope f cd A outer s H E).ex:=fun b z=>absurd (show b∈([]:List Addr) from z) (by simp);refine ⟨⟨e0.mod,S.kind,rfl,rfl,AI _,fun y z c h1 h2=>?_,fun y hy=>?_,fun y c _ h=>?_,fun _=>hd,Around.frames_deeper e0.frames,.inr ⟨rfl,rfl⟩,fun b z=>absurd z (noA b),e0.bs,e0.bsz,fun b _ _=>noA b,fun b z=>absurd z (noA b),e0.funs,e0.frf⟩,
    rfl,e0.bare,Un.kept hk,⟨_,x.toInCall.ns,fun i y v h1 h2 h3=>?_⟩,fun y c h=>⟨_,x.cell y c h⟩,e0.hok.fresh (AI _),fun y c h=>?_,fun p hp=>absurd (show p∈([]:List (Addr×Obj)) from hp) (by simp),e0.hok.kept hk,?_⟩
  exact name_of_addr x.apart (PySem.mem_of_lookup h1) (PySem.mem_of_lookup h2);have hy:scope.names.lookup y=some .cell\/scope.names.lookup y=some .free:=hy;rcases hy with hy | hy;exact Zqo hy;exact absurd rfl (S.nofree _ (PySem.mem_of_lookup hy));exact Fh (x.above y c (PySem.mem_of_lookup h));have hi:i<vs.length:=by unfold start at h2;by_cases hi:i<vs.length;exact hi;rw [Bp (by simpa using hi)] at h2;rw [EW] at h2;split at h2<;>cases h2
  have ha:vs[i]?=some v:=by
    unfold start at h2;rw [Au (by simpa using hi),Bh] at h2;cases e:vs[i]? with
    | none=>rw [e] at h2;cases h2
    | some a=>rw [e] at h2;cases h2;rfl
  obtain ⟨u,hu,rv⟩:=r.get ha;have hp:ps[i]?=some y:=by rw [<- S.pre,List.getElem?_take_of_lt (by omega)];exact h1
  have ndP:ps.Nodup:=by rw [<- S.pre];exact S.nd.sublist (List.take_sublist _ _)
  refine ⟨u,rv,?_⟩;rcases S.par y (AU hp) with k | k;exact .inl ⟨k,Znb ndP hp hu k⟩;obtain ⟨c,e⟩:=Zqo (n:=s.heap.objs.size+1) k;refine .inr ⟨.inl k,c,e,?_⟩;have q:=x.cell y c e;rw [Znf ndP hp hu (by show scope.names.lookup y≠_;rw [k];decide)] at q;exact q;exact e0.hok.fresh (Fh (x.above y c (PySem.mem_of_lookup h)));unfold start;show _=N.length;rw [Ao,Ae,Ct];omega
theorem Xok {base:AZ}{k:Nat}{f:Addr}{dV kV doc pm cdv ct oc:Value}
    {osl:Array (Option Value)} {N ps:List Str} {sp:Sp} (lk:K.lookup f=some ⟨oc,od,.func (Gc name qual params body scope dV kV doc pm an cdv ct),osl⟩) (hcd:Es K cdv qual=true) (S:Xd N ps scope)
    (len:∀vs H Q E,sp vs H Q E->vs.length=ps.length)
    (hbody:∀(A:AR) (outer:List Env) (s:Ac) (H:Hp) (vs:List V) (Q:VK) (E:XK),Zgb k (A.deeper (CN qual scope s.heap.objs.size f cdv))->sp vs H Q E->
      ∃t,PSs (Zol CX P w K mg base N qual scope f cdv A outer s H E) body t/\t {nx:=fun _ H'=>Q .non H',rt:=Q} (start N vs) H) :
    Zbd P w K mg base CX (k+1) f (Gc name qual params body scope dV kV doc pm an cdv ct) ps sp:=by
  refine ⟨len,fun A outer s H args us vs Q E hr e0 hb r hsp=>?_⟩;have hl:=len _ _ _ _ hsp;have KX:K.In s.heap:=e0.mod.kin.keeps fun b o e=>(e0.bs b o e).1;have lim:s.heap.NoLimit:=e0.mod.nolimit.keeps fun b o e=>(e0.bs b o e).1;have hkind:∀y∈ps.zip us,scope.names.lookup y.1=some .local\/(scope.names.lookup y.1=some .cell/\((FF (s.heap.objs.size+1) scope.names []).lookup y.1).isSome=true):=fun ⟨n,v⟩ hy=>by
    rcases S.par n (Ds hy).1 with q | q
    · exact .inl q
    · exact .inr ⟨q,PySem.W.cellsFrom_some _ _ _ (.inl q)⟩
  refine codeAny_call_function hr.depth (KX _ _ lk) rfl S.co S.gen rfl (PySem.W.codeRec_of KX hcd) (hb _ _ _ _ ?_);refine wpAny_newFunctionEnv_cells S.kind hkind fun env he s1 x=>?_;subst he;refine ⟨lim.keeps x.toInCall.keep,codeAny_func ?_⟩;obtain ⟨t,ht,hq⟩:=hbody A outer s H vs Q E (hr.deeper _) hsp;have I:Inv (Zol CX P w K mg base N qual scope f cdv A outer s H E) [] (start N vs) H s1:=Zut S hr.hd e0 hl r x;refine Bl (ht [] s1 (start N vs) H _ I hq) (fun fl s' hs=>?_) fun e s' hs=>hs;have fin:∀{σ':St} {H':Hp} {v:V} {u:Value},Inv (Zol CX P w K mg base N qual scope f cdv A outer s H E) [] σ' H' s'->RelV v u->Q v H'->CE outer P w H s Q u s':=fun {σ' H' v u} J rv q=>⟨v,H',J.os,J.bare,J.base,J.hok,rv,q⟩;cases fl with
  | ret u =>obtain ⟨v,σ',H',J,rv,q⟩:=hs;exact fin J rv q
  | next =>obtain ⟨σ',H',J,q⟩:=hs;exact fin (v:=V.non) (u:=DW) J rfl q
  | brk =>obtain ⟨_,_,_,q⟩:=hs;exact False.elim q
  | cont =>obtain ⟨_,_,_,q⟩:=hs;exact False.elim q
section
variable {id T:String}{r:List V->Hp->VK->Prop}
def tCB (r:List V->Hp->VK->Prop)(t:TA):TE:=fun σ H Q=>t σ H fun vs H1=>r vs H1 Q
theorem Xdx (hc:Zar X (.builtin id) r)(hg:Gl X x)(hm:X.mg x=none)(hv:BN x=some (.builtin id))(ha:PA X (e::es) t)(hn:x≠"__name__":=by decide)(hdb:(x==("__debug__":Str))=false:=by decide)
  (he:Ab (e::es) X.env=(false,AF e X.env)::Ab es X.env:=by rfl) (hpl:(AW pos (Ab es X.env)).any (·.1)=false:=by rfl):PE X (.Call (.Name x p) (e::es) [] pos) (tCB r t):=by
 intro pins s σ H Q I h;refine Eo (Zns I hg hm hv ?_ hn hdb);exact HD (thn (ha pos pins s σ H _ I h) fun us s1 ⟨vs,H1,I1,r1,q1⟩=>hc pins s1 σ H1 vs us Q I1 r1 q1) he hpl
theorem Zwh (hc:Zar X (.type T) r)(hg:Gl X x)(hm:X.mg x=none)(hv:BN x=some (.type T))(ha:PA X (e::es) t)(hn:x≠"__name__":=by decide)(hdb:(x==("__debug__":Str))=false:=by decide)
  (he:Ab (e::es) X.env=(false,AF e X.env)::Ab es X.env:=by rfl) (hpl:(AW pos (Ab es X.env)).any (·.1)=false:=by rfl):PE X (.Call (.Name x p) (e::es) [] pos) (tCB r t):=by
 intro pins s σ H Q I h;refine Eo (Zns I hg hm hv ?_ hn hdb);exact CA (thn (ha pos pins s σ H _ I h) fun us s1 ⟨vs,H1,I1,r1,q1⟩=>hc pins s1 σ H1 vs us Q I1 r1 q1) he hpl
end
end L2
namespace HT
open PySem PyProof.Rows
variable {prog:Aw}{w:AS}{A:AR}{E:Value->Ac->Prop}{s:Ac}
section
open PySem.SeqAt
open PySem.AutoSeq1 (wpAny_loadPart')
open PySem.MeetsSeq PySem.MeetsSeq2 PySem.MeetsSeq3
def sIx (n d:Nat):Option Int->Nat
 | none=>d
 | some v=>if v<0 then (v+(n:Int)).toNat else min v.toNat n
theorem clip_eq (v:Int)(n d:Nat):(if v<0 then max (v+(n:Int)) 0 else min v (n:Int))=((sIx n d (some v):Nat):Int):=by show (if v<0 then max (v+(n:Int)) 0 else min v (n:Int))=(((if v<0 then (v+(n:Int)).toNat else min v.toNat n):Nat):Int);by_cases hv:v<0;simp only [if_pos hv];omega;simp only [if_neg hv];omega
end
end HT
namespace L2
open PySem PySem.Spec PyProof.Rows
variable {ns:List Int}{X:Cx}{e:Expr}{lo hi:Option Expr}{pos:Pos}{n j t':Nat}{i:Int}{α:Type}{pins:List (Addr×Obj)}{σ:St}{H:Hp}{s:Ac}{p:Addr}{xs ys:List V}{its its':List Value}{f:Array Value->Array Value}{r':List V->Hp->VK->Prop}{T:String}{v:Value}{es:List Expr}{name:Str}{prog:Aw}{w:AS}{A:AR}{E:Value->Ac->Prop}
abbrev TO:=St->Hp->(Option Int->Hp->Prop)->Prop
def PO (X:Cx)(e:Option Expr)(t:TO):Prop:=
 ∀(pins:List (Addr×Obj)) (s:Ac) (σ:St) (H:Hp) (Q:Option Int->Hp->Prop),Inv X pins σ H s->t σ H Q->
  Az (AA X.prog X.w) X.A (evalPart e X.env) (fun u s'=>∃o H',Inv X pins σ H' s'/\IsPart u o/\Q o H') X.xe s
def Zle:TO:=fun _ H Q=>Q none H
def Xce (t:TE):TO:=fun σ H Q=>t σ H fun x H1=>∃i,x=.int i/\Q (some i) H1
theorem intsAre_of :∀{us:List Value},Yw (ns.map V.int) us->Ed us ns:=by
 induction ns with
 | nil=>intro us r;rw [G2] at r;cases r;exact .nil
 | cons n ns ih =>
  intro us r;rw [AH] at r;cases r with
  | cons r1 r2 =>obtain ⟨t,e⟩:=r1;subst e;exact .cons n t (ih r2)
section
variable {te:TE}{tl th:TO}{p2:Pos}
theorem Xju:PO X none Zle:=by intro pins s σ H Q I h;rw [Ie];exact A6 ⟨none,H,I,.none,h⟩
theorem Xjz (h:PE X e te):PO X (some e) (Xce te):=by intro pins s σ H Q I hw;rw [evalPart_some];refine thn (h pins s σ H _ I hw) fun u s1 hz9=>?_;obtain ⟨x,H1,I1,r1,q1⟩:=hz9;obtain ⟨i,rfl,q⟩:=q1;obtain ⟨t,rfl⟩:=r1;exact ⟨some i,H1,I1,.int i t,q⟩
def SlR (X:Cx)(r:V->Option Int->Option Int->Hp->VK->Prop):Prop:=
 ∀(pins:List (Addr×Obj)) (s:Ac) (σ:St) (H:Hp) (x:V) (v vl vu:Value) (lo hi:Option Int) (sl:Addr) (Q:VK),Inv X pins σ H s->RelV x v->s.heap.IsSliceOf sl vl vu .none->IsPart vl lo->IsPart vu hi->r x lo hi H Q->
  ∃T id,GN (.type T) "__getitem__"=pure (some (.builtin id))/\s.TypeIs v T/\Az (AA X.prog X.w) X.A (E1 v (.ref sl)) (EP X pins σ Q) X.xe s
def tSl (r:V->Option Int->Option Int->Hp->VK->Prop)(te:TE)(tl th:TO):TE:=fun σ H Q=>te σ H fun x H1=>tl σ H1 fun l H2=>th σ H2 fun u H3=>r x l u H3 Q
theorem Xcu {r:V->Option Int->Option Int->Hp->VK->Prop}(hr:SlR X r)(he:PE X e te)(hl:PO X lo tl)(hu:PO X hi th):PE X (.Subscript e (.Slice lo hi none p2) pos) (tSl r te tl th):=by intro pins s σ H Q I h;refine GV (thn (he pins s σ H _ I h) fun v s1 hz9=>?_);obtain ⟨x,H1,I1,r1,q1⟩:=hz9;refine wpAny_Slice (thn (hl pins s1 σ H1 _ I1 q1) fun vl s2 ⟨l,H2,I2,pl,q2⟩=>thn (hu pins s2 σ H2 _ I2 q2) fun vu s3 ⟨u,H3,I3,pu,q3⟩=>?_);rw [Ie];refine A6 ?_;have I4:Inv X pins σ H3 {s3 with heap:=s3.heap.push {cls:=.type "slice",data:=.fields #[vl,vu,.none]}}:=I3.kept (t':=s3.toks) fun b ob q=>AD _ q;obtain ⟨T,id,hT,ht,hg⟩:=hr pins {s3 with heap:=s3.heap.push {cls:=.type "slice",data:=.fields #[vl,vu,.none]}} σ H3 x v vl vu l u s3.heap.objs.size Q I4 r1 (He ..) pl pu q3;show Az (AA X.prog X.w) X.A (Fs e (.Slice lo hi none p2) v (.ref s3.heap.objs.size)) (EP X pins σ Q) X.xe {s3 with heap:=s3.heap.push {cls:=.type "slice",data:=.fields #[vl,vu,.none]}};exact tail_any (ops:=[.ref s3.heap.objs.size,v]) ht hT hg (by with_unfolding_all rfl)
def cutV (xs:List V)(lo hi:Option Int):List V:=(xs.drop (HT.sIx xs.length 0 lo)).take (HT.sIx xs.length xs.length hi - HT.sIx xs.length 0 lo)
theorem Zpz (xs:List V)(lo hi:Option Int):(cutV xs lo hi).length<=xs.length:=by unfold cutV;rw [Bb,Cp];omega
end
def ixN (n:Nat)(i:Int):Option Nat:=if 0<=i then (if i<n then some i.toNat else none) else if -(n:Int)<=i then some (i+n).toNat else none
def atI {α:Type}(xs:List α)(i:Int):Option α:=(ixN xs.length i).bind fun j=>xs[j]?
theorem Zky (h:ixN n i=some j):Hm i n=some j/\j<n/\-(n:Int)<=i/\i<n:=by unfold ixN at h;by_cases h0:0<=i;rw [if_pos h0] at h;by_cases h1:i<n;rw [if_pos h1] at h;have e:i.toNat=j:=AV h;exact ⟨by rw [Gu h0 h1,e],by omega,by omega,h1⟩;rw [if_neg h1] at h;cases h;rw [if_neg h0] at h;by_cases h1:-(n:Int)<=i;rw [if_pos h1] at h;have e:(i+n).toNat=j:=AV h;exact ⟨by rw [FY (by omega) h1,e],by omega,h1,by omega⟩;rw [if_neg h1] at h;cases h
theorem Zfa {xs:List α}{v:α}(h:atI xs i=some v):∃j,Hm i xs.length=some j/\xs[j]?=some v/\j<xs.length/\-(xs.length:Int)<=i/\i<xs.length:=by
 unfold atI at h;cases e:ixN xs.length i with
 | none=>rw [e] at h;cases h
 | some j =>rw [e] at h;obtain ⟨h1,h2,h3,h4⟩:=Zky e;exact ⟨j,h1,h,h2,h3,h4⟩
def Zct (b:Expr):Prop:=∀o i,EO b false o i=operate [o,i] (E1 o i)
def IxR (X:Cx)(r:R2):Prop:=
 ∀(value slice:Expr) (pins:List (Addr×Obj)) (s:Ac) (σ:St) (H:Hp) (x y:V) (v u:Value) (Q:VK),Inv X pins σ H s->RelV x v->RelV y u->r x y H Q->
  EO slice false v u=operate [v,u] (E1 v u)->Az (AA X.prog X.w) X.A (Fs value slice v u) (EP X pins σ Q) X.xe s
def MtR (X:Cx)(id:String)(r:V->List V->Hp->VK->Prop):Prop:=
 ∀(pins:List (Addr×Obj)) (s:Ac) (σ:St) (H:Hp) (x:V) (xs:List V) (v:Value) (us:List Value) (Q:VK),Inv X pins σ H s->RelV x v->Yw xs us->r x xs H Q->
  Az (AA X.prog X.w) X.A (call (.builtin id) (v::us)) (EP X pins σ Q) X.xe s
section
variable {a b:Expr}{ta tb:TE}
theorem IxR.or {r r':R2}(h:IxR X r)(h':IxR X r'):IxR X (fun x y H Q=>r x y H Q\/r' x y H Q):=by intro value slice pins s σ H x y v u Q I rx ry q hs;rcases q with q | q;exact h value slice pins s σ H x y v u Q I rx ry q hs;exact h' value slice pins s σ H x y v u Q I rx ry q hs
theorem pe_ix {r:R2}(hr:IxR X r)(ha:PE X a ta)(hb:PE X b tb)(hs:Zct b):PE X (.Subscript a b pos) (tOp r ta tb):=by intro pins s σ H Q I h;exact GV (binT ha hb I h fun v u s2 x y H2 I2 rx ry q=>hr a b pins s2 σ H2 x y v u Q I2 rx ry q (hs _ _))
def rIxL (K:AE):R2:=fun x y H Q=>∃p xs i v,x=.ref p/\y=.int i/\SqL K H p xs/\atI xs i=some v/\Q v H
def rIxT (K:AE):R2:=fun x y H Q=>∃p xs i v,x=.ref p/\y=.int i/\SqT K H p xs/\atI xs i=some v/\Q v H
def rIxS:R2:=fun x y H Q=>∃z i c,x=.str z/\y=.int i/\z.length<=Ak/\atI z.cps.toList i=some c/\Q (.str ⟨#[c]⟩) H
theorem Xjk:IxR X (rIxL X.K):=by
 intro value slice pins s σ H x y v u Q I rx ry h hs;obtain ⟨p,xs,i,z,rfl,rfl,hq,he,q⟩:=h;cases rx;obtain ⟨t,rfl⟩:=ry;obtain ⟨its,r,pl,hz⟩:=I.list hq;obtain ⟨j,h1,h2,h3,h4,h5⟩:=Zfa he;obtain ⟨w,ew,rw'⟩:=r.get h2;have hl:=r.length;have hn:=Zjx;have fin:EP X pins σ Q w s:=⟨z,H,I,rw',q⟩;by_cases h0:0<=i;have hj:i.toNat=j:=by rw [Gu h0 h5] at h1;exact AV h1
 exact item_listR pl.isList h0 (by omega) (by rw [hj];simpa using ew) fin hs;have hj:(i+(its.toArray.size:Int)).toNat=j:=by rw [FY (by omega) h4] at h1;rw [Ay,<- hl];exact AV h1
 exact FX (x:=w) pl.isList.typeIs G1.lookup
  (wpAny_getItem_list_neg (Q:=fun r s'=>r=w/\EP X pins σ Q r s') pl.isList (by omega) (by rw [Ay]<;>omega) (by omega) (by rw [hj];simpa using ew) ⟨rfl,fin⟩) hs
theorem Xnu:IxR X (rIxT X.K):=by
 intro value slice pins s σ H x y v u Q I rx ry h hs;obtain ⟨p,xs,i,z,rfl,rfl,hq,he,q⟩:=h;cases rx;obtain ⟨t,rfl⟩:=ry;obtain ⟨its,r,pl,hz⟩:=I.tuple hq;obtain ⟨j,h1,h2,h3,h4,h5⟩:=Zfa he;obtain ⟨w,ew,rw'⟩:=r.get h2;have hl:=r.length;have hn:=Zjx;have fin:EP X pins σ Q w s:=⟨z,H,I,rw',q⟩;exact FX (x:=w) pl.typeIs slot_tuple_getitem.lookup
  (getItem_tuple (j:=j) (Q:=fun r s'=>r=w/\EP X pins σ Q r s') pl (by omega) (by omega) (by rw [Ay,<- hl];exact h1) (by simpa using ew) ⟨rfl,fin⟩) hs
theorem Xnt:IxR X rIxS:=by
  intro value slice pins s σ H x y v u Q I rx ry h hs;obtain ⟨z,i,c,rfl,rfl,hz,he,q⟩:=h;obtain ⟨t,rfl⟩:=rx;obtain ⟨t',rfl⟩:=ry;obtain ⟨j,h1,h2,h3,h4,h5⟩:=Zfa he;have hl:z.cps.toList.length=z.length:=by simp [Str.length]
  rw [hl] at h1 h4 h5;have hn:=Zjx;exact tail_any (GO s z t) slot_str_getitem.lookup (getItem_str (c:=c) (by
    have e1:decide (i < -(2 ^ 63:Int))=false:=decide_eq_false (by omega);have e2:decide (i>=2 ^ 63)=false:=decide_eq_false (by omega);rw [e1,e2,Bool.or_false]) (by rw [h1];simpa using h2) ⟨.str ⟨#[c]⟩,H,I.tok _,⟨_,rfl⟩,q⟩) hs
def rIx (K:AE):R2:=fun x y H Q=>rIxL K x y H Q\/rIxT K x y H Q\/rIxS x y H Q
theorem Xqw:IxR X (rIx X.K):=Xjk.or (Xnu.or Xnt)
theorem Zsx (its:List Value)(n j:Nat)(u:Value):D7 (·.setIfInBounds j u) {cls:=.type "list",data:=.seq its.toArray n}={cls:=.type "list",data:=.seq (its.set j u).toArray n}:=by simp [D7]
theorem Inv.lst {pins:List (Addr×Obj)}{σ:St}{H:Hp}{s:Ac}{p:Addr}{xs:List V}(I:Inv X pins σ H s)(h:H p=some (.lst xs)) :
  ∃(its:List Value) (n:Nat),Yw xs its/\s.heap.get? p=some {cls:=.type "list",data:=.seq its.toArray n}/\xs.length<=Ak:=by
 obtain ⟨z,its,n,r,e⟩:=I.hok p _ h;exact ⟨its,n,r,e,z⟩
theorem Inv.lstUpd {n':Nat}{f:Obj->Obj}(I:Inv X pins σ H s)(h:H p=some (.lst xs))
  (ho:s.heap.get? p=some {cls:=.type "list",data:=.seq its.toArray n}) (hf:f {cls:=.type "list",data:=.seq its.toArray n}={cls:=.type "list",data:=.seq its'.toArray n'}) (r:Yw ys its') (hz:ys.length<=Ak) (t:Nat) :
  Inv X pins σ (upd H p (.lst ys)) {s with heap:=s.heap.update p f,toks:=t}:=by
 have e:(s.heap.update p f).get? p=some {cls:=.type "list",data:=.seq its'.toArray n'}:=by rw [Fj f ho (by rw [hf]<;>rfl),hf]
 refine I.write (x:=p) (e:=p) (by rw [h];trivial) (.inl rfl) (fun b u hb q=>(DB _ _ (Ne.symm hb)).trans q) ⟨_,e⟩ ?_;exact ⟨hz,its',n',r,e⟩
def Zfe:V->V->V->Hp->(Hp->Prop)->Prop:=fun o i v H Q=>∃p xs k j,o=.ref p/\i=.int k/\H p=some (.lst xs)/\ixN xs.length k=some j/\Q (upd H p (.lst (xs.set j v)))
theorem set_list:PSet X Zfe:=by
 intro pins s σ H o i v ov iv u Q I ro ri rv h;obtain ⟨p,xs,k,j,rfl,rfl,hp,hj,q⟩:=h;cases ro;obtain ⟨t,rfl⟩:=ri;obtain ⟨its,n,r,ho,hz⟩:=I.lst hp;obtain ⟨h1,h2,h3,h4⟩:=Zky hj;have hl:=r.length;have hn:=Zjx;have I':Inv X pins σ (upd H p (.lst (xs.set j v))) {s with heap:=s.heap.update p (D7 (·.setIfInBounds j u))}:=I.lstUpd hp ho (Zsx its n j u) (r.set rv j) (by rw [Bw];exact hz) s.toks;by_cases h0:0<=k;have hk:k.toNat=j:=by rw [Gu h0 h4] at h1;exact AV h1
 exact PySem.W.ki_setAt ho h0 (by omega) (by rw [Ay,<- hl];exact h4) (by rw [hk];exact ⟨_,I',q⟩);have hk:(k+(its.toArray.size:Int)).toNat=j:=by rw [FY (by omega) h3] at h1;rw [Ay,<- hl];exact AV h1
 exact PySem.W.ki_setBack ho (by omega) (by rw [Ay,<- hl];exact h3) (by omega) (by rw [hk];exact ⟨_,I',q⟩)
theorem Zmt (lo hi:Option Int)(n:Nat):(C7 lo hi none n).1=((HT.sIx n 0 lo:Nat):Int)/\(C7 lo hi none n).2.1=((HT.sIx n n hi:Nat):Int)/\(C7 lo hi none n).2.2=1:=by
 refine ⟨?_,?_,rfl⟩;cases lo with
 | none=>simp [C7,HT.sIx]
 | some i =>simp only [C7,HT.sIx,FK,show (1:Int) > 0 by decide,if_true];by_cases h:i<0;simp only [h,if_true]<;>omega;simp only [h,if_false]<;>omega
 cases hi with
 | none=>simp [C7,HT.sIx]
 | some i =>simp only [C7,HT.sIx,FK,show (1:Int) > 0 by decide,if_true];by_cases h:i<0;simp only [h,if_true]<;>omega;simp only [h,if_false]<;>omega
theorem Zlh (its:List Value)(lo hi:Option Int):slicePick its.toArray lo hi none=((its.drop (HT.sIx its.length 0 lo)).take (HT.sIx its.length its.length hi - HT.sIx its.length 0 lo)).toArray:=by obtain ⟨h1,h2,h3⟩:=Zmt lo hi its.toArray.size;unfold slicePick;rw [h1,h2,h3];simp only [sliceRange_one,pick_run,Ay]<;>rfl
def Xls (K:AE):V->Option Int->Option Int->Hp->VK->Prop:=fun x lo hi H Q=>∃a xs,x=.ref a/\SqL K H a xs/\∀p,H p=none->Q (.ref p) (upd H p (.lst (cutV xs lo hi)))
theorem Zvo:SlR X (Xls X.K):=by intro pins s σ H x v vl vu lo hi sl Q I rx hs pl pu h;obtain ⟨a,xs,rfl,hx,q⟩:=h;cases rx;obtain ⟨its,r,ht,hz⟩:=I.list hx;have hlen:=r.length;refine ⟨"list",_,G1.lookup,ht.isList.typeIs,?_⟩;refine wpAny_getItem_list_slice ht.isList hs pl pu .none (by simp) ?_ (by rw [Ay]<;>omega);rw [Zlh,<- hlen];refine ⟨.ref s.heap.objs.size,_,I.laid (t':=s.toks) (o:=.lst (cutV xs lo hi)) (fun b ob q=>AD _ q) (AI _) ?_,rfl,q _ (I.hok.fresh (AI _))⟩;exact ⟨AT (Zpz xs lo hi) hz,_,0,(r.drop (HT.sIx xs.length 0 lo)).take (HT.sIx xs.length xs.length hi - HT.sIx xs.length 0 lo),BP _ rfl⟩
theorem Zna:Zar X (.builtin "len") (fun xs H Q=>∃p ys,xs=[.ref p]/\(SqL X.K H p ys\/SqT X.K H p ys)/\Q (.int ys.length) H):=by intro pins s σ H xs us Q I r h;obtain ⟨p,ys,rfl,hq,q⟩:=h;obtain ⟨u,rfl,rx⟩:=vals1 r;cases rx;have hn:=Zjx;rcases hq with hq | hq;obtain ⟨its,r',pl,hz⟩:=I.list hq;have hlen:=r'.length;exact Calls.call_len_list pl.isList (by simp only [Ay]<;>omega) ⟨.int ys.length,H,I.tok _,⟨s.toks+1,by rw [Ay,hlen]⟩,q⟩;obtain ⟨its,r',pl,hz⟩:=I.tuple hq;have hlen:=r'.length;exact len_tuple pl (by simp only [Ay]<;>omega) ⟨.int ys.length,H,I.tok _,⟨s.toks+1,by rw [Ay,hlen]⟩,q⟩
theorem Zmq:Zar X (.builtin "len") (fun xs H Q=>∃z,xs=[.str z]/\z.length<=Ak/\Q (.int z.length) H):=by intro pins s σ H xs us Q I r h;obtain ⟨z,rfl,hz,q⟩:=h;obtain ⟨u,rfl,t,rfl⟩:=vals1 r;have hn:=Zjx;exact len_str (by omega) ⟨.int z.length,H,I.tok _,⟨_,rfl⟩,q⟩
theorem Zar.or {f:Value}{r:List V->Hp->VK->Prop}(h:Zar X f r)(h':Zar X f r'):Zar X f (fun xs H Q=>r xs H Q\/r' xs H Q):=by intro pins s σ H xs us Q I rs q;rcases q with q | q;exact h pins s σ H xs us Q I rs q;exact h' pins s σ H xs us Q I rs q
theorem Zoh:Zar X (.type "list") (fun xs H Q=>∃p ys,xs=[.ref p]/\(SqL X.K H p ys\/SqT X.K H p ys)/\∀l,H l=none->Q (.ref l) (upd H l (.lst ys))):=by
 intro pins s σ H xs us Q I r h;obtain ⟨p,ys,rfl,hq,q⟩:=h;obtain ⟨u,rfl,rx⟩:=vals1 r;cases rx;have fin:∀(its:List Value),Yw ys its->ys.length<=Ak->∀(h':AZ) (c':Nat),(∀b o',s.heap.get? b=some o'->h'.get? b=some o')->
   h'.get? s.heap.objs.size=some {cls:=.type "list",dict:=none,data:=.seq its.toArray c',slots:=#[]}->EP X pins σ Q (.ref s.heap.objs.size) {s with heap:=h'}:=fun its r' hz h' c' kp e =>
  ⟨.ref s.heap.objs.size,_,I.laid (t':=s.toks) kp (AI _) (show Jt X.prog X.w _ h' _ (.lst ys) from ⟨hz,its,c',r',e⟩),rfl,q _ (I.hok.fresh (AI _))⟩
 rcases hq with hq | hq;obtain ⟨its,r',pl,hz⟩:=I.list hq;have hlen:=r'.length;obtain ⟨o,ho,hc,n,hd⟩:=pl.isList;exact Ig p (.inl rfl) ho hc hd (fun h' c' kp e=>fin its r' hz h' c' kp e) (by simp only [Ay]<;>omega);obtain ⟨its,r',pl,hz⟩:=I.tuple hq;have hlen:=r'.length;obtain ⟨o,ho,hc,n,hd⟩:=pl;exact Ig p (.inr rfl) ho hc hd (fun h' c' kp e=>fin its r' hz h' c' kp e) (by simp only [Ay]<;>omega)
def tyV (K:AE)(T:String)(x:V)(H:Hp):Prop:=match x with
 | .str _=>T="str"
 | .int _=>T="int"
 | .ref p=>(T="list"/\∃xs,SqL K H p xs)\/(T="tuple"/\∃o,K.lookup p=some o/\o.cls=.type "tuple"/\o.dict=none)\/
   (T="dict"/\((∃kvs,H p=some (.dK kvs))\/∃kvs,H p=some (.dT kvs)))\/(T="set"/\∃S n,H p=some (.set S n))
 | _=>False
theorem Xpv {x:V}(I:Inv X pins σ H s)(r:RelV x v)(ty:tyV X.K T x H) :
  s.TypeIs v T/\∀a,v=.ref a->∃ob,s.heap.get? a=some ob/\ob.dict=none:=by
 cases x with
 | str z =>obtain ⟨t,rfl⟩:=r;cases (show T="str" from ty);exact ⟨GO s z t,fun _ e=>nomatch e⟩
 | int i =>obtain ⟨t,rfl⟩:=r;cases (show T="int" from ty);exact ⟨GP s i t,fun _ e=>nomatch e⟩
 | ref p =>
  cases r;rcases ty with ⟨rfl,xs,hq⟩ | ⟨rfl,o,hk,hc,hd⟩ | ⟨rfl,hk⟩ | ⟨rfl,S,n,hk⟩;obtain ⟨its,_,pl,_⟩:=I.list hq;refine ⟨pl.isList.typeIs,fun a e=>?_⟩;cases e;obtain ⟨o,n,e,c,hd,_⟩:=pl;exact ⟨o,e,hd⟩;refine ⟨⟨o,I.kIn p o hk,hc⟩,fun a e=>?_⟩;cases e;exact ⟨o,I.kIn _ o hk,hd⟩;have z:∃o,s.heap.get? p=some o/\o.ExactDict:=by rcases hk with ⟨kvs,hk⟩ | ⟨kvs,hk⟩;obtain ⟨_,_,_,_,o,_,_,e,ex,_⟩:=I.hok p _ hk;exact ⟨o,e,ex⟩;obtain ⟨_,_,_,_,o,_,_,e,ex,_⟩:=I.hok p _ hk;exact ⟨o,e,ex⟩
  obtain ⟨o,e,ex⟩:=z;refine ⟨⟨o,e,ex.1⟩,fun a e2=>?_⟩;cases e2;exact ⟨o,e,ex.2.1⟩;obtain ⟨o,_,_,_,e,ex,_⟩:=I.hok p _ hk;refine ⟨⟨o,e,ex.1⟩,fun a e2=>?_⟩;cases e2;exact ⟨o,e,ex.2.1⟩
 | _=>exact False.elim ty
def tBM (K:AE)(T:String)(r:V->List V->Hp->VK->Prop)(to:TE)(t:TA):TE:=fun σ H Q=>to σ H fun x H1=>tyV K T x H1/\t σ H1 fun xs H2=>r x xs H2 Q
variable {o:Expr}{to:TE}{t:TA}{apos cpos:Pos}{id:String}{r:V->List V->Hp->VK->Prop}
theorem pe_bm (pa:PlainAttrs T)(slot:Slot T name id)(hty:typeOf (.builtin id)=pure (.type "method_descriptor"))(hm:MtR X id r)(ho:PE X o to)(ha:PA X (e::es) t)
    (hbase:Bt o name X.env (AF o X.env)=AF o X.env:=by rfl)
    (hfew:((AW cpos (Ab (e::es) X.env)).all (fun x=>!x.1)&&(Cq cpos (BO [] X.env)).all (fun x=>x.1.isSome)
      && decide ((e::es).length+([]:List Bo).length+(if ([]:List Bo).isEmpty then 0 else 1)<30))=true:=by rfl)
    (hline:(apos.endLine==cpos.line)=true:=by rfl) (hs:Ab (e::es) X.env=(false,AF e X.env)::Ab es X.env:=by rfl) (hplain:(AW cpos (Ab es X.env)).any (·.1)=false:=by rfl) :
    PE X (.Call (.Attribute o name apos) (e::es) [] cpos) (tBM X.K T r to t):=by
  intro pins s σ H Q I h;refine wpAny_Call_method_late hbase hfew hline rfl (thn (ho pins s σ H _ I h) fun v s1 hz9=>?_);obtain ⟨x,H1,I1,r1,ty,q1⟩:=hz9;obtain ⟨h1,h2⟩:=Xpv I1 r1 ty;refine ⟨T,id,pa,slot,hty,h1,h2,?_⟩;have hA:=ha cpos pins s1 σ H1 _ I1 q1;rw [hs] at hA ⊢;refine EZ (by show (false||(AW cpos (Ab es X.env)).any (·.1))=false;rw [hplain]<;>rfl) (DI ?_);exact thn hA fun us s2 ⟨vs,H2,I2,r2,q2⟩=>hm pins s2 σ H2 x vs v us Q I2 r1 r2 q2
end
def MtM (X:Cx)(id:String)(r:V->List V->Hp->VK->Prop):Prop:=
 ∀(pins:List (Addr×Obj)) (s:Ac) (σ:St) (H:Hp) (x:V) (xs:List V) (v:Value) (us:List Value) (Q:VK),Inv X pins σ H s->RelV x v->Yw xs us->r x xs H Q->
  Az (AA X.prog X.w) X.A (call (.builtin id) (v::us)) (EP X pins σ Q) X.xe s
theorem Yw.one:∀{x:V} {us:List Value},Yw [x] us->∃u,us=[u]/\RelV x u
 | _,_,.cons r .nil=>⟨_,rfl,r⟩
theorem Yw.zero:∀{us:List Value},Yw [] us->us=[]
 | _,.nil=>rfl
theorem Yw.rep {xs:List V}{us:List Value}(h:Yw xs us):∀k:Nat,Yw (Aa k xs).flatten (Aa k us).flatten
 | 0=>.nil
 | k+1=>by rw [Ba,Ba,BM,BM];exact Yw.append h (Yw.rep h k)
theorem foldl_rep (its:List Value):∀(k:Nat) (acc:List Value),
  FQ (fun x1 x2=>x1++x2) acc.toArray (Aa k its.toArray)=(acc++(Aa k its).flatten).toArray
 | 0,acc=>by simp
 | k+1,acc=>by
  have e:acc.toArray++its.toArray=(acc++its).toArray:=by simp
  have e2:(acc++its)++(Aa k its).flatten=acc++(Aa (k+1) its).flatten:=by rw [Ba,BM,CK]
  rw [<- e2,<- foldl_rep its k (acc++its),<- e,Ba,Er]
section
variable {l b:Addr}{zs:List V}
theorem Inv.lset (I:Inv X pins σ H s)(hH:H l=some (.lst xs))
  (e:s.heap.get? l=some {cls:=.type "list",data:=.seq its.toArray n}) (hf:f its.toArray=its'.toArray) (hv:Yw ys its') (hz:ys.length<=Ak) :
  Inv X pins σ (upd H l (.lst ys)) {s with heap:=s.heap.update l (D7 f),toks:=t'}:=by
 have q:=PySem.IsL.update e f;rw [hf] at q;refine I.write (x:=l) (e:=l) (by rw [hH];exact trivial) (.inl rfl) (fun b' u hb hu=>(DB s.heap (D7 f) (Ne.symm hb)).trans hu) ⟨_,q⟩ ?_;exact ⟨hz,its',_,hv,q⟩
theorem Inv.lnew (I:Inv X pins σ H s)(hv:Yw ys its)(hz:ys.length<=Ak) :
  Inv X pins σ (upd H s.heap.objs.size (.lst ys)) {s with heap:=s.heap.push {cls:=.type "list",data:=.seq its.toArray},toks:=t'}:=
 I.laid (fun _ _ q=>AD _ q) (AI _) ⟨hz,its,0,hv,BP _ rfl⟩
theorem Inv.fresh (I:Inv X pins σ H s):H s.heap.objs.size=none:=I.hok.fresh (AI _)
theorem Inv.lstM (I:Inv X pins σ H s)(hH:H l=some (.lst xs)):xs.length<=Ak/\∃(its:List Value) (n:Nat),Yw xs its/\xs.length=its.length/\s.heap.get? l=some {cls:=.type "list",data:=.seq its.toArray n}:=by obtain ⟨z,its,n,r,e⟩:=I.hok l _ hH;exact ⟨z,its,n,r,r.length,e⟩
theorem Zsb (h:n<=Ak):Cg n=false:=by unfold Cg;exact decide_eq_false (by omega)
end
def Zdw:V->List V->Hp->VK->Prop:=fun x vs H Q=>∃l xs y,x=.ref l/\vs=[y]/\H l=some (.lst xs)/\xs.length<Ak/\Q .non (upd H l (.lst (xs++[y])))
theorem Zhv:MtM X "list.append" Zdw:=by intro pins s σ H x vs v us Q I rx rv h;obtain ⟨l,xs,y,rfl,rfl,hH,hz,q⟩:=h;cases rx;obtain ⟨u,rfl,ru⟩:=rv.one;obtain ⟨z,its,n,r,hl,e⟩:=I.lstM hH;refine DQ F.slot_list_append ⟨_,e,rfl⟩ F.entry_list_append (F.args_list_append_2 _ _) (PySem.list_append l its.toArray n u (by rw [Ay];omega)) ⟨e,?_⟩;refine ⟨.non,_,I.lset (its':=its++[u]) hH e (by simp) (r.append (.cons ru .nil)) ?_,rfl,q⟩;rw [Ao,DG];omega
def Zii:V->List V->Hp->VK->Prop:=fun x vs H Q=>∃l b xs zs,x=.ref l/\vs=[.ref b]/\H l=some (.lst xs)/\H b=some (.lst zs)/\xs.length+zs.length<=Ak/\Q .non (upd H l (.lst (xs++zs)))
theorem Zyc:MtM X "list.extend" Zii:=by
 intro pins s σ H x vs v us Q I rx rv h;obtain ⟨l,b,xs,zs,rfl,rfl,hH,hB,hz,q⟩:=h;cases rx;obtain ⟨u,rfl,ru⟩:=rv.one;cases ru;obtain ⟨z,its,n,r,hl,e⟩:=I.lstM hH;obtain ⟨z2,its2,n2,r2,hl2,e2⟩:=I.lstM hB;have hsz:its.toArray.size+its2.toArray.size<=Ak:=by rw [Ay,Ay];omega
 have hlong:¬(!its.toArray.isEmpty&&Cg (its.toArray.size+its2.toArray.size))=true:=by rw [Zsb hsz,Bool.and_false];exact AC
 refine DQ F.slot_list_extend ⟨_,e,rfl⟩ F.entry_list_extend (F.args_list_extend_2 _ _)
  (AutoSeq1.list_extend_list_list_0 l its.toArray n b its2.toArray n2 hlong (by rw [Ay];omega) (by omega)) ⟨e,e2,?_⟩
 refine ⟨.non,_,I.lset (its':=its++its2) hH e (by simp) (r.append r2) ?_,rfl,q⟩;rw [Ao];omega
def rCat:R2:=fun x y H Q=>∃l b xs zs,x=.ref l/\y=.ref b/\H l=some (.lst xs)/\H b=some (.lst zs)/\xs.length+zs.length<=Ak/\∀p,H p=none->Q (.ref p) (upd H p (.lst (xs++zs)))
theorem Xnh:OpR X (Cj .Add) rCat:=by
 intro pins s σ H x y v u Q I rx ry h;obtain ⟨l,b,xs,zs,rfl,rfl,hH,hB,hz,q⟩:=h;cases rx;cases ry;obtain ⟨z,its,n,r,hl,e⟩:=I.lstM hH;obtain ⟨z2,its2,n2,r2,hl2,e2⟩:=I.lstM hB;refine PySem.P.add_list e e2 ?_ (by rw [Ay,Ay];omega);have ea:its.toArray++its2.toArray=(its++its2).toArray:=by simp
 rw [ea];exact ⟨.ref _,_,I.lnew (t':=s.toks) (r.append r2) (by rw [Ao];omega),rfl,q _ I.fresh⟩
def rRep:R2:=fun x y H Q=>∃l k xs,x=.ref l/\y=.int k/\H l=some (.lst xs)/\-(2 ^ 63)<=k/\k<2 ^ 63/\xs.length*k.toNat<=Ak/\
 ∀p,H p=none->Q (.ref p) (upd H p (.lst (Aa k.toNat xs).flatten))
theorem len_rep (xs:List α)(k:Nat):(Aa k xs).flatten.length=k*xs.length:=by
 induction k with
 | zero=>simp
 | succ k ih=>rw [Ba,BM,Ao,ih,Hq,Hs]
theorem Xoc:OpR X (Cj .Mult) rRep:=by
  intro pins s σ H x y v u Q I rx ry h;obtain ⟨l,k,xs,rfl,rfl,hH,h1,h2,hz,q⟩:=h;cases rx;obtain ⟨t,rfl⟩:=ry;obtain ⟨z,its,n,r,hl,e⟩:=I.lstM hH;have hlen:its.toArray.size*k.toNat<=Ak:=by rw [Ay,<- hl];exact hz
  have hcap:¬its.toArray.size*k.toNat > (2 ^ 63 - 1) / 8:=by
    have:(Ak:Nat)<=(2 ^ 63 - 1) / 8:=by decide
    omega
  have hfit:¬(!Builtin.List.listFitsIndex k)=true:=by rw [fitsIndex_both h1 h2];exact AC
  have hlong:¬Cg (its.toArray.size*k.toNat)=true:=by rw [Zsb hlen];exact AC
  have hnew:FQ (fun x1 x2=>x1++x2) #[] (Aa (if its.toArray.isEmpty=true then 0 else k.toNat) its.toArray)=(Aa k.toNat its).flatten.toArray:=by
    have f0:∀m:Nat,FQ (fun x1 x2=>x1++x2) #[] (Aa m its.toArray)=(Aa m its).flatten.toArray:=fun m=>by have:=foldl_rep its m [];rw [Ex] at this;exact this
    rw [f0];cases its with
    | nil=>simp
    | cons a r'=>rw [if_neg (by simp)]
  refine wpAny_binaryOp_repeat_ref (T:="list") (U:="int") (by decide) ⟨_,e,rfl⟩ (fun s'=>GP s' k t) noFill_list_mul F.fills_int_mul Hf repeat_list F.slot_int_index.lookup
    (DQ Hf (GP s k t) F.entry_int_rmul (F.args_int_rmul_2 _ _) (int___rmul___int_list k t l its.toArray n)
      ⟨e,rfl,⟨_,e,rfl⟩,DQ F.slot_list_mul ⟨_,e,rfl⟩ F.entry_list_mul (F.args_list_mul_2 _ _) (Ir l its.toArray n k t hfit hcap hlong) ⟨e,?_⟩⟩)
  rw [hnew];exact ⟨.ref _,_,I.lnew (t':=s.toks) (r.rep k.toNat) (by rw [len_rep,Nat.mul_comm];exact hz),rfl,q _ I.fresh⟩
end L2
namespace Att
open PySem PySem.W PySem.Calls PyProof.Rows
variable {P:Params}{h:AZ}{n:Nat}{args:List WData}{vals:List Value}{q prog:Aw}{loose:List Str}{XP:(Str->Option Value)->AZ->Prop}{YP:AS->AZ->Prop}{d:DefRec}{w:AS}{A:AR}{E:Value->Ac->Prop}{s:Ac}{K:AE}
theorem Zik :∀(ns:List Int) (vs:List Value),WellAll P h vs (ns.map WData.int)->Ed vs ns:=by
 intro ns
 induction ns with
 | nil =>intro vs w;rw [G2] at w;cases w;exact .nil
 | cons n ns ih =>
  intro vs w;rw [AH] at w;cases w with
  | cons a b =>cases a;exact .cons _ _ (ih _ b)
theorem Zvi {l:OpenLaw}(hn:l.most=some n)
  (hpre:l.row.toRowW.claim.pre args=true) (hwl:WellAll P h vals args) :
  ∃a vs ns,vals=[A7 a]/\args=[WData.list (ns.map WData.int)]/\h.get? a=some {cls:=.type "list",data:=.seq vs.toArray}/\Ed vs ns/\ns.length<=n:=by
 have hsh:WShape.hasAll [] args [.list .int]=true:=(pre_splitW hpre).1;have hc:l.pre.holds [] {args:=args}=true:=(pre_splitW hpre).2;obtain ⟨d,r,rfl,h1,h2⟩:=hasAllW_cons hsh;obtain rfl:=hasAllW_nil h2;obtain ⟨xs,rfl,h3⟩:=hasW_list h1;obtain ⟨ns,rfl⟩:=items_int h3;have hlen:ns.length<=n:=by
  unfold OpenLaw.pre at hc;have h4:(WTm.not (.lt (.lit (.int (n:Int))) (.len (.arg 0)))).holds [] {args:=[.list (ns.map .int)]}=true:=by have h4:=(holds_andW hc).1;rw [hn] at h4;exact h4
  have h5:=condW_of h4 (w_not (w_lt w_lit (w_len_list (w_arg rfl))));rw [Ae] at h5;refine Nat.le_of_not_lt fun q=>?_;have q':(n:Int)<((ns.length:Nat):Int):=by omega
  first
   | (rw [decide_eq_true q'] at h5;exact absurd h5 (by decide))
   | (simp at h5;omega)
 cases hwl with
 | cons w1 w2 =>
  cases w2;cases w1 with
  | list ho hall=>exact ⟨_,_,ns,rfl,rfl,ho,Zik ns _ hall,hlen⟩
theorem Zwc (l:OpenLaw)(args:List WData):l.row.toRowW.claim.post args (.bool true) args=true:=
 postW_of (r:=l.row.toRowW) (X:=(true==true))
  (show WShape.has [] (.bool true) .bool=true by first | rfl | decide | simp [WShape.has,WShape.arms,WShape.armsAll])
  (show (WTm.eq .res (.lit (.bool true))).value [] {args:=args,res:=some (.bool true),after:=args}=some (.bool (true==true)) from w_eq_bool (w_res rfl) w_lit) rfl
theorem attach_call {l:OpenLaw}
    (hn:l.most=some n) (hdf:d.params.defaults=[])
    (call:∀(w:AS) (s₀ s₁:Ac) (mg mb:Str->Option Value) (fa:Addr) (o:Obj) (pm cd doc:Value) (a:Addr) (vs:List Value) (ns:List Int),
      Ground q loose [] XP w s₀ mg mb s₁.heap->YP w s₁.heap->
      s₁.heap.get? fa=some o->o.data=.func (docDef d.name d.params d.body d.scope pm cd doc)->s₁.heap.CodeRec cd d.name->mg d.name=some (.ref fa)->
      s₁.heap.get? a=some {cls:=.type "list",data:=.seq vs.toArray}->Ed vs ns->ns.length<=n->s₁.gens=#[]->
      Dj (AA l.prog w) EA (.call (.ref fa) ⟨[.ref a],[]⟩) (fun r s'=>r=.ok (.ret (.bool true))/\OldK s₁.heap s'.heap/\s'.os=s₁.os/\Dm s'.gens) s₁) :
    WalkO q loose XP YP l.row.toRowW d [] (fun f vs=>PySem.call f vs):=by
  intro w s₀ s₁ mg mb G Y fa o pm cd doc dV kV ho hd hcd hD hmg hg args vals as hpre hlay hrd hwl hlo;obtain rfl:dV=.none:=Dflts.none hD hdf;obtain rfl:kV=.none:=Dflts.noKw hD;obtain ⟨a,vs,ns,rfl,rfl,hobj,hints,hlen⟩:=Zvi hn hpre hwl;refine enter_call (Ge (call w s₀ s₁ mg mb fa o pm cd doc a vs ns G Y ho (fd_plain hd) hcd hmg hobj hints hlen hg) fun r s' hq=>?_);obtain ⟨rfl,h2,h3,h4⟩:=hq;exact ⟨.inl ⟨.bool true,.bool true,[],rfl,fun _=>rfl,.bool true,Zwc l _,fun _=>⟨Hu,fun _ hm=>(nomatch hm)⟩⟩,h2,h3,h4⟩
end Att
namespace L2
open PySem PySem.Spec PyProof.Rows
variable {P q prog:Aw}{w:AS}{K:AE}{mg mb m:Str->Option Value}{CX:CXT}{a b c tg iter elt:Expr}{fd:B3}{x qual name y:Str}{sp:Sp}{s₁ s s2 s₀ s':Ac}{vs its bmB:List Value}{ns:List Int}{n x1 tk t':Nat}{loose N ps N2:List Str}{XP:(Str->Option Value)->AZ->Prop}{YP:AS->AZ->Prop}{d od an:Option Addr}{X:Cx}{st s1:Stmt}{f p e it:Addr}{oc u ev cls fl:Value}{osl:Array (Option Value)}{pos p2 apos cpos pos' px py spos:Pos}{H H2 H' H₀:Hp}{op:Fe}{es as ifs:List Expr}{env:Env}{ks:List Bo}{ops:List Hh}{gs:List Comprehension}{sc scope esc:Scope}{j i:Int}{pins pn pins':List (Addr×Obj)}{σ:St}{E E':Value->Ac->Prop}{t:TA}{Q:Unit->Ac->Prop}{C:Int->Int->Prop}{g:Int->Int->V}{xs ys:List V}{v:V}{z:Option Value}{lo hi:Option Expr}{te to:TE}{T newId:String}{tt:TGs}{body:List Stmt}{wi:TI}{A A':AR}{tc:TT}{fp ch own:List Addr}{h' h:AZ}{tn:Nat->AZ->Prop}{RR:Value->Addr->Fd->Ac->Prop}{tp:TIp}{o oT:Obj}{α:Type}{M:Model}{g':Array Du}{d':GH}{ts:Array Value}{outer:List Env}
theorem Zoj:∀{vs:List Value} {ns:List Int},Ed vs ns->Yw (ns.map V.int) vs
 | _,_,.nil=>.nil
 | _,_,.cons n t h=>.cons ⟨t,rfl⟩ (Zoj h)
def Only (H:Hp):Prop:=∀b,H b=none\/∃o xs,H b=some (.frz o (.lst xs))
theorem Xdu {k:Nat}{fa a:Addr}
    (KX:K.In s₁.heap) (hns:s₁.heap.Ns Ag mg) (hb:s₁.heap.Ns Et mb) (hbb:∀x:Str,x≠"__name__"->mb x=BN x) (hlim:s₁.heap.NoLimit) (hg:s₁.gens=#[])
    (ha:s₁.heap.get? a=some {cls:=.type "list",data:=.seq vs.toArray}) (hi:Ed vs ns) (hl:ns.length<=Ak) (hr:Zgb k EA)
    (F:∀base:AZ,K.In base->base.Ns Ag mg->Zbd P w K mg base CX k fa fd [x] sp) (hbind:∀(s:Ac) (u:Value),Ef s fd ⟨[u],[]⟩ [(x,u)])
    (hsp:∀H:Hp,Only H->SqL K H a (ns.map V.int)->sp [.ref a] H (fun v _=>v=.bl true) fun _ _ _=>False)
    (hCX:∀H e s',CX [] H s₁ (fun _ _ _=>False) e s'->False) :
    Dj (AA P w) EA (.call (.ref fa) ⟨[.ref a],[]⟩) (fun r s'=>r=.ok (.ret (.bool true))/\OldK s₁.heap s'.heap/\s'.os=s₁.os/\Dm s'.gens) s₁:=by
  have rv:=Zoj hi;have lenV:=hi.length;have core:∀H:Hp,Only H->SqL K H a (ns.map V.int)->HOk P w H s₁.heap->(∀b,H b≠none->b=a)->(H a≠none->K.lookup a=none)->
      Dj (AA P w) EA (.call (.ref fa) ⟨[.ref a],[]⟩) (fun r s'=>r=.ok (.ret (.bool true))/\OldK s₁.heap s'.heap/\s'.os=s₁.os/\Dm s'.gens) s₁:=by
    intro H hO hS hok hA hK;have base_of:∀{b:Addr} {o:Obj},s₁.heap.get? b=some o->H b=none->(Xdr s₁.heap H).get? b=some o:=fun e n=>Xda e n;have noA:∀{b:Addr} {o:Obj} {es:Array DictEntry} {ep:Nat},s₁.heap.get? b=some o->o.data=.dict es ep->H b=none:=fun {b o es ep} e d=>by
      cases q:H b with
      | none=>rfl
      | some u =>have e':b=a:=hA b (by rw [q];simp);subst e';rw [ha] at e;cases e;have d':Data.seq vs.toArray _=Data.dict es ep:=d;cases d'
    have nsK:∀{b:Addr} {m:Str->Option Value},s₁.heap.Ns b m->(Xdr s₁.heap H).Ns b m:=fun {b m} ⟨o,es,ep,e,d,r⟩=>⟨o,es,ep,base_of e (noA e d),d,r⟩;have hKb:K.In (Xdr s₁.heap H):=fun b o e=>base_of (KX b o e) (by
      cases q:H b with
      | none=>rfl
      | some u =>
        have e':b=a:=hA b (by rw [q];simp);subst e';rw [hK (by rw [q];simp)] at e;cases e)
    have hM:Mod K mg (Xdr s₁.heap H):=⟨hKb,nsK hns,⟨mb,nsK hb,hbb⟩,let ⟨mc,h1,h2⟩:=hlim;⟨mc,nsK h1,h2⟩⟩;have e0:Xmz P w K mg (Xdr s₁.heap H) EA [] s₁ H:=⟨rfl,hM,fun b o e=>Xlb e,Nat.le_of_eq (Zvq _ _),trivial,fun b hb=>absurd (show b∈([]:List Addr) from hb) (by simp),hok,.of_eq hg⟩;refine Ge ((F _ hKb (nsK hns)).run EA [] s₁ H ⟨[.ref a],[]⟩ [.ref a] [.ref a] _ _ hr e0 (hbind s₁ (.ref a)) (.cons rfl .nil) (hsp H hO hS)) fun r s' h=>?_;cases r with
    | error e=>exact (hCX H e s' h).elim
    | ok fl =>
      cases fl with
      | next=>exact False.elim h
      | brk=>exact False.elim h
      | cont=>exact False.elim h
      | ret u =>
        obtain ⟨v,H',os,bare,un,hok',r',q⟩:=h;have q':v=.bl true:=q;subst q';obtain rfl:u=BW true:=r';refine ⟨rfl,OldK.of_keep fun b o e=>?_,os,bare⟩;cases q:H b with
        | none=>exact un.keep b o e q (by intro z;exact absurd (show b∈([]:List Addr) from z) (by simp)) (by simp)
        | some u =>
          rcases hO b with z | ⟨ob,xs,z⟩
          · rw [q] at z;cases z
          · have z2:=un.frzs b ob _ z;obtain ⟨e1,_⟩:=hok b _ z;obtain ⟨e2,_⟩:=hok' b _ z2;rw [e] at e1;cases e1;exact e2
  cases hk:K.lookup a with
  | some o =>have e:=KX a o hk;rw [ha] at e;cases e;refine core (fun _=>none) (fun _=>.inl rfl) (.inr ⟨_,vs.toArray,_,hk,rfl,rfl,rfl,by rw [Ay,lenV];exact hl,by simpa using rv⟩) (fun b u z=>by have z':(none:Option HO)=some u:=z;cases z') (fun b z=>absurd rfl z) fun z=>absurd rfl z
  | none =>
    refine core (fun b=>if b=a then some (.frz {cls:=.type "list",data:=.seq vs.toArray} (.lst (ns.map V.int))) else none) (fun b=>?_) (.inl (.inr ⟨{cls:=.type "list",data:=.seq vs.toArray},if_pos rfl⟩)) (fun b u z=>?_) (fun b z=>?_) fun _=>hk
    · by_cases hb:b=a
      · exact .inr ⟨_,_,if_pos hb⟩
      · exact .inl (if_neg hb)
    · by_cases hb:b=a
      · have z':=(if_pos hb).symm.trans z;cases z';subst hb;exact ⟨ha,by rw [Ae];exact hl,vs,_,rv,ha⟩
      · have z':=(if_neg hb).symm.trans z;cases z'
    · by_cases hb:b=a
      · exact hb
      · exact absurd (if_neg hb) z
abbrev KOf {K:AE}{h:AZ}(_:K.In h):AE:=K
theorem Xhc {l:PySem.W.OpenLaw}{k:Nat}{d:DefRec}{K:Params->AE}{CX:AS->CXT}{sp:AS->Sp}
    (hn:l.most=some n) (hn2:n<=Ak) (hdf:d.params.defaults=[]) (hr:Zgb k EA)
    (hY:∀(w:AS) (h:AZ),YP w h->(K w.params).In h)
    (F:∀(w:AS) (mg:Str->Option Value) (fa:Addr) (h:AZ),(K w.params).In h->h.Ns Ag mg->mg d.name=some (.ref fa)->
      ∃fd:B3,(∀(s:Ac) (u:Value),Ef s fd ⟨[u],[]⟩ [(x,u)])/\
        ∀base:AZ,(K w.params).In base->base.Ns Ag mg->Zbd l.prog w (K w.params) mg base (CX w) k fa fd [x] (sp w))
    (hsp:∀(w:AS) (H:Hp) (a:Addr) (ns:List Int),ns.length<=n->Only H->SqL (K w.params) H a (ns.map V.int)->sp w [.ref a] H (fun v _=>v=.bl true) fun _ _ _=>False)
    (hCX:∀(w:AS) (H:Hp) (s:Ac) (e:Value) (s':Ac),CX w [] H s (fun _ _ _=>False) e s'->False) :
    PySem.W.WalkO q loose XP YP l.row.toRowW d [] (fun f vs=>PySem.call f vs):=by
  refine Att.attach_call hn hdf fun w s₀ s₁ mg mb fa o pm cd doc a vs ns G Y ho hd hcd hmg hobj hints hlen hg=>?_;have KX:=hY w _ Y;obtain ⟨fd,hb,hF⟩:=F w mg fa _ KX G.T.g hmg;exact Xdu KX G.T.g G.T.b G.T.builtins G.T.nolimit hg hobj hints (AT hlen hn2) hr hF hb (fun H hO hS=>hsp w H a ns hlen hO hS) fun H e s'=>hCX w H s₁ e s'
def Zdo (s:Stmt):Eg:=match s with
 | .FunctionDef _ a _ _ _ _ _ _ _ _=>a
 | _=>{posonlyargs:=[],args:=[],vararg:=none,kwonlyargs:=[],kw_defaults:=[],kwarg:=none,defaults:=[]}
def Js (s:Stmt):List Stmt:=match s with
 | .FunctionDef _ _ b _ _ _ _ _ _ _=>b
 | _=>[]
def Zl (s:Stmt):Scope:=match s with
 | .FunctionDef _ _ _ _ _ _ sc _ _ _=>sc
 | _=>{kind:=.function,names:=[],isGenerator:=false,isCoroutine:=false}
abbrev CX0:CXT:=fun _ _ _ _ _ _=>False
abbrev E0:XK:=fun _ _ _=>False
theorem Yu :Zfr CX0 X E0:=fun _ _ _ _ _ _ _ h=>h.elim
structure Fun (K:AE)(x qual:Str)(st:Stmt)(f:Addr)(fd:B3):Prop where
 ex:∃(oc:Value) (od:Option Addr) (kV doc pm:Value) (an:Option Addr) (cdv ct:Value) (osl:Array (Option Value)),
  fd=Gc x qual (Zdo st) (Js st) (Zl st) .none kV doc pm an cdv ct/\K.lookup f=some ⟨oc,od,.func fd,osl⟩/\Es K cdv qual=true
 kp:DO K (.ref f)=true
section
variable {base:AZ}
theorem Fun.ok {k:Nat}(F:Fun K x qual st f fd)(S:Xd N ps (Zl st))(len:∀vs H Q E,sp vs H Q E->vs.length=ps.length)
    (hbody:∀(cdv:Value) (A:AR) (outer:List Env) (s:Ac) (H:Hp) (vs:List V) (Q:VK) (E:XK),Zgb k (A.deeper (CN qual (Zl st) s.heap.objs.size f cdv))->sp vs H Q E->
      ∃t,PSs (Zol CX0 P w K mg base N qual (Zl st) f cdv A outer s H E).nox (Js st) t/\t {nx:=fun _ H'=>Q .non H',rt:=Q} (start N vs) H):Zbd P w K mg base CX0 (k+1) f fd ps sp:=by
  obtain ⟨oc,od,kV,doc,pm,an,cdv,ct,osl,rfl,lk,hcd⟩:=F.ex;refine Xok lk hcd S len fun A outer s H vs Q E hr hsp=>?_;obtain ⟨t,h,q⟩:=hbody cdv A outer s H vs Q E hr hsp;exact ⟨t,h.nox,q⟩
theorem Fun.binds (F:Fun K x qual st f fd)
  (h:∀(kV doc pm:Value) (an:Option Addr) (cdv ct:Value) (us:List Value),us.length=ps.length->HV (Gc x qual (Zdo st) (Js st) (Zl st) .none kV doc pm an cdv ct) ⟨us,[]⟩=pure (ps.zip us)):Binds K fd ps []:=by
 obtain ⟨oc,od,kV,doc,pm,an,cdv,ct,osl,rfl,lk,hcd⟩:=F.ex;exact .all (h kV doc pm an cdv ct)
theorem Yj {kV doc pm cdv ct:Value}(l:K.lookup f=some ⟨oc,od,.func (Gc x qual (Zdo st) (Js st) (Zl st) .none kV doc pm an cdv ct),osl⟩)
  (c:Es K cdv qual=true) (k:DO K (.ref f)=true):Fun K x qual st f (Gc x qual (Zdo st) (Js st) (Zl st) .none kV doc pm an cdv ct):=⟨⟨oc,od,kV,doc,pm,an,cdv,ct,osl,rfl,l,c⟩,k⟩
theorem pv (i:Nat)(hN:X.N[i]?=some x:=by rfl)(hv:autoParam (Vis X.env.scope x) aT3._auto_1)(hd:(x==("__debug__":Str))=false:=by decide)
  (hcd:(x==("__classdict__":Str))=false:=by decide):PE X (.Name x pos) (Zcr i):=Xof hN hv hd hcd
end
def Xk (H H':Hp):Prop:=∀b o,H b=some o->H' b=some o
theorem Xk.refl (H:Hp):Xk H H:=fun _ _ h=>h
theorem Xk.trans {H1:Hp}(a:Xk H H1)(b:Xk H1 H2):Xk H H2:=fun c o h=>b c o (a c o h)
theorem Xk.free (e:Xk H H'){l:Addr}(h:H' l=Da):H l=Da:=by
 cases q:H l with
 | none=>rfl
 | some o =>rw [e l o q] at h;cases h
theorem Zx :Ab (.BinOp a op b pos::es) env=(false,AF (.BinOp a op b pos) env)::Ab es env:=rfl
theorem Zf {c:Const}{k:Nat}:Ab (.Constant c k pos::es) env=(false,AF (.Constant c k pos) env)::Ab es env:=rfl
theorem Za :Ab (.Name x pos::es) env=(false,AF (.Name x pos) env)::Ab es env:=rfl
theorem Xa :Ab (.Subscript a b pos::es) env=(false,AF (.Subscript a b pos) env)::Ab es env:=rfl
theorem Jy :Ab (.Call a as ks pos::es) env=(false,AF (.Call a as ks pos) env)::Ab es env:=rfl
theorem Ziv :Ab (.List as pos::es) env=(false,AF (.List as pos) env)::Ab es env:=rfl
theorem Zsj {k:Nat}:Ab (.Tuple as k pos::es) env=(false,AF (.Tuple as k pos) env)::Ab es env:=rfl
theorem Zxk {op:G7}:Ab (.UnaryOp op a pos::es) env=(false,AF (.UnaryOp op a pos) env)::Ab es env:=rfl
theorem Zhm :Ab (.Compare a ops as pos::es) env=(false,AF (.Compare a ops as pos) env)::Ab es env:=rfl
theorem Jc :Ab (.ListComp a gs sc pos::es) env=(false,AF (.ListComp a gs sc pos) env)::Ab es env:=rfl
theorem Jn :Zct (.Subscript a b pos):=fun _ _=>rfl
theorem Xh :Zct (.Name x pos):=fun _ _=>rfl
theorem Zh {c:Const}{k:Nat}:Zct (.Constant c k pos):=fun _ _=>rfl
theorem plain_bin :Zct (.BinOp a op b pos):=fun _ _=>rfl
theorem Xdi {op:G7}:Zct (.UnaryOp op a pos):=fun _ _=>rfl
theorem Ztf :Zct (.Call a es ks pos):=fun _ _=>rfl
def Ztg:R2:=fun x y H Q=>rI0 (fun i j=>.int (i+j)) x y H Q\/(∃i j,x=.str i/\y=.str j/\i.length+j.length<=Ak/\Q (.str (i++j)) H)\/rCat x y H Q
def Xah:R2:=fun x y H Q=>rI Xly (fun i j=>.int (i*j)) x y H Q\/rRep x y H Q
def Xmc (_ j:Int):Prop:=0<j/\j<2 ^ 200
theorem Zt:OpR X (Cj .Add) Ztg:=Xmf.or (Zua.or Xnh)
theorem Xt:OpR X (Cj .Mult) Xah:=Xqq.or Xoc
theorem log2_small (h1:0<j)(h2:j<2 ^ 200):j.natAbs.log2<9000:=by
 have h3:j.natAbs<2 ^ 200:=by omega
 exact D2 ((Nat.log2_lt (by omega)).mpr h3) (by decide)
theorem Zru:OpR X (Cj .FloorDiv) (rI Xmc fun i j=>.int (i / j)):=opI fun i j _ _ _ _ _ hc q=>by have h1:(0:Int)<j:=hc.1;have h2:j<2 ^ 200:=hc.2;exact floordiv_int (by omega) (by rw [Int.fdiv_eq_ediv_of_nonneg i (by omega)];exact q) (.inl (PyProof.noPylong_of_log2 (log2_small h1 h2)))
mutual
inductive Dn (K:AE)(H:Hp):V->D6->Prop
 | non:Dn K H .non .none
 | bl (b:Bool):Dn K H (.bl b) (.bool b)
 | int (i:Int):Dn K H (.int i) (.int i)
 | str (x:Str):Dn K H (.str x) (.str x)
 | lst {a:Addr} {xs:List V} {ds:List D6}:SqL K H a xs->DnA K H xs ds->Dn K H (.ref a) (.list ds)
 | tup {a:Addr} {xs:List V} {ds:List D6}:SqT K H a xs->DnA K H xs ds->Dn K H (.ref a) (.tuple ds)
inductive DnA (K:AE)(H:Hp):List V->List D6->Prop
 | nil:DnA K H [] []
 | cons {x:V} {d:D6} {xs:List V} {ds:List D6}:Dn K H x d->DnA K H xs ds->DnA K H (x::xs) (d::ds)
end
mutual
theorem Dn.reads (I:Inv X pins σ H s):∀{x:V} {d:D6} {u:Value},Dn X.K H x d->RelV x u->∃as,Reads s.heap u d as
 | _,_,_,.non,r=>by cases (show _=DW from r);exact ⟨_,.none⟩
 | _,_,_,.bl b,r=>by cases (show _=BW b from r);exact ⟨_,.bool b⟩
 | _,_,_,.int i,r=>by obtain ⟨t,q⟩:=(show ∃t,_=DJ i t from r);cases q;exact ⟨_,.int i t⟩
 | _,_,_,.str x,r=>by obtain ⟨t,q⟩:=(show ∃t,_=Ei x t from r);cases q;exact ⟨_,.str x t⟩
 | _,_,_,.lst (a:=a) h ra,r=>by cases (show _=A7 a from r);obtain ⟨its,rv,pl,_⟩:=I.list h;obtain ⟨as,q⟩:=DnA.reads I ra rv;obtain ⟨o,ho,hc,n,hd⟩:=pl.isList;exact ⟨_,.list ho hc hd q⟩
 | _,_,_,.tup (a:=a) h ra,r=>by cases (show _=A7 a from r);obtain ⟨its,rv,pl,_⟩:=I.tuple h;obtain ⟨as,q⟩:=DnA.reads I ra rv;obtain ⟨o,ho,hc,n,hd⟩:=pl;exact ⟨_,.tuple ho hc hd q⟩
theorem DnA.reads (I:Inv X pins σ H s):∀{xs:List V} {ds:List D6} {us:List Value},DnA X.K H xs ds->Yw xs us->∃as,ReadsAll s.heap us ds as
 | _,_,_,.nil,.nil=>⟨_,.nil⟩
 | _,_,_,.cons h ra,.cons r rs=>by obtain ⟨as,q⟩:=Dn.reads I h r;obtain ⟨bs,q'⟩:=DnA.reads I ra rs;exact ⟨_,.cons q q'⟩
end
def rEqD (K:AE):R2:=fun x y H Q=>∃dx dy,Dn K H x dx/\Dn K H y dy/\CO dx=true/\CO dy=true/\Q (.bl (Fm dx dy)) H
def rNeD (K:AE):R2:=fun x y H Q=>∃dx dy,Dn K H x dx/\Dn K H y dy/\CO dx=true/\CO dy=true/\Q (.bl (!PyData.eqv dx dy)) H
def Zho (K:AE):R2:=fun x y H Q=>rEq x y H Q\/rEqD K x y H Q
def Xlo (K:AE):R2:=fun x y H Q=>rNe x y H Q\/rNeD K x y H Q
theorem Xnr (hu:X.A.units+64<Bi):OpR X (A9 .Eq) (rEqD X.K):=by intro pins s σ H x y v u Q I rx ry h;obtain ⟨dx,dy,h1,h2,s1,s2,q⟩:=h;obtain ⟨as,ra⟩:=h1.reads I rx;obtain ⟨bs,rb⟩:=h2.reads I ry;exact eq_dataH ra rb s1 s2 hu ⟨.bl _,H,I,rfl,q⟩
theorem Xmk (hu:X.A.units+64<Bi):OpR X (A9 .NotEq) (rNeD X.K):=by intro pins s σ H x y v u Q I rx ry h;obtain ⟨dx,dy,h1,h2,s1,s2,q⟩:=h;obtain ⟨as,ra⟩:=h1.reads I rx;obtain ⟨bs,rb⟩:=h2.reads I ry;exact ne_dataH ra rb s1 s2 hu ⟨.bl _,H,I,rfl,q⟩
theorem Jj (hu:X.A.units+64<Bi):OpR X (A9 .Eq) (Zho X.K):=op_eq.or (Xnr hu)
theorem Zqu (hu:X.A.units+64<Bi):OpR X (A9 .NotEq) (Xlo X.K):=op_ne.or (Xmk hu)
def Zaj (K:AE):List V->Hp->VK->Prop:=fun xs H Q=>(∃p ys,xs=[.ref p]/\(SqL K H p ys\/SqT K H p ys)/\Q (.int ys.length) H)\/∃z,xs=[.str z]/\z.length<=Ak/\Q (.int z.length) H
def rSum (K:AE):List V->Hp->VK->Prop:=fun xs H Q=>∃(p:Addr) (ns:List Int),xs=[.ref p]/\SqL K H p (ns.map V.int)/\Q (.int ns.sum) H
def Xlu (K:AE):List V->Hp->VK->Prop:=fun xs H Q=>∃x c t b,xs=[x,.ty c]/\TyOf K H x t/\GR K t (.type c)=some b/\Q (.bl b) H
def Zpi (lo:Int)(n:Nat):List V:=(AJ n).map fun (k:Nat)=>V.int (lo+(k:Int))
def Zjs (K:AE):List V->Hp->VK->Prop:=fun xs H Q=>(∃p ys,xs=[.ref p]/\(SqL K H p ys\/SqT K H p ys)/\∀l,H l=none->Q (.ref l) (upd H l (.lst ys)))\/
 ∃p i j,xs=[.ref p]/\H p=some (.rng i j)/\-(2 ^ 62)<=i/\i<2 ^ 62/\-(2 ^ 62)<=j/\j<2 ^ 62/\(j - i).toNat<=1000000/\∀l,H l=none->Q (.ref l) (upd H l (.lst (Zpi i (j - i).toNat)))
theorem Xo:Zar X (.builtin "len") (Zaj X.K):=Zna.or Zmq
theorem Xch (hc:X.calm=true):Zar X (.builtin "sum") (rSum X.K):=by
 intro pins s σ H xs us Q I r h;obtain ⟨p,ns,rfl,hq,q⟩:=h;obtain ⟨u,rfl,rx⟩:=vals1 r;cases rx;obtain ⟨its,rv,pl,hz⟩:=I.list hq;have hi:Ed its ns:=intsAre_of rv;obtain ⟨xs,hxs⟩:=hi.allInts.items;have hn:numsOf its.toArray.toList=ns:=by rw [show its.toArray.toList=its from rfl,hi.numsOf]
 have hl:=pl.isList;rw [hxs] at hl hn;rw [Ib] at hn;refine sum_intListG (I.ok.hd hc) hl fun h' tk t' hk=>⟨.int ns.sum,H,I.kept hk,⟨t',?_⟩,q⟩;rw [preSum_eq,B5 (by simp),hn]
theorem Zpu:Zar X (.builtin "isinstance") (Xlu X.K):=by intro pins s σ H xs us Q I r h;obtain ⟨x,c,t,b,rfl,ty,e,q⟩:=h;obtain ⟨u,w',rfl,rx,ry⟩:=vals2 r;cases (show w'=Hn c from ry);exact Zux I rx ty e fun tk=>⟨.bl b,H,I.tok _,rfl,q⟩
theorem Zku (hc:X.calm=true):Zar X (.type "list") (fun xs H Q=>∃p i j,xs=[.ref p]/\H p=some (.rng i j)/\-(2 ^ 62)<=i/\i<2 ^ 62/\-(2 ^ 62)<=j/\j<2 ^ 62/\(j - i).toNat<=1000000/\
    ∀l,H l=none->Q (.ref l) (upd H l (.lst (Zpi i (j - i).toNat)))):=by
  intro pins s σ H xs us Q I r h;obtain ⟨p,i,j,rfl,hH,h1,h2,h3,h4,h5,q⟩:=h;obtain ⟨u,rfl,rx⟩:=vals1 r;cases rx;obtain ⟨t,u,v,e⟩:=I.hok p _ hH;have en:Ee i j 1=(((j - i).toNat:Nat):Int):=by rw [HY];split<;>omega
  refine call_list_range (n:=(j - i).toNat) (I.ok.hd hc) e (small_one h1 h2 h3 h4) en (AT h5 (by decide)) fun h' tk acc' c' hk hg hit=>?_;refine ⟨.ref s.heap.objs.size,_,I.laid (t':=tk) hk (AI _) (show Jt X.prog X.w _ h' _ (.lst (Zpi i (j - i).toNat)) from ⟨?_,acc'.toList,c',?_,?_⟩),rfl,q _ I.fresh⟩;unfold Zpi;rw [Ae,Cu];exact AT h5 (by decide);obtain ⟨hsz,hv⟩:=hit;have key:∀(k:Nat) (l:List Value) (lo:Int),l.length=k->(∀(m:Nat) (v:Value),l[m]?=some v->∃t,v=DJ (lo+(m:Int)) t)->Yw (Zpi lo k) l:=by
    intro k
    induction k with
    | zero =>intro l lo hl _;rw [List.length_eq_zero_iff.mp hl];exact .nil
    | succ k ih =>
      intro l lo hl hv;cases l with
      | nil=>simp at hl
      | cons x l =>
        obtain ⟨t,e⟩:=hv 0 x (by simp);have er:Zpi lo (k+1)=V.int lo::Zpi (lo+1) k:=by unfold Zpi;rw [E3,AH,BU];congr 1;simp;apply CQ;intro m _;show V.int (lo+((m+1:Nat):Int))=V.int (lo+1+(m:Int));congr 1;omega
        rw [er];refine .cons ⟨t,?_⟩ (ih l (lo+1) (by simpa using hl) fun m v hm=>?_);rw [e];congr 1;simp;obtain ⟨t',e'⟩:=hv (m+1) v (by simpa using hm);refine ⟨t',?_⟩;rw [e'];congr 1;omega
  refine key _ _ i (by simpa using hsz) fun m v hm=>?_;obtain ⟨t,e⟩:=hv m v (by simpa using hm);exact ⟨t,by rw [e];congr 1;omega⟩;simpa using hg
theorem Zbl (hc:X.calm=true):Zar X (.type "list") (Zjs X.K):=Zoh.or (Zku hc)
structure Def (P:Aw)(w:AS)(K:AE)(mg:Str->Option Value)(base:AZ)(CX:CXT)(k:Nat)(x:Str)(ps:List Str)(sp:Sp):Prop where
 ex:∃f fd,mg x=some (.ref f)/\DO K (.ref f)=true/\Binds K fd ps []/\Zbd P w K mg base CX k f fd ps sp
theorem Xbd {k:Nat}{E:XK}{p:Pos}{e:Expr}(D:Def X.prog X.w X.K X.mg X.base CX k x ps sp)(hr:Zgb k X.A)(hg:Gl X x)(hx:Zfr CX X E)
  (ha:PA X (e::es) t) (hdb:(x==("__debug__":Str))=false:=by decide) (he:Ab (e::es) X.env=(false,AF e X.env)::Ab es X.env:=by rfl) (hpl:(AW pos (Ab es X.env)).any (·.1)=false:=by rfl) :
  PE X (.Call (.Name x p) (e::es) [] pos) (Zmv sp [] E t):=by
 obtain ⟨f,fd,m,kp,b,F⟩:=D.ex;exact Xhk F hr hg m kp b .nil hx ha hdb he hpl
section
variable {Q:VK}{D:Ends}
theorem rd_I (c:C i j)(q:Q (g i j) H):rI C g (.int i) (.int j) H Q:=⟨i,j,rfl,rfl,c,q⟩
theorem rd_I0 (q:Q (g i j) H):rI0 g (.int i) (.int j) H Q:=⟨i,j,rfl,rfl,q⟩
theorem rd_U {g:Int->V}(q:Q (g i) H):rU g (.int i) H Q:=⟨i,rfl,q⟩
theorem Xnk (q:Q (.int (i+j)) H):Ztg (.int i) (.int j) H Q:=.inl ⟨i,j,rfl,rfl,q⟩
theorem Xna (c:Xly i j)(q:Q (.int (i*j)) H):Xah (.int i) (.int j) H Q:=.inl ⟨i,j,rfl,rfl,c,q⟩
theorem Zxr {E:XK}(q:t σ H fun vs H1=>sp vs H1 Q E):Zmv sp [] E t σ H Q:=by
 show t σ H fun vs H1=>sp (vs++[]) H1 Q E;have e:(fun vs H1=>sp (vs++[]) H1 Q E)=fun vs H1=>sp vs H1 Q E:=by funext vs H1;rw [Dt]
 rw [e];exact q
theorem Xqp (h:SqL K H p xs)(e:atI xs i=some v)(q:Q v H):rIx K (.ref p) (.int i) H Q:=.inl ⟨p,xs,i,v,rfl,rfl,h,e,q⟩
theorem Xpl (h:SqT K H p xs)(e:atI xs i=some v)(q:Q v H):rIx K (.ref p) (.int i) H Q:=.inr (.inl ⟨p,xs,i,v,rfl,rfl,h,e,q⟩)
theorem Zvt (h:SqL K H p ys)(q:Q (.int ys.length) H):Zaj K [.ref p] H Q:=.inl ⟨p,ys,rfl,.inl h,q⟩
theorem Xgb (h:SqT K H p ys)(q:Q (.int ys.length) H):Zaj K [.ref p] H Q:=.inl ⟨p,ys,rfl,.inr h,q⟩
theorem Xkn {z:Str}(h:z.length<=Ak)(q:Q (.int z.length) H):Zaj K [.str z] H Q:=.inr ⟨z,rfl,h,q⟩
theorem Xfg {l:Addr}{y:V}(h:H l=some (.lst xs))(hz:xs.length<Ak)(q:Q .non (upd H l (.lst (xs++[y])))):Zdw (.ref l) [y] H Q:=⟨l,xs,y,rfl,rfl,h,hz,q⟩
theorem Zup {a:Addr}{lo hi:Option Int}(h:SqL K H a xs)(q:∀p,H p=none->Q (.ref p) (upd H p (.lst (cutV xs lo hi)))):Xls K (.ref a) lo hi H Q:=⟨a,xs,rfl,h,q⟩
theorem Xeu {a b:Addr}{zs:List V}(h1:H a=some (.lst xs))(h2:H b=some (.lst zs))(hz:xs.length+zs.length<=Ak)(q:∀p,H p=none->Q (.ref p) (upd H p (.lst (xs++zs)))):Ztg (.ref a) (.ref b) H Q:=.inr (.inr ⟨a,b,xs,zs,rfl,rfl,h1,h2,hz,q⟩)
theorem Xmy {l:Addr}{k:Int}(h:H l=some (.lst xs))(h1:-(2 ^ 63)<=k)(h2:k<2 ^ 63)(hz:xs.length*k.toNat<=Ak)(q:∀p,H p=none->Q (.ref p) (upd H p (.lst (Aa k.toNat xs).flatten))):Xah (.ref l) (.int k) H Q:=.inr ⟨l,k,xs,rfl,rfl,h,h1,h2,hz,q⟩
theorem Xqb (h:SqL K H p (ns.map V.int))(q:Q (.int ns.sum) H):rSum K [.ref p] H Q:=⟨p,ns,rfl,h,q⟩
theorem Xnw {x:V}{c:String}{t:Value}{b:Bool}(h:TyOf K H x t)(e:GR K t (.type c)=some b)(q:Q (.bl b) H):Xlu K [x,.ty c] H Q:=⟨x,c,t,b,rfl,h,e,q⟩
theorem Xaj (h:SqL K H p ys)(q:∀l,H l=none->Q (.ref l) (upd H l (.lst ys))):Zjs K [.ref p] H Q:=.inl ⟨p,ys,rfl,.inl h,q⟩
theorem Xby (h:H p=some (.rng i j))(h1:-(2 ^ 62)<=i)(h2:i<2 ^ 62)(h3:-(2 ^ 62)<=j)(h4:j<2 ^ 62)(h5:(j - i).toNat<=1000000)(q:∀l,H l=none->Q (.ref l) (upd H l (.lst (Zpi i (j - i).toNat)))):Zjs K [.ref p] H Q:=.inr ⟨p,i,j,rfl,h,h1,h2,h3,h4,h5,q⟩
end
structure QE (X:Cx)(e:Expr)(t:TE):Prop where
 out:PE X e t
structure QT (X:Cx)(e:Expr)(t:TT):Prop where
 out:PT X e t
structure QW (X:Cx)(e:Expr)(t:TT):Prop where
 out:PW X e t
structure QA (X:Cx)(es:List Expr)(t:TA):Prop where
 out:PA X es t
structure QO (X:Cx)(e:Option Expr)(t:TO):Prop where
 out:PO X e t
structure QG (X:Cx)(e:Expr)(t:TG):Prop where
 out:PG X e t
structure QGs (X:Cx)(es:List Expr)(t:TGs):Prop where
 out:PGs X es t
structure QI (X:Cx)(tg iter:Expr)(wi:TI):Prop where
 out:PI X tg iter wi
structure QS (X:Cx)(st:Stmt)(t:TS):Prop where
 out:PS X st t
structure QSs (X:Cx)(st:List Stmt)(t:TS):Prop where
 out:PSs X st t
section
variable {e st o:Expr}{rest:List Expr}{ta tb tc ts:TE}{tA tB':TT}{p:Pos}
theorem Xmv {j:Nat}:QE X (.Constant (.int i) j pos) (tC (.int i)):=⟨Xnj⟩
theorem qe_bl {i:Bool}{j:Nat}:QE X (.Constant (.bool i) j pos) (tC (.bl i)):=⟨pe_bl⟩
theorem Xno {j:Nat}:QE X (.Constant .none j pos) (tC .non):=⟨Xqa⟩
theorem Xeg {j:Nat}:QE X (.Constant (.str x) j pos) (tC (.str x)):=⟨Xor⟩
theorem qv (i:Nat)(hN:X.N[i]?=some x:=by rfl)(hv:autoParam (Vis X.env.scope x) aT3._auto_1)(hd:(x==("__debug__":Str))=false:=by decide)
  (hcd:(x==("__classdict__":Str))=false:=by decide):QE X (.Name x pos) (Zcr i):=⟨pv i hN hv hd hcd⟩
theorem Xjs (hg:Gl X x)(hm:X.mg x=none)(hv:BN x=some u)(r:RelV v u)(hn:x≠"__name__":=by decide)(hd:(x==("__debug__":Str))=false:=by decide):QE X (.Name x pos) (tC v):=⟨Xin hg hm hv r hn hd⟩
theorem Xod {r:R2}(ho:OpR X (Cj op) r)(ha:QE X a ta)(hb:QE X b tb):QE X (.BinOp a op b pos) (tOp r ta tb):=⟨pe_op ho ha.out hb.out⟩
theorem qe_un {op:G7}{r:V->Hp->VK->Prop}(ho:UnR X (unaryOp op) r)(ha:QE X a ta):QE X (.UnaryOp op a pos) (tUn r ta):=⟨pe_un ho ha.out⟩
theorem Xiu {op:Hh}{r:R2}(ho:OpR X (A9 op) r)(ha:QE X a ta)(hb:QE X b tb)(hm:Ck op b=false):QE X (.Compare a [op] [b] pos) (tOp r ta tb):=⟨Xio ho ha.out hb.out hm⟩
theorem Xix {op:Hh}{r:R2}(ho:OpR X (A9 op) r)(ha:QE X a ta)(hb:QE X b tb)(hm:Ck op b=false):QT X (.Compare a [op] [b] pos) (Zzk (tOp r ta tb)):=⟨Xiv ho ha.out hb.out hm⟩
theorem Xmq {op:BoolOp}(h:QE X a ta):QE X (.BoolOp op [a] pos) ta:=⟨Xml h.out⟩
theorem Xpo (ha:QE X a ta)(hb:QE X (.BoolOp .And (b::rest) pos) tb):QE X (.BoolOp .And (a::b::rest) pos) (Xbk ta tb):=⟨Xmb ha.out hb.out⟩
theorem Xpy (ha:QE X a ta):QE X (.UnaryOp .Not a pos) (Zzq ta):=⟨Xot ha.out⟩
theorem Xqx (h:QE X e te)(he:∀whole,isTrue e X.env whole=(do let v <- whole;CI e.pos;A5 [v] (truthy v)):=by intro _;rfl):QT X e (tB te):=⟨Xoz h.out he⟩
theorem Xoa (ha:QT X a tA):QT X (.UnaryOp .Not a pos) (tNot tA):=⟨Xpn ha.out⟩
theorem Xit (ha:QT X a tA):QW X (.BoolOp .And [a] pos) tA:=⟨Xfm ha.out⟩
theorem Xqo (ha:QT X a tA):QW X (.BoolOp .Or [a] pos) tA:=⟨Xqf ha.out⟩
theorem Xqg (ha:QT X a tA)(hb:QW X (.BoolOp .And (b::rest) pos) tB'):QW X (.BoolOp .And (a::b::rest) pos) (tAnd tA tB'):=⟨Xmo ha.out hb.out⟩
theorem qw_or (ha:QT X a tA)(hb:QW X (.BoolOp .Or (b::rest) pos) tB'):QW X (.BoolOp .Or (a::b::rest) pos) (tOr tA tB'):=⟨pw_or ha.out hb.out⟩
theorem qt_w (h:QW X a tA):QT X a tA:=⟨h.out.pt⟩
theorem Zes:QA X [] Zhg:=⟨Xeh⟩
theorem Yy (ha:QE X e te)(hr:QA X es t)(hs:Ab (e::es) X.env=(false,AF e X.env)::Ab es X.env):QA X (e::es) (Ja te t):=⟨Zqc ha.out hr.out hs⟩
theorem Xfk (h:QA X es t):QE X (.Tuple es x1 pos) (Xfl t):=⟨Xpw h.out⟩
theorem Xer (h:QA X es t):QE X (.List es pos) (Xlz t):=⟨Xob h.out⟩
theorem qe_ix {r:R2}(hr:IxR X r)(ha:QE X a ta)(hb:QE X b tb)(hs:Zct b):QE X (.Subscript a b pos) (tOp r ta tb):=⟨pe_ix hr ha.out hb.out hs⟩
theorem Xir:QO X none Zle:=⟨Xju⟩
theorem Xhh (h:QE X e te):QO X (some e) (Xce te):=⟨Xjz h.out⟩
theorem Zsd {r:V->Option Int->Option Int->Hp->VK->Prop}{tl th:TO}(hr:SlR X r)(he:QE X e te)(hl:QO X lo tl)(hu:QO X hi th):QE X (.Subscript e (.Slice lo hi none p2) pos) (tSl r te tl th):=⟨Xcu hr he.out hl.out hu.out⟩
theorem Zrj {k:Nat}{E:XK}(D:Def X.prog X.w X.K X.mg X.base CX k x ps sp)(hr:Zgb k X.A)(hg:Gl X x)(hx:Zfr CX X E)
  (ha:QA X (e::es) t) (hdb:(x==("__debug__":Str))=false:=by decide) (he:Ab (e::es) X.env=(false,AF e X.env)::Ab es X.env:=by rfl) (hpl:(AW pos (Ab es X.env)).any (·.1)=false:=by rfl) :
  QE X (.Call (.Name x p) (e::es) [] pos) (Zmv sp [] E t):=⟨Xbd D hr hg hx ha.out hdb he hpl⟩
theorem Zsg {id:String}{r:List V->Hp->VK->Prop}(hc:Zar X (.builtin id) r)(hg:Gl X x)(hm:X.mg x=none)(hv:BN x=some (.builtin id))(ha:QA X (e::es) t)(hn:x≠"__name__":=by decide)(hdb:(x==("__debug__":Str))=false:=by decide)
  (he:Ab (e::es) X.env=(false,AF e X.env)::Ab es X.env:=by rfl) (hpl:(AW pos (Ab es X.env)).any (·.1)=false:=by rfl):QE X (.Call (.Name x p) (e::es) [] pos) (tCB r t):=⟨Xdx hc hg hm hv ha.out hn hdb he hpl⟩
theorem Zyh {r:List V->Hp->VK->Prop}(hc:Zar X (.type T) r)(hg:Gl X x)(hm:X.mg x=none)(hv:BN x=some (.type T))(ha:QA X (e::es) t)(hn:x≠"__name__":=by decide)(hdb:(x==("__debug__":Str))=false:=by decide)
  (he:Ab (e::es) X.env=(false,AF e X.env)::Ab es X.env:=by rfl) (hpl:(AW pos (Ab es X.env)).any (·.1)=false:=by rfl):QE X (.Call (.Name x p) (e::es) [] pos) (tCB r t):=⟨Zwh hc hg hm hv ha.out hn hdb he hpl⟩
theorem Zsr {id:String}{r:V->List V->Hp->VK->Prop}(pa:PlainAttrs T)(slot:Slot T name id)(hty:typeOf (.builtin id)=pure (.type "method_descriptor"))(hm:MtR X id r)(ho:QE X o to)(ha:QA X (e::es) t)
    (hbase:Bt o name X.env (AF o X.env)=AF o X.env:=by rfl)
    (hfew:((AW cpos (Ab (e::es) X.env)).all (fun x=>!x.1)&&(Cq cpos (BO [] X.env)).all (fun x=>x.1.isSome)
      && decide ((e::es).length+([]:List Bo).length+(if ([]:List Bo).isEmpty then 0 else 1)<30))=true:=by rfl)
    (hline:(apos.endLine==cpos.line)=true:=by rfl) (hs:Ab (e::es) X.env=(false,AF e X.env)::Ab es X.env:=by rfl) (hplain:(AW cpos (Ab es X.env)).any (·.1)=false:=by rfl) :
    QE X (.Call (.Attribute o name apos) (e::es) [] cpos) (tBM X.K T r to t):=⟨pe_bm pa slot hty hm ho.out ha.out hbase hfew hline hs hplain⟩
theorem Zfx {i:Nat}(hN:X.N.Nodup)(hi:X.N[i]?=some x)(hx:Loc X.env.scope x)(hf:autoParam (X.fn x=true\/X.env.scope.names.lookup x=some .local) aT0._auto_1):QG X (.Name x pos) (Zac i):=⟨Xgd hN hi hx hf⟩
theorem Znt {k:Nat}(hc:X.calm=true)(h:QGs X es tt)(hn:(Aq es X.env).length=n:=by rfl)(hst:(Aq es X.env).findIdx? (·.1)=none:=by rfl):QG X (.Tuple es k pos) (Zcf X.K n tt):=⟨Xmr hc h.out hn hst⟩
theorem Zji:QGs X [] Zuj:=⟨Xig⟩
theorem Zcy {tt:TG}{u:TGs}(h1:QG X e tt)(h2:QGs X es u)(hs:(Aq (e::es) X.env).map (·.2)=Bu e X.env::(Aq es X.env).map (·.2):=by rfl):QGs X (e::es) (Zem tt u):=⟨Xcg h1.out h2.out hs⟩
theorem Xih (hl:QE X e te):QI X tg e (Xbm X.K te):=⟨Xhx hl.out⟩
theorem Zwb (hg:Gl X "range")(hm:X.mg "range"=none)(ha:QA X [a] t)(hs:Ab [a] X.env=[(false,AF a X.env)]:=by rfl):QI X tg (.Call (.Name "range" p) [a] [] pos) (Xdm t):=⟨Zwj hg hm ha.out hs⟩
variable {ss other:List Stmt}{u v:TS}
theorem Zpj:QSs X [] Zll:=⟨Xgy⟩
theorem Zlb (h1:QS X s1 u)(h2:QSs X ss v):QSs X (s1::ss) (Xfd u v):=⟨Xcb h1.out h2.out⟩
theorem Zkq (h1:QS X s1 u):QSs X [s1] u:=⟨Xhs h1.out⟩
theorem Xbv:QS X s1 Zry:=⟨Xde⟩
theorem Zkr (he:QE X e te)(hs:BS e none pos.line X.env=pure false:=by rfl):QS X (.Expr e pos) (Zie te):=⟨Xkl he.out hs⟩
theorem Zuu (he:QE X e te):QS X (.Return (some e) pos) (Xez te):=⟨Xnq he.out⟩
theorem Xii (hc:QT X c tA)(ha:QSs X body u)(hb:QSs X other v):QS X (.If c body other pos) (Xar tA u v):=⟨ps_if hc.out ha.out hb.out⟩
theorem Zjl {g:TG}(he:QE X e te)(hg:QG X tg g)(hs:B7 [tg] e pos.line X.env=pure false:=by rfl)(hw:B8 [tg] e X.env=pure none:=by rfl)(h1:(Aq [tg] X.env).map (·.2)=[Bu tg X.env]:=by rfl):QS X (.Assign [tg] e pos) (Zfs te g):=⟨Xmd he.out hg.out hs hw h1⟩
theorem Xfh {i:Nat}(hN:X.N.Nodup)(hi:X.N[i]?=some x)(hx:Loc X.env.scope x)(he:QE X e te)(hs:BS e (some (.Name x pos')) pos.line X.env=pure false:=by rfl)(hf:autoParam (X.fn x=true\/X.env.scope.names.lookup x=some .local) aT0._auto_1) :
  QS X (.Assign [.Name x pos'] e pos) (Zfs te (Zac i)):=⟨Xoo hN hi hx he.out hs hf⟩
theorem Zwf {g:TG}(hp:EL (AA X.prog X.w) X.A X.env X.xe)(hc:X.calm=true)(hi:QI X tg iter wi)(hg:QG X tg g)(hb:QSs X body u)(hs:∀x,AQ iter X.env x=pure x:=by intro _;rfl):QS X (.For tg iter body [] pos) (Xey wi g u):=⟨Xri hp hc hi.out hg.out hb.out hs⟩
end
theorem Fun.okQ {base:AZ}{k:Nat}(F:Fun K x qual st f fd)(S:Xd N ps (Zl st))(len:∀vs H Q E,sp vs H Q E->vs.length=ps.length)
    (hbody:∀(cdv:Value) (A:AR) (outer:List Env) (s:Ac) (H:Hp) (vs:List V) (Q:VK) (E:XK),Zgb k (A.deeper (CN qual (Zl st) s.heap.objs.size f cdv))->sp vs H Q E->
      ∃t,QSs (Zol CX0 P w K mg base N qual (Zl st) f cdv A outer s H E).nox (Js st) t/\t {nx:=fun _ H'=>Q .non H',rt:=Q} (start N vs) H):Zbd P w K mg base CX0 (k+1) f fd ps sp:=
  F.ok S len fun cdv A outer s H vs Q E hr h=>by obtain ⟨t,ht,q⟩:=hbody cdv A outer s H vs Q E hr h;exact ⟨t,ht.out,q⟩
@[reducible] def Cx.blk (X:Cx)(N2:List Str)(x:Str)(sc:Scope)(cl:List (Str×Addr))(C:Addr)(s0:Ac)(H0:Hp)(fp:List Addr):Cx:=
 {X with N:=N2++[x],s₀:=s0,H₀:=H0,env:=Fa sc cl C X.env,outer:=X.stack,ex:=fp,fn:=fun _=>false,pn:=[],xe:=fun _ _=>False}
structure BlkOk (sc esc:Scope)(x:Str)(N N2:List Str):Prop where
 kind:sc.kind=.function
 cell:∀y∈sc.names,y.2≠.cell
 loc:∀y∈sc.names,y.2=.local->sc.names.lookup y.1=some .local
 own:sc.names.lookup x=some .local
 free:∀y∈sc.names,y.2=.free->esc.names.lookup y.1=some .cell\/esc.names.lookup y.1=some .free
 out:∀y∈N2,sc.names.lookup y≠some .local
 nd:N.Nodup
 nd2:N2.Nodup
 len:N2.length=N.length
 ren:∀p∈N.zip N2,p.2=p.1\/sc.names.lookup p.2=none
theorem lookup_mem {l:List (Str×Cb)}{k:Cb}(h:(y,k)∈l):l.lookup y≠none:=by
 induction l with
 | nil=>simp at h
 | cons p r ih =>
  obtain ⟨n,k'⟩:=p;cases hy:y==n with
  | true=>rw [AY,hy];simp
  | false =>rw [AY,hy];rcases Aj.mp h with e | e;cases e;simp at hy;exact ih e
def Jl (cells:List (Str×Addr)):List (Str×Cb)->List (Str×Addr)->List (Str×Addr)
 | [],cs=>cs
 | (n,k)::r,cs=>Jl cells r (if k=.free then (n,(cells.lookup n).getD 0)::cs else cs)
theorem Zet (h:∀y∈sc.names,y.2=.free->∃c,env.cells.lookup y.1=some c):GU sc env=pure (Jl env.cells sc.names []):=by
  unfold GU;generalize sc.names=l at h ⊢;have key:∀(l:List (Str×Cb)) (cs:List (Str×Addr)),(∀y∈l,y.2=.free->∃c,env.cells.lookup y.1=some c)->
      (forIn l cs fun (y:Str×Cb) (r:List (Str×Addr))=>(do
        let (name,kind):=y
        if kind==.free then
          let c <- cellOf env name
          pure (Dq ((name,c)::r))
        else pure (Dq r):Sem (ForInStep (List (Str×Addr)))))=pure (Jl env.cells l cs):=by
    intro l
    induction l with
    | nil=>intro cs _;rfl
    | cons y r ih =>
      intro cs hy;obtain ⟨n,k⟩:=y;rw [List.forIn_cons];have hr:∀y∈r,y.2=.free->∃c,env.cells.lookup y.1=some c:=fun y h'=>hy y (BG _ h');by_cases hk:k=.free;subst hk;obtain ⟨c,hc⟩:=hy _ BX rfl;have e:cellOf env n=pure c:=by unfold cellOf;rw [show env.cells.lookup n=some c from hc]
      simp only [beq_self_eq_true,if_true,e];rw [Jl,if_pos rfl,show env.cells.lookup n=some c from hc];exact ih _ hr;have hb:(k==BR)=false:=by simpa using hk
      rw [Jl,if_neg hk];simp only [hb,if_false,BH];exact ih _ hr
  have q:=key l [] h;exact (congrArg (fun z:Sem (List (Str×Addr))=>z >>= fun r=>pure r) q).trans rfl
theorem Zmg {cells:List (Str×Addr)}:∀{l:List (Str×Cb)} {cs:List (Str×Addr)} {y:Str} {c:Addr},(∀z∈l,z.2=.free->∃c,cells.lookup z.1=some c)->(∀c,cs.lookup y=some c->cells.lookup y=some c)->
  (Jl cells l cs).lookup y=some c->cells.lookup y=some c
 | [],_,_,_,_,h0,h=>h0 _ h
 | (n,k)::r,cs,y,c,hl,h0,h=>by
  rw [Jl] at h;refine Zmg (l:=r) (fun z hz=>hl z (BG _ hz)) (fun c' hc'=>?_) h;by_cases hk:k=.free;rw [if_pos hk] at hc';obtain ⟨c0,e0⟩:=hl _ BX hk;cases hy:y==n with
  | true =>
   have e:y=n:=by simpa using hy
   subst e;rw [AY,hy] at hc';have e1:(cells.lookup y).getD 0=c':=by simpa using hc'
   have e2:cells.lookup y=some c0:=e0;rw [e2] at e1 ⊢;simpa using e1
  | false =>rw [AY,hy] at hc';exact h0 _ hc'
  rw [if_neg hk] at hc';exact h0 _ hc'
theorem Zms {cells:List (Str×Addr)}:∀{l:List (Str×Cb)} {cs:List (Str×Addr)} {y:Str},(∃c,cs.lookup y=some c)->∃c,(Jl cells l cs).lookup y=some c
 | [],_,_,h=>h
 | (n,k)::r,cs,y,h=>by
  rw [Jl];refine Zms ?_;split;cases hy:y==n with
  | true=>exact ⟨_,by rw [AY,hy]⟩
  | false=>rw [AY,hy];exact h
  exact h
theorem Zlu {cells:List (Str×Addr)}:∀{l:List (Str×Cb)} {cs:List (Str×Addr)} {y:Str},(y,BR)∈l->∃c,(Jl cells l cs).lookup y=some c
 | (n,k)::r,cs,y,h=>by rw [Jl];rcases Aj.mp h with e | e;cases e;refine Zms ?_;rw [if_pos rfl];exact ⟨_,by rw [AY,beq_self_eq_true]⟩;exact Zlu e
theorem Zdv {env:Env}:∀{names:List (Str×Cb)} {y:Str} {k:Cb},(∀z∈names,z.2≠.cell)->(k=.cell\/k=.free)->
  (names.map fun (n,k)=>if (k==BR&&env.scope.kind==.function&&env.kindOf n==some .cell) then (n,Gi) else (n,k)).lookup y=some k->(y,BR)∈names
 | [],_,_,_,_,hz=>by simp at hz
 | (n,k0)::r,y,k,hc,hk,h=>by
  rw [AH] at h;cases hy:y==n with
  | true =>
   have e:y=n:=by simpa using hy
   subst e;by_cases hf:k0=.free;subst hf;exact BX;have hb:(k0==BR)=false:=by simpa using hf
   simp only [hb,DL,BH,if_false,AY,beq_self_eq_true] at h;have e1:k0=k:=by simpa using h
   subst e1;rcases hk with z | z;exact absurd z (hc _ BX);exact absurd z hf
  | false =>refine BG _ (Zdv (env:=env) (k:=k) (fun z hz=>hc z (BG _ hz)) hk ?_);by_cases hc':(k0==BR&&env.scope.kind==.function&&env.kindOf n==some .cell)=true;simp only [hc',if_true,AY,hy] at h;exact h;simp only [hc',BH,if_false,AY,hy] at h;exact h
theorem Zjk {env:Env}:∀{names:List (Str×Cb)} {y:Str},
  (names.map fun (n,k)=>if (k==BR&&env.scope.kind==.function&&env.kindOf n==some .cell) then (n,Gi) else (n,k)).lookup y=some .local->names.lookup y=some .local
 | [],_,h=>by simp at h
 | (n,kn)::r,y,h=>by
  rw [AH] at h;cases hy:y==n with
  | true =>rw [AY,hy];by_cases hc:(kn==BR&&env.scope.kind==.function&&env.kindOf n==some .cell)=true;simp only [hc,if_true,AY,hy] at h;cases h;simp only [hc,BH,if_false,AY,hy] at h;exact h
  | false =>rw [AY,hy];refine Zjk (env:=env) ?_;by_cases hc:(kn==BR&&env.scope.kind==.function&&env.kindOf n==some .cell)=true;simp only [hc,if_true,AY,hy] at h;exact h;simp only [hc,BH,if_false,AY,hy] at h;exact h
section
variable {R:Fd->Ac->Prop}
def Zva (ifs:List Expr)(env:Env):Sem Bool:=forIn ifs true fun c r=>if r=true then do let ok <- isTrue c env (AF c env);pure (Dq ok) else pure (Dq r)
theorem Ztb {it ac:Value}(W:Nat->Ac->Prop)
    (turn:∀n s,W n s->Az (AA P w) A (GQ it) (fun r s₁=>match r with
      | none=>R (.ok .next) s₁
      | some v=>Az (AA P w) A (DT tg it v) (fun _ s₁'=>Az (AA P w) A (Bu tg env v) (fun _ s₂ =>
          Az (AA P w) A (Zva ifs env) (fun ok s₃ =>
            if ok=true then Az (AA P w) A (AF elt env) (fun z s₄ =>
              Az (AA P w) A (call (.builtin "list.append") [ac,z]) (fun _ s₅=>∃m,m<n/\W m s₅) (fun _ _=>False) s₄) (fun _ _=>False) s₃
            else ∃m,m<n/\W m s₃) (fun _ _=>False) s₂) (fun _ _=>False) s₁') (fun _ _=>False) s₁) (fun _ _=>False) s)
    (n:Nat) (h:W n s) :
    Dj (AA P w) A (.compLoop (.ListComp elt [⟨tg,iter,ifs,0⟩] scope pos) 0 it ac env) R s:=by
  refine codeAny_loop rfl W (fun n s hI=>?_) n h;show Az _ A ((compTurn (.ListComp elt [⟨tg,iter,ifs,0⟩] scope pos) 0 it ac env).onRaise (fun z=>do EJ z env;theTreesLotGoes z)) _ _ s;refine wpAny_noted ?_;rw [compTurn_list];refine Av (Fp (Av (Bl (turn n s hI) (fun r s₁ h₁=>?_) fun _ _ h'=>h'.elim)));cases r with
  | none=>exact A6 h₁
  | some v =>
    refine Av (Bl h₁ (fun _ s₁' h₁'=>?_) fun _ _ h'=>h'.elim);refine Av (Bl h₁' (fun _ s₂ h₂=>Av (Bl h₂ (fun ok s₃ h₃=>?_) fun _ _ h'=>h'.elim)) fun _ _ h'=>h'.elim);cases ok with
    | false=>exact A6 (And.intro rfl h₃)
    | true =>exact Av (Av (Bl h₃ (fun x s₄ h₄=>Av (Bl h₄ (fun _ s₅ h₅=>A6 (A6 ⟨rfl,h₅⟩)) fun _ _ h'=>h'.elim)) fun _ _ h'=>h'.elim))
end
def PIf (X:Cx)(ifs:List Expr)(t:TT):Prop:=
 ∀(pins:List (Addr×Obj)) (s:Ac) (σ:St) (H:Hp) (Q:Bool->Hp->Prop),Inv X pins σ H s->t σ H Q->Az (AA X.prog X.w) X.A (Zva ifs X.env) (TP X pins σ Q) X.xe s
def Xjg:TT:=fun _ H Q=>Q true H
theorem Xgk :PIf X [] Xjg:=fun _ _ _ H _ I h=>A6 ⟨H,I,h⟩
theorem Xfo {t:TT}(h:PT X c t):PIf X [c] t:=fun pins s σ H Q I hw=>wpAny_tests_one (h pins s σ H Q I hw)
structure QIf (X:Cx)(ifs:List Expr)(t:TT):Prop where
 out:PIf X ifs t
theorem Zvc:QIf X [] Xjg:=⟨Xgk⟩
theorem Xjc (h:QT X c tc):QIf X [c] tc:=⟨Xfo h.out⟩
section
variable {a D:Addr}{Q:VK}{R:Hp->Prop}
end
@[reducible] def Cx.blkN (X:Cx)(N2 xs:List Str)(sc:Scope)(cl:List (Str×Addr))(C:Addr)(s0:Ac)(H0:Hp)(fp:List Addr):Cx:=
 {X with N:=N2++xs,s₀:=s0,H₀:=H0,env:=Fa sc cl C X.env,outer:=X.stack,ex:=fp,fn:=fun _=>false,pn:=[],xe:=fun _ _=>False}
structure Zur (sc esc:Scope)(xs N N2:List Str):Prop where
 kind:sc.kind=.function
 cell:∀y∈sc.names,y.2≠.cell
 loc:∀y∈sc.names,y.2=.local->sc.names.lookup y.1=some .local
 free:∀y∈sc.names,y.2=.free->esc.names.lookup y.1=some .cell\/esc.names.lookup y.1=some .free
 out:∀y∈N2,sc.names.lookup y≠some .local
 nd:N.Nodup
 len:N2.length=N.length
 ren:∀p∈N.zip N2,p.2=p.1\/sc.names.lookup p.2=none
def Zdx (k:Nat)(g:TG)(wi:TI)(tc:TT)(te:TE):TE:=fun σ H Q=>wi σ H fun J H1=>∀D,H1 D=none->∃W:Nat->Nat->Hp->Prop,(∃m,W 0 m (upd H1 D (.lst [])))/\∀i m H,W i m H->
  (J.stop i H/\Q (.ref D) H)\/(J.go i H/\∃N:Hp->Prop,(∀H',N H'->∃m',m'<m/\W (i+1) m' H')/\∀x H',J.yld i H x H'->∀os:St,os.length=k->g x (σ++os) H' fun σ' Hg=>(∃os',os'.length=k/\σ'=σ++os')/\tc σ' Hg fun b H2 =>
    if b=true then te σ' H2 fun v H3=>∃ys,H3 D=some (.lst ys)/\ys.length<Ak/\N (upd H3 D (.lst (ys++[v])))
    else N H2)
section
variable {xs:List Str}{g:TG}
theorem Zsw {s1:Ac}(B:Zur sc X.env.scope xs X.N N2)(I:Inv X pins σ H s)(hf:∀b∈fp,Zty X pins H b)
    (hfl:∀b∈fp,b<s.heap.objs.size) (hn:h'.Ns s.heap.objs.size m) (hk:∀b o,s.heap.get? b=some o->h'.get? b=some o) (e1:s1={s with heap:=h',toks:=tk}) :
    Inv (X.blkN N2 xs sc (Jl X.env.cells sc.names []) s.heap.objs.size s H fp) [] (σ++Aa xs.length none) H s1:=by
  subst e1;have hcl:∀y∈sc.names,y.2=.free->∃c,X.env.cells.lookup y.1=some c:=fun y hy hf=>I.ok.has y.1 (B.free y hy hf);have look:∀y c,(Jl X.env.cells sc.names []).lookup y=some c->X.env.cells.lookup y=some c:=fun y c h=>Zmg hcl (fun _ z=>by simp at z) h;have isfree:∀y,(FZ sc X.env).names.lookup y=some .cell\/(FZ sc X.env).names.lookup y=some .free->(y,BR)∈sc.names:=fun y hy=>by rcases hy with hy | hy;exact Zdv (env:=X.env) B.cell (.inl rfl) hy;exact Zdv (env:=X.env) B.cell (.inr rfl) hy
  refine ⟨⟨I.ok.mod,B.kind,I.ok.glob,I.ok.blt,AI _,fun y z c h1 h2=>I.ok.inj y z c (look y c h1) (look z c h2),fun y hy=>Zlu (isfree y hy),fun _ _ h=>(by cases h),I.ok.hd,I.ok.frames,.inl rfl,fun b hb=>?_,fun b o e=>?_,AT I.ok.bsz I.sz,fun b o e hb=>?_,fun b hb hs=>?_,I.stack,I.stkFree⟩,
    rfl,I.bare,Un.kept hk,⟨_,hn,fun i y v h1 h2 h3=>?_⟩,fun y c h=>?_,I.hok.fresh (AI _),fun y c h=>I.freeC y c (look y c h),fun p hp=>absurd (show p∈([]:List (Addr×Obj)) from hp) (by simp),I.hok.kept hk,?_⟩
  exact ⟨A8 (hfl b hb),fun y c h=>(hf b hb).2.2.2.2.1 y c (look y c h)⟩;exact I.bs b o e;rcases (hf b hb).2.2.2.1 with z | z;exact I.ok.noex b o e z;exact absurd (Ar (AN e) (AT I.ok.bsz z)) (Bg _);rcases Aj.mp (I.stkSub b hs) with z | z;exact (hf b hb).2.1 z;exact (hf b hb).2.2.1 z;have hlen:=I.len;have hl2:=B.len;have h1:(N2++xs)[i]?=some y:=h1;have h2:(σ++Aa xs.length none)[i]?=some (some v):=h2;have hi:i<X.N.length:=by by_cases hi:i<X.N.length;exact hi;rw [Bp (by omega)] at h2;have hm:=AU h2;rw [DD] at hm;exact absurd hm.2 (by intro z;cases z)
  rw [Au (by omega)] at h1;rw [Au (by omega)] at h2;have h3':(FZ sc X.env).names.lookup y=some .cell\/(FZ sc X.env).names.lookup y=some .free:=by rcases h3 with z | z;exact absurd (Zjk (env:=X.env) z) (B.out y (AU h1));exact z
  have hfr:=isfree y h3';have h1:X.N[i]?=some y:=by obtain ⟨z,hz⟩:∃z,X.N[i]?=some z:=⟨X.N[i],Al hi⟩;rcases B.ren (z,y) (AU (Dh.mpr ⟨hz,h1⟩)) with e | e;rw [hz,show y=z from e];exact absurd e (lookup_mem hfr)
  obtain ⟨m3,hn3,hl3⟩:=I.loc;have hv:X.env.scope.names.lookup y=some .cell\/X.env.scope.names.lookup y=some .free:=B.free (y,.free) hfr rfl;obtain ⟨u,ru,lk⟩:=hl3 i y v h1 h2 (.inr hv);refine ⟨u,ru,.inr ⟨h3',?_⟩⟩;rcases lk with ⟨k1,_⟩ | ⟨k1,c,ec,zc⟩;rcases hv with q | q;rw [show X.env.kindOf y=X.env.scope.names.lookup y from rfl,q] at k1;cases k1;rw [show X.env.kindOf y=X.env.scope.names.lookup y from rfl,q] at k1;cases k1;obtain ⟨c',e'⟩:=Zlu (cells:=X.env.cells) (cs:=[]) hfr;have e2:=look y c' e';rw [ec] at e2;cases e2;obtain ⟨o,ho,hd⟩:=zc;exact ⟨c,e',o,hk _ _ ho,hd⟩;obtain ⟨v,o,ho,hd⟩:=I.cell y c (look y c h);exact ⟨v,o,hk _ _ ho,hd⟩;show (σ++Aa xs.length none).length=(N2++xs).length;rw [Ao,Ao,I.len,B.len,Ct]
def Tk (H H':Hp):Prop:=∀b p q,H b=some (.tbl p q)->H' b=some (.tbl p q)
theorem Zqm {J:It}{Q:VK}(hc:X.calm=true)(B:Zur sc X.env.scope xs X.N N2)
    (hg:∀cl C s0 H0 fp,Tk X.H₀ H0->PG (X.blkN N2 xs sc cl C s0 H0 fp) tg g) (ht:∀cl C s0 H0 fp,Tk X.H₀ H0->PIf (X.blkN N2 xs sc cl C s0 H0 fp) ifs tc) (he:∀cl C s0 H0 fp,Tk X.H₀ H0->PE (X.blkN N2 xs sc cl C s0 H0 fp) elt te)
    (I2:Inv X pins σ H2 s2) (T:Turn X.prog X.w X.K tg J fp it tn) (st2:tn 0 s2.heap) (f2:∀b∈fp,Zty X pins H2 b)
    (hw:∀D,H2 D=none->∃W:Nat->Nat->Hp->Prop,(∃m,W 0 m (upd H2 D (.lst [])))/\∀i m H,W i m H->
      (J.stop i H/\Q (.ref D) H)\/(J.go i H/\∃N:Hp->Prop,(∀H',N H'->∃m',m'<m/\W (i+1) m' H')/\∀x H',J.yld i H x H'->∀os:St,os.length=xs.length->g x (σ++os) H' fun σ' Hg=>(∃os',os'.length=xs.length/\σ'=σ++os')/\tc σ' Hg fun b H2 =>
        if b=true then te σ' H2 fun v H3=>∃ys,H3 D=some (.lst ys)/\ys.length<Ak/\N (upd H3 D (.lst (ys++[v])))
        else N H2))
    (fin:∀(D C:Addr) (H':Hp) (s':Ac) (m:Str->Option Value),Inv X pins σ H' s'->s'.heap.Ns C m->Zty X pins H' C->Q (.ref D) H'->RR (.ref D) C (.ok .next) s') :
    Az (AA X.prog X.w) X.A (newList []) (fun acc s₃=>Az (AA X.prog X.w) X.A (newFunctionEnv sc X.env.globals (Jl X.env.cells sc.names []) [] X.env.qual none .none (some X.env)) (fun cenv s₄ =>
      Dj (AA X.prog X.w) X.A (.compStart (.ListComp elt [⟨tg,iter,ifs,0⟩] sc pos) 0 (.ref it) acc {cenv with scope:=FZ sc X.env}) (RR acc cenv.locals) s₄) E s₃) E s2:=by
  refine wpAny_newObj_type (wpAny_newFunctionEnv B.cell (by intro y hy;simp at hy) (fun h₁ hns₁ hsb₁=>?_) B.kind);have hD:H2 s2.heap.objs.size=none:=I2.fresh;obtain ⟨W,⟨m0,w0⟩,turn⟩:=hw _ hD;have I3:Inv X pins σ (upd H2 s2.heap.objs.size (.lst [])) {s2 with heap:=s2.heap.push {cls:=.type "list",data:=.seq ([]:List Value).toArray}}:=I2.lnew (its:=[]) (t':=s2.toks) .nil (D9 _);have fne:∀b∈fp,b<s2.heap.objs.size:=fun b hb=>by obtain ⟨o,ho,_⟩:=T.obj _ _ st2 b hb;exact AN ho
  generalize hs3:({s2 with heap:=s2.heap.push {cls:=.type "list",data:=.seq ([]:List Value).toArray}}:Ac)=s3 at I3;have hs3h:s3.heap=s2.heap.push {cls:=.type "list",data:=.seq ([]:List Value).toArray}:=by rw [<- hs3]
  have f3:∀b∈fp,Zty X pins (upd H2 s2.heap.objs.size (.lst [])) b:=fun b hb=>⟨by rw [Xs (A8 (fne b hb))];exact (f2 b hb).1,(f2 b hb).2⟩;have fl3:∀b∈fp,b<s3.heap.objs.size:=fun b hb=>by rw [hs3h,Heap.size_push];exact Nat.lt_succ_of_lt (fne b hb)
  have keep3:∀b o,s3.heap.get? b=some o->h₁.get? b=some o:=fun b o e=>by rw [hs3h] at e;refine hsb₁.extBut b o ?_ (AD _ e);exact A8 (AN e)
  have hns3:h₁.Ns s3.heap.objs.size (fun z=>([]:List (Str×Value)).reverse.lookup z):=by rw [hs3h];exact hns₁
  have I4:=Zsw (xs:=xs) (sc:=sc) (s1:={s3 with heap:=h₁,toks:=s3.toks+([]:List (Str×Value)).length}) B I3 f3 fl3 hns3 keep3 rfl;have st4:tn 0 h₁:=T.keep _ _ _ st2 fun b hb o e=>keep3 b o (by rw [hs3h];exact AD _ e);have stat:∀{H':Hp},(∀b∈fp,H' b=none)->∀b∈fp,Zty (X.blkN N2 xs sc (Jl X.env.cells sc.names []) s3.heap.objs.size s3 (upd H2 s2.heap.objs.size (.lst [])) fp) [] H' b:=fun hn b hb =>
    ⟨hn b hb,(I4.ok.exf b hb).1,I4.ok.exfs b hb,.inl hb,(I4.ok.exf b hb).2,fun p hp=>absurd (show p∈([]:List (Addr×Obj)) from hp) (by simp)⟩
  have tk:Tk X.H₀ (upd H2 s2.heap.objs.size (.lst [])):=fun b p q h=>I3.base.tbls b p q h;have loop:∀s4:Ac,s4={s3 with heap:=h₁,toks:=s3.toks+([]:List (Str×Value)).length}->
      Dj (AA X.prog X.w) X.A (.compLoop (.ListComp elt [⟨tg,iter,ifs,0⟩] sc pos) 0 (.ref it) (.ref s2.heap.objs.size) (Fa sc (Jl X.env.cells sc.names []) s3.heap.objs.size X.env)) (RR (.ref s2.heap.objs.size) s3.heap.objs.size) s4:=by
    rintro s4 rfl;refine Ztb (fun n s'=>∃(i:Nat) (o:St) (H':Hp),o.length=xs.length/\Inv (X.blkN N2 xs sc (Jl X.env.cells sc.names []) s3.heap.objs.size s3 (upd H2 s2.heap.objs.size (.lst [])) fp) [] (σ++o) H' s'/\tn i s'.heap/\(∀b∈fp,H' b=none)/\W i n H') ?_ m0
      ⟨0,Aa xs.length none,_,by simp,I4,st4,fun b hb=>(f3 b hb).1,w0⟩
    rintro n s5 ⟨i,o,H5,ol5,I5,st5,fr5,w5⟩;rcases turn i n H5 w5 with ⟨stop,qn⟩ | ⟨go,N,hN,step⟩;refine thn (T.done (X.blkN N2 xs sc (Jl X.env.cells sc.names []) s3.heap.objs.size s3 (upd H2 s2.heap.objs.size (.lst [])) fp) rfl rfl rfl hc i [] s5 (σ++o) H5 _ I5 (stat fr5) st5 stop) fun r s6 ⟨hr,I6⟩=>?_;subst hr;obtain ⟨m6,hn6,_⟩:=I6.loc;refine fin _ _ H5 s6 m6 ?_ hn6 (I3.fpOk (AI _) I6.free) qn;exact I3.call' (ch:=fp) I6.os I6.base I6.hok I6.bare fun b hb=>⟨(f3 b hb).2.2.2.1,(f3 b hb).2.1,(f3 b hb).2.2.2.2.1,(f3 b hb).2.2.2.2.2⟩;refine thn (T.item (X.blkN N2 xs sc (Jl X.env.cells sc.names []) s3.heap.objs.size s3 (upd H2 s2.heap.objs.size (.lst [])) fp) rfl rfl rfl hc i [] s5 (σ++o) H5 _ I5 (stat fr5) st5 go) fun r s6 ⟨u,hr,h6⟩=>?_;subst hr;refine thn h6 fun _ s7 hz9=>?_;obtain ⟨v,H7,I7,r7,y7,st7,fr7⟩:=hz9;have I7':=I7.pinned (stat fr7) (T.obj _ _ st7);refine thn (hg _ _ _ _ _ tk _ s7 _ H7 v u _ I7' r7 (step v H7 y7 o ol5)) fun _ s8 ⟨σ8,H8,I8,⟨os',ol8,e8⟩,q8⟩=>?_;subst e8;have G4:∀{H9:Hp} {s9:Ac},Inv (X.blkN N2 xs sc (Jl X.env.cells sc.names []) s3.heap.objs.size s3 (upd H2 s2.heap.objs.size (.lst [])) fp) ([]++Zng fp s7.heap) (σ++os') H9 s9->N H9->
        ∃m,m<n/\∃(i:Nat) (o:St) (H':Hp),o.length=xs.length/\Inv (X.blkN N2 xs sc (Jl X.env.cells sc.names []) s3.heap.objs.size s3 (upd H2 s2.heap.objs.size (.lst [])) fp) [] (σ++o) H' s9/\tn i s9.heap/\(∀b∈fp,H' b=none)/\W i m H':=fun {H9 s9} I9 n9=>by
      obtain ⟨m',hm,w9⟩:=hN H9 n9;refine ⟨m',hm,i+1,os',H9,ol8,I9.unpinned,T.keep _ _ _ st7 fun b hb o e=>(I9.pin (b,o) (Ai _ (Ai _ (Zef hb e)))).1,fun b hb=>?_,w9⟩;obtain ⟨o,e,d⟩:=T.obj _ _ st7 b hb;exact (I9.pin (b,o) (Ai _ (Ai _ (Zef hb e)))).2.1
    refine thn (ht _ _ _ _ _ tk _ s8 _ H8 _ I8 q8) fun ok s9 ⟨H9,I9,q9⟩=>?_;cases ok with
    | false =>rw [if_neg AC] at q9 ⊢;exact G4 I9 q9
    | true =>rw [if_pos rfl] at q9 ⊢;refine thn (he _ _ _ _ _ tk _ s9 _ H9 _ I9 q9) fun ue s10 hz9=>?_;obtain ⟨ve,H10,I10,r10,ys,hy,hz,q10⟩:=hz9;refine thn (Zhv _ s10 _ H10 (.ref s2.heap.objs.size) [ve] (.ref s2.heap.objs.size) [ue] (fun _ H'=>N H') I10 rfl (.cons r10 .nil) ⟨_,ys,ve,rfl,rfl,hy,hz,q10⟩) fun _ s11 hz9=>?_;obtain ⟨_,H11,I11,_,q11⟩:=hz9;exact G4 I11 q11
  have fin':Dj (AA X.prog X.w) X.A (.compStart (.ListComp elt [⟨tg,iter,ifs,0⟩] sc pos) 0 (.ref it) (.ref s2.heap.objs.size) (Fa sc (Jl X.env.cells sc.names []) s3.heap.objs.size X.env)) (RR (.ref s2.heap.objs.size) s3.heap.objs.size) {s3 with heap:=h₁,toks:=s3.toks+([]:List (Str×Value)).length}:=codeAny_compStart_list (loop _ rfl) (T.self _ 0 _ _ _ st4 (loop _ rfl));exact fin'
theorem Xbw (hc:X.calm=true)(B:Zur sc X.env.scope xs X.N N2)(hi:PI X tg iter wi)(hg:∀cl C s0 H0 fp,Tk X.H₀ H0->PG (X.blkN N2 xs sc cl C s0 H0 fp) tg g)(ht:∀cl C s0 H0 fp,Tk X.H₀ H0->PIf (X.blkN N2 xs sc cl C s0 H0 fp) ifs tc)(he:∀cl C s0 H0 fp,Tk X.H₀ H0->PE (X.blkN N2 xs sc cl C s0 H0 fp) elt te)
  (hs:∀v,AQ iter X.env v=pure v:=by intro _;rfl):PE X (.ListComp elt [⟨tg,iter,ifs,0⟩] sc pos) (Zdx xs.length g wi tc te):=by
 intro pins s σ H Q I h;rw [eval_ListComp];have hcl:∀y∈sc.names,y.2=.free->∃c,X.env.cells.lookup y.1=some c:=fun y hy hf=>I.ok.has y.1 (B.free y hy hf);refine Fq (use:=none) rfl hs (Zet hcl) B.kind B.loc (thn (hi pins s σ H _ I h) fun v s1 h1=>thn h1 fun itv s2 h2=>?_);obtain ⟨it,fp,tn,J,H2,e,I2,T,st2,f2,hw⟩:=h2;subst e;refine Zqm (RR:=fun acc C=>compPost (AA X.prog X.w) X.A X.xe none (EP X pins σ Q) acc C) hc B hg ht he I2 T st2 f2 hw ?_;intro D C H' s' m I' hn hC q;obtain ⟨c0,c1,c2,c3,c4,c5⟩:=hC;refine ⟨m,hn,fun h'' hs''=>⟨.ref D,H',?_,rfl,q⟩⟩;exact I'.turned (t':=s'.toks) (fun b o hb e=>hs''.extBut b o hb e) c0 c1 c3 c4 c5
theorem Xcm {i:Nat}(hc:X.calm=true)(B:Zur sc X.env.scope xs X.N N2)(hi:PI X tg iter wi)(hg:∀cl C s0 H0 fp,Tk X.H₀ H0->PG (X.blkN N2 xs sc cl C s0 H0 fp) tg g)(ht:∀cl C s0 H0 fp,Tk X.H₀ H0->PIf (X.blkN N2 xs sc cl C s0 H0 fp) ifs tc)(he:∀cl C s0 H0 fp,Tk X.H₀ H0->PE (X.blkN N2 xs sc cl C s0 H0 fp) elt te)
    (hy:X.N[i]?=some y) (hl:X.env.scope.names.lookup y=some .local) (hsw:BS (.ListComp elt [⟨tg,iter,ifs,0⟩] sc pos) (some (.Name y py)) spos.line X.env=pure true:=by rfl)
    (hs:∀v,AQ iter X.env v=pure v:=by intro _;rfl):PS X (.Assign [.Name y py] (.ListComp elt [⟨tg,iter,ifs,0⟩] sc pos) spos) (Zfs (Zdx xs.length g wi tc te) (Zac i)):=by
  intro pins s σ H D I h;have hx:=exec_Assign_Name_used (env:=X.env) _ _ _ _ hsw;rw [hx];refine Av (Fp ?_);refine Av ?_;show Az _ X.A (do let _ <- comprehension (.ListComp elt [⟨tg,iter,ifs,0⟩] sc pos) sc X.env _ (newList []) false (AF iter X.env) (some (Bu (.Name y py) X.env))) _ _ s;have hcl:∀y∈sc.names,y.2=.free->∃c,X.env.cells.lookup y.1=some c:=fun y hy hf=>I.ok.has y.1 (B.free y hy hf);refine Av (Bl (Fq (use:=some (Bu (.Name y py) X.env)) (Q:=fun _ s'=>SP X pins D .next s') rfl hs (Zet hcl) B.kind B.loc
    (thn (hi pins s σ H _ I h) fun v s1 h1=>thn h1 fun itv s2 h2=>?_)) (fun _ s' hq=>A6 (A6 hq)) fun _ _ e=>e)
  obtain ⟨it,fp,tn,J,H2,e,I2,T,st2,f2,hw⟩:=h2;subst e;refine Zqm (Q:=fun v H1=>Zac i v σ H1 D.nx) (RR:=fun acc C=>compPost (AA X.prog X.w) X.A X.xe (some (Bu (.Name y py) X.env)) (fun _ s'=>SP X pins D .next s') acc C) hc B hg ht he I2 T st2 f2 hw ?_;intro E C H' s' m I' hn hC q;obtain ⟨c0,c1,c2,c3,c4,c5⟩:=hC;show Az _ X.A (Bu (.Name y py) X.env (.ref E)) _ _ _;refine G0 (Zoc (v:=.ref E) I' B.nd hy (.inl hl) rfl (fun s8 I8 ⟨a,sb,ha⟩=>?_) (.inr hl));have hCa:C≠a:=by rcases ha with z | z;rw [z];exact c1;exact fun z'=>c4 _ _ z z'.symm
  refine ⟨m,hn.sameBut sb hCa,fun h'' hs''=>⟨_,H',?_,q⟩⟩;exact I8.turned (t':=s8.toks) (fun b o hb e=>hs''.extBut b o hb e) c0 c1 c3 c4 c5
theorem Zxy (esc:Scope)(N N2 xs:List Str)(B:Zur sc esc xs N N2)(hi:QI X tg iter wi)(hg:∀cl C s0 H0 fp,Tk X.H₀ H0->QG (X.blkN N2 xs sc cl C s0 H0 fp) tg g)(ht:∀cl C s0 H0 fp,Tk X.H₀ H0->QIf (X.blkN N2 xs sc cl C s0 H0 fp) ifs tc)(he:∀cl C s0 H0 fp,Tk X.H₀ H0->QE (X.blkN N2 xs sc cl C s0 H0 fp) elt te)
  (hesc:X.env.scope=esc:=by rfl) (hN:X.N=N:=by rfl) (hc:X.calm=true:=by rfl) (hs:∀v,AQ iter X.env v=pure v:=by intro _;rfl):QE X (.ListComp elt [⟨tg,iter,ifs,0⟩] sc pos) (Zdx xs.length g wi tc te):=by
 subst hesc hN;exact ⟨Xbw hc B hi.out (fun cl C s0 H0 fp z=>(hg cl C s0 H0 fp z).out) (fun cl C s0 H0 fp z=>(ht cl C s0 H0 fp z).out) (fun cl C s0 H0 fp z=>(he cl C s0 H0 fp z).out) hs⟩
theorem Xcp (esc:Scope)(N N2 xs:List Str)(B:Zur sc esc xs N N2)(hi:QI X tg iter wi)(hg:∀cl C s0 H0 fp,QG (X.blkN N2 xs sc cl C s0 H0 fp) tg g)(ht:∀cl C s0 H0 fp,QIf (X.blkN N2 xs sc cl C s0 H0 fp) ifs tc)(he:∀cl C s0 H0 fp,QE (X.blkN N2 xs sc cl C s0 H0 fp) elt te)
  (hesc:X.env.scope=esc:=by rfl) (hN:X.N=N:=by rfl) (hc:X.calm=true:=by rfl) (hs:∀v,AQ iter X.env v=pure v:=by intro _;rfl):QE X (.ListComp elt [⟨tg,iter,ifs,0⟩] sc pos) (Zdx xs.length g wi tc te):=
 Zxy esc N N2 xs B hi (fun cl C s0 H0 fp _=>hg cl C s0 H0 fp) (fun cl C s0 H0 fp _=>ht cl C s0 H0 fp) (fun cl C s0 H0 fp _=>he cl C s0 H0 fp) hesc hN hc hs
theorem Zyu {i:Nat}(esc:Scope)(N N2 xs:List Str)(B:Zur sc esc xs N N2)(hy:N[i]?=some y)(hl:esc.names.lookup y=some .local)(hi:QI X tg iter wi)(hg:∀cl C s0 H0 fp,Tk X.H₀ H0->QG (X.blkN N2 xs sc cl C s0 H0 fp) tg g)(ht:∀cl C s0 H0 fp,Tk X.H₀ H0->QIf (X.blkN N2 xs sc cl C s0 H0 fp) ifs tc)(he:∀cl C s0 H0 fp,Tk X.H₀ H0->QE (X.blkN N2 xs sc cl C s0 H0 fp) elt te)
  (hesc:X.env.scope=esc:=by rfl) (hN:X.N=N:=by rfl) (hc:X.calm=true:=by rfl) (hsw:BS (.ListComp elt [⟨tg,iter,ifs,0⟩] sc pos) (some (.Name y py)) spos.line X.env=pure true:=by rfl)
  (hs:∀v,AQ iter X.env v=pure v:=by intro _;rfl):QS X (.Assign [.Name y py] (.ListComp elt [⟨tg,iter,ifs,0⟩] sc pos) spos) (Zfs (Zdx xs.length g wi tc te) (Zac i)):=by
 subst hesc hN;exact ⟨Xcm hc B hi.out (fun cl C s0 H0 fp z=>(hg cl C s0 H0 fp z).out) (fun cl C s0 H0 fp z=>(ht cl C s0 H0 fp z).out) (fun cl C s0 H0 fp z=>(he cl C s0 H0 fp z).out) hy hl hsw hs⟩
theorem Zsi {i:Nat}(esc:Scope)(N N2 xs:List Str)(B:Zur sc esc xs N N2)(hy:N[i]?=some y)(hl:esc.names.lookup y=some .local)(hi:QI X tg iter wi)(hg:∀cl C s0 H0 fp,QG (X.blkN N2 xs sc cl C s0 H0 fp) tg g)(ht:∀cl C s0 H0 fp,QIf (X.blkN N2 xs sc cl C s0 H0 fp) ifs tc)(he:∀cl C s0 H0 fp,QE (X.blkN N2 xs sc cl C s0 H0 fp) elt te)
  (hesc:X.env.scope=esc:=by rfl) (hN:X.N=N:=by rfl) (hc:X.calm=true:=by rfl) (hsw:BS (.ListComp elt [⟨tg,iter,ifs,0⟩] sc pos) (some (.Name y py)) spos.line X.env=pure true:=by rfl)
  (hs:∀v,AQ iter X.env v=pure v:=by intro _;rfl):QS X (.Assign [.Name y py] (.ListComp elt [⟨tg,iter,ifs,0⟩] sc pos) spos) (Zfs (Zdx xs.length g wi tc te) (Zac i)):=
 Zyu esc N N2 xs B hy hl hi (fun cl C s0 H0 fp _=>hg cl C s0 H0 fp) (fun cl C s0 H0 fp _=>ht cl C s0 H0 fp) (fun cl C s0 H0 fp _=>he cl C s0 H0 fp) hesc hN hc hsw hs
end
theorem Zxd (bt:Nat->Nat->Bool):∀k,EB bt k<=k
 | 0=>AI _
 | k+1=>by rw [EB];have:=Zxd bt k;split<;>omega
section
variable {Q:VK}{D:Ends}
variable {e o i':Expr}{ti:TE}{tb:TS}
theorem Xme {i:Nat}(hN:X.N.Nodup)(hi:X.N[i]?=some x)(hx:Loc X.env.scope x)(he:QE X e te)(ho:PIp X op tp)(hf:autoParam (X.fn x=true\/X.env.scope.names.lookup x=some .local) aT0._auto_1) :
  QS X (.AugAssign (.Name x pos') op e pos) (tAug i te tp):=⟨Xps hN hi hx he.out ho hf⟩
theorem Zgq {t:TSet}(ho:QE X o to)(hi:QE X i' ti)(hs:PSet X t)
    (ha:∀v,Bu (.Subscript o i' pos) X.env v=(do
      let ov <- A5 [v] (AF o X.env)
      let iv <- A5 [v,ov] (AF i' X.env)
      CI pos
      A5 [v,ov,iv] (CV ov iv v)
      Dy [v,ov,iv] []):=by intro _;rfl):QG X (.Subscript o i' pos) (Zbg to ti t):=⟨Xmh ho.out hi.out hs ha⟩
end
section
variable {e:Expr}{p p':Pos}
variable {Q:VK}
end
theorem range_any (bs:List Bool):(AJ bs.length).any (fun i=>bs.getD i false)=bs.any id:=by
 refine Cc.mpr ⟨fun h=>CF.mpr ?_,fun h=>CF.mpr ?_⟩
 all_goals obtain ⟨i,hi,h⟩:=CF.mp h
 ·have hl:i<bs.length:=BE.mp hi;refine ⟨bs[i],BC hl,?_⟩;simpa [A4,hl] using h
 ·obtain ⟨j,hj,e⟩:=DK.mp hi;refine ⟨j,BE.mpr hj,?_⟩;have e2:bs.getD j false=bs[j]:=by simp [A4,hj]
  rw [e2,e];exact h
theorem range_all (bs:List Bool):(AJ bs.length).all (fun i=>bs.getD i false)=bs.all id:=by
 refine Cc.mpr ⟨fun h=>CG.mpr fun b hb=>?_,fun h=>CG.mpr fun i hi=>?_⟩;have h:=CG.mp h;obtain ⟨i,hi,e⟩:=DK.mp hb;have q:=h i (BE.mpr hi);have e2:bs.getD i false=bs[i]:=by simp [A4,hi]
 rw [e2,e] at q;exact q;have hl:i<bs.length:=BE.mp hi;have e2:bs.getD i false=bs[i]:=by simp [A4,hl]
 rw [e2];exact CG.mp h _ (BC hl)
def Xbb (K:AE):List V->Hp->VK->Prop:=fun xs H Q=>∃(p:Addr) (bs:List Bool),xs=[.ref p]/\SqL K H p (bs.map V.bl)/\Q (.bl (bs.any id)) H
def Xdn (K:AE):List V->Hp->VK->Prop:=fun xs H Q=>∃(p:Addr) (bs:List Bool),xs=[.ref p]/\SqL K H p (bs.map V.bl)/\Q (.bl (bs.all id)) H
section
theorem Xel {bs:List Bool}(rv:Yw (bs.map V.bl) its):TruthOf prog w A (fun i v=>its.toArray[i]?=some v) (fun i=>bs.getD i false):=by
  intro i v s Q E hv hQ;have hl:=rv.length;rw [Ae] at hl;have hv':its[i]?=some v:=by simpa using hv
  have hi:i<its.length:=(Ah.mp hv').1;obtain ⟨u,e,ru⟩:=rv.get (i:=i) (x:=V.bl (bs.getD i false)) (by
    rw [Bh,Al (by omega)];simp [A4,show i<bs.length by omega])
  rw [hv'] at e;cases e;cases (show v=BW (bs.getD i false) from ru);exact CH hQ
theorem Zym (hc:X.calm=true):Zar X (.builtin "any") (Xbb X.K):=by intro pins s σ H xs us Q I r h;obtain ⟨p,bs,rfl,hq,q⟩:=h;obtain ⟨u,rfl,rx⟩:=vals1 r;cases rx;obtain ⟨its,rv,pl,hz⟩:=I.list hq;have hl:=pl.isList;have hlen:=rv.length;rw [Ae] at hlen;obtain ⟨oa,hoa,_⟩:=id hl;have hlt:p<s.heap.objs.size:=AN hoa;refine call_any_walk (Dw pl.isList ⟨_,_,_,_,_,_,fun i=>bs.getD i false,rfl,Ft (A:=X.A.in1) (I.ok.hd hc) s.heap.objs.size p (A8 hlt) its.toArray,⟨⟨_,BP _ rfl,rfl,rfl⟩,hl.push _⟩,Xel rv,fun h' tk hk=>⟨.bl (bs.any id),H,I.kept (old_kept hk),?_,q⟩⟩);show BW _=BW _;rw [Ay,<- hlen,range_any]
theorem Zwv (hc:X.calm=true):Zar X (.builtin "all") (Xdn X.K):=by intro pins s σ H xs us Q I r h;obtain ⟨p,bs,rfl,hq,q⟩:=h;obtain ⟨u,rfl,rx⟩:=vals1 r;cases rx;obtain ⟨its,rv,pl,hz⟩:=I.list hq;have hl:=pl.isList;have hlen:=rv.length;rw [Ae] at hlen;obtain ⟨oa,hoa,_⟩:=id hl;have hlt:p<s.heap.objs.size:=AN hoa;refine call_all_walk (Dw pl.isList ⟨_,_,_,_,_,_,fun i=>bs.getD i false,rfl,Ft (A:=X.A.in1) (I.ok.hd hc) s.heap.objs.size p (A8 hlt) its.toArray,⟨⟨_,BP _ rfl,rfl,rfl⟩,hl.push _⟩,Xel rv,fun h' tk hk=>⟨.bl (bs.all id),H,I.kept (old_kept hk),?_,q⟩⟩);show BW _=BW _;rw [Ay,<- hlen,range_all]
variable {Q:VK}
theorem Xky {bs:List Bool}(h:SqL K H p (bs.map V.bl))(q:Q (.bl (bs.any id)) H):Xbb K [.ref p] H Q:=⟨p,bs,rfl,h,q⟩
theorem Xhl {bs:List Bool}(h:SqL K H p (bs.map V.bl))(q:Q (.bl (bs.all id)) H):Xdn K [.ref p] H Q:=⟨p,bs,rfl,h,q⟩
end
def rIsA (neg:Bool):R2:=fun x y H Q=>(y=.non/\Q (.bl (if neg then !decide (x=.non) else decide (x=.non))) H)\/∃b c,x=.bl b/\y=.bl c/\Q (.bl (if neg then !(b==c) else b==c)) H
section
theorem Xev:OpR X (A9 .Is) (rIsA false):=by intro pins s σ H x y v u Q I rx ry h;rcases h with ⟨rfl,q⟩ | ⟨b,c,rfl,rfl,q⟩;exact Xom pins s σ H x .non v u Q I rx ry ⟨rfl,q⟩;cases (show v=BW b from rx);cases (show u=BW c from ry);refine wpAny_is_plain (by cases b<;>cases c<;>rfl) ⟨.bl (b==c),H,I,?_,q⟩;cases b<;>cases c<;>rfl
theorem Zuq:OpR X (A9 .IsNot) (rIsA true):=by intro pins s σ H x y v u Q I rx ry h;rcases h with ⟨rfl,q⟩ | ⟨b,c,rfl,rfl,q⟩;exact Xks pins s σ H x .non v u Q I rx ry ⟨rfl,q⟩;cases (show v=BW b from rx);cases (show u=BW c from ry);refine wpAny_isNot_plain (by cases b<;>cases c<;>rfl) ⟨.bl (!(b==c)),H,I,?_,q⟩;cases b<;>cases c<;>rfl
variable {Q:VK}
end
def Dk {α:Type}:Sem α->Prop
 | .pure _=>True
 | .raise _=>True
 | .unsupported _=>True
 | .finish _=>True
 | .rule _ k=>Dk (k ())
 | .at _ k=>Dk (k ())
 | .load _ _ k=>∀o,Dk (k o)
 | .update _ _ f k=>(∀o:Obj,o.isFreed=false->(f o).isFreed=false/\(f o).dict=o.dict)/\Dk (k ())
 | .alloc _ k=>∀a,Dk (k a)
 | .loadIfAlive _ k=>∀o,Dk (k o)
 | .point _ k=>Dk (k ())
 | .fresh k=>∀a,Dk (k a)
 | .ask k=>∀a,Dk (k a)
 | .choose _ _ k=>∀a,Dk (k a)
 | .os _ _ k=>∀a,Dk (k a)
 | .handled _ k=>∀a,Dk (k a)
 | .stack k=>∀a,Dk (k a)
 | .thread k=>∀a,Dk (k a)
 | .register _ _=>False
 | .call ..=>False
 | .newGen ..=>False
 | .genState ..=>False
 | .resume ..=>False
 | .yield ..=>False
 | .fork ..=>False
 | .await ..=>False
theorem Dk.bind {α β:Type}{f:α->Sem β}(hf:∀a,Dk (f a)){t:Sem α}(h:Dk t):Dk (t.bind f):=by
 induction t with
 | pure a=>exact hf a
 | raise _=>trivial
 | unsupported _=>trivial
 | finish _=>trivial
 | rule _ k ih=>exact ih () h
 | «at» _ k ih=>exact ih () h
 | load _ _ k ih=>exact fun o=>ih o (h o)
 | update _ _ _ k ih=>exact ⟨h.1,ih () h.2⟩
 | alloc _ k ih=>exact fun o=>ih o (h o)
 | loadIfAlive _ k ih=>exact fun o=>ih o (h o)
 | point _ k ih=>exact ih () h
 | register _ _ _=>exact h.elim
 | fresh k ih=>exact fun o=>ih o (h o)
 | ask k ih=>exact fun o=>ih o (h o)
 | choose _ _ k ih=>exact fun o=>ih o (h o)
 | os _ _ k ih=>exact fun o=>ih o (h o)
 | call _ _ _ _ _ _=>exact h.elim
 | handled _ k ih=>exact fun o=>ih o (h o)
 | newGen _ _ _=>exact h.elim
 | genState _ _ _=>exact h.elim
 | resume _ _ _ _ _=>exact h.elim
 | yield _ _ _ _ _=>exact h.elim
 | stack k ih=>exact fun o=>ih o (h o)
 | fork _ _ _=>exact h.elim
 | thread k ih=>exact fun o=>ih o (h o)
 | await _ _ _ _ _ _=>exact h.elim
def Zgr (s:Ac)(e:Addr)(d:Option Addr):Prop:=∃o,s.heap.get? e=some o/\o.dict=d
theorem Zpo {a:Addr}{f:Obj->Obj}(he:h.get? e=some o)(hf:∀o:Obj,o.isFreed=false->(f o).isFreed=false/\(f o).dict=o.dict):∃o',(h.update a f).get? e=some o'/\o'.dict=o.dict:=by by_cases q:a=e;subst q;have nf:o.isFreed=false:=(Heap.get?_some_iff.mp he).2;exact ⟨f o,Fj f he (hf o nf).1,(hf o nf).2⟩;exact ⟨o,by rw [DB _ _ q];exact he,rfl⟩
theorem Dk.wp {α:Type}{M:Model}{Γ:PySem.Ctx}{e:Addr}{d:Option Addr}{t:Sem α}{Q:α->Pos->Ac->Prop}{E:Value->Pos->Ac->Prop}{p:Pos}{s:Ac}(hk:Dk t)(h:Sem.wp M Γ t Q E p s)(hd:Zgr s e d) :
  Sem.wp M Γ t (fun a p' s'=>Q a p' s'/\Zgr s' e d) (fun x p' s'=>E x p' s'/\Zgr s' e d) p s:=by
 induction t generalizing p s with
 | pure a=>exact ⟨h,hd⟩
 | raise _=>exact ⟨h,hd⟩
 | unsupported _=>exact h.elim
 | finish _=>exact h.elim
 | rule _ k ih=>exact ih () hk h hd
 | «at» _ k ih=>exact ih () hk h hd
 | load _ _ k ih =>obtain ⟨o,h1,h2⟩:=h;exact ⟨o,h1,ih o (hk o) h2 hd⟩
 | update a _ f k ih =>obtain ⟨o,h1,h2⟩:=hd;obtain ⟨o',g1,g2⟩:=Zpo (a:=a) h1 hk.1;exact ⟨h.1,ih () hk.2 h.2 ⟨o',g1,g2.trans h2⟩⟩
 | alloc _ k ih =>obtain ⟨o,h1,h2⟩:=hd;exact ih _ (hk _) h ⟨o,AD _ h1,h2⟩
 | loadIfAlive _ k ih=>exact ih _ (hk _) h hd
 | point _ k ih=>exact ih () hk h hd
 | register _ _ _=>exact hk.elim
 | fresh k ih=>exact ih _ (hk _) h hd
 | ask k ih=>exact ih _ (hk _) h hd
 | choose _ _ k ih=>exact ⟨h.1,ih _ (hk _) h.2 hd⟩
 | os _ _ k ih=>exact ih _ (hk _) h hd
 | call _ _ _ _ _ _=>exact hk.elim
 | handled _ k ih=>exact ih _ (hk _) h hd
 | newGen _ _ _=>exact hk.elim
 | genState _ _ _=>exact hk.elim
 | resume _ _ _ _ _=>exact hk.elim
 | yield _ _ _ _ _=>exact hk.elim
 | stack k ih=>exact ih _ (hk _) h hd
 | fork _ _ _=>exact hk.elim
 | thread k ih=>exact ih _ (hk _) h hd
 | await _ _ _ _ _ _=>exact hk.elim
theorem Dk.any {t:Sem α}{Q:α->Ac->Prop}(hk:Dk t)(h:Az M A t Q E s)(hd:Zgr s e d):Az M A t (fun a s'=>Q a s'/\Zgr s' e d) (fun x s'=>E x s'/\Zgr s' e d) s:=fun Γ p hΓ=>hk.wp (h Γ p hΓ) hd
theorem Zps (v:Value):Dk (fieldsOf v):=by
 unfold fieldsOf;cases v<;>first | trivial | skip
 refine Dk.bind (t:=PySem.load _) (fun o=>?_) (fun _=>trivial);cases o.data<;>trivial
theorem Zhl (v:Value)(i:Nat):Dk (field v i):=Dk.bind (fun vs=>by
  cases vs[i]?<;>trivial) (Zps v)
theorem Xaa (f:Array Value->Array Value)(o:Obj)(h:o.isFreed=false):(G8 f o).isFreed=false/\(G8 f o).dict=o.dict:=by rcases o with ⟨c,d,data,sl⟩;cases data<;>exact ⟨h,rfl⟩
theorem Zfb (v:Value)(i:Nat)(x:Value):Dk (HS v i x):=by
 unfold HS;cases v<;>first | trivial | skip
 rename_i a;show Dk (updateField a i x);unfold updateField;refine Dk.bind (t:=PySem.load _) (fun o=>?_) (fun _=>trivial);cases o.data<;>first | trivial | skip
 rename_i vs;show Dk (if i<vs.size then _ else _);split;exact ⟨fun o h=>Xaa _ o h,trivial⟩;trivial
theorem Zoe (e:Value)(f:Option Addr):Dk (setFlight e f):=Dk.bind (fun tb=>by
  show Dk (if (tb != DW)=true then _ else _);split;exact Zfb _ _ _
  · trivial) (Zhl e 1)
theorem Zxg (env:Env)(outer:List Env):Dk (HW env outer):=by unfold HW;split;trivial;split;trivial;refine Dk.bind (fun _=>?_) (Zhl _ _);trivial
theorem Xhr (env:Env)(b:Bool):∀l:List Env,Dk (keptBack env b l)
 | []=>by show Dk (if (env.scope.isGenerator||env.scope.isCoroutine)=true then _ else _);split;trivial;refine Dk.bind (t:=underTheClaimsCaller) (fun _=>?_) (Dk.bind (t:=PySem.stack) (fun _=>?_) fun _=>trivial);trivial;trivial
 | _::_=>trivial
theorem Zse:∀l:List Env,Dk (readyFrames l)
 | []=>trivial
 | env::outer=>by
  unfold readyFrames;cases env.frame with
  | none=>trivial
  | some f =>refine Dk.bind (t:=PySem.load f) (fun o=>?_) fun _=>trivial;split;trivial;refine Dk.bind (fun b=>?_) (Zxg env outer);refine Dk.bind (fun k=>?_) (Xhr env b outer);refine Dk.bind (t:=PySem.update f _) (fun _=>Zse outer) ⟨fun o h=>by rcases o with ⟨c,d,data,sl⟩;cases data<;>exact ⟨h,rfl⟩,trivial⟩
theorem Zju (l:List Env):Dk (frameObject l):=by
 cases l with
 | nil=>trivial
 | cons e l =>refine Dk.bind (fun _=>?_) (Zse (e::l));trivial
theorem Zuc (env:Env):Dk (PySem.frameOf env):=by unfold PySem.frameOf;refine Dk.bind (t:=frameEnvs) (fun l=>?_) (Dk.bind (t:=PySem.stack) (fun _=>?_) fun _=>trivial);refine Dk.bind (fun o=>?_) (Zju _);cases o<;>trivial;trivial
theorem Xcj (f:Addr)(b:Bool):Dk (Gd f b):=by unfold Gd;refine Dk.bind (t:=PySem.stack) (fun acts=>?_) fun _=>trivial;split<;>trivial
theorem Zmi (ty:String)(vs:List Value):Dk (newFields ty vs):=by
 have h:Dk (newObjAsIs (.type ty) (.fields vs.toArray)):=by unfold newObjAsIs;refine Dk.bind (t:=PySem.alloc _) (fun _=>?_) fun _=>trivial;trivial
 show Dk (if vs.toArray.size > Ak+2 then _ else _);split;trivial;exact h
theorem Xji (e:Value)(env:Env):Dk (EJ e env):=by
 unfold EJ;cases env.frame with
 | none=>trivial
 | some f =>
  have last:∀head:Value,Dk (do HS e 1 (<- Ik head (<- PySem.frameOf env) .none (F0 f) .none (<- Gd f (head != .none)))):=fun head =>
   Dk.bind (fun fr=>Dk.bind (fun pl=>Dk.bind (fun b=>Zfb _ _ _) (Zmi _ _)) (Xcj _ _)) (Zuc env)
  refine Dk.bind (fun head=>?_) (Zhl e 1);split;refine Dk.bind (fun x=>?_) (Zhl head 3);split;trivial;exact Dk.bind (fun _=>last head) (Zfb _ _ _);exact last head
theorem Zsy (env:Env)(e:Value):Dk (Gb env e):=Dk.bind (fun _=>Zoe _ _) (Xji e env)
theorem Jt.ob {P:Aw}{w:AS}{H:Hp}{h:AZ}{a:Addr}{o:HO}(x:Jt P w H h a o):∃ob,h.get? a=some ob:=by
 cases o with
 | lst xs=>obtain ⟨_,its,n,_,e⟩:=x;exact ⟨_,e⟩
 | tup xs=>obtain ⟨_,its,_,ob,e,_⟩:=x;exact ⟨ob,e⟩
 | dK kvs=>obtain ⟨_,_,vs,_,ob,es,ep,e,_⟩:=x;exact ⟨ob,e⟩
 | dT kvs=>obtain ⟨_,_,xs,_,ob,es,ep,e,_⟩:=x;exact ⟨ob,e⟩
 | set S n=>obtain ⟨ob,es,ep,t,e,_⟩:=x;exact ⟨ob,e⟩
 | ins C dx fs=>obtain ⟨_,_,_,e,_⟩:=x;exact ⟨_,e⟩
 | own y=>exact x
 | xd fs=>obtain ⟨mA,⟨od,es,ep,e,_⟩,_⟩:=x;exact ⟨od,e⟩
 | rng lo hi=>obtain ⟨t,u,v,e⟩:=x;exact ⟨_,e⟩
 | frz ob u=>obtain ⟨e,_⟩:=x;exact ⟨_,e⟩
 | tbl p q=>obtain ⟨_,e,_⟩:=x;exact ⟨_,e⟩
 | met f y=>exact ⟨_,x⟩
 | ext φ=>obtain ⟨_,⟨ob,e⟩,_⟩:=x;exact ⟨ob,e⟩
theorem Inv.step' (I:Inv X pins σ H s)
  (hch:∀b∈ch,X.s₀.heap.get? b=none/\b≠X.env.locals/\(∀x c,X.env.cells.lookup x=some c->c≠b)/\∀p∈X.pn++pins,p.1≠b)
  (keep:∀b o,b≠X.env.locals->b∉X.fs->b∉ch->s.heap.get? b=some o->H b=none->h'.get? b=some o)
  (slot:∀b o,b≠X.env.locals->b∈X.fs->b∉ch->s.heap.get? b=some o->H b=none->∃sl,h'.get? b=some {o with slots:=sl}) (free:∀b o,b∉ch->s.heap.get? b=some o->H b=none->H' b=none)
  (there:∀b o,b∉ch->s.heap.get? b=some o->∃o',h'.get? b=some o')
  (tups:∀b xs,H b=some (.tup xs)->H' b=some (.tup xs)) (frzs:∀b o u,H b=some (.frz o u)->H' b=some (.frz o u)) (tbls:∀b p n,H b=some (.tbl p n)->H' b=some (.tbl p n))
  (ns:∀m,s.heap.Ns X.env.locals m->h'.Ns X.env.locals m) (hok:HOk X.prog X.w H' h') (hg:Dm g') :
  Inv X pins σ H' {s with heap:=h',gens:=g',drawn:=d',toks:=t'}:=by
 have neL:∀b o,X.s₀.heap.get? b=some o->b≠X.env.locals:=fun b o e=>A8 (Ar (AN e) I.ok.above);have neC:∀b o,X.s₀.heap.get? b=some o->b∉X.ex->b∉ch:=fun b o e hx hb=>by have z:=(hch b hb).1;rw [z] at e;cases e
 have cellK:∀x c,X.env.cells.lookup x=some c->∀v,s.heap.IsCell c v->h'.IsCell c v:=fun x c e v ⟨o,ho,hd⟩=>by have nch:c∉ch:=fun z=>(hch c z).2.2.1 x c e rfl;by_cases hc:c∈X.fs;obtain ⟨sl,q⟩:=slot c o (I.cne x c e) hc nch ho (I.freeC x c e);exact ⟨_,q,hd⟩;exact ⟨o,keep c o (I.cne x c e) hc nch ho (I.freeC x c e),hd⟩
 refine ⟨I.ok,I.os,hg,⟨fun b o e n hb hx=>?_,fun b o e n hb hx=>?_,fun b o e n hx=>?_,fun b o e hx=>?_,fun b xs e=>tups b xs (I.base.tups b xs e),fun b o xs e=>frzs b o xs (I.base.frzs b o xs e),fun b p n e=>tbls b p n (I.base.tbls b p n e)⟩,?_,fun x c e=>?_,?_,fun x c e=>?_,fun p hp=>?_,hok,I.len⟩;exact keep b o (neL b o e) hb (neC b o e hx) (I.base.keep b o e n hb hx) (I.base.free b o e n hx);obtain ⟨sl,e1⟩:=I.base.slot b o e n hb hx;obtain ⟨sl',e2⟩:=slot b _ (neL b o e) hb (neC b o e hx) e1 (I.base.free b o e n hx);exact ⟨sl',e2⟩;obtain ⟨o',e1⟩:=I.base.there b o e hx;exact free b o' (neC b o e hx) e1 (I.base.free b o e n hx);obtain ⟨o',e1⟩:=I.base.there b o e hx;exact there b o' (neC b o e hx) e1;obtain ⟨m,hn,hl⟩:=I.loc;refine ⟨m,ns m hn,fun i x v e1 e2 e3=>?_⟩;obtain ⟨u,r,l⟩:=hl i x v e1 e2 e3;refine ⟨u,r,?_⟩;rcases l with l | ⟨k,c,e,z⟩;exact .inl l;exact .inr ⟨k,c,e,cellK x c e _ z⟩;obtain ⟨v,z⟩:=I.cell x c e;exact ⟨v,cellK x c e v z⟩;obtain ⟨m,⟨o,_,_,ho,_⟩,_⟩:=I.loc;exact free _ o (fun z=>(hch _ z).2.1 rfl) ho I.free;obtain ⟨v,o,ho,hd⟩:=I.cell x c e;exact free c o (fun z=>(hch c z).2.2.1 x c e rfl) ho (I.freeC x c e);obtain ⟨e,n,ne,nf,d⟩:=I.pin p hp;have nch:p.1∉ch:=fun z=>(hch p.1 z).2.2.2 p hp rfl;exact ⟨keep p.1 p.2 ne nf nch e n,free p.1 p.2 nch e n,ne,nf,d⟩
def Zzs (h:AZ)(e:Addr)(cls:Value)(own:List Addr)(z:Option Value):Prop:=
 ∃oe vs a0,h.get? e=some oe/\oe.cls=cls/\oe.data=.fields vs/\vs[0]?=some a0/\
  ((z=none/\own=[e]/\vs[1]?=some .none)\/∃T oT ts fl,z=some fl/\own=[e,T]/\vs[1]?=some (.ref T)/\T≠e/\h.get? T=some oT/\oT.data=.fields ts/\ts[3]?=some fl)
def Zkw (X:Cx)(pins:List (Addr×Obj))(H:Hp)(own:List Addr):Prop:=
 ∀b∈own,H b=none/\X.s₀.heap.get? b=none/\b≠X.env.locals/\(∀x c,X.env.cells.lookup x=some c->c≠b)/\∀p∈X.pn++pins,p.1≠b
def CXE0 (P:Aw)(w:AS):CXT:=fun outer H s E ev s' =>
 ∃e T cls H',ev=.ref e/\s'.os=s.os/\Dm s'.gens/\Un (frs outer) [] H H' s.heap s'.heap/\HOk P w H' s'.heap/\(∃B,s'.heap.FunFrames B outer)/\Zzs s'.heap e cls [e,T] (some .none)/\
  s.heap.get? e=none/\s.heap.get? T=none/\H' e=none/\H' T=none/\E cls none H'
def ER0 (X:Cx)(E:XK)(ev:Value)(s':Ac):Prop:=
 ∃pins e own cls z σ H,ev=.ref e/\Inv X pins σ H s'/\Zzs s'.heap e cls own z/\(z=none\/z=some .none\/∃L,X.env.frame=some L/\z=some (F0 L))/\Zkw X pins H own/\E cls none H
theorem Inv.noteOf (I:Inv X pins σ H s):∀b∈frs X.stack,∃o,s.heap.get? b=some o/\∀vs,o.data≠.fields vs:=fun b hb=>(I.stack.mem hb).2
theorem Inv.hide (I:Inv X pins σ H s)(own:List Addr):(CY s.heap (own++frs X.stack)).StaysIn s.heap/\s.heap.FunFrames (CY s.heap (own++frs X.stack)) X.stack:=⟨fun _ _ q=>PySem.W.of_hideAll _ q,PySem.W.funFrames_hide I.stack fun _ he _ ha=>Ai _ (DY.mpr ⟨_,he,ha⟩)⟩
structure Kept (X:Cx)(own:List Addr)(h h':AZ):Prop where
 st:(CY h (own++frs X.stack)).StaysIn h'
 fr:h'.FunFrames (CY h (own++frs X.stack)) X.stack
 up:h.UpToSlots h'
theorem Kept.get {own:List Addr}{h h':AZ}(k:Kept X own h h'){b:Addr}{o:Obj}(e:h.get? b=some o)(n1:b∉own)(n2:b∉frs X.stack):h'.get? b=some o:=k.st b o (ES _ e fun z=>(Ad.mp z).elim n1 n2)
theorem Kept.hok {own:List Addr}{h':AZ}(k:Kept X own s.heap h')(I:Inv X pins σ H s)(oo:∀b∈own,H b=none):HOk X.prog X.w H h':=fun a o e=>by
 refine (I.hok a o e).stay (fun b u hb q=>?_) (fun _ q=>q) (fun _ _ q=>q) fun _ _ _ q=>q;have tr:∃u',H b=some u':=by rcases hb with rfl | hb;exact ⟨_,e⟩;exact ⟨_,hb⟩
 obtain ⟨u',eu⟩:=tr;exact k.get q (fun z=>by rw [oo b z] at eu;cases eu) (fun z=>by rw [I.stkFree b z] at eu;cases eu)
theorem Kept.there (k:Kept X own s.heap h')(I:Inv X pins σ H s){b:Addr}(e:s.heap.get? b=some o)(n1:b∉own):∃sl,h'.get? b=some {o with slots:=sl}:=by by_cases n2:b∈frs X.stack;obtain ⟨o',e',hd⟩:=I.noteOf b n2;rw [e] at e';cases e';exact k.up b o e hd;exact ⟨o.slots,k.get e n1 n2⟩
theorem Kept.inv (k:Kept X own s.heap h')(I:Inv X pins σ H s)(oo:Zkw X pins H own):Inv X pins σ H {s with heap:=h',toks:=t'}:=by
 refine I.step' (g':=s.gens) (d':=s.drawn) (ch:=own) (fun b hb=>(oo b hb).2) (fun b o h1 h2 h3 e n=>?_) (fun b o _ _ h3 e n=>k.there I e h3) (fun _ _ _ _ n=>n) (fun b o h3 e=>?_) (fun _ _ e=>e) (fun _ _ _ e=>e) (fun _ _ _ e=>e)
  (fun m hm=>k.up.ns hm) (k.hok I fun b hb=>(oo b hb).1) I.bare
 exact k.get e h3 fun z=>(Aj.mp (I.stkSub b z)).elim h1 h2;obtain ⟨sl,q⟩:=k.there I e h3;exact ⟨_,q⟩
theorem Kept.new (k:Kept X own s.heap h'){T:Addr}(hn:(CY s.heap (own++frs X.stack)).get? T=none)(hT:h'.get? T=some oT)(hd:oT.data=.fields ts)(no:T∉own):s.heap.get? T=none:=by
 cases q:s.heap.get? T with
 | none=>rfl
 | some o =>
  have nf:T∉frs X.stack:=fun z=>by obtain ⟨_,o',e',hd'⟩:=k.fr.mem z;rw [hT] at e';cases e';exact hd' ts hd
  rw [ES _ q fun z=>(Ad.mp z).elim no nf] at hn;cases hn
theorem Ztn {E:XK}{R:Value->Ac->Prop}(h:ER0 X E ev s')
    (hP:X.prog=P) (hw:X.w=w) (hs:X.s₀=s₀) (hH:X.H₀=H₀) (ho:X.outer=outer) (hx:X.ex=[]) (hst:X.stack=X.env::outer) (hf:X.env.frame=some X.env.locals) :
    Az (AA P w) X.A (Gb X.env ev) (fun _ s''=>CXE0 P w outer H₀ s₀ E ev s'') R s':=by
  obtain ⟨pins,e,own,cls,z,σ,H,rfl,I,x,hz,oo,q⟩:=h;subst hP hw hs hH ho;have hfr:X.A.frames=some (X.env::X.outer):=by rw [<- hst];exact I.ok.frames
  obtain ⟨hkb,hfl⟩:=I.hide own;obtain ⟨B,hB⟩:∃B,B=CY s'.heap (own++frs X.stack):=⟨_,rfl⟩;rw [<- hB] at hkb hfl;have hen:B.get? e=none:=by rw [hB];refine CJ _ (As _ ?_);obtain ⟨_,_,_,_,_,_,_,(⟨_,r,_⟩ | ⟨_,_,_,_,_,r,_⟩)⟩:=x<;>(rw [r];simp)
  have fin:∀(h':AZ) (a0:Value),B.StaysIn h'->h'.FunFrames B X.stack->h'.TracedW B e cls a0->s'.heap.UpToSlots h'->
      CXE0 X.prog X.w X.outer X.H₀ X.s₀ E (.ref e) {s' with heap:=h'}:=fun h' a0 k1 k2 k3 k4=>by
    have k2':h'.FunFrames B X.outer:=by rw [hst] at k2;exact k2.2.2
    subst hB;have K:Kept X own s'.heap h':=⟨k1,k2,k4⟩;obtain ⟨oe,vs,T,oT,ts,he,⟨hc,h0⟩,hd,h1,hnT,hTe,hT,hdT,h3⟩:=k3;have eo:e∈own:=by obtain ⟨_,_,_,_,_,_,_,(⟨_,r,_⟩ | ⟨_,_,_,_,_,r,_⟩)⟩:=x<;>(rw [r];simp)
    have newT:X.s₀.heap.get? T=none/\H T=none:=by
      by_cases no:T∈own;exact ⟨(oo T no).2.1,(oo T no).1⟩;have hn:=K.new hnT hT hdT no;refine ⟨?_,?_⟩;cases qq:X.s₀.heap.get? T with
      | none=>rfl
      | some o =>obtain ⟨o',e'⟩:=I.base.there T o qq (by rw [hx];simp);rw [hn] at e';cases e'
      cases qq:H T with
      | none=>rfl
      | some o =>obtain ⟨o',e'⟩:∃o',s'.heap.get? T=some o':=(I.hok T o qq).ob;rw [hn] at e';cases e'
    have neL:∀b o,X.s₀.heap.get? b=some o->b≠X.env.locals:=fun b o e=>A8 (Ar (AN e) I.ok.above);have neO:∀b o,X.s₀.heap.get? b=some o->b∉own:=fun b o e z=>by rw [(oo b z).2.1] at e;cases e
    have nx:∀b:Addr,b∉X.ex:=fun b z=>by rw [hx] at z;simp at z
    refine ⟨e,T,cls,H,rfl,I.os,I.bare,⟨fun b o e n hb _=>?_,fun b o e n hb _=>?_,fun b o e n _=>I.base.free b o e n (nx b),fun b o e _=>?_,I.base.tups,I.base.frzs,I.base.tbls⟩,K.hok I fun b hb=>(oo b hb).1,⟨CY s'.heap (own++frs X.stack),?_⟩,
      ⟨oe,vs,a0,he,hc,hd,h0,.inr ⟨T,oT,ts,.none,rfl,rfl,h1,hTe,hT,hdT,h3⟩⟩,(oo e eo).2.1,newT.1,(oo e eo).1,newT.2,q⟩
    exact K.get (I.base.keep b o e n hb (nx b)) (neO b o e) fun z=>(Aj.mp (I.stkSub b z)).elim (neL b o e) hb;obtain ⟨sl,e1⟩:=I.base.slot b o e n hb (nx b);obtain ⟨sl',e2⟩:=K.there I e1 (neO b o e);exact ⟨sl',e2⟩;obtain ⟨o',e1⟩:=I.base.there b o e (nx b);obtain ⟨sl',e2⟩:=K.there I e1 (neO b o e);exact ⟨_,e2⟩;exact k2'
  rw [hst] at hfl;obtain ⟨oe,vs,a0,he,hc,hd,h0,r⟩:=x;subst hc;rcases r with ⟨_,_,h1⟩ | ⟨T,oT,ts,fl,rfl,ro,h1,hTe,hT,hdT,h3⟩;exact wpAny_leaving_firstW hfr hfl hf he hkb hen hd h1 h0 fun h' L=>fin h' a0 L.1 (by rw [hst];exact L.2.1) L.2.2.1 L.2.2.2;have hnT:B.get? T=none:=by rw [hB];exact CJ _ (As _ (by rw [ro];simp))
  have tr:s'.heap.TracedAtW B e oe.cls a0 fl:=⟨oe,vs,T,oT,ts,he,⟨rfl,h0⟩,hd,h1,hnT,hTe,hT,hdT,h3⟩;rcases hz with hz | hz | ⟨L,hL,hz⟩;cases hz;cases hz;exact wpAny_leaving_nextW hfr hfl hf tr hkb hen fun h' L=>fin h' a0 L.1 (by rw [hst];exact L.2.1) L.2.2.1 L.2.2.2;cases hz;unfold Gb;refine Av (FW hL tr ?_);exact wpAny_landsW ⟨hkb,hen,hfl,tr⟩ fun h' F up=>fin h' a0 F.1 (by rw [hst];exact F.2.2.1) F.2.2.2 up
def CXE (P:Aw)(w:AS):CXT:=fun outer H s E ev s'=>∃e dx,ev=.ref e/\Zgr s' e dx/\CXE0 P w outer H s (fun cls _ H'=>E cls dx H') ev s'
def ER (X:Cx)(E:XK)(ev:Value)(s':Ac):Prop:=∃e dx,ev=.ref e/\Zgr s' e dx/\ER0 X (fun cls _ H'=>E cls dx H') ev s'
theorem Zwz {E:XK}{R:Value->Ac->Prop}(h:ER X E ev s')
  (hP:X.prog=P) (hw:X.w=w) (hs:X.s₀=s₀) (hH:X.H₀=H₀) (ho:X.outer=outer) (hx:X.ex=[]) (hst:X.stack=X.env::outer) (hf:X.env.frame=some X.env.locals) :
  Az (AA P w) X.A (Gb X.env ev) (fun _ s''=>CXE P w outer H₀ s₀ E ev s'') R s':=by
 obtain ⟨e,dx,rfl,hd,h⟩:=h;exact Bl ((Zsy X.env (.ref e)).any (Ztn (R:=R) h hP hw hs hH ho hx hst hf) hd) (fun _ s'' q=>⟨e,dx,rfl,q.2,q.1⟩) fun _ _ q=>q.1
theorem Inv.ownNew (I:Inv X pins σ H s)(hx:X.ex=[]){b:Addr}(hb:s.heap.get? b=none):H b=none/\X.s₀.heap.get? b=none/\b≠X.env.locals/\(∀x c,X.env.cells.lookup x=some c->c≠b)/\∀p∈X.pn++pins,p.1≠b:=by
 refine ⟨?_,?_,?_,fun x c e z=>?_,fun p hp z=>?_⟩;cases q:H b with
 | none=>rfl
 | some o =>obtain ⟨ob,e⟩:=(I.hok b o q).ob;rw [hb] at e;cases e
 cases q:X.s₀.heap.get? b with
 | none=>rfl
 | some o =>obtain ⟨o',e⟩:=I.base.there b o q (by rw [hx];simp);rw [hb] at e;cases e
 rintro rfl;obtain ⟨m,⟨o,_,_,ho,_⟩,_⟩:=I.loc;rw [hb] at ho;cases ho;obtain ⟨v,o,ho,_⟩:=I.cell x c e;rw [z,hb] at ho;cases ho;have e:=(I.pin p hp).1;rw [z,hb] at e;cases e
theorem PSs.weak {st:List Stmt}{t:TS}(h:PSs (X.wish E') st t)(hE:∀e s,E' e s->X.xe e s):PSs X st t:=fun pins s σ H D I hw =>
 Bl (h pins s σ H D (I.wish E') hw) (fun _ _ q=>q.unwish) hE
theorem PS.nox {X:Cx}{st:Stmt}{t:TS}(h:PS X.nox st t):PS X st t:=fun pins s σ H D I hw =>
 Bl (h pins s σ H D (I.wish _) hw) (fun _ _ q=>q.unwish) fun _ _ x=>x.elim
theorem Fun.okE {base:AZ}{k:Nat}(F:Fun K x qual st f fd)(S:Xd N ps (Zl st))(len:∀vs H Q E,sp vs H Q E->vs.length=ps.length)
    (hbody:∀(cdv:Value) (A:AR) (outer:List Env) (s:Ac) (H:Hp) (vs:List V) (Q:VK) (E:XK),Zgb k (A.deeper (CN qual (Zl st) s.heap.objs.size f cdv))->sp vs H Q E->
      ∃t,PSs ((Zol (CXE P w) P w K mg base N qual (Zl st) f cdv A outer s H E).wish (ER (Zol (CXE P w) P w K mg base N qual (Zl st) f cdv A outer s H E) E)) (Js st) t/\t {nx:=fun _ H'=>Q .non H',rt:=Q} (start N vs) H):Zbd P w K mg base (CXE P w) (k+1) f fd ps sp:=by
  obtain ⟨oc,od,kV,doc,pm,an,cdv,ct,osl,rfl,lk,hcd⟩:=F.ex;refine Xok lk hcd S len fun A outer s H vs Q E hr hsp=>?_;obtain ⟨t,h,q⟩:=hbody cdv A outer s H vs Q E hr hsp;exact ⟨t,h.weak fun e s' x=>Zwz x rfl rfl rfl rfl rfl rfl rfl rfl,q⟩
theorem Xqd {E:XK}(hx:X.ex=[]:=by rfl):Zfr (CXE0 X.prog X.w) (X.wish (ER0 X E)) E:=fun pins σ H s ev s' I h=>by obtain ⟨e,T,cls,H',rfl,os,bare,un,hok,fr,x,ne,nT,hH1,hH2,q⟩:=h;have J:Inv X pins σ H s:=I.unwish;have I':Inv X pins σ H' s':=J.call' (ch:=[]) os un hok bare (by simp);refine ⟨pins,e,[e,T],cls,some .none,σ,H',rfl,I',x,.inr (.inl rfl),fun b hb=>?_,q⟩;simp only [Aj,or_false,BA] at hb;rcases hb with rfl | rfl;exact ⟨hH1,(J.ownNew hx ne).2⟩;exact ⟨hH2,(J.ownNew hx nT).2⟩
theorem passE {E:XK}(hx:X.ex=[]:=by rfl):Zfr (CXE X.prog X.w) (X.wish (ER X E)) E:=fun pins σ H s ev s' I h=>by obtain ⟨e,dx,rfl,hd,h⟩:=h;exact ⟨e,dx,rfl,hd,Xqd (X:=X) (E:=fun cls _ H'=>E cls dx H') hx pins σ H s (.ref e) s' (I.unwish.wish _) h⟩
abbrev bmV:List Value:=[.type "ValueError",.type "Exception",.type "BaseException",.type "object"]
theorem Xpb {C:Addr}(X:K.In h)(q:ET K C bmB newId=true) :
  ∃bm N nm q bs hdct sn sub ab col dd k0 k1 k2 k3 k5 mN,h.get? C=some (excClassObj nm q C N bs bm hdct sn sub ab col dd k0 k1 k2 k3 k5 newId)/\h.Ns N mN/\mN "__init__"=none/\OwnTail h bmB bm:=by
 unfold ET at q;split at q
 next dct cls slots look =>
  split at q
  next _ above z0 z1 z2 z3 maker z5 isMro isSlots =>
   rw [Ax,Ax,Ax,Ax,Ax] at q;obtain ⟨⟨⟨⟨⟨q1,q2⟩,q3⟩,q4⟩,q5⟩,q6⟩:=q;have same:=beq_iff_eq.mp q1;have mk:=beq_iff_eq.mp q2;have nodel:=(Bool.not_eq_true' _).mp q3;subst same mk;have all6:slots=#[z0,z1,z2,z3,some (.builtin maker),z5]:=Array.ext' isSlots;rcases cls with ⟨c1,c2,c3,c4,c5,c6,c7,c8,c9,c10,c11⟩;cases (show c11=false from nodel);cases (show c3=_ from isMro);cases all6;exact ⟨_,c4,c1,c5,c2,c6,c7,c8,c9,c10,dct,z0,z1,z2,z3,z5,_,X _ _ look,.of_isNs (PySem.W.isNs_of_in X q5),PySem.W.nsMap_none_of_in X q5 (beq_iff_eq.mp q6),PySem.W.tail_of_in X q4⟩
  next=>cases q
 next=>cases q
def Zqw (cls:Value)(E:XK)(t:TA):TS:=fun _ σ H=>t σ H fun vs H1=>vs.length<=Ak/\E cls none H1
theorem Xbc {C:Addr}{e:Expr}{E:XK}{np:Pos}(hq:ET X.K C bmV "ValueError.__new__"=true)(hm:X.mg x=some (.ref C))(ha:PA (X.wish (ER X E)) (e::es) t)(hg:Gl X x:=by rfl)(hc:X.calm=true:=by rfl)(hx:X.ex=[]:=by rfl)
  (hdb:(x==("__debug__":Str))=false:=by decide) (he:Ab (e::es) X.env=(false,AF e X.env)::Ab es X.env:=by rfl) (hpl:(AW cpos (Ab es X.env)).any (·.1)=false:=by rfl) :
  PS (X.wish (ER X E)) (.Raise (some (.Call (.Name x np) (e::es) [] cpos)) none pos) (Zqw (.ref C) E t):=by
 intro pins s σ H D I h;obtain ⟨bm,N,nm,q,bs,hdct,sn,sub,ab,col,dd,k0,k1,k2,k3,k5,mN,hC,hN,hni,T⟩:=Xpb (h:=X.base) I.ok.mod.kin hq;refine wpAny_Raise_call_subT (C:=C) (nm:=nm) (q:=q) (N:=N) (bs:=bs) (bm:=bm) (hdct:=hdct) (sn:=sn) (sub:=sub) (ab:=ab) (col:=col) (dd:=dd) (k0:=k0) (k1:=k1) (k2:=k2) (k3:=k3) (k5:=k5)
  PySem.F.excBase_ValueError (mN:=mN) (T.hasType PySem.F.excBase_ValueError.hasBase) (I.ok.hd hc) (by rw [show Ab (e::es) (X.wish (ER X E)).env=(false,AF e X.env)::Ab es X.env from he];show (false||(AW cpos (Ab es X.env)).any (·.1))=false;rw [hpl];rfl) hni (Zpd I hg hm ⟨rfl,?_⟩ hdb)
 have hA:=ha cpos pins s σ H _ I h;rw [show Ab (e::es) (X.wish (ER X E)).env=(false,AF e X.env)::Ab es X.env from he] at hA ⊢;refine DI (thn hA fun us s2 ⟨vs,H2,I2,r2,hl,q2⟩=>⟨rfl,by rw [<- r2.length];exact hl,I2.bk _ _ hC,hN.keeps I2.bk,T.keeps I2.bk,fun h' e hm=>?_⟩);obtain ⟨t,he',htn,ht⟩:=hm.there;have J2:Inv X pins σ H2 s2:=I2.unwish;have I3:Inv X pins σ H2 {s2 with heap:=h'}:=J2.kept (t':=s2.toks) hm.keeps;refine ⟨e,none,rfl,⟨_,he',rfl⟩,pins,e,[e],.ref C,none,σ,H2,rfl,I3,⟨_,_,_,he',rfl,rfl,rfl,.inl ⟨rfl,rfl,rfl⟩⟩,.inl rfl,fun b hb=>?_,q2⟩;rw [An.mp hb];exact J2.ownNew hx hm.new
theorem Zzs.mem (x:Zzs h e cls own z):e∈own:=by obtain ⟨_,_,_,_,_,_,_,(⟨_,r,_⟩ | ⟨_,_,_,_,_,r,_⟩)⟩:=x<;>(rw [r];simp)
theorem Zkj {a0:Value}(I:Inv X pins σ H s)(oo:Zkw X pins H own)(eo:e∈own)(hx:X.ex=[])(K:Kept X own s.heap h')
  (tr:h'.TracedAtW (CY s.heap (own++frs X.stack)) e cls a0 fl):∃T,Zzs h' e cls [e,T] (some fl)/\Zkw X pins H [e,T]:=by
 obtain ⟨oe,vs,T,oT,ts,he,⟨hc,h0⟩,hd,h1,hnT,hTe,hT,hdT,h3⟩:=tr;refine ⟨T,⟨oe,vs,a0,he,hc,hd,h0,.inr ⟨T,oT,ts,fl,rfl,rfl,h1,hTe,hT,hdT,h3⟩⟩,fun b hb=>?_⟩;simp only [Aj,or_false,BA] at hb;rcases hb with rfl | rfl;exact oo _ eo;by_cases no:b∈own;exact oo _ no;exact I.ownNew hx (K.new hnT hT hdT no)
theorem Xle {R:Value->Ac->Prop}(I:Inv X pins σ H s)(x:Zzs s.heap e cls own z)
  (hz:z=none\/z=some .none\/∃L,X.env.frame=some L/\z=some (F0 L)) (oo:Zkw X pins H own) (hx:X.ex=[]) (hfr:A'.frames=some X.stack) (hst:X.stack=X.env::X.outer) (hf:X.env.frame=some X.env.locals)
  (k:∀s2 T,Inv X pins σ H s2->Zzs s2.heap e cls [e,T] (some (F0 X.env.locals))->Zkw X pins H [e,T]->Q () s2):Az (AA X.prog X.w) A' (EJ (.ref e) X.env) Q R s:=by
 obtain ⟨hkb,hfl⟩:=I.hide own;obtain ⟨B,hB⟩:∃B,B=CY s.heap (own++frs X.stack):=⟨_,rfl⟩;rw [<- hB] at hkb hfl;have eo:=x.mem;have hen:B.get? e=none:=by rw [hB];exact CJ _ (As _ eo)
 have fin:∀(h':AZ) (a0:Value),Heap.NotedW B X.stack e cls a0 (F0 X.env.locals) s.heap h'->Q () {s with heap:=h'}:=fun h' a0 N=>by subst hB;obtain ⟨k1,k2,k3,k4⟩:=N;have K:Kept X own s.heap h':=⟨k1,k2,k4⟩;obtain ⟨T,x',oo'⟩:=Zkj I oo eo hx K k3;exact k _ T (K.inv I oo (t':=s.toks)) x' oo'
 obtain ⟨oe,vs,a0,he,hc,hd,h0,r⟩:=x;subst hc;rw [hst] at hfr hfl;rcases r with ⟨_,_,h1⟩ | ⟨T,oT,ts,fl,rfl,ro,h1,hTe,hT,hdT,h3⟩;unfold EJ;simp only [hf];refine (Av (wpAny_field he hd h1 ?_));rw [if_neg (by decide)];exact wpAny_entryW hfr hfl hf he hkb hen hd (Array.getElem?_eq_some_iff.mp h1).1 h0 fun h' N=>fin h' a0 (by rw [hst];exact N);have hnT:B.get? T=none:=by rw [hB];exact CJ _ (As _ (by rw [ro];simp))
 have tr:s.heap.TracedAtW B e oe.cls a0 fl:=⟨oe,vs,T,oT,ts,he,⟨rfl,h0⟩,hd,h1,hnT,hTe,hT,hdT,h3⟩;rcases hz with hz | hz | ⟨L,hL,hz⟩;cases hz;cases hz;exact wpAny_noteFrame_onW hfr hfl hf tr hkb hen fun h' N=>fin h' a0 (by rw [hst];exact N);cases hz;obtain rfl:X.env.locals=L:=AV (hf.symm.trans hL);refine FW hf tr ?_;subst ro;exact k s T I ⟨oe,vs,a0,he,rfl,hd,h0,.inr ⟨T,oT,ts,_,rfl,rfl,h1,hTe,hT,hdT,h3⟩⟩ oo
theorem Zyx {T:Addr}{R:Value->Ac->Prop}(I:Inv X pins σ H s)(x:Zzs s.heap e cls [e,T] (some fl))(oo:Zkw X pins H [e,T])(hx:X.ex=[])
  (k:∀s2 T',Inv X pins σ H s2->Zzs s2.heap e cls [e,T'] (some .none)->Zkw X pins H [e,T']->Q () s2):Az (AA X.prog X.w) A' (setFlight (.ref e) none) Q R s:=by
 obtain ⟨hkb,hfl⟩:=I.hide [e,T];have eo:=x.mem;obtain ⟨oe,vs,a0,he,hc,hd,h0,r⟩:=x;rcases r with ⟨z,_⟩ | ⟨T',oT,ts,fl',z,ro,h1,hTe,hT,hdT,h3⟩;cases z;cases z;have hnT:(CY s.heap ([e,T]++frs X.stack)).get? T'=none:=CJ _ (As _ (by rw [ro];simp));refine wpAny_setFlight_noneW hkb hfl ⟨oe,vs,T',oT,ts,he,⟨hc,h0⟩,hd,h1,hnT,hTe,hT,hdT,h3⟩ fun h' k1 k2 k3 k4=>?_;have K:Kept X [e,T] s.heap h':=⟨k1,k2,fun b o q hn=>⟨o.slots,k4 b o q hn⟩⟩;obtain ⟨T2,x',oo'⟩:=Zkj I oo eo hx K k3;exact k _ T2 (K.inv I oo (t':=s.toks)) x' oo'
def exO (e:Addr)(cls:Value)(dx:Option Addr):HO:=.ext fun h=>∃o vs,h.get? e=some o/\o.cls=cls/\o.data=.fields vs/\o.dict=dx
theorem Cx.Ok.setPn (ok:X.Ok)(pn:List (Addr×Obj)):({X with pn:=pn}:Cx).Ok:=⟨ok.mod,ok.kind,ok.glob,ok.blt,ok.above,ok.inj,ok.has,ok.cab,ok.hd,ok.frames,ok.stk,ok.exf,ok.bs,ok.bsz,ok.noex,ok.exfs,ok.funs,ok.frf⟩
theorem Cx.Ok.unsetPn (ok:({X with pn:=pn}:Cx).Ok):X.Ok:=⟨ok.mod,ok.kind,ok.glob,ok.blt,ok.above,ok.inj,ok.has,ok.cab,ok.hd,ok.frames,ok.stk,ok.exf,ok.bs,ok.bsz,ok.noex,ok.exfs,ok.funs,ok.frf⟩
theorem Inv.inpin (I:Inv X pins σ H s):Inv {X with pn:=X.pn++pins} [] σ H s:=⟨I.ok.setPn _,I.os,I.bare,I.base,I.loc,I.cell,I.free,I.freeC,fun p hp=>I.pin p (by simpa using hp),I.hok,I.len⟩
theorem Inv.outpin (I:Inv {X with pn:=X.pn++pins} pins' σ H s):Inv X pins σ H s:=⟨I.ok.unsetPn,I.os,I.bare,I.base,I.loc,I.cell,I.free,I.freeC,fun p hp=>I.pin p (As _ hp),I.hok,I.len⟩
abbrev Cx.hand (X:Cx)(e:Addr):Cx:={X with A:=X.A.mark (some (.ref e)),calm:=false,xe:=fun _ _=>False}
theorem Inv.hand (I:Inv X pins σ H s)(e:Addr):Inv (X.hand e) pins σ H s:=
  ⟨⟨I.ok.mod,I.ok.kind,I.ok.glob,I.ok.blt,I.ok.above,I.ok.inj,I.ok.has,I.ok.cab,(fun z=>by cases z),I.ok.frames,I.ok.stk,I.ok.exf,I.ok.bs,I.ok.bsz,I.ok.noex,I.ok.exfs,I.ok.funs,I.ok.frf⟩,
    I.os,I.bare,I.base,I.loc,I.cell,I.free,I.freeC,I.pin,I.hok,I.len⟩
theorem Inv.unhand (I:Inv (X.hand e) pins σ H s)(hd:X.calm=true->X.A.handled=none):Inv X pins σ H s:=
  ⟨⟨I.ok.mod,I.ok.kind,I.ok.glob,I.ok.blt,I.ok.above,I.ok.inj,I.ok.has,I.ok.cab,hd,I.ok.frames,I.ok.stk,I.ok.exf,I.ok.bs,I.ok.bsz,I.ok.noex,I.ok.exfs,I.ok.funs,I.ok.frf⟩,
    I.os,I.bare,I.base,I.loc,I.cell,I.free,I.freeC,I.pin,I.hok,I.len⟩
end L2
namespace L2
open PySem PySem.Spec
variable {prog:Aw}{w:AS}{A:AR}{E:Value->Ac->Prop}{h:AZ}{g:Array Du}{d:GH}{t:Nat}{os:Gg}{o:Obj}{vs:Array Value}
section
variable {a C:Addr}
open PySem.W (Looks)
end
end L2
namespace L2
open PySem PySem.Spec PyProof.Rows
variable {X:Cx}{a C f:Addr}{b:Bool}{e value:Expr}{es:List Expr}{te td ty:TE}{pos cpos:Pos}{K:AE}{σ:St}{H H':Hp}{x:Str}{st:Stmt}{P prog:Aw}{w:AS}{mg:Str->Option Value}{fd:B3}{N ps:List Str}{κ:Type}{o:Option V}{u:Value}{y:V}{kvs:List (List Key×V)}{xs:List (List Key×Addr×Value)}{h h':AZ}{ks:List Key}{pins:List (Addr×Obj)}{s:Ac}{A:AR}{E Q:Value->Ac->Prop}{t':Nat}{vs:List (Key×Value)}{env:Env}
abbrev TJ:=St->Hp->(Hp->Prop)->Prop
def PJ (X:Cx)(es:List Expr)(t:TJ):Prop:=
 ∀(out:Str) (pins:List (Addr×Obj)) (s:Ac) (σ:St) (H:Hp) (Q:VK),Inv X pins σ H s->out.length+2000*es.length<=Ak->t σ H (fun H1=>∀z,Q (.str z) H1)->
  Az (AA X.prog X.w) X.A (joinParts out (Ci es X.env)) (EP X pins σ Q) X.xe s
structure QJ (X:Cx)(es:List Expr)(t:TJ):Prop where
 out:PJ X es t
def jNil:TJ:=fun _ H Q=>Q H
def Zui (te:TE)(t:TJ):TJ:=fun σ H Q=>te σ H fun x H1=>∃y,x=.str y/\y.length<=2000/\t σ H1 Q
def tJs (t:TJ):TE:=fun σ H Q=>t σ H fun H1=>∀z,Q (.str z) H1
section
variable {a b:Expr}{t:TJ}
theorem Xol:PJ X [] jNil:=by intro out pins s σ H Q I hz q;exact joinParts_nil ⟨.str out,H,I.tok _,⟨_,rfl⟩,q out⟩ (by simpa using hz)
theorem Xgq (he:PE X e te)(hr:PJ X es t)(hv:Ci (e::es) X.env=AF e X.env::Ci es X.env):PJ X (e::es) (Zui te t):=by intro out pins s σ H Q I hz q;rw [hv];refine joinParts_cons (thn (he pins s σ H _ I q) fun v s1 hz9=>?_);obtain ⟨x,H1,I1,r1,y,ex,hl,q1⟩:=hz9;subst ex;obtain ⟨tk,rfl⟩:=r1;have e1:(out++y).length=out.length+y.length:=strLen_append ..;rw [BB] at hz;exact ⟨by omega,hr (out++y) pins s1 σ H1 Q I1 (by omega) q1⟩
theorem Xqz:QJ X [] jNil:=⟨Xol⟩
theorem Zus (he:QE X e te)(hr:QJ X es t)(hv:Ci (e::es) X.env=AF e X.env::Ci es X.env:=by rfl):QJ X (e::es) (Zui te t):=⟨Xgq he.out hr.out hv⟩
theorem qe_js (h:QJ X (a::b::es) t)(hn:es.length<=100:=by decide)(hv:Ci (a::b::es) X.env=AF a X.env::AF b X.env::Ci es X.env:=by rfl):QE X (.JoinedStr (a::b::es) pos) (tJs t):=⟨fun pins s σ H Q I q =>
  JoinedStr_many (by
    have hz:(Eu).length+2000*(a::b::es).length<=Ak:=by have e0:(Eu).length=0:=rfl;rw [e0,BB,BB,Dx];omega
    have q':=h.out Eu pins s σ H Q I hz q;rw [hv] at q';exact q')⟩
end
open PySem.W (Looks)
structure Zuf (K:AE)(C:Addr):Prop where
 exc:ET K C bmV "ValueError.__new__"=true
 ty:EH K (.ref C)=some (.type "type")
 cl:∃c,Gx K C=some c
 ga:Cm K (.ref C) "__getattribute__"=some (some (.builtin "BaseException.__getattribute__"))
 ge:Cm K (.ref C) "__getattr__"=some none
 lk:Cm K (.ref C) "__class__"=some (some (.builtin "object.__class__"))
 so:C6 K (.ref C) (.type "object")=some true
 sb:C6 K (.ref C) (.type "BaseException")=some true
 se:C6 K (.ref C) (.ref C)=some true
section
variable {D e:Addr}
structure Xnm (K:AE)(C:Addr):Prop where
 ob:∃dd cd sl,K.lookup C=some ⟨.type "type",dd,.cls cd,sl⟩
 ty:EH K (.ref C)=some (.type "type")
 cl:∃c,Gx K C=some c
 ga:Cm K (.ref C) "__getattribute__"=some (some (.builtin "BaseException.__getattribute__"))
 ge:Cm K (.ref C) "__getattr__"=some none
 lk:Cm K (.ref C) "__class__"=some (some (.builtin "object.__class__"))
 so:C6 K (.ref C) (.type "object")=some true
 sb:C6 K (.ref C) (.type "BaseException")=some true
 se:C6 K (.ref C) (.ref C)=some true
theorem Zuf.ob (E:Zuf K C):∃dd cd sl,K.lookup C=some ⟨.type "type",dd,.cls cd,sl⟩:=by
 have q:=E.exc;unfold ET at q;split at q
 next dct cls slots look=>exact ⟨_,_,_,look⟩
 next=>cases q
theorem Zuf.k (E:Zuf K C):Xnm K C:=⟨E.ob,E.ty,E.cl,E.ga,E.ge,E.lk,E.so,E.sb,E.se⟩
theorem Xnm.kitC (E:Xnm K C)(h:C6 K (.ref D) (.ref C)=some b):PySem.W.kitCls K (.ref D) (.ref C)=some b:=by obtain ⟨c,hc⟩:=E.cl;show (if ((Gx K C).isSome&&EH K (.ref C)==some (.type "type"))=true then C6 K (.ref D) (.ref C) else none)=some b;rw [hc,E.ty,if_pos (by simp)];exact h
theorem Xnm.exm (E:Xnm K C)(h:C6 K (.ref D) (.ref C)=some b):EK K (.ref D) (.ref C)=some b:=by unfold EK;rw [E.sb,if_pos (by simp)];exact E.kitC h
end
section
variable {Q:VK}{D:Ends}
variable {a b c d:Expr}{ta tb tc:TE}
variable {t:TA}{np hpos:Pos}
theorem Xbs {E:XK}(hq:ET X.K C bmV "ValueError.__new__"=true)(hm:X.mg x=some (.ref C))(ha:QA (X.wish (ER X E)) (e::es) t)(hg:Gl X x:=by rfl)(hc:X.calm=true:=by rfl)(hx:X.ex=[]:=by rfl)
  (hdb:(x==("__debug__":Str))=false:=by decide) (he:Ab (e::es) X.env=(false,AF e X.env)::Ab es X.env:=by rfl) (hpl:(AW cpos (Ab es X.env)).any (·.1)=false:=by rfl) :
  QS (X.wish (ER X E)) (.Raise (some (.Call (.Name x np) (e::es) [] cpos)) none pos) (Zqw (.ref C) E t):=⟨Xbc hq hm ha.out hg hc hx hdb he hpl⟩
end
theorem Xpc {t:TS}(h:QS X.nox st t):QS X st t:=⟨h.out.nox⟩
theorem Fun.okEQ {base:AZ}{qual:Str}{k:Nat}{sp:Sp}(F:Fun K x qual st f fd)(S:Xd N ps (Zl st))(len:∀vs H Q E,sp vs H Q E->vs.length=ps.length)
    (hbody:∀(cdv:Value) (A:AR) (outer:List Env) (s:Ac) (H:Hp) (vs:List V) (Q:VK) (E:XK),Zgb k (A.deeper (CN qual (Zl st) s.heap.objs.size f cdv))->sp vs H Q E->
      ∃t,QSs ((Zol (CXE P w) P w K mg base N qual (Zl st) f cdv A outer s H E).wish (ER (Zol (CXE P w) P w K mg base N qual (Zl st) f cdv A outer s H E) E)) (Js st) t/\t {nx:=fun _ H'=>Q .non H',rt:=Q} (start N vs) H):Zbd P w K mg base (CXE P w) (k+1) f fd ps sp:=
  F.okE S len fun cdv A outer s H vs Q E hr h=>by obtain ⟨t,ht,q⟩:=hbody cdv A outer s H vs Q E hr h;exact ⟨t,ht.out,q⟩
structure Pl (n:Nat)(x:Str):Prop where
 len:x.length<=n
 asc:∀c∈x.cps.toList,c<128
def tFvr (te:TE):TE:=fun σ H Q=>te σ H fun x H1=>∃z,x=.str z/\Pl 100 z/\∀y:Str,y.length<=2000->Q (.str y) H1
theorem Xrc (he:QE X e te):QE X (.FormattedValue e 114 none pos) (tFvr te):=⟨fun pins s σ H Q I q =>
  wpAny_FormattedValue_repr (thn (he.out pins s σ H _ I q) fun v s1 ⟨x,H1,I1,r1,z,ex,hz,q1⟩=>by
    subst ex;obtain ⟨tk,rfl⟩:=r1;have hl:=StrLaws.reprText_len z fun c hc=>D2 (hz.asc c hc) (by decide);have h2:(HU z).length<=2000:=by have:=hz.len;omega
    exact pyReprObj_str (wpAny_formatField_str ⟨.str (HU z),H1,I1.tok _,⟨_,rfl⟩,q1 _ h2⟩ ⟨.str (HU z),H1,(I1.tok _).tok _,⟨_,rfl⟩,q1 _ h2⟩) (AT h2 (by rw [Dx];decide)))⟩
section
variable [DecidableEq κ]
def Zqh (kvs:List (κ×V))(k:κ):Option V:=(kvs.find? fun kv=>decide (kv.1=k)).map (·.2)
def putK (kvs:List (κ×V))(k:κ)(v:V):List (κ×V):=
 if (kvs.any fun kv=>decide (kv.1=k))=true then kvs.map (fun kv=>if kv.1=k then (kv.1,v) else kv) else kvs++[(k,v)]
theorem Zhq {p:κ×V}{r:List (κ×V)}{k:κ}(e:p.1=k):Zqh (p::r) k=some p.2:=by simp [Zqh,CM,e]
theorem Zht {p:κ×V}{r:List (κ×V)}{k:κ}(e:¬p.1=k):Zqh (p::r) k=Zqh r k:=by simp [Zqh,CM,e]
theorem Zlw (k:κ):∀kvs:List (κ×V),(kvs.any fun kv=>decide (kv.1=k))=(Zqh kvs k).isSome
 | []=>rfl
 | p::r=>by rw [D4];by_cases e:p.1=k;simp only [Zhq e,decide_eq_true e,Bool.true_or,Option.isSome_some];rw [Zht e,decide_eq_false e,GZ];exact Zlw k r
theorem Zjh (kvs:List (κ×V))(k:κ)(v:V):(putK kvs k v).length<=kvs.length+1:=by unfold putK;split;rw [Ae];omega;rw [Ao,BB,GD];omega
theorem Zsn.isSome_eq {u:Option Value}(r:Zsn o u):o.isSome=u.isSome:=by
 cases o with
 | none=>cases u with
  | none=>rfl
  | some _=>exact (show False from r).elim
 | some _=>cases u with
  | none=>exact (show False from r).elim
  | some _=>rfl
theorem Zsn.getD {o:Option V}{u:Option Value}{d:V}{d':Value}(r:Zsn o u)(rd:RelV d d'):RelV (o.getD d) (u.getD d'):=by
 cases o with
 | none=>cases u with
  | none=>exact rd
  | some _=>exact (show False from r).elim
 | some _=>cases u with
  | none=>exact (show False from r).elim
  | some _=>exact r
theorem KV.val {kvs:List (κ×V)}{vs:List (κ×Value)}(r:KV kvs vs)(k:κ):Zsn (Zqh kvs k) (Ey vs k):=by
 unfold KV at r
 induction r with
 | nil=>exact B9
 | @cons p q ps qs h t ih =>
  obtain ⟨h1,h2⟩:=h;by_cases e:p.1=k;have e':q.1=k:=h1.symm.trans e;have b:Ey (q::qs) k=some q.2:=by simp [Ey,CM,e']
  rw [Zhq e,b];exact h2;have e':¬q.1=k:=fun z=>e (h1.trans z);have b:Ey (q::qs) k=Ey qs k:=by simp [Ey,CM,e']
  rw [Zht e,b];exact ih
theorem KV.any {kvs:List (κ×V)}{vs:List (κ×Value)}(r:KV kvs vs)(k:κ):(kvs.any fun kv=>decide (kv.1=k))=vs.any fun kv=>decide (kv.1=k):=by
 unfold KV at r
 induction r with
 | nil=>rfl
 | cons h t ih=>rw [D4,D4,ih,h.1]
theorem KV.repl {kvs:List (κ×V)}{vs:List (κ×Value)}(r:KV kvs vs)(k:κ)(ry:RelV y u) :
  KV (kvs.map fun kv=>if kv.1=k then (kv.1,y) else kv) (vs.map fun kv=>if kv.1=k then (kv.1,u) else kv):=by
 unfold KV at r ⊢
 induction r with
 | nil=>exact .nil
 | @cons p q ps qs h t ih =>rw [AH,AH];refine .cons ?_ ih;obtain ⟨h1,h2⟩:=h;by_cases e:p.1=k;rw [if_pos e,if_pos (h1.symm.trans e)];exact ⟨h1,ry⟩;rw [if_neg e,if_neg (fun z=>e (h1.trans z))];exact ⟨h1,h2⟩
theorem KV.put {kvs:List (κ×V)}{vs:List (κ×Value)}(r:KV kvs vs)(k:κ)(ry:RelV y u):KV (putK kvs k y) (stored vs k u):=by unfold putK stored;rw [r.any k];by_cases e:(vs.any fun kv=>decide (kv.1=k))=true;rw [if_pos e,if_pos e];exact r.repl k ry;rw [if_neg e,if_neg e];exact Paired.snoc r ⟨rfl,ry⟩
theorem KV.length {kvs:List (κ×V)}{vs:List (κ×Value)}(r:KV kvs vs):kvs.length=vs.length:=Paired.length r
end
theorem Zsq {k:Key}(r:RelV (kV k) u):(Je P w).is k u=true:=by
 cases k with
 | inl i=>obtain ⟨t,e⟩:=(show ∃t,u=DJ i t from r);subst e;exact Zqa P w i t
 | inr x=>obtain ⟨t,e⟩:=(show ∃t,u=Ei x t from r);subst e;exact Zpq P w x t
theorem Zny {P:Aw}{w:AS}:∀{ks:List Key} {us:List Value},Yw (ks.map kV) us->ItemsAre (Je P w) ks us
 | [],_,r=>by rw [G2] at r;cases r;exact .nil
 | k::ks,_,r=>by
  rw [AH] at r;cases r with
  | cons h t=>exact .cons (Zsq h) (Zny t)
abbrev KT (H:Hp):List (List Key×V)->List (List Key×Addr×Value)->Prop:=Paired fun p q=>p.1=q.1/\H q.2.1=some (.tup (p.1.map kV))/\RelV p.2 q.2.2
theorem KT.val (r:KT H kvs xs)(k:List Key):Zsn (Zqh kvs k) ((Fb xs k).map (·.2)):=by
 induction r with
 | nil=>exact B9
 | @cons p q ps qs h t ih =>
  obtain ⟨h1,_,h2⟩:=h;by_cases e:p.1=k;have e':q.1=k:=h1.symm.trans e;have b:Fb (q::qs) k=some q.2:=by simp [Fb,CM,e']
  rw [Zhq e,b];exact h2;have e':¬q.1=k:=fun z=>e (h1.trans z);have b:Fb (q::qs) k=Fb qs k:=by simp [Fb,CM,e']
  rw [Zht e,b];exact ih
theorem KT.repl (r:KT H kvs xs)(k:List Key)(ry:RelV y u) :
  KT H (kvs.map fun kv=>if kv.1=k then (kv.1,y) else kv) (xs.map (putAt k u)):=by
 induction r with
 | nil=>exact .nil
 | @cons p q ps qs h t ih =>rw [AH,AH];refine .cons ?_ ih;obtain ⟨h1,h2,h3⟩:=h;unfold putAt;by_cases e:p.1=k;rw [if_pos e,if_pos (h1.symm.trans e)];exact ⟨h1,h2,ry⟩;rw [if_neg e,if_neg (fun z=>e (h1.trans z))];exact ⟨h1,h2,h3⟩
theorem KT.put (r:KT H kvs xs)(k:List Key){b:Addr}(hb:H b=some (.tup (k.map kV)))(ry:RelV y u) :
  KT H (putK kvs k y) (storedH xs k b u):=by
 have e:(kvs.any fun kv=>decide (kv.1=k))=(Fb xs k).isSome:=by rw [Zlw,(r.val k).isSome_eq,Fw]
 unfold putK storedH;rw [e];by_cases q:(Fb xs k).isSome=true;rw [if_pos q,if_pos q];exact r.repl k ry;rw [if_neg q,if_neg q];exact Paired.snoc r ⟨rfl,hb,ry⟩
theorem KT.keeps (r:KT H kvs xs)(ht:∀b ys,H b=some (.tup ys)->H' b=some (.tup ys)):KT H' kvs xs:=Paired.mapP r fun _ _ z=>⟨z.1,ht _ _ z.2.1,z.2.2⟩
theorem Xqk {u:HO}(ok:HOk P w H h)(e:Rd H a u):Jt P w H h a u:=e.ok ok
theorem Zte {kvs:List (Key×V)}(ok:HOk P w H h)(e:Rd H a (.dK kvs)):kvs.length<=Ak/\(a==Co)=false/\∃vs,KV kvs vs/\h.DictOf (Je P w) a vs:=show Jt P w H h a (.dK kvs) from Xqk ok e
theorem dk_of {kvs:List (Key×V)}(ok:HOk P w H h)(e:H a=some (.dK kvs)):kvs.length<=Ak/\(a==Co)=false/\∃vs,KV kvs vs/\h.DictOf (Je P w) a vs:=Zte ok (.inl e)
theorem Zmo (ok:HOk P w H h)(e:H a=some (.tup (ks.map kV))):(Ea (Je P w)).is h ks a:=by obtain ⟨_,its,r,o,h1,h2,n,h3⟩:=(show Jt P w H h a (.tup (ks.map kV)) from ok a _ e);exact ⟨o,its.toArray,n,h1,h2,h3,by simpa using Zny r⟩
theorem Ztq (ok:HOk P w H h)(e:Rd H a (.dT kvs)):kvs.length<=Ak/\(a==Co)=false/\
  ∃xs,KT H kvs xs/\h.DictOfH (Ea (Je P w)) a xs:=by
 obtain ⟨z,y,xs,r,o,es,ep,h1,h2,h3,h4,h5⟩:=(show Jt P w H h a (.dT kvs) from Xqk ok e);refine ⟨z,y,xs,r,o,es,ep,h1,h2,h3,h4,fun x hx=>?_,h5⟩;have all:∀{l:List (List Key×V)} {m:List (List Key×Addr×Value)},KT H l m->∀x∈m,(Ea (Je P w)).is h x.1 x.2.1:=by
  intro l m q
  induction q with
  | nil=>intro x hx;exact nomatch hx
  | @cons p q ps qs hq t ih =>intro x hx;rcases Aj.mp hx with e | hx;subst e;exact Zmo ok (by rw [<- hq.1];exact hq.2.1);exact ih x hx
 exact all r x hx
theorem dt_of (ok:HOk P w H h)(e:H a=some (.dT kvs)):kvs.length<=Ak/\(a==Co)=false/\
  ∃xs,KT H kvs xs/\h.DictOfH (Ea (Je P w)) a xs:=Ztq ok (.inl e)
def Zul (H:Hp)(a:Addr)(y:V)(r:Option V):Prop:=
 (∃kvs k,Rd H a (.dK kvs)/\y=kV k/\r=Zqh kvs k)\/∃kvs k b,Rd H a (.dT kvs)/\y=.ref b/\H b=some (.tup (k.map kV))/\r=Zqh kvs k
def Xid (H:Hp)(a:Addr)(y v:V)(H':Hp):Prop:=
 (∃kvs k,H a=some (.dK kvs)/\y=kV k/\kvs.length<Ak/\H'=upd H a (.dK (putK kvs k v)))\/
 ∃kvs k b,H a=some (.dT kvs)/\y=.ref b/\H b=some (.tup (k.map kV))/\kvs.length<Ak/\H'=upd H a (.dT (putK kvs k v))
theorem Zul.k {H:Hp}{a:Addr}{kvs:List (Key×V)}{k:Key}(e:H a=some (.dK kvs)):Zul H a (kV k) (Zqh kvs k):=.inl ⟨kvs,k,.inl e,rfl,rfl⟩
theorem Xid.k {H:Hp}{a:Addr}{kvs:List (Key×V)}{k:Key}{v:V}(e:H a=some (.dK kvs))(hl:kvs.length<Ak):Xid H a (kV k) v (upd H a (.dK (putK kvs k v))):=.inl ⟨kvs,k,e,rfl,hl,rfl⟩
section
variable {v:V}{r:Value}
theorem Inv.big (I:Inv X pins σ H s):Co<s.heap.objs.size:=by have h:Ag<s.heap.objs.size:=(I.mod.glob.keeps I.bk).lt;exact D2 (by decide) h
theorem Zys (hu:A.units+1<Bi)(I:Inv X pins σ H s)(g:Zul H a y (some v))(ry:RelV y u)(h:∀w' s',Inv X pins σ H s'->RelV v w'->Q w' s') :
  Az (AA X.prog X.w) A (E1 (.ref a) u) Q E s:=by
 rcases g with ⟨kvs,k,e,ey,l⟩ | ⟨kvs,k,b,e,ey,eb,l⟩;subst ey;obtain ⟨z,hd,vs,rel,dd⟩:=Zte I.hok e;obtain ⟨w',hw,rw'⟩:=Zsn.some_of (v:=v) (o:=Ey vs k) (by rw [l];exact rel.val k);exact wpAny_getItem_of (Zsq ry) dd.mapOf hw (h w' _ (I.tok _) rw');subst ey;cases (show u=A7 b from ry);obtain ⟨z,hd,xs,rel,dd⟩:=Ztq I.hok e;obtain ⟨w',hw,rw'⟩:=Zsn.some_of (v:=v) (o:=(Fb xs k).map (·.2)) (by rw [l];exact rel.val k);obtain ⟨p,hp,hp2⟩:=AB.mp hw;refine wpAny_getItem_heap (Dr hu) (Zmo I.hok eb) dd hp ?_;rw [hp2];exact h w' _ (I.tok _) rw'
theorem d_in (hu:A.units+1<Bi)(I:Inv X pins σ H s)(g:Zul H a y o)(ry:RelV y u)(h:∀s',Inv X pins σ H s'->Q (.bool o.isSome) s') :
  Az (AA X.prog X.w) A (A9 .In u (.ref a)) Q E s:=by
 rcases g with ⟨kvs,k,e,ey,l⟩ | ⟨kvs,k,b,e,ey,eb,l⟩;subst ey;obtain ⟨z,hd,vs,rel,dd⟩:=Zte I.hok e;refine wpAny_in_of (Zsq ry) hd dd.mapOf ?_;rw [<- (rel.val k).isSome_eq,<- l];exact h _ (I.tok _);subst ey;cases (show u=A7 b from ry);obtain ⟨z,hd,xs,rel,dd⟩:=Ztq I.hok e;refine wpAny_in_heap (Dr hu) (Zmo I.hok eb) hd dd ?_;have q:=(rel.val k).isSome_eq;rw [Fw] at q;rw [<- q,<- l];exact h _ (I.tok _)
theorem Zxs {ob:HO}(I:Inv X pins σ H s)(mu:Mut (H a))(hs:E6 a s.heap h')(he:∃q,h'.get? a=some q)(new:Jt X.prog X.w (upd H a ob) h' a ob) :
  Inv X pins σ (upd H a ob) {s with heap:=h',toks:=t'}:=
 I.write (x:=a) (e:=a) mu (.inl rfl) (fun b q hb z=>(hs.2 b hb).trans z) he new
theorem Xfc {kvs:List (Key×V)}(z:kvs.length<=Ak)(hd:(a==Co)=false)(rel:KV kvs vs)(dd:h'.DictOf (Je P w) a vs) :
  Jt P w H' h' a (.dK kvs):=⟨z,hd,vs,rel,dd⟩
theorem Zxm {Q:Unit->Ac->Prop}(hu:A.units+1<Bi)(I:Inv X pins σ H s)(g:Xid H a y v H')(ry:RelV y u)(rv:RelV v r)(h:∀s',Inv X pins σ H' s'->Q () s') :
  Az (AA X.prog X.w) A (CV (.ref a) u r) Q E s:=by
 rcases g with ⟨kvs,k,e,ey,l,eH⟩ | ⟨kvs,k,b,e,ey,eb,l,eH⟩;subst ey eH;obtain ⟨z,hd,vs,rel,dd⟩:=dk_of I.hok e;have hz:vs.length<=Ak:=by rw [<- rel.length];exact z
 have hl:(putK kvs k v).length<=Ak:=by have:=Zjh kvs k v;omega
 refine wpAny_setItem_pairs (hsz:=hz) (Zsq ry) dd fun h' dd' hs=>h _ ?_;have he:∃q,h'.get? a=some q:=let ⟨q,_,_,hq,_⟩:=dd';⟨q,hq⟩
 exact Zxs I (by rw [e];exact B9) hs he (Xfc hl hd (rel.put k rv) dd');subst ey eH;cases (show u=A7 b from ry);obtain ⟨z,hd,xs,rel,dd⟩:=dt_of I.hok e;have hz:xs.length<=Ak:=by rw [<- Paired.length rel];exact z
 have hl:(putK kvs k v).length<=Ak:=by have:=Zjh kvs k v;omega
 refine wpAny_setItem_heap (hsz:=hz) (Dr hu) (Zmo I.hok eb) dd fun h' dd' hs=>h _ ?_;obtain ⟨q,es,ep,hq,h2,h3,h4,_,h5⟩:=dd';refine Zxs I (by rw [e];exact B9) hs ⟨q,hq⟩ ⟨hl,hd,_,(rel.put k eb rv).keeps fun c ys ec=>?_,q,es,ep,hq,h2,h3,h4,h5⟩;rw [Xs (ne_of ec e (fun z=>nomatch z))];exact ec
variable {kvs:List (Key×V)}{k:Key}
end
def NoSl (i:Expr):Prop:=∀ov iv,EO i false ov iv=operate [ov,iv] (E1 ov iv)
theorem Xil {slice:Expr}{T id:String}
  (hl:GN (.type T) "__getitem__"=pure (some (.builtin id))) (hs:NoSl slice)
  (h:Az (AA prog w) A (AF value env) (fun o s₁=>Az (AA prog w) A (AF slice env) (fun i s₂=>s₂.TypeIs o T/\Az (AA prog w) A (E1 o i) Q E s₂) E s₁) E s) :
  Az (AA prog w) A (AF (.Subscript value slice pos) env) Q E s:=by
 refine GV (Bl h (fun o s₁ h₁=>Bl h₁ (fun i s₂ h₂=>?_) fun _ _ x=>x) fun _ _ x=>x);obtain ⟨hT,h₂⟩:=h₂;unfold Fs;refine Av ?_;rw [getitemInPython_of_ne hT.not_modules];refine Av (wpAny_specialOf hT hl ?_);have fin:Az (AA prog w) A (EO slice false o i) (fun r s₃=>Az (AA prog w) A (letTemporaryGo value o r >>= fun _=>pure r) Q E s₃) E s₂:=by rw [hs o i];exact wpAny_operating (Bl h₂ (fun r s₃ h₃=>Av (wpAny_letTemporaryGo (A6 h₃))) fun _ _ x=>x)
 first
  | exact A6 (Av fin)
  | exact Av (A6 (Av fin))
  | exact Av fin
theorem Zpx (I:Inv X pins σ H s)(g:Zul H a y o):s.TypeIs (.ref a) "dict":=by rcases g with ⟨kvs,k,e,_,_⟩ | ⟨kvs,k,b,e,_,_,_⟩;obtain ⟨_,_,vs,_,dd⟩:=Zte I.hok e;exact dd.typeIs;obtain ⟨_,_,xs,_,dd⟩:=Ztq I.hok e;exact dd.typeIs
def Xgs (td ty:TE):TE:=fun σ H Q=>td σ H fun x H1=>ty σ H1 fun y H2=>∃a v,x=.ref a/\Zul H2 a y (some v)/\Q v H2
def Zis (td ty tv:TE):TS:=fun D σ H=>tv σ H fun v H1=>td σ H1 fun x H2=>ty σ H2 fun y H3=>∃a H4,x=.ref a/\Xid H3 a y v H4/\D.nx σ H4
section
variable {o i:Expr}{pos' tpos:Pos}{tv:TE}
theorem Xfr (hu:X.A.units+1<Bi)(ho:PE X o td)(hi:PE X i ty)(hs:NoSl i):PE X (.Subscript o i pos) (Xgs td ty):=by intro pins s σ H Q I h;refine Xil PySem.F.slot_dict_getitem.lookup hs (thn (ho pins s σ H _ I h) fun u s1 ⟨x,H1,I1,rx,q1⟩=>thn (hi pins s1 σ H1 _ I1 q1) fun iv s2 ⟨y,H2,I2,ry,a,v,ex,g,q2⟩=>?_);subst ex;obtain rfl:u=A7 a:=rx;exact ⟨Zpx I2 g,Zys hu I2 g ry fun w' s3 I3 rw'=>⟨v,H2,I3,rw',q2⟩⟩
end
theorem Zzv (h:AZ)(hb:Co<h.objs.size):Jt P w H (h.push {cls:=.type "dict",data:=.dict #[]}) h.objs.size (.dK []):=⟨D9 _,beq_eq_false_iff_ne.mpr (Ne.symm (A8 hb)),[],.nil,E7 h⟩
def Zyj:TE:=fun _ H Q=>∀p,H p=none->Q (.ref p) (upd H p (.dK []))
theorem Xbr:PE X (.Dict [] [] pos) Zyj:=fun pins s σ H Q I h =>
 wpAny_Dict_empty ⟨.ref s.heap.objs.size,_,I.laid (a:=s.heap.objs.size) (o:=.dK []) (t':=s.toks) (fun _ _ q=>AD _ q) (AI _) (Zzv s.heap I.big),rfl,h _ (I.hok.fresh (AI _))⟩
structure M1 (X:Cx)(o:Expr)(m:Str)(apos:Pos)(e:Expr)(cpos:Pos):Prop where
  base:Bt o m X.env (AF o X.env)=AF o X.env
  few:((AW cpos (Ab [e] X.env)).all (fun x=>!x.1)&&(Cq cpos (BO [] X.env)).all (fun x=>x.1.isSome)
    && decide (([e]:List Expr).length+([]:List Bo).length+(if ([]:List Bo).isEmpty then 0 else 1)<30))=true
  line:(apos.endLine==cpos.line)=true
  trees:AW cpos (Ab [e] X.env)=[(false,AF e X.env)]
structure M2 (X:Cx)(o:Expr)(m:Str)(apos:Pos)(e f:Expr)(cpos:Pos):Prop where
  base:Bt o m X.env (AF o X.env)=AF o X.env
  few:((AW cpos (Ab [e,f] X.env)).all (fun x=>!x.1)&&(Cq cpos (BO [] X.env)).all (fun x=>x.1.isSome)
    && decide (([e,f]:List Expr).length+([]:List Bo).length+(if ([]:List Bo).isEmpty then 0 else 1)<30))=true
  line:(apos.endLine==cpos.line)=true
  trees:AW cpos (Ab [e,f] X.env)=[(false,AF e X.env),(false,AF f X.env)]
def IsD (H:Hp)(a:Addr):Prop:=(∃kvs,Rd H a (.dK kvs))\/∃kvs,Rd H a (.dT kvs)
theorem Xnd (I:Inv X pins σ H s)(d:IsD H a) :
  s.TypeIs (.ref a) "dict"/\(∀b,A7 a=.ref b->∃ob,s.heap.get? b=some ob/\ob.dict=none)/\(a==Co)=false:=by
 rcases d with ⟨kvs,e⟩ | ⟨kvs,e⟩;obtain ⟨_,hd,vs,_,dd⟩:=Zte I.hok e;refine ⟨dd.typeIs,fun b q=>?_,hd⟩;cases q;obtain ⟨ob,_,_,h1,h2,_⟩:=dd;exact ⟨ob,h1,h2.2.1⟩;obtain ⟨_,hd,xs,_,dd⟩:=Ztq I.hok e;refine ⟨dd.typeIs,fun b q=>?_,hd⟩;cases q;obtain ⟨ob,_,_,h1,h2,_⟩:=dd;exact ⟨ob,h1,h2.2.1⟩
section
variable {d:V}{r:Value}
theorem Xns (hu:A.units+1<Bi)(I:Inv X pins σ H s)(g:Zul H a y o)(ry:RelV y u)(rd:RelV d r)(h:∀w' s',Inv X pins σ H s'->RelV (o.getD d) w'->Q w' s') :
  Az (AA X.prog X.w) A (call (.builtin "dict.get") [.ref a,u,r]) Q E s:=by
 rcases g with ⟨kvs,k,e,ey,l⟩ | ⟨kvs,k,b,e,ey,eb,l⟩;subst ey;obtain ⟨z,hd,vs,rel,dd⟩:=Zte I.hok e;refine call_meetsIn PySem.F.slot_dict_get dd.typeIs PySem.F.entry_dict_get (PySem.F.args_dict_get_3 _ _ _) (meets_dict_get_default (Je X.prog X.w) a (Zsq ry) hd r) ⟨_,dd.mapOf,h _ _ (I.tok _) ?_⟩;rw [l];exact (rel.val k).getD rd;subst ey;cases (show u=A7 b from ry);obtain ⟨z,hd,xs,rel,dd⟩:=Ztq I.hok e;refine call_meetsIn PySem.F.slot_dict_get dd.typeIs PySem.F.entry_dict_get (PySem.F.args_dict_get_3 _ _ _) (meetsH_dict_get_default (Ea (Je X.prog X.w)) a b hd r) ⟨Dr hu,k,xs,Zmo I.hok eb,dd,h _ _ (I.tok _) ?_⟩;rw [l];exact (rel.val k).getD rd
end
def Zvv (td ty tx:TE):TE:=fun σ H Q=>td σ H fun x H1=>∃a,x=.ref a/\IsD H1 a/\ty σ H1 fun y H2=>tx σ H2 fun z H3=>∃o,Zul H3 a y o/\Q (o.getD z) H3
section
variable {o f:Expr}{apos:Pos}{tx:TE}
theorem Xck (hu:X.A.units+1<Bi)(ho:PE X o td)(he:PE X e ty)(hf:PE X f tx)(m:M2 X o "get" apos e f cpos):PE X (.Call (.Attribute o "get" apos) [e,f] [] cpos) (Zvv td ty tx):=by
  intro pins s σ H Q I h;refine wpAny_Call_method m.base m.few m.line PySem.F.plainAttrs_dict PySem.F.slot_dict_get PySem.F.type_dict_get (thn (ho pins s σ H _ I h) fun u s1 ⟨x,H1,I1,rx,a,ex,d,q1⟩=>?_);subst ex;obtain rfl:u=A7 a:=rx;obtain ⟨t1,t2,_⟩:=Xnd I1 d;refine ⟨t1,t2,?_⟩;rw [m.trees];refine EZ rfl (DI (DX (thn (he pins s1 σ H1 _ I1 q1) fun iv s2 ⟨y,H2,I2,ry,q2⟩ =>
    DX (thn (hf pins s2 σ H2 _ I2 q2) fun fv s3 ⟨z,H3,I3,rz,ov,g,q3⟩=>FV ?_))))
  exact Xns hu I3 g ry rz fun w' s4 I4 rw'=>⟨_,H3,I4,rw',q3⟩
variable {kvs:List (Key×V)}
end
end L2
namespace Dl
open PySem
variable {α β:Type}
set_option genInjectivity true in
inductive D where
 | non
 | bl (b:Bool)
 | int (i:Int)
 | str (x:Str)
 | lst (xs:List D)
 | tup (xs:List D)
 | scr (ns:List Int)
 | rng (lo hi:Int)
 | exc (c:String) (f:Option Int)
 | obj (c:String) (ns:List Str) (xs:List D)
 | dct (ks:List (Int ⊕ Str)) (xs:List D)
 | dtt (ks:List (List (Int ⊕ Str))) (xs:List D)
 | flst (xs:List D)
 | fdt (ks:List (List (Int ⊕ Str))) (xs:List D)
 deriving Inhabited
set_option genInjectivity true in
inductive R (α:Type) where
 | ok (a:α)
 | err (c:String) (f:Option Int)
 | bad
abbrev Env:=List (Option D)
set_option genInjectivity true in
inductive Fl where
 | nx (ρ:Env)
 | ret (d:D)
 | brk (ρ:Env)
 | cnt (ρ:Env)
def R.bind {α β:Type}:R α->(α->R β)->R β
 | .ok a,f=>f a
 | .err c x,_=>.err c x
 | .bad,_=>.bad
@[simp] theorem Jv (a:α)(f:α->R β):(R.ok a).bind f=f a:=(rfl)
@[simp] theorem bind_err (c:String)(x:Option Int)(f:α->R β):(R.err c x:R α).bind f=.err c x:=(rfl)
@[simp] theorem bind_bad (f:α->R β):(R.bad:R α).bind f=.bad:=(rfl)
abbrev FE:=Env->R D
abbrev FT:=Env->R Bool
abbrev FA:=Env->R (List D)
abbrev FO:=Env->R (Option Int)
abbrev FS:=Env->R Fl
def fC (d:D):FE:=fun _=>.ok d
def fV (i:Nat):FE:=fun ρ=>match ρ[i]? with
 | some (some d)=>.ok d
 | _=>.bad
def oR {α:Type}:Option α->R α
 | some a=>.ok a
 | none=>.bad
@[simp] theorem oR_some (a:α):oR (some a)=.ok a:=(rfl)
@[simp] theorem oR_none :(oR (none:Option α))=.bad:=(rfl)
def f1 (g:D->Option D)(a:FE):FE:=fun ρ=>(a ρ).bind fun x=>oR (g x)
def f2 (g:D->D->Option D)(a b:FE):FE:=fun ρ=>(a ρ).bind fun x=>(b ρ).bind fun y=>oR (g x y)
def Zu:FA:=fun _=>.ok []
def Zb (a:FE)(r:FA):FA:=fun ρ=>(a ρ).bind fun x=>(r ρ).bind fun xs=>.ok (x::xs)
def fA (g:List D->Option D)(a:FA):FE:=fun ρ=>(a ρ).bind fun xs=>oR (g xs)
def Xy (F:List D->R D)(a:FA):FE:=fun ρ=>(a ρ).bind F
abbrev lim:Nat:=1000000
def Jq (xs:List D):Option D:=if xs.length<=lim then some (.lst xs) else none
def Zcf (xs:List D):Option D:=if xs.length<=lim then some (.tup xs) else none
mutual
def flat:D->Bool
 | .lst _=>false
 | .tup xs=>Xn xs
 | .non=>true
 | .bl _=>true
 | .int _=>true
 | .str _=>true
 | .scr _=>true
 | .rng _ _=>true
 | .exc _ _=>true
 | .obj _ _ _=>false
 | .dct _ _=>false
 | .dtt _ _=>false
 | .flst _=>true
 | .fdt _ _=>true
def Xn:List D->Bool
 | []=>true
 | x::xs=>flat x&&Xn xs
end
def Xi (d:D):Option D:=if flat d then some d else none
def Ym:D->D->Option D
 | .int i,.int j=>some (.int (i+j))
 | .str x,.str y=>if x.length+y.length<=lim then some (.str (x++y)) else none
 | .lst xs,.lst ys=>if xs.length+ys.length<=lim/\Xn xs/\Xn ys then some (.lst (xs++ys)) else none
 | _,_=>none
def Xdg:D->D->Option D
 | .int i,.int j=>some (.int (i+j))
 | _,_=>none
def Zbg:D->D->Option D
 | .int i,.int j=>some (.int (i - j))
 | _,_=>none
def short (i:Int):Bool:=decide (-(2 ^ 64)<i)&&decide (i<2 ^ 64)
def Zat:D->D->Option D
 | .int i,.int j=>if short i||short j then some (.int (i*j)) else none
 | .lst xs,.int k=>if k<=1000000/\xs.length*k.toNat<=lim/\-1000000<=k/\Xn xs then some (.lst (Aa k.toNat xs).flatten) else none
 | _,_=>none
def Zel:D->D->Option D
 | .int i,.int j=>if 0<j then some (.int (i % j)) else none
 | _,_=>none
def Xlt:D->D->Option D
 | .int i,.int j=>if 0<j/\j<2 ^ 200 then some (.int (i / j)) else none
 | _,_=>none
def Zgf:D->D->Option D
 | .int i,.int j=>if 0<=j/\j<=1000000/\i.natAbs<2 ^ 64 then some (.int (i ^ j.toNat)) else none
 | _,_=>none
def Zzi:D->Option D
 | .int i=>some (.int (-i))
 | _=>none
def gLt:D->D->Option D
 | .int i,.int j=>some (.bl (decide (i<j)))
 | _,_=>none
def gLe:D->D->Option D
 | .int i,.int j=>some (.bl (decide (i<=j)))
 | _,_=>none
def gGt:D->D->Option D
 | .int i,.int j=>some (.bl (decide (j<i)))
 | _,_=>none
def gGe:D->D->Option D
 | .int i,.int j=>some (.bl (decide (j<=i)))
 | _,_=>none
mutual
def dep:D->Nat
 | .lst xs=>Zmb xs+1
 | .tup xs=>Zmb xs+1
 | .scr _=>100
 | .rng _ _=>100
 | .exc _ _=>100
 | .obj _ _ _=>100
 | .dct _ _=>100
 | .dtt _ _=>100
 | .flst _=>100
 | .fdt _ _=>100
 | .non=>0
 | .bl _=>0
 | .int _=>0
 | .str _=>0
def Zmb:List D->Nat
 | []=>0
 | x::xs=>max (dep x) (Zmb xs)
end
mutual
def eqv:D->D->Bool
 | .non,.non=>true
 | .bl a,.bl b=>a==b
 | .bl a,.int j=>(if a then 1 else 0)==j
 | .int i,.bl b=>i==(if b then 1 else 0)
 | .int i,.int j=>i==j
 | .str x,.str y=>x==y
 | .lst xs,.lst ys=>Xkd xs ys
 | .tup xs,.tup ys=>Xkd xs ys
 | _,_=>false
def Xkd:List D->List D->Bool
 | [],[]=>true
 | x::xs,y::ys=>eqv x y&&Xkd xs ys
 | _,_=>false
end
def gEq (a b:D):Option D:=if dep a<=20/\dep b<=20 then some (.bl (eqv a b)) else none
def gNe (a b:D):Option D:=if dep a<=20/\dep b<=20 then some (.bl (!eqv a b)) else none
def Zjt:D->Bool
 | .non=>true
 | _=>false
def gIs (x:D):D->Option D
 | .non=>some (.bl (Zjt x))
 | .bl c=>match x with
  | .bl b=>some (.bl (b==c))
  | _=>none
 | _=>none
def Zfg (x:D):D->Option D
 | .non=>some (.bl (!Zjt x))
 | .bl c=>match x with
  | .bl b=>some (.bl (!(b==c)))
  | _=>none
 | _=>none
def ixD (n:Nat)(i:Int):Option Nat:=if 0<=i then (if i<n then some i.toNat else none) else if -(n:Int)<=i then some (i+n).toNat else none
def atD {α:Type}(xs:List α)(i:Int):Option α:=(ixD xs.length i).bind fun j=>xs[j]?
def Zzj (n d:Nat):Option Int->Nat
 | none=>d
 | some v=>if v<0 then (max (v+(n:Int)) 0).toNat else min v.toNat n
def cut {α:Type}(xs:List α)(lo hi:Option Int):List α:=(xs.drop (Zzj xs.length 0 lo)).take (Zzj xs.length xs.length hi - Zzj xs.length 0 lo)
def gIx:D->D->Option D
 | .lst xs,.int i=>(atD xs i)
 | .tup xs,.int i=>(atD xs i)
 | .scr ns,.int i=>((atD ns i).map D.int)
 | .str z,.int i=>if z.length<=lim then ((atD z.cps.toList i).map fun c=>D.str ⟨#[c]⟩) else none
 | _,_=>none
def gIxL (x y:D):Option D:=match x with
 | .lst _=>gIx x y
 | _=>none
def Zfi:FO:=fun _=>.ok none
def Zdk (a:FE):FO:=fun ρ=>(a ρ).bind fun d=>match d with
 | .int i=>.ok (some i)
 | _=>.bad
def fSl (g:D->Option Int->Option Int->Option D)(a:FE)(l h:FO):FE:=fun ρ=>(a ρ).bind fun x=>(l ρ).bind fun lo=>(h ρ).bind fun hi=>oR (g x lo hi)
def gSl:D->Option Int->Option Int->Option D
 | .lst xs,lo,hi=>if Xn xs then some (.lst (cut xs lo hi)) else none
 | .scr ns,lo,hi=>some (.lst ((cut ns lo hi).map D.int))
 | _,_,_=>none
def Xge:D->Option Int->Option Int->Option D
 | .lst xs,lo,hi=>some (.lst (cut xs lo hi))
 | _,_,_=>none
def Zoy:D->D->Option D
 | .lst xs,.lst ys=>if xs.length+ys.length<=lim then some (.lst (xs++ys)) else none
 | _,_=>none
def plain (n:Nat)(z:Str):Bool:=decide (z.length<=n)&&z.cps.toList.all (fun c=>decide (c<128))
def Xlx:D->Option D
 | .str z=>if plain 100 z then some (.str z) else none
 | _=>none
def intsOf:List D->Option (List Int)
 | []=>some []
 | .int i::r=>(intsOf r).map (i::·)
 | _::_=>none
def bools:List D->Option (List Bool)
 | []=>some []
 | .bl i::r=>(bools r).map (i::·)
 | _::_=>none
def Zbc:List D->Option D
 | [.lst xs]=>some (.int xs.length)
 | [.tup xs]=>some (.int xs.length)
 | [.scr xs]=>some (.int xs.length)
 | [.str z]=>if z.length<=lim then some (.int z.length) else none
 | _=>none
def Xpu:List D->Option D
 | [.lst xs]=>(intsOf xs).bind fun ns=>some (.int ns.sum)
 | _=>none
def maxL:List Int->Int
 | []=>0
 | x::r=>r.foldl max x
def Xll:List D->Option D
 | [.int i,.int j]=>some (.int (if j<i then j else i))
 | _=>none
def Xed:List Int->Int
 | []=>0
 | x::r=>r.foldl min x
def Xax:List D->Option D
 | [.int i,.int j]=>some (.int (if j<i then j else i))
 | [.lst xs]=>(intsOf xs).bind fun ns=>if ns=[] then none else some (.int (Xed ns))
 | _=>none
def Xlv:List D->Option D
 | [.lst xs]=>(bools xs).bind fun bs=>some (.bl (bs.any id))
 | _=>none
def Xlr:List D->Option D
 | [.lst xs]=>(bools xs).bind fun bs=>some (.bl (bs.all id))
 | _=>none
def Zhb (lo:Int)(n:Nat):List D:=(AJ n).map fun (k:Nat)=>D.int (lo+(k:Int))
def Zdm:List D->Option D
 | [.lst xs]=>if Xn xs then some (.lst xs) else none
 | [.tup xs]=>if Xn xs then some (.lst xs) else none
 | [.rng i j]=>if -1000000000<=i/\i<=1000000000/\-1000000000<=j/\j<=1000000000/\(j - i).toNat<=lim then some (.lst (Zhb i (j - i).toNat)) else none
 | _=>none
def Xqy:List D->Option D
 | [.lst xs]=>some (.lst xs)
 | _=>none
def Xej:D->String
 | .non=>"NoneType"
 | .bl _=>"bool"
 | .int _=>"int"
 | .str _=>"str"
 | .lst _=>"list"
 | .tup _=>"tuple"
 | .scr _=>"list"
 | .rng _ _=>"range"
 | .exc c _=>c
 | .obj c _ _=>c
 | .dct _ _=>"dict"
 | .dtt _ _=>"dict"
 | .flst _=>"list"
 | .fdt _ _=>"dict"
def Zkm (c:String):D->Option D
 | .non=>some (.bl false)
 | .bl _=>some (.bl (c=="bool"||c=="int"))
 | .int _=>some (.bl (c=="int"))
 | .str _=>some (.bl (c=="str"))
 | .lst _=>some (.bl (c=="list"))
 | .tup _=>some (.bl (c=="tuple"))
 | _=>none
def cE (a:FE):FT:=fun ρ=>(a ρ).bind fun d=>match d with
 | .bl b=>.ok b
 | _=>.bad
def Zma (a:FT):FT:=fun ρ=>(a ρ).bind fun b=>.ok (!b)
def Zot (a b:FT):FT:=fun ρ=>(a ρ).bind fun x=>if x then b ρ else .ok false
def cOr (a b:FT):FT:=fun ρ=>(a ρ).bind fun x=>if x then .ok true else b ρ
def Xlq (a b:FE):FE:=fun ρ=>(a ρ).bind fun x=>match x with
 | .bl true=>b ρ
 | .bl false=>.ok (.bl false)
 | _=>.bad
def fOr (a b:FE):FE:=fun ρ=>(a ρ).bind fun x=>match x with
 | .bl true=>.ok (.bl true)
 | .bl false=>b ρ
 | _=>.bad
def gNot:D->Option D
 | .bl b=>some (.bl (!b))
 | _=>none
def fIf (c:FT)(a b:FE):FE:=fun ρ=>(c ρ).bind fun x=>if x then a ρ else b ρ
def Xne (g g':D->D->Option D)(a b c:FE):FE:=fun ρ=>(a ρ).bind fun x=>(b ρ).bind fun y=>(oR (g x y)).bind fun z=>match z with
 | .bl true=>(c ρ).bind fun w=>oR (g' y w)
 | .bl false=>.ok (.bl false)
 | _=>.bad
abbrev FB:=D->Env->R Env
def Zr (i:Nat):FB:=fun d ρ=>.ok (ρ.set i (some d))
def Zej:List D->Env->R Env
 | [],ρ=>.ok ρ
 | _,_=>.bad
def Xr (b:FB)(r:List D->Env->R Env):List D->Env->R Env
 | d::ds,ρ=>(b d ρ).bind fun ρ'=>r ds ρ'
 | _,_=>.bad
def Zeo (r:List D->Env->R Env):FB:=fun d ρ=>match d with
 | .tup ds=>r ds ρ
 | _=>.bad
def R.calm {α:Type}:R α->R α
 | .ok a=>.ok a
 | .err _ _=>.bad
 | .bad=>.bad
@[simp] theorem calm_ok (a:α):(R.ok a).calm=.ok a:=(rfl)
def Zci (k:Nat)(b:FB)(c:FT)(e:FE)(ρ:Env):List D->R (List D)
 | []=>.ok []
 | x::xs=>(b x (ρ++Aa k none)).calm.bind fun ρ1=>(c ρ1).bind fun t=>if t then (e ρ1).bind fun y=>(Zci k b c e ρ xs).bind fun ys=>.ok (y::ys) else Zci k b c e ρ xs
def Zec:FT:=fun _=>.ok true
abbrev FI:=Env->R (List D)
def Zad (a:FE):FI:=fun ρ=>(a ρ).bind fun d=>match d with
 | .lst xs=>if xs.length<=lim then .ok xs else .bad
 | .scr ns=>if ns.length<=lim then .ok (ns.map D.int) else .bad
 | _=>.bad
def jTup (a:FE):FI:=fun ρ=>(a ρ).bind fun d=>match d with
 | .tup xs=>if xs.length<=lim then .ok xs else .bad
 | _=>.bad
def Zek (a:FA):FI:=fun ρ=>(a ρ).bind fun ds=>match ds with
 | [.int j]=>if -1000000000<=j/\j<=1000000 then .ok (Zhb 0 j.toNat) else .bad
 | _=>.bad
def jRng2 (a:FA):FI:=fun ρ=>(a ρ).bind fun ds=>match ds with
 | [.int i,.int j]=>if -1000000000<=i/\i<=1000000000/\-1000000000<=j/\j<=1000000000/\(j - i).toNat<=lim then .ok (Zhb i (j - i).toNat) else .bad
 | _=>.bad
def Xjy:List D->Option D
 | [.bl b]=>some (.int (if b=true then 1 else 0))
 | _=>none
def Zxb (ds es:List D):List D:=BD (fun d e=>D.tup [d,e]) ds es
def Ztz (a b:FE):FI:=fun ρ=>(a ρ).bind fun x=>(b ρ).bind fun y=>match x,y with
 | .lst xs,.lst ys=>if xs.length<=lim/\ys.length<=lim then .ok (Zxb xs ys) else .bad
 | _,_=>.bad
def Zaa (n k:Nat)(it:FI)(b:FB)(c:FT)(e:FE):FE:=fun ρ=>if ρ.length=n then (it ρ).bind fun xs=>(Zci k b c e ρ xs).calm.bind fun ys=>.ok (.lst ys) else .bad
def sNx:FS:=fun ρ=>.ok (.nx ρ)
def Zqs:FS:=fun _=>.bad
def Xm (a b:FS):FS:=fun ρ=>(a ρ).bind fun fl=>match fl with
 | .nx ρ'=>b ρ'
 | fl=>.ok fl
def Ya (i:Nat)(e:FE):FS:=fun ρ=>(e ρ).bind fun d=>.ok (.nx (ρ.set i (some d)))
def Jx (e:FE):FS:=fun ρ=>(e ρ).bind fun d=>.ok (.ret d)
def sIf (c:FT)(a b:FS):FS:=fun ρ=>(c ρ).bind fun x=>if x then a ρ else b ρ
def Zjr (i:Nat)(e:FE):FS:=fun ρ=>match ρ[i]? with
 | some (some (.lst xs))=>(e ρ).bind fun d=>if xs.length<lim then .ok (.nx (ρ.set i (some (.lst (xs++[d]))))) else .bad
 | _=>.bad
def Xgc (i:Nat)(e:FE):FS:=fun ρ=>match ρ[i]? with
 | some (some (.lst xs))=>(e ρ).bind fun d=>match d with
  | .lst ys=>if xs.length+ys.length<=lim then .ok (.nx (ρ.set i (some (.lst (xs++ys))))) else .bad
  | _=>.bad
 | _=>.bad
def Xlw (i:Nat)(k e:FE):FS:=fun ρ=>match ρ[i]? with
 | some (some (.lst xs))=>(k ρ).bind fun z=>(e ρ).bind fun d=>match z with
  | .int n=>if 0<=n/\n<=xs.length/\xs.length<lim then .ok (.nx (ρ.set i (some (.lst (xs.take n.toNat++d::xs.drop n.toNat))))) else .bad
  | _=>.bad
 | _=>.bad
def Zth (i:Nat)(k e:FE):FS:=fun ρ=>(e ρ).bind fun d=>match ρ[i]? with
 | some (some (.lst xs))=>(k ρ).bind fun z=>match z with
  | .int n=>if flat d=true/\Xn xs=true then match ixD xs.length n with
    | some j=>.ok (.nx (ρ.set i (some (.lst (xs.set j d)))))
    | none=>.bad
   else .bad
  | _=>.bad
 | _=>.bad
def Xln (i:Nat)(g:D->D->Option D)(e:FE):FS:=fun ρ=>match ρ[i]? with
 | some (some x)=>(e ρ).bind fun y=>(oR (g x y)).bind fun z=>.ok (.nx (ρ.set i (some z)))
 | _=>.bad
def Xnf (i j:Nat)(g:D->D->Option D)(x:D)(ρ:Env):R Fl:=match x,ρ[j]? with
 | .int k,some (some (.lst ds))=>match ds.getLast? with
  | some (.int n)=>match g (.int k) (.int n) with
   | some (.int z)=>if Xn ds=true then .ok (.nx ((ρ.set j (some (.lst ds.dropLast))).set i (some (.int z)))) else .bad
   | _=>.bad
  | _=>.bad
 | _,_=>.bad
def Xrf (i j:Nat)(g:D->D->Option D)(a:FE):FS:=fun ρ=>(a ρ).bind fun x=>Xnf i j g x ρ
def sDrop (e:FE):FS:=fun ρ=>(e ρ).bind fun _=>.ok (.nx ρ)
def Xdz (e:FE)(b:FB):FS:=fun ρ=>(e ρ).bind fun d=>(b d ρ).calm.bind fun ρ'=>.ok (.nx ρ')
def Zbx (b:FB)(s:FS):List D->Env->R Fl
 | [],ρ=>.ok (.nx ρ)
 | x::xs,ρ=>(b x ρ).calm.bind fun ρ1=>(s ρ1).bind fun fl=>match fl with
  | .nx ρ2=>Zbx b s xs ρ2
  | .cnt ρ2=>Zbx b s xs ρ2
  | .brk ρ2=>.ok (.nx ρ2)
  | .ret d=>.ok (.ret d)
def Zhu (it:FI)(b:FB)(s:FS):FS:=fun ρ=>(it ρ).bind fun xs=>Zbx b s xs ρ
def Zrk (c:FT)(s:FS):Nat->Env->R Fl
 | 0,_=>.bad
 | n+1,ρ=>(c ρ).bind fun b=>if b then (s ρ).bind fun fl=>match fl with
  | .nx ρ2=>Zrk c s n ρ2
  | .cnt ρ2=>Zrk c s n ρ2
  | .brk ρ2=>.ok (.nx ρ2)
  | .ret d=>.ok (.ret d)
  else .ok (.nx ρ)
def Xop (n:Nat)(c:FT)(s:FS):FS:=fun ρ=>Zrk c s n ρ
def Zrg (c:String)(words:FA):FS:=fun ρ=>(words ρ).bind fun _=>.err c none
def Xma (i:Nat)(k:FE)(d:D):Env->R Env:=fun ρ=>match ρ[i]? with
 | some (some (.lst xs))=>(k ρ).bind fun z=>match z with
  | .int n=>if flat d=true/\Xn xs=true then match ixD xs.length n with
    | some j=>.ok (ρ.set i (some (.lst (xs.set j d))))
    | none=>.bad
   else .bad
  | _=>.bad
 | _=>.bad
def Zye (i:Nat)(k1 k2 e:FE):FS:=fun ρ=>(e ρ).bind fun v=>match v with
 | .tup [d1,d2]=>if flat d1=true/\flat d2=true then (Xma i k1 d1 ρ).bind fun ρ1=>(Xma i k2 d2 ρ1).bind fun ρ2=>.ok (.nx ρ2) else .bad
 | _=>.bad
def strsOf:List D->Option (List Str)
 | []=>some []
 | .str i::r=>(strsOf r).map (i::·)
 | _::_=>none
def Zwk:D->D->Option D
 | .str s,.lst ds=>(strsOf ds).bind fun ts=>if (ts.map (·.length)).sum+ts.length*s.length<=lim then some (.str (Cv s ts)) else none
 | _,_=>none
def Xex:D->D->Option D
 | .lst ds,.int n=>(intsOf ds).bind fun ns=>if n∈ns then some (D.int (ns.idxOf n:Nat)) else none
 | _,_=>none
def Xng (a b:FE):FE:=fun ρ=>(a ρ).bind fun x=>match x with
 | .lst ds=>(b ρ).bind fun y=>oR (Xex (.lst ds) y)
 | _=>.bad
def Xbu (a b:FE):FE:=fun ρ=>(a ρ).bind fun x=>match x with
 | .str s=>(b ρ).bind fun y=>oR (Zwk (.str s) y)
 | _=>.bad
def Zuh (cs:List String)(N:Nat)(b h:FS):FS:=fun ρ=>match b ρ with
 | .err c _=>if cs.contains c then (h (Aa N none)).calm else .bad
 | r=>r
def Zoz (k:Nat):FB:=fun d ρ=>if flat d then .ok (ρ.set k (some d)) else .bad
abbrev FM:=Env->R (D×Env)
abbrev FMT:=Env->R (Bool×Env)
def Zuy (i:Nat)(a:FM):FS:=fun ρ=>(a ρ).bind fun p=>.ok (.nx (p.2.set i (some p.1)))
def Zfl (s:FS)(r:FM):FM:=fun ρ=>(s ρ).bind fun fl=>match fl with
 | .nx ρ'=>r ρ'
 | _=>.bad
def Xqe (N:Nat)(G:FM)(ds:List D):R (D×D):=(G (ds.map some++Aa (N - ds.length) none)).bind fun p=>match p.2[0]? with
 | some (some d)=>.ok (p.1,d)
 | _=>.bad
def run (N:Nat)(b:FS)(ds:List D):R D:=(b (ds.map some++Aa (N - ds.length) none)).bind fun fl=>match fl with
 | .nx _=>.ok .non
 | .ret d=>.ok d
 | _=>.bad
def Xbh:D->Option (Int ⊕ Str)
 | .int i=>some (.inl i)
 | .str x=>some (.inr x)
 | _=>none
def Zuk (ks:List (Int ⊕ Str))(k:Int ⊕ Str):Bool:=ks.any fun j=>decide (j=k)
def Xpm (x y:D):Option D:=match Xbh x,y with
 | some k,.dct ks _=>some (.bl (Zuk ks k))
 | _,_=>none
def Xgw (ks:List (Int ⊕ Str))(xs:List D)(k:Int ⊕ Str)(d:D):D:=if Zuk ks k then .dct ks (BD (fun j x=>if j=k then d else x) ks xs) else .dct (ks++[k]) (xs++[d])
def Zis (i:Nat)(k e:FE):FS:=fun ρ=>(e ρ).bind fun d=>match ρ[i]? with
 | some (some (.dct ks xs))=>(k ρ).bind fun z=>match Xbh z with
  | some q=>if flat d=true/\Xn xs=true/\ks.length<lim then .ok (.nx (ρ.set i (some (Xgw ks xs q d)))) else .bad
  | none=>.bad
 | _=>.bad
def catO:Str->List D->Option D
 | out,[]=>some (.str out)
 | out,.str y::r=>if y.length<=2000 then catO (out++y) r else none
 | _,_=>none
abbrev Pc:=Int×Str
def sLt (x y:Str):Bool:=decide (x.cps.toList<y.cps.toList)
def pcLt (p q:Pc):Bool:=if p.1=q.1 then (if p.2=q.2 then false else sLt p.2 q.2) else decide (p.1<q.1)
def ctLt:List Pc->List Pc->Bool
 | [],[]=>false
 | [],_::_=>true
 | _::_,[]=>false
 | p::c,q::d=>if p=q then ctLt c d else pcLt p q
def aVars:List Nat->FA
 | []=>Zu
 | j::r=>Zb (fV j) (aVars r)
def keyLs (fb:FE)(fr:Env):List D->R (List Int)
 | []=>.ok []
 | x::r=>(fb (some x::fr)).calm.bind fun k=>match k with
  | .int k=>(keyLs fb fr r).bind fun ks=>.ok (k::ks)
  | _=>.bad
def dAt:List (Int ⊕ Str)->List D->Int ⊕ Str->Option D
 | j::ks,x::xs,k=>if j=k then some x else dAt ks xs k
 | _,_,_=>none
def Zzh:D->D->Option D
 | .dct ks xs,y=>if Xn xs then (Xbh y).bind fun k=>dAt ks xs k else none
 | _,_=>none
def Zsu (a b c:FE):FE:=fun ρ=>(a ρ).bind fun d=>match d with
 | .dct ks xs=>(b ρ).bind fun y=>(c ρ).bind fun z=>match Xbh y with
  | some k=>if Xn xs=true/\flat z=true then .ok ((dAt ks xs k).getD z) else .bad
  | none=>.bad
 | _=>.bad
abbrev Pr:=Int×(Int ⊕ Str)
def kLt:Int ⊕ Str->Int ⊕ Str->Bool
 | .inl a,.inl b=>decide (a<b)
 | .inr a,.inr b=>sLt a b
 | _,_=>false
def Xpp (p q:Pr):Bool:=if p.1=q.1 then kLt p.2 q.2 else decide (p.1<q.1)
def insP (c:Pr):List Pr->List Pr
 | []=>[c]
 | d::r=>if Xpp c d=true then c::d::r else d::insP c r
def sortP:List Pr->List Pr
 | []=>[]
 | c::r=>insP c (sortP r)
def prOfD:D->Option Pr
 | .tup [.int i,.int j]=>some (i,.inl j)
 | .tup [.int i,.str z]=>some (i,.inr z)
 | _=>none
def prsOf:List D->Option (List Pr)
 | []=>some []
 | d::r=>(prOfD d).bind fun c=>(prsOf r).bind fun cs=>some (c::cs)
def Xgf (ks:List Int)(k:Int):List Int:=if k∈ks then ks else ks++[k]
def Zyn (ks:List Int):List Int->List Int
 | []=>ks
 | n::ns=>Zyn (Xgf ks n) ns
end Dl
namespace Dl
def Zno (f:FS):FS:=fun ρ=>(f ρ).bind fun fl=>match fl with
 | .nx ρ'=>.ok (.nx ρ')
 | _=>.bad
def ilt (p q:Int):Bool:=decide (p<q)
def Xim:List Int->List Int->Bool
 | [],[]=>false
 | [],_::_=>true
 | _::_,[]=>false
 | p::c,q::d=>if p=q then Xim c d else ilt p q
end Dl
namespace Dl
open PySem
end Dl
namespace Dl
def Zsm (i:Nat)(k e:FE):FS:=fun ρ=>(e ρ).bind fun d=>match ρ[i]? with
 | some (some (.lst xs))=>(k ρ).bind fun z=>match z with
  | .int n=>match ixD xs.length n with
    | some j=>.ok (.nx (ρ.set i (some (.lst (xs.set j d)))))
    | none=>.bad
  | _=>.bad
 | _=>.bad
def Zrw (i:Nat):FM:=fun ρ=>match ρ[i]? with
 | some (some d)=>.ok (d,ρ.set i none)
 | _=>.bad
def Zgn (w:Nat)(G:List D->R (D×D))(fa:FA):Env->R (D×D):=fun ρ=>match ρ[w]? with
 | some (some d0)=>(fa ρ).bind fun ys=>G (d0::ys)
 | _=>.bad
def goW (w:Nat)(f:Env->R (D×D))(ρ:Env):List D->R (List D×Env)
 | []=>.ok ([],ρ)
 | x::xs=>(f (ρ++[some x])).calm.bind fun p=>(goW w f (ρ.set w (some p.2)) xs).bind fun q=>.ok (p.1::q.1,q.2)
def Zkg (n w:Nat)(fi:FI)(f:Env->R (D×D)):FM:=fun ρ=>if ρ.length=n then (fi ρ).bind fun xs=>(goW w f ρ xs).calm.bind fun q=>.ok (.lst q.1,q.2) else .bad
end Dl
namespace Dl
open PySem
def Zgm:List D->Option (List ((Int ⊕ Str)×D))
 | []=>some []
 | .tup [k,d]::r=>match Xbh k with
  | some q=>if flat d=true then (Zgm r).map ((q,d)::·) else none
  | none=>none
 | _::_=>none
def Zjo:List D->Option D
 | [.lst ds]=>(Zgm ds).bind fun ps=>if ps.length<=1000/\(ps.map (·.1)).Nodup then some (.dct (ps.map (·.1)) (ps.map (·.2))) else none
 | _=>none
def Znv (a b:FE):FE:=fun ρ=>(a ρ).bind fun x=>match x with
 | .lst ds=>(b ρ).bind fun y=>match y with
  | .str s=>oR ((strsOf ds).map fun l=>.int (l.count s:Nat))
  | _=>.bad
 | _=>.bad
end Dl
namespace Dl
def Zya (n:Nat):D->Option Nat
 | .int k=>ixD n k
 | _=>none
def Zoq (i:Nat)(k1 k2 l1 l2:FE):FS:=fun ρ=>match ρ[i]? with
 | some (some (.lst xs))=>(l1 ρ).bind fun z1=>match Zya xs.length z1 with
  | some j1=>(l2 ρ).bind fun z2=>match Zya xs.length z2 with
   | some j2=>(k1 ρ).bind fun w1=>if Zya xs.length w1=some j2 then
     (k2 (ρ.set i (some (.lst (xs.set j2 (xs.getD j1 .non)))))).bind fun w2=>if Zya xs.length w2=some j1 then .ok (.nx (ρ.set i (some (.lst ((xs.set j2 (xs.getD j1 .non)).set j1 (xs.getD j2 .non)))))) else .bad
    else .bad
   | none=>.bad
  | none=>.bad
 | _=>.bad
end Dl
namespace L2
open PySem PySem.Spec PyProof.Rows
open Dl (D R FE FT FA FO FS FI FB Fl)
variable {K:AE}{H H' H1 H2 H0 Hb Hc:Hp}{a Dd c0:Addr}{xs vs ys:List V}{C:String->Addr}{ds:List D}{A:Nat->List Addr}{d d' d0:D}{v v0:V}{ns:List Int}{E:XK}{Γ Δ Γ' Δ' Γ1 Δ1 Γl Δl Γk Δk:List Nat}{m m1 m2 mr j i m3 n N x1 jj nn t':Nat}{S1 S2 S3:List (Nat×Bool)}{σ:St}{ρ:Yb}{α:Type}{er er':String->Option Int->Prop}{t:TA}{f:FA}{B Bx By A' B' ch B1 B2 A0 as:List Addr}{g:D->D->Option D}{ta tb te tc ts tk tk1 tk2:TE}{fa fb fe fc fk fk1 fk2:FE}{P:List Value->Prop}{F:List D->R D}{y z x qual ty nm:Str}{Q:VK}{p pos p2 apos cpos pos' np hpos jp tpos cp p1 p':Pos}{gv:Int->Int->V}{Cd:Int->Int->Prop}{e b c st o tg iter elt kx:Expr}{X:Cx}{lo hi:Option Expr}{tl:TO}{th:TS}{fl fh:FO}{u gs:TGs}{J:It}{Rr:St->Hp->Prop}{es ifs elts:List Expr}{o':HO}{wi:TI}{fi:FI}{op:Fe}{tA tB':TT}{fB:FT}{CX:CXT}{ps loose sn:List Str}{T cn newId initId:String}{tt gg:TG}{fu:List D->Yb->R Yb}{sc:Scope}{fg:FB}{s1 b₀:Stmt}{ss body suite:List Stmt}{w:AS}{mg:Str->Option Value}{fd:B3}{ff:Int->Int->Int}{s:Ac}{tj:TJ}{cs:List String}{pins:List (Addr×Obj)}{h' h:AZ}{its bm bmB sub:List Value}{prog q:Aw}{a₀:Array AK}{fm G:FM}{XP:(Str->Option Value)->AZ->Prop}{kwd:List (Str×Expr)}{os:Gg}{hdct ab:Bool}{col:Option Bool}{dd:Option Addr}{k0 k1 k2 k3 k5:Option Value}{env:Env}
def FzL (K:AE)(H:Hp)(a:Addr)(xs:List V):Prop:=
 (∃o,H a=some (.frz o (.lst xs)))\/∃(o:Obj) (its:Array Value) (n:Nat),K.lookup a=some o/\o.cls=.type "list"/\o.dict=none/\o.data=.seq its n/\its.size<=Ak/\Yw xs its.toList
theorem FzL.sq (h:FzL K H a xs):SqL K H a xs:=by rcases h with ⟨o,h⟩ | h;exact .inl (.inr ⟨o,h⟩);exact .inr h
def fnm (c:String):Str:=if c="TooMany" then "most" else "at"
def FOk (H:Hp)(c:String)(f:Option Int)(dx:Option Addr):Prop:=match f with
 | none=>True
 | some i=>∃d,dx=some d/\H d=some (.xd [(fnm c,.int i)])
section
variable (K:AE)(C:String->Addr)
mutual
def Rp (H:Hp):D->V->List Addr->Prop
 | .non,v,A=>v=.non/\A=[]
 | .bl b,v,A=>v=.bl b/\A=[]
 | .int i,v,A=>v=.int i/\A=[]
 | .str x,v,A=>v=.str x/\Bk x=true/\A=[]
 | .lst ds,v,A=>∃a xs B,v=.ref a/\H a=some (.lst xs)/\RpA H ds xs B/\A=a::B
 | .tup ds,v,A=>∃a xs,v=.ref a/\H a=some (.tup xs)/\RpA H ds xs A
 | .scr ns,v,A=>∃a,v=.ref a/\FzL K H a (ns.map V.int)/\A=[]
 | .rng lo hi,v,A=>∃a,v=.ref a/\H a=some (.rng lo hi)/\A=[]
 | .exc c f,v,A=>∃e dx,v=.ref e/\H e=some (exO e (.ref (C c)) dx)/\FOk H c f dx/\A=[]
 | .obj c ns ds,v,A=>∃a dx xs B,v=.ref a/\H a=some (.ins (C c) dx (ns.zip xs))/\ns.length=ds.length/\RpA H ds xs B/\A=a::B
 | .dct ks ds,v,A=>∃a xs B,v=.ref a/\H a=some (.dK (ks.zip xs))/\ks.length=ds.length/\RpA H ds xs B/\A=a::B
 | .dtt ks ds,v,A=>∃a xs B,v=.ref a/\H a=some (.dT (ks.zip xs))/\ks.length=ds.length/\RpA H ds xs B/\A=a::B
 | .flst ds,v,A=>∃a o xs,v=.ref a/\H a=some (.frz o (.lst xs))/\RpA H ds xs []/\A=[]
 | .fdt ks ds,v,A=>∃a o xs,v=.ref a/\H a=some (.frz o (.dT (ks.zip xs)))/\ks.length=ds.length/\RpA H ds xs []/\A=[]
def RpA (H:Hp):List D->List V->List Addr->Prop
 | [],xs,A=>xs=[]/\A=[]
 | d::ds,xs,A=>∃x r B B',xs=x::r/\Rp H d x B/\RpA H ds r B'/\A=B++B'
end
end
inductive IsM:HO->Prop where
 | lst {xs:List V}:IsM (.lst xs)
 | ins {C dx:Addr} {fs:List (Str×V)}:IsM (.ins C dx fs)
 | dct {kvs:List (Key×V)}:IsM (.dK kvs)
 | dtt {kvs:List (List Key×V)}:IsM (.dT kvs)
def Ext (W:Addr->Prop)(H H':Hp):Prop:=∀b o,H b=some o->H' b=some o\/(W b/\IsM o)
theorem Ext.same (h:Xk H H'):Ext (fun _=>False) H H':=fun b o q=>.inl (h b o q)
mutual
theorem Rp.ext {W:Addr->Prop}(h:Ext W H H'):∀{d:D} {v:V} {A:List Addr},(∀a∈A,¬W a)->Rp K C H d v A->Rp K C H' d v A
 | .non,_,_,_,r=>r
 | .bl _,_,_,_,r=>r
 | .int _,_,_,_,r=>r
 | .str _,_,_,_,r=>r
 | .lst ds,v,A,hw,r=>by obtain ⟨a,xs,B,e1,e2,e3,e4⟩:=r;subst e4;refine ⟨a,xs,B,e1,?_,RpA.ext h (fun b hb=>hw b (.tail _ hb)) e3,rfl⟩;rcases h a _ e2 with q | ⟨q,_⟩;exact q;exact absurd q (hw a (.head _))
 | .tup ds,v,A,hw,r=>by obtain ⟨a,xs,e1,e2,e3⟩:=r;refine ⟨a,xs,e1,?_,RpA.ext h hw e3⟩;rcases h a _ e2 with q | ⟨_,q⟩;exact q;cases q
 | .scr ns,v,A,_,r=>by obtain ⟨a,e1,e2,e3⟩:=r;refine ⟨a,e1,?_,e3⟩;rcases e2 with ⟨o,e2⟩ | e2;rcases h a _ e2 with q | ⟨_,q⟩;exact .inl ⟨o,q⟩;cases q;exact .inr e2
 | .rng lo hi,v,A,_,r=>by obtain ⟨a,e1,e2,e3⟩:=r;refine ⟨a,e1,?_,e3⟩;rcases h a _ e2 with q | ⟨_,q⟩;exact q;cases q
 | .exc c f,v,A,_,r=>by
  obtain ⟨a,dx,e1,e2,e3,e4⟩:=r;refine ⟨a,dx,e1,?_,?_,e4⟩;rcases h a _ e2 with q | ⟨_,q⟩;exact q;cases q;cases f with
  | none=>trivial
  | some i =>obtain ⟨d,z1,z2⟩:=e3;refine ⟨d,z1,?_⟩;rcases h d _ z2 with q | ⟨_,q⟩;exact q;cases q
 | .obj c ns ds,v,A,hw,r=>by obtain ⟨a,dx,xs,B,e1,e2,e0,e3,e4⟩:=r;subst e4;refine ⟨a,dx,xs,B,e1,?_,e0,RpA.ext h (fun b hb=>hw b (.tail _ hb)) e3,rfl⟩;rcases h a _ e2 with q | ⟨q,_⟩;exact q;exact absurd q (hw a (.head _))
 | .dct ks ds,v,A,hw,r=>by obtain ⟨a,xs,B,e1,e2,e0,e3,e4⟩:=r;subst e4;refine ⟨a,xs,B,e1,?_,e0,RpA.ext h (fun b hb=>hw b (.tail _ hb)) e3,rfl⟩;rcases h a _ e2 with q | ⟨q,_⟩;exact q;exact absurd q (hw a (.head _))
 | .dtt ks ds,v,A,hw,r=>by obtain ⟨a,xs,B,e1,e2,e0,e3,e4⟩:=r;subst e4;refine ⟨a,xs,B,e1,?_,e0,RpA.ext h (fun b hb=>hw b (.tail _ hb)) e3,rfl⟩;rcases h a _ e2 with q | ⟨q,_⟩;exact q;exact absurd q (hw a (.head _))
 | .flst ds,v,A,hw,r=>by obtain ⟨a,o,xs,e1,e2,e3,e4⟩:=r;refine ⟨a,o,xs,e1,?_,RpA.ext h (fun _ hb=>nomatch hb) e3,e4⟩;rcases h a _ e2 with q | ⟨_,q⟩;exact q;cases q
 | .fdt ks ds,v,A,hw,r=>by obtain ⟨a,o,xs,e1,e2,e0,e3,e4⟩:=r;refine ⟨a,o,xs,e1,?_,e0,RpA.ext h (fun _ hb=>nomatch hb) e3,e4⟩;rcases h a _ e2 with q | ⟨_,q⟩;exact q;cases q
theorem RpA.ext {W:Addr->Prop}(h:Ext W H H'):∀{ds:List D} {vs:List V} {A:List Addr},(∀a∈A,¬W a)->RpA K C H ds vs A->RpA K C H' ds vs A
 | [],_,_,_,r=>r
 | d::ds,vs,A,hw,r=>by obtain ⟨x,l,B,B',e1,e2,e3,e4⟩:=r;subst e4;exact ⟨x,l,B,B',e1,Rp.ext h (fun a ha=>hw a (As _ ha)) e2,RpA.ext h (fun a ha=>hw a (Ai _ ha)) e3,rfl⟩
end
theorem Rp.same (h:Xk H H'){d:D}{v:V}{A:List Addr}(r:Rp K C H d v A):Rp K C H' d v A:=r.ext (Ext.same h) (fun _ _ q=>q)
theorem RpA.same (h:Xk H H'){d:List D}{v:List V}{A:List Addr}(r:RpA K C H d v A):RpA K C H' d v A:=r.ext (Ext.same h) (fun _ _ q=>q)
def Agree (W:List Addr)(H Hb:Hp):Prop:=(∀a∈W,Hb a=H a)/\∀b o,H b=some o->¬IsM o->Hb b=some o
theorem Agree.ext {W:List Addr}(h:Agree W H H'):Ext (fun a=>a∉W) H H':=fun b o q=>by by_cases hb:b∈W;exact .inl ((h.1 b hb).trans q);by_cases ho:IsM o;exact .inr ⟨hb,ho⟩;exact .inl (h.2 b o q ho)
theorem RpA.agree {W:List Addr}(h:Agree W H H'){A:List Addr}(hA:∀a∈A,a∈W)(r:RpA K C H ds vs A):RpA K C H' ds vs A:=r.ext h.ext fun a ha z=>z (hA a ha)
mutual
theorem Rp.isl:∀{d:D} {v:V} {A:List Addr},Rp K C H d v A->∀a∈A,∃o,H a=some o/\IsM o
 | .non,_,_,r,a,ha=>by rw [r.2] at ha;cases ha
 | .bl _,_,_,r,a,ha=>by rw [r.2] at ha;cases ha
 | .int _,_,_,r,a,ha=>by rw [r.2] at ha;cases ha
 | .str _,_,_,r,a,ha=>by rw [r.2.2] at ha;cases ha
 | .lst ds,_,_,r,a,ha=>by obtain ⟨b,xs,B,e1,e2,e3,e4⟩:=r;rw [e4] at ha;rcases Aj.mp ha with z | z;rw [z];exact ⟨_,e2,.lst⟩;exact RpA.isl e3 a z
 | .tup ds,_,_,r,a,ha=>by obtain ⟨b,xs,e1,e2,e3⟩:=r;exact RpA.isl e3 a ha
 | .scr _,_,_,r,a,ha=>by obtain ⟨_,_,_,e⟩:=r;rw [e] at ha;cases ha
 | .rng _ _,_,_,r,a,ha=>by obtain ⟨_,_,_,e⟩:=r;rw [e] at ha;cases ha
 | .exc _ _,_,_,r,a,ha=>by obtain ⟨_,_,_,_,_,e⟩:=r;rw [e] at ha;cases ha
 | .obj c ns ds,_,_,r,a,ha=>by obtain ⟨b,dx,xs,B,e1,e2,e0,e3,e4⟩:=r;rw [e4] at ha;rcases Aj.mp ha with z | z;rw [z];exact ⟨_,e2,.ins⟩;exact RpA.isl e3 a z
 | .dct ks ds,_,_,r,a,ha=>by obtain ⟨b,xs,B,e1,e2,e0,e3,e4⟩:=r;rw [e4] at ha;rcases Aj.mp ha with z | z;rw [z];exact ⟨_,e2,.dct⟩;exact RpA.isl e3 a z
 | .dtt ks ds,_,_,r,a,ha=>by obtain ⟨b,xs,B,e1,e2,e0,e3,e4⟩:=r;rw [e4] at ha;rcases Aj.mp ha with z | z;rw [z];exact ⟨_,e2,.dtt⟩;exact RpA.isl e3 a z
 | .flst ds,_,_,r,a,ha=>by obtain ⟨b,o,xs,e1,e2,e3,e4⟩:=r;rw [e4] at ha;cases ha
 | .fdt ks ds,_,_,r,a,ha=>by obtain ⟨b,o,xs,e1,e2,e0,e3,e4⟩:=r;rw [e4] at ha;cases ha
theorem RpA.isl:∀{ds:List D} {vs:List V} {A:List Addr},RpA K C H ds vs A->∀a∈A,∃o,H a=some o/\IsM o
 | [],_,_,r,a,ha=>by rw [r.2] at ha;cases ha
 | d::ds,_,_,r,a,ha=>by obtain ⟨x,l,B,B',e1,e2,e3,e4⟩:=r;rw [e4] at ha;rcases Ad.mp ha with z | z;exact Rp.isl e2 a z;exact RpA.isl e3 a z
end
mutual
theorem Rp.flat:∀{d:D} {v:V} {A:List Addr},Dl.flat d=true->Rp K C H d v A->A=[]
 | .non,_,_,_,r=>r.2
 | .bl _,_,_,_,r=>r.2
 | .int _,_,_,_,r=>r.2
 | .str _,_,_,_,r=>r.2.2
 | .lst _,_,_,h,_=>by simp [Dl.flat] at h
 | .tup ds,_,_,h,r=>by obtain ⟨b,xs,e1,e2,e3⟩:=r;exact RpA.flat (by simpa [Dl.flat] using h) e3
 | .scr _,_,_,_,r=>by obtain ⟨_,_,_,e⟩:=r;exact e
 | .rng _ _,_,_,_,r=>by obtain ⟨_,_,_,e⟩:=r;exact e
 | .exc _ _,_,_,_,r=>by obtain ⟨_,_,_,_,_,e⟩:=r;exact e
 | .obj _ _ _,_,_,h,_=>by simp [Dl.flat] at h
 | .dct _ _,_,_,h,_=>by simp [Dl.flat] at h
 | .dtt _ _,_,_,h,_=>by simp [Dl.flat] at h
 | .flst _,_,_,_,r=>by obtain ⟨_,_,_,_,_,_,e⟩:=r;exact e
 | .fdt _ _,_,_,_,r=>by obtain ⟨_,_,_,_,_,_,_,e⟩:=r;exact e
theorem RpA.flat:∀{ds:List D} {vs:List V} {A:List Addr},Dl.Xn ds=true->RpA K C H ds vs A->A=[]
 | [],_,_,_,r=>r.2
 | d::ds,_,_,h,r=>by obtain ⟨x,l,B,B',e1,e2,e3,e4⟩:=r;simp only [Dl.Xn,Ax] at h;rw [e4,Rp.flat h.1 e2,RpA.flat h.2 e3];rfl
end
theorem RpA.len:∀{ds:List D} {vs:List V} {A:List Addr},RpA K C H ds vs A->vs.length=ds.length
 | [],_,_,r=>by rw [r.1];rfl
 | d::ds,_,_,r=>by obtain ⟨x,l,B,B',e1,e2,e3,e4⟩:=r;rw [e1,BB,BB,RpA.len e3]
theorem RpA.get:∀{ds:List D} {vs:List V} {A:List Addr} {i:Nat} {d:D},RpA K C H ds vs A->ds[i]?=some d->∃v B,vs[i]?=some v/\Rp K C H d v B/\∀a∈B,a∈A
 | [],_,_,_,_,_,h=>by simp at h
 | d::ds,_,_,0,_,r,h=>by obtain ⟨x,l,B,B',e1,e2,e3,e4⟩:=r;simp only [EX,Cr] at h;subst h e1 e4;exact ⟨x,B,rfl,e2,fun a ha=>As _ ha⟩
 | d::ds,_,_,i+1,_,r,h=>by obtain ⟨x,l,B,B',e1,e2,e3,e4⟩:=r;simp only [Cf] at h;obtain ⟨v,B2,q1,q2,q3⟩:=RpA.get e3 h;subst e1 e4;exact ⟨v,B2,by simpa using q1,q2,fun a ha=>Ai _ (q3 a ha)⟩
theorem RpA.get':∀{ds:List D} {vs:List V} {A:List Addr} {i:Nat} {v:V},RpA K C H ds vs A->vs[i]?=some v->∃d B,ds[i]?=some d/\Rp K C H d v B/\∀a∈B,a∈A:=fun {ds vs A i v} r h=>by
 have hl:=r.len;have hi:i<ds.length:=by have:=(Ah.mp h).1;omega
 obtain ⟨v',B,q1,q2,q3⟩:=r.get (Al hi);rw [h] at q1;cases q1;exact ⟨_,B,Al hi,q2,q3⟩
theorem RpA.app:∀{ds es:List D} {vs ws:List V} {A B:List Addr},RpA K C H ds vs A->RpA K C H es ws B->RpA K C H (ds++es) (vs++ws) (A++B)
 | [],_,_,_,_,_,r,q=>by obtain ⟨e1,e2⟩:=r;subst e1 e2;exact q
 | d::ds,_,_,_,_,_,r,q=>by obtain ⟨x,l,B,B',e1,e2,e3,e4⟩:=r;subst e1 e4;exact ⟨x,_,B,_,rfl,e2,RpA.app e3 q,CK ..⟩
theorem RpA.one {A:List Addr}(r:Rp K C H d v A):RpA K C H [d] [v] A:=⟨v,[],A,[],rfl,r,⟨rfl,rfl⟩,(Dt _).symm⟩
theorem RpA.flatDrop {A:List Addr}:Dl.Xn ds=true->RpA K C H ds vs A->∀n,RpA K C H (ds.drop n) (vs.drop n) []:=by
 intro h r n
 induction ds generalizing vs A n with
 | nil=>rw [r.1];simp;exact ⟨rfl,rfl⟩
 | cons d ds ih =>
  have r0:=r;obtain ⟨x,l,B,B',e1,e2,e3,e4⟩:=r;cases n with
  | zero =>have z:=RpA.flat h r0;subst z;exact r0
  | succ n =>simp only [Dl.Xn,Ax] at h;subst e1;exact ih h.2 e3 n
theorem RpA.flatTake {A:List Addr}:Dl.Xn ds=true->RpA K C H ds vs A->∀n,RpA K C H (ds.take n) (vs.take n) []:=by
 intro h r n
 induction ds generalizing vs A n with
 | nil=>rw [r.1];simp;exact ⟨rfl,rfl⟩
 | cons d ds ih =>
  obtain ⟨x,l,B,B',e1,e2,e3,e4⟩:=r;simp only [Dl.Xn,Ax] at h;have z:=Rp.flat h.1 e2;subst e1 z;cases n with
  | zero=>exact ⟨rfl,rfl⟩
  | succ n=>exact ⟨x,_,[],_,rfl,e2,ih h.2 e3 n,rfl⟩
theorem Ztd (h:Dl.Xn ds=true):∀n,Dl.Xn (ds.drop n)=true:=by
 intro n
 induction ds generalizing n with
 | nil=>simp;rfl
 | cons d ds ih =>
  cases n with
  | zero=>exact h
  | succ n =>simp only [Dl.Xn,Ax] at h;exact ih h.2 n
theorem RpA.ints :RpA K C H (ns.map D.int) (ns.map V.int) []:=by
 induction ns with
 | nil=>exact ⟨rfl,rfl⟩
 | cons n ns ih=>exact ⟨_,_,[],[],rfl,⟨rfl,rfl⟩,ih,rfl⟩
theorem RpA.ofInts:∀{ds:List D} {vs:List V} {A:List Addr} {ns:List Int},RpA K C H ds vs A->Dl.intsOf ds=some ns->vs=ns.map V.int
 | [],_,_,ns,r,h=>by simp only [Dl.intsOf,Cr] at h;rw [r.1,<- h];rfl
 | d::ds,_,_,ns,r,h=>by
  obtain ⟨x,l,B,B',e1,e2,e3,e4⟩:=r;cases d<;>simp only [Dl.intsOf] at h<;>try cases h
  obtain ⟨ms,h1,h2⟩:=AB.mp h;rw [e1,e2.1,RpA.ofInts e3 h1,<- h2];rfl
theorem RpA.ofBools:∀{ds:List D} {vs:List V} {A:List Addr} {ns:List Bool},RpA K C H ds vs A->Dl.bools ds=some ns->vs=ns.map V.bl
 | [],_,_,ns,r,h=>by simp only [Dl.bools,Cr] at h;rw [r.1,<- h];rfl
 | d::ds,_,_,ns,r,h=>by
  obtain ⟨x,l,B,B',e1,e2,e3,e4⟩:=r;cases d<;>simp only [Dl.bools] at h<;>try cases h
  obtain ⟨ms,h1,h2⟩:=AB.mp h;rw [e1,e2.1,RpA.ofBools e3 h1,<- h2];rfl
mutual
def toPy:D->D6
 | .non=>.none
 | .bl b=>.bool b
 | .int i=>.int i
 | .str x=>.str x
 | .lst ds=>.list (Zhe ds)
 | .tup ds=>.tuple (Zhe ds)
 | .scr _=>.none
 | .rng _ _=>.none
 | .exc _ _=>.none
 | .obj _ _ _=>.none
 | .dct _ _=>.none
 | .dtt _ _=>.none
 | .flst _=>.none
 | .fdt _ _=>.none
def Zhe:List D->List D6
 | []=>[]
 | d::ds=>toPy d::Zhe ds
end
mutual
theorem Rp.dn:∀{d:D} {v:V} {A:List Addr} {n:Nat},Dl.dep d<=n->n<100->Rp K C H d v A->Dn K H v (toPy d)/\(toPy d).canLay0=true/\(toPy d).depth=Dl.dep d
 | .non,_,_,_,_,_,r=>by rw [r.1];exact ⟨.non,rfl,rfl⟩
 | .bl _,_,_,_,_,_,r=>by rw [r.1];exact ⟨.bl _,rfl,rfl⟩
 | .int _,_,_,_,_,_,r=>by rw [r.1];exact ⟨.int _,rfl,rfl⟩
 | .str _,_,_,_,_,_,r=>by rw [r.1];exact ⟨.str _,by simpa [toPy,Ew] using r.2.1,by simp [toPy,EU,Dl.dep]⟩
 | .lst ds,_,_,n,h,hn,r=>by obtain ⟨a,xs,B,e1,e2,e3,e4⟩:=r;simp only [Dl.dep] at h;obtain ⟨q1,q2,q3⟩:=RpA.dn (n:=n) (by omega) hn e3;rw [e1];exact ⟨.lst (SqL.of e2) q1,by simpa [toPy,Ew] using q2,by simp [toPy,EU,Dl.dep,q3]⟩
 | .tup ds,_,_,n,h,hn,r=>by obtain ⟨a,xs,e1,e2,e3⟩:=r;simp only [Dl.dep] at h;obtain ⟨q1,q2,q3⟩:=RpA.dn (n:=n) (by omega) hn e3;rw [e1];exact ⟨.tup (SqT.of e2) q1,by simpa [toPy,Ew] using q2,by simp [toPy,EU,Dl.dep,q3]⟩
 | .scr _,_,_,n,h,hn,_=>by simp only [Dl.dep] at h;omega
 | .rng _ _,_,_,n,h,hn,_=>by simp only [Dl.dep] at h;omega
 | .exc _ _,_,_,n,h,hn,_=>by simp only [Dl.dep] at h;omega
 | .obj _ _ _,_,_,n,h,hn,_=>by simp only [Dl.dep] at h;omega
 | .dct _ _,_,_,n,h,hn,_=>by simp only [Dl.dep] at h;omega
 | .dtt _ _,_,_,n,h,hn,_=>by simp only [Dl.dep] at h;omega
 | .flst _,_,_,n,h,hn,_=>by simp only [Dl.dep] at h;omega
 | .fdt _ _,_,_,n,h,hn,_=>by simp only [Dl.dep] at h;omega
theorem RpA.dn:∀{ds:List D} {vs:List V} {A:List Addr} {n:Nat},Dl.Zmb ds<=n->n<100->RpA K C H ds vs A->DnA K H vs (Zhe ds)/\Fu (Zhe ds)=true/\Gf (Zhe ds)=Dl.Zmb ds
 | [],_,_,_,_,_,r=>by rw [r.1];exact ⟨.nil,rfl,rfl⟩
 | d::ds,_,_,n,h,hn,r=>by obtain ⟨x,l,B,B',e1,e2,e3,e4⟩:=r;simp only [Dl.Zmb] at h;obtain ⟨q1,q2,q3⟩:=Rp.dn (n:=n) (by omega) hn e2;obtain ⟨p1,p2,p3⟩:=RpA.dn (n:=n) (by omega) hn e3;rw [e1];exact ⟨.cons q1 p1,by simp [Zhe,Fu,q2,p2],by simp [Zhe,Gf,Dl.Zmb,q3,p3]⟩
end
mutual
theorem Zuz:∀{d e:D},Dl.dep d<100->Dl.dep e<100->Fm (toPy d) (toPy e)=Dl.eqv d e
 | .non,e,_,h=>by cases e<;>first | rfl | exact absurd h (Bg 100)
 | .bl _,e,_,h=>by cases e<;>first | rfl | exact absurd h (Bg 100)
 | .int _,e,_,h=>by cases e<;>first | rfl | exact absurd h (Bg 100)
 | .str _,e,_,h=>by cases e<;>first | rfl | exact absurd h (Bg 100)
 | .lst ds,e,h1,h=>by
  cases e with
  | lst es=>exact Zpb (Dp h1) (Dp h)
  | _=>rfl
 | .tup ds,e,h1,h=>by
  cases e with
  | tup es=>exact Zpb (Dp h1) (Dp h)
  | _=>rfl
 | .scr _,_,h,_=>absurd h (Bg 100)
 | .rng _ _,_,h,_=>absurd h (Bg 100)
 | .exc _ _,_,h,_=>absurd h (Bg 100)
 | .obj _ _ _,_,h,_=>absurd h (Bg 100)
 | .dct _ _,_,h,_=>absurd h (Bg 100)
 | .dtt _ _,_,h,_=>absurd h (Bg 100)
 | .flst _,_,h,_=>absurd h (Bg 100)
 | .fdt _ _,_,h,_=>absurd h (Bg 100)
theorem Zpb:∀{d e:List D},Dl.Zmb d<100->Dl.Zmb e<100->Gy (Zhe d) (Zhe e)=Dl.Xkd d e
 | [],[],_,_=>rfl
 | [],_::_,_,_=>rfl
 | _::_,[],_,_=>rfl
 | d::ds,e::es,h1,h=>by have a1:Dl.dep d<100/\Dl.Zmb ds<100:=HX.mp h1;have a2:Dl.dep e<100/\Dl.Zmb es<100:=HX.mp h;show (Fm (toPy d) (toPy e)&&Gy (Zhe ds) (Zhe es))=(Dl.eqv d e&&Dl.Xkd ds es);rw [Zuz a1.1 a2.1,Zpb a1.2 a2.2]
end
abbrev Yb:=Dl.Env
section
variable (K:AE)(C:String->Addr)
structure Zq (H0 Hb H:Hp)(Γ Δ:List Nat)(σ:St)(ρ:Yb)(A:Nat->List Addr):Prop where
 s0:Xk H0 Hb
 same:Xk Hb H
 len:σ.length=ρ.length
 rep:∀i d,ρ[i]?=some (some d)->∃v,σ[i]?=some (some v)/\Rp K C H d v (A i)
 nil:∀i,(∀d,ρ[i]?≠some (some d))->A i=[]
 loc:∀i∈Γ,∀a∈A i,H0 a=none
 top:∀i∈Γ,∀a r,A i=a::r->Hb a=none/\a∉r/\∀j,j≠i->a∉A j
 deep:∀i∈Δ,(A i).Nodup/\(∀j,j≠i->∀a∈A i,a∉A j)/\∀a∈A i,Hb a=none
def InS (A:Nat->List Addr)(S:List (Nat×Bool))(a:Addr):Prop:=∃p∈S,if p.2=true then a∈(A p.1).tail else a∈A p.1
def Res (m:Nat)(S:List (Nat×Bool))(H:Hp)(A:Nat->List Addr)(d:D)(v:V)(H':Hp):Prop:=
 ∃B,Rp K C H' d v B/\(∀a∈B,H a=none\/InS A S a)/\(m=1->∀a r,B=a::r->H a=none/\a∉r)/\(m=2->B.Nodup)
def ResA (m:Nat)(S:List (Nat×Bool))(H:Hp)(A:Nat->List Addr)(ds:List D)(vs:List V)(H':Hp):Prop:=
 ∃B,RpA K C H' ds vs B/\(∀a∈B,H a=none\/InS A S a)/\(m=2->B.Nodup)
def EC (E:XK)(c:String)(x:Option Int)(H:Hp):Prop:=∀dx,FOk H c x dx->E (.ref (C c)) dx H
def Zz {α:Type}(r:R α)(ok:α->Prop)(er:String->Option Int->Prop):Prop:=match r with
 | .ok a=>ok a
 | .err c x=>er c x
 | .bad=>False
def EOk (E:XK)(Γ Δ:List Nat)(m:Nat)(S:List (Nat×Bool))(t:TE)(f:FE):Prop:=∀(H0 Hb H:Hp) (σ:St) (ρ:Yb) (A:Nat->List Addr) (Q:VK),Zq K C H0 Hb H Γ Δ σ ρ A->
 Zz (f ρ) (fun d=>∀v H',Xk H H'->Res K C m S H A d v H'->Q v H') (fun c x=>∀H',Xk H H'->EC C E c x H')->t σ H Q
def AOk (E:XK)(Γ Δ:List Nat)(m:Nat)(S:List (Nat×Bool))(t:TA)(f:FA):Prop:=∀(H0 Hb H:Hp) (σ:St) (ρ:Yb) (A:Nat->List Addr) (Q:List V->Hp->Prop),Zq K C H0 Hb H Γ Δ σ ρ A->
 Zz (f ρ) (fun d=>∀v H',Xk H H'->ResA K C m S H A d v H'->Q v H') (fun c x=>∀H',Xk H H'->EC C E c x H')->t σ H Q
def TOk (E:XK)(Γ Δ:List Nat)(t:TT)(f:FT):Prop:=∀(H0 Hb H:Hp) (σ:St) (ρ:Yb) (A:Nat->List Addr) (Q:Bool->Hp->Prop),Zq K C H0 Hb H Γ Δ σ ρ A->
 Zz (f ρ) (fun b=>∀H',Xk H H'->Q b H') (fun c x=>∀H',Xk H H'->EC C E c x H')->t σ H Q
def OOk (E:XK)(Γ Δ:List Nat)(t:TO)(f:FO):Prop:=∀(H0 Hb H:Hp) (σ:St) (ρ:Yb) (A:Nat->List Addr) (Q:Option Int->Hp->Prop),Zq K C H0 Hb H Γ Δ σ ρ A->
 Zz (f ρ) (fun b=>∀H',Xk H H'->Q b H') (fun c x=>∀H',Xk H H'->EC C E c x H')->t σ H Q
def Zqb (E:XK)(mr:Nat)(Γl Δl Γ' Δ':List Nat)(H0 Hb:Hp)(D:Ends)(r:R Fl):Prop:=Zz r (fun fl=>match fl with
    | .nx ρ'=>∀σ' H' A',Zq K C H0 Hb H' Γ' Δ' σ' ρ' A'->D.nx σ' H'
    | .ret d=>∀v H',Xk H0 H'->Res K C mr [] H0 (fun _=>[]) d v H'->D.rt v H'
    | .brk ρ'=>∀σ' H' A',Zq K C H0 Hb H' Γl Δl σ' ρ' A'->D.bk σ' H'
    | .cnt ρ'=>∀σ' H' A',Zq K C H0 Hb H' Γl Δl σ' ρ' A'->D.ct σ' H')
  (fun c x=>∀H',Xk H0 H'->EC C E c x H')
def SOk (E:XK)(mr:Nat)(Γl Δl Γ Δ Γ' Δ':List Nat)(t:TS)(f:FS):Prop:=∀(H0 Hb H:Hp) (σ:St) (ρ:Yb) (A:Nat->List Addr) (D:Ends),Zq K C H0 Hb H Γ Δ σ ρ A->
 Zqb K C E mr Γl Δl Γ' Δ' H0 Hb D (f ρ)->t D σ H
end
section
variable {S:List (Nat×Bool)}
theorem Zq.mono (h:Zq K C H0 Hb H Γ Δ σ ρ A)(g:Xk H H'):Zq K C H0 Hb H' Γ Δ σ ρ A:=⟨h.s0,h.same.trans g,h.len,fun i d e=>let ⟨v,q1,q2⟩:=h.rep i d e;⟨v,q1,q2.same g⟩,h.nil,h.loc,h.top,h.deep⟩
theorem Zq.weak (h:Zq K C H0 Hb H Γ Δ σ ρ A)(h1:∀i∈Γ',i∈Γ)(h2:∀i∈Δ',i∈Δ):Zq K C H0 Hb H Γ' Δ' σ ρ A:=⟨h.s0,h.same,h.len,h.rep,h.nil,fun i hi=>h.loc i (h1 i hi),fun i hi=>h.top i (h1 i hi),fun i hi=>h.deep i (h2 i hi)⟩
theorem Zq.is (h:Zq K C H0 Hb H Γ Δ σ ρ A)(ha:a∈A j):∃o,H a=some o/\IsM o:=by by_cases q:∃d,ρ[j]?=some (some d);obtain ⟨d,q⟩:=q;obtain ⟨v,_,r⟩:=h.rep j d q;exact r.isl a ha;rw [h.nil j fun d e=>q ⟨d,e⟩] at ha;cases ha
theorem Zq.ne (h:Zq K C H0 Hb H Γ Δ σ ρ A)(ha:a∈A j)(hn:H a=none):False:=by obtain ⟨xs,q,_⟩:=h.is ha;rw [q] at hn;cases hn
theorem InS.mem (h:InS A S a):∃p∈S,a∈A p.1:=by obtain ⟨p,hp,q⟩:=h;refine ⟨p,hp,?_⟩;split at q;exact Fn q;exact q
theorem InS.mono (h:InS A S1 a)(hs:∀p∈S1,p∈S2):InS A S2 a:=let ⟨p,hp,q⟩:=h;⟨p,hs p hp,q⟩
theorem Zz.imp {r:R α}{ok ok':α->Prop}(h:Zz r ok er)(h1:∀a,ok a->ok' a)(h2:∀c x,er c x->er' c x):Zz r ok' er':=by
 cases r with
 | ok a=>exact h1 a h
 | err c x=>exact h2 c x h
 | bad=>exact h
theorem Zz.bind {α β:Type}{r:R α}{g:α->R β}{ok:β->Prop}{er:String->Option Int->Prop}(h:Zz (r.bind g) ok er):Zz r (fun a=>Zz (g a) ok er) er:=by
 cases r with
 | ok a=>exact h
 | err c x=>exact h
 | bad=>exact h
theorem Res.flat (r:Rp K C H' d v []):Res K C m S H A d v H':=⟨[],r,fun _ h=>(nomatch h),fun _ _ _ e=>(nomatch e),fun _=>BI⟩
theorem Xdt (h:∀H,Rp K C H d v []):EOk K C E Γ Δ 2 [] (tC v) (Dl.fC d):=fun _ _ H _ _ _ _ _ p=>p v H (Xk.refl _) (Res.flat (h H))
theorem Xoy {ok:D->Prop}(h:Zz (Dl.fV i ρ) ok er):∃d,ρ[i]?=some (some d)/\ok d:=by unfold Dl.fV at h;split at h;rename_i d e;exact ⟨d,e,h⟩;exact h.elim
theorem eok_v :EOk K C E Γ Δ 0 [(i,false)] (Zcr i) (Dl.fV i):=fun H0 Hb H σ ρ A Q I p=>by obtain ⟨d,e,p⟩:=Xoy p;obtain ⟨v,e1,r⟩:=I.rep i d e;exact ⟨v,e1,p v H (Xk.refl _) ⟨A i,r,fun a ha=>.inr ⟨(i,false),.head _,ha⟩,(fun z=>nomatch z),(fun z=>nomatch z)⟩⟩
theorem Xon (hi:i∈Δ):EOk K C E Γ Δ 2 [(i,false)] (Zcr i) (Dl.fV i):=fun H0 Hb H σ ρ A Q I p=>by obtain ⟨d,e,p⟩:=Xoy p;obtain ⟨v,e1,r⟩:=I.rep i d e;exact ⟨v,e1,p v H (Xk.refl _) ⟨A i,r,fun a ha=>.inr ⟨(i,false),.head _,ha⟩,(fun z=>nomatch z),fun _=>(I.deep i hi).1⟩⟩
theorem Xba {t:TE}{f:FE}(h:EOk K C E Γ Δ m S t f):EOk K C E Γ Δ 2 [] t (Dl.f1 Dl.Xi f):=fun H0 Hb H σ ρ A Q I p =>
  h H0 Hb H σ ρ A Q I (p.bind.imp (fun d q v H' g r=>by
    unfold Dl.Xi at q;split at q;rename_i hf;obtain ⟨B,r1,_⟩:=r;have e:=r1.flat hf;subst e;exact q v H' g (Res.flat r1)
    · exact q.elim) fun _ _ q=>q)
theorem Res.later {H3:Hp}(g1:Xk H0 H1)(g2:Xk H2 H3)(r:Res K C m S H1 A d v H2):Res K C m S H0 A d v H3:=by obtain ⟨B,r1,r2,r3,r4⟩:=r;exact ⟨B,r1.same g2,fun a ha=>(r2 a ha).imp (fun h=>g1.free h) id,fun hm a l e=>⟨g1.free (r3 hm a l e).1,(r3 hm a l e).2⟩,r4⟩
theorem Res.new (r:Rp K C H' d v B)(h1:B.Nodup)(h2:∀a∈B,H a=none):Res K C m S H A d v H':=⟨B,r,fun a ha=>.inl (h2 a ha),fun _ a l e=>by subst e;exact ⟨h2 a (.head _),(Ap.mp h1).1⟩,fun _=>h1⟩
theorem Zfc {o:Option α}{ok:α->Prop}(h:Zz (Dl.oR o) ok er):∃a,o=some a/\ok a:=by
 cases o with
 | none=>exact h.elim
 | some a=>exact ⟨a,rfl,h⟩
def GOk (K:AE)(C:String->Addr)(r:R2)(g:D->D->Option D):Prop:=
 ∀(H:Hp) (x y d:D) (vx vy:V) (Bx By:List Addr) (Q:VK),Rp K C H x vx Bx->Rp K C H y vy By->g x y=some d->(∀v H' B,Xk H H'->Rp K C H' d v B->B.Nodup->(∀a∈B,H a=none)->Q v H')->r vx vy H Q
def GAk (K:AE)(C:String->Addr)(r:List V->Hp->VK->Prop)(g:List D->Option D):Prop:=
 ∀(H:Hp) (xs:List D) (d:D) (vs:List V) (Bx:List Addr) (Q:VK),RpA K C H xs vs Bx->g xs=some d->(∀v H' B,Xk H H'->Rp K C H' d v B->B.Nodup->(∀a∈B,H a=none)->Q v H')->r vs H Q
theorem Zyg {r:R2}(hg:GOk K C r g)(ha:EOk K C E Γ Δ m1 S1 ta fa)(hb:EOk K C E Γ Δ m2 S2 tb fb):EOk K C E Γ Δ 2 [] (tOp r ta tb) (Dl.f2 g fa fb):=
  fun H0 Hb H σ ρ A Q I p=>ha H0 Hb H σ ρ A _ I (p.bind.imp (fun x q vx H1 g1 r1=>hb H0 Hb H1 σ ρ A _ (I.mono g1) (q.bind.imp (fun y q vy H2 g2 r2=>by
    obtain ⟨d,e,q⟩:=Zfc q;obtain ⟨Bx,r1,_⟩:=r1;obtain ⟨By,r2,_⟩:=r2;exact hg H2 x y d vx vy Bx By Q (r1.same g2) r2 e fun v H' B g3 r3 h1 h2=>q v H' (g1.trans (g2.trans g3)) (Res.new r3 h1 fun a ha=>(g1.trans g2).free (h2 a ha))) fun c x q H' g'=>q H' (g1.trans g'))) fun c x q H' g'=>q H' g')
theorem Xrg {r:V->Hp->VK->Prop}{g:D->Option D}(hg:∀(H:Hp) (x d:D) (vx:V) (Bx:List Addr) (Q:VK),Rp K C H x vx Bx->g x=some d->(∀v H' B,Xk H H'->Rp K C H' d v B->B.Nodup->(∀a∈B,H a=none)->Q v H')->r vx H Q)
    (ha:EOk K C E Γ Δ m1 S1 ta fa):EOk K C E Γ Δ 2 [] (tUn r ta) (Dl.f1 g fa):=
  fun H0 Hb H σ ρ A Q I p=>ha H0 Hb H σ ρ A _ I (p.bind.imp (fun x q vx H1 g1 r1=>by
    obtain ⟨d,e,q⟩:=Zfc q;obtain ⟨Bx,r1,_⟩:=r1;exact hg H1 x d vx Bx Q r1 e fun v H' B g3 r3 h1 h2=>q v H' (g1.trans g3) (Res.new r3 h1 fun a ha=>g1.free (h2 a ha))) fun c x q H' g'=>q H' g')
theorem Jb {d:α}{P:Prop}(e:(none:Option α)=some d):P:=nomatch e
theorem Zni {F:List D->Option D}(hn:F []=none)(hc:∀x y r,F (x::y::r)=none):∀{ds:List D} {d:D},F ds=some d->∃x,ds=[x]
 | [],_,e=>Jb (hn.symm.trans e)
 | [x],_,_=>⟨x,rfl⟩
 | x::y::r,_,e=>Jb ((hc x y r).symm.trans e)
theorem Xkx {y:D}(e:Dl.gIx (.lst ds) y=some d):∃i,y=.int i/\atI ds i=some d:=by
 cases y with
 | int i=>exact ⟨i,rfl,e⟩
 | _=>exact Jb e
theorem Xhg {y:D}(e:Dl.gIx (.tup ds) y=some d):∃i,y=.int i/\atI ds i=some d:=by
 cases y with
 | int i=>exact ⟨i,rfl,e⟩
 | _=>exact Jb e
theorem Xkr {y:D}(e:Dl.gIx (.scr ns) y=some d):∃i,y=.int i/\(atI ns i).map D.int=some d:=by
 cases y with
 | int i=>exact ⟨i,rfl,e⟩
 | _=>exact Jb e
theorem Xkt {y:D}(e:Dl.gIx (.str z) y=some d):∃i,y=.int i/\z.length<=Dl.lim/\(atI z.cps.toList i).map (fun c=>D.str ⟨#[c]⟩)=some d:=by
 cases y with
 | int i =>have e':(if z.length<=Dl.lim then ((Dl.atD z.cps.toList i).map fun c=>D.str ⟨#[c]⟩) else none)=some d:=e;by_cases h:z.length<=Dl.lim;rw [if_pos h] at e';exact ⟨i,rfl,h,e'⟩;rw [if_neg h] at e';exact Jb e'
 | _=>exact Jb e
theorem Xqr {x y:D}(e:Dl.gIx x y=some d):∃i,y=.int i/\((∃ds,x=.lst ds/\atI ds i=some d)\/(∃ds,x=.tup ds/\atI ds i=some d)\/(∃ns,x=.scr ns/\(atI ns i).map D.int=some d)\/∃z,x=.str z/\z.length<=Dl.lim/\(atI z.cps.toList i).map (fun c=>D.str ⟨#[c]⟩)=some d):=by
 cases x with
 | lst ds=>exact (Xkx e).imp fun _ h=>⟨h.1,.inl ⟨ds,rfl,h.2⟩⟩
 | tup ds=>exact (Xhg e).imp fun _ h=>⟨h.1,.inr (.inl ⟨ds,rfl,h.2⟩)⟩
 | scr ns=>exact (Xkr e).imp fun _ h=>⟨h.1,.inr (.inr (.inl ⟨ns,rfl,h.2⟩))⟩
 | str z=>exact (Xkt e).imp fun _ h=>⟨h.1,.inr (.inr (.inr ⟨z,rfl,h.2⟩))⟩
 | _=>exact Jb e
theorem Zvu {β:Type}{ds:List α}{xs:List β}{i:Int}{d:α}{v:β}(hl:xs.length=ds.length)(e:atI ds i=some d)(h1:Hm i ds.length=some j)(hv:xs[j]?=some v):atI xs i=some v:=by
 unfold atI at e ⊢;rw [hl];cases hx:ixN ds.length i with
 | none=>rw [hx] at e;cases e
 | some k =>obtain ⟨z1,_⟩:=Zky hx;rw [h1] at z1;cases z1;exact hv
theorem Xrh {x y:D}{vx vy:V}(rx:Rp K C H x vx Bx)(ry:Rp K C H y vy By)(e:Dl.gIx x y=some d)(q:∀v B,Rp K C H d v B->(∀a∈B,a∈Bx)->((∃ds,x=.lst ds)->∀a∈B,a∈Bx.tail)->Q v H):rIx K vx vy H Q:=by obtain ⟨i,rfl,h⟩:=Xqr e;cases ry.1;rcases h with ⟨ds,rfl,e'⟩ | ⟨ds,rfl,e'⟩ | ⟨ns,rfl,e'⟩ | ⟨z,rfl,hz,e'⟩;obtain ⟨a,xs,B,rfl,e2,e3,rfl⟩:=rx;obtain ⟨j,h1,h2,_⟩:=Zfa e';obtain ⟨v,B',q1,q2,q3⟩:=e3.get h2;exact Xqp (SqL.of e2) (v:=v) (Zvu e3.len e' h1 q1) (q v B' q2 (fun a ha=>.tail _ (q3 a ha)) fun _ a ha=>q3 a ha);obtain ⟨a,xs,rfl,e2,e3⟩:=rx;obtain ⟨j,h1,h2,_⟩:=Zfa e';obtain ⟨v,B',q1,q2,q3⟩:=e3.get h2;exact Xpl (SqT.of e2) (v:=v) (Zvu e3.len e' h1 q1) (q v B' q2 q3 fun z=>by obtain ⟨_,z⟩:=z;cases z);obtain ⟨a,rfl,e2,rfl⟩:=rx;obtain ⟨n,h1,rfl⟩:=AB.mp e';obtain ⟨j,h2,h3,_⟩:=Zfa h1;exact .inl ⟨a,ns.map V.int,i,.int n,rfl,rfl,e2.sq,Zvu (Ae _) h1 h2 (by rw [Bh,h3];rfl),q (.int n) [] ⟨rfl,rfl⟩ (fun _ h=>(nomatch h)) fun _ _ h=>(nomatch h)⟩;obtain ⟨rfl,e2,rfl⟩:=rx;obtain ⟨c,h1,rfl⟩:=AB.mp e';refine .inr (.inr ⟨z,i,c,rfl,rfl,AT hz (by decide),h1,q _ [] ⟨rfl,?_,rfl⟩ (fun _ h=>(nomatch h)) fun _ _ h=>(nomatch h)⟩);obtain ⟨j,_,h3,_⟩:=Zfa h1;have hm:c∈z.cps:=Fk.mp (AU h3);have ho:z.cps.all (·<0x110000)=true:=e2;have:=(Array.all_eq_true_iff_forall_mem.mp ho) c hm;unfold Bk;simpa using this
theorem Xrd (ha:EOk K C E Γ Δ m1 S1 ta fa)(hb:EOk K C E Γ Δ m2 S2 tb fb):EOk K C E Γ Δ 0 S1 (tOp (rIx K) ta tb) (Dl.f2 Dl.gIx fa fb):=
  fun H0 Hb H σ ρ A Q I p=>ha H0 Hb H σ ρ A _ I (p.bind.imp (fun x q vx H1 g1 r1=>hb H0 Hb H1 σ ρ A _ (I.mono g1) (q.bind.imp (fun y q vy H2 g2 r2=>by
    obtain ⟨d,e,q⟩:=Zfc q;obtain ⟨Bx,r1,r1',_⟩:=r1;obtain ⟨By,r2,_⟩:=r2;exact Xrh (r1.same g2) r2 e fun v B r3 h _=>q v H2 (g1.trans g2) ⟨B,r3,fun a ha=>r1' a (h a ha),(fun z=>nomatch z),(fun z=>nomatch z)⟩) fun c x q H' g'=>q H' (g1.trans g'))) fun c x q H' g'=>q H' g')
def gIxL (x y:D):Option D:=match x with
 | .lst _=>Dl.gIx x y
 | _=>none
theorem sameNew {p:Addr}(h:H p=none)(o:HO):Xk H (upd H p o):=fun b u q=>by rw [Xs (Xq q h)];exact q
abbrev Out (K:AE)(C:String->Addr)(H:Hp)(d:D)(Q:VK):Prop:=∀v H' B,Xk H H'->Rp K C H' d v B->B.Nodup->(∀a∈B,H a=none)->Q v H'
theorem Out.flat (q:Out K C H d Q)(r:Rp K C H d v []):Q v H:=q v H [] (Xk.refl _) r BI (fun _ h=>nomatch h)
theorem Out.lst {ds:List D}{vs:List V}{p:Addr}(q:Out K C H (.lst ds) Q)(r:RpA K C H ds vs [])(hp:H p=none):Q (.ref p) (upd H p (.lst vs)):=q _ _ [p] (sameNew hp _) ⟨p,vs,[],rfl,Ye,r.same (sameNew hp _),rfl⟩ (by simp) (fun a ha=>by rw [An.mp ha];exact hp)
theorem Zce (h:n<=Dl.lim):n<=Ak:=AT h (by decide)
theorem Zdd (h:n<Dl.lim):n<Ak:=Ar h (by decide)
theorem Zjg (h1:Bk x=true)(h2:Bk y=true):Bk (x++y)=true:=by unfold Bk at *;show (x.cps++y.cps).all _=true;rw [Array.all_append,h1,h2];rfl
theorem RpA.nil:RpA K C H [] [] []:=⟨rfl,rfl⟩
theorem RpA.flat' {A:List Addr}(h:Dl.Xn ds=true)(r:RpA K C H ds vs A):RpA K C H ds vs []:=by have e:=RpA.flat h r;subst e;exact r
theorem RpA.rep {ds:List D}{vs:List V}(r:RpA K C H ds vs []):∀n,RpA K C H (Aa n ds).flatten (Aa n vs).flatten []
 | 0=>RpA.nil
 | n+1=>by rw [Ba,Ba,BM,BM];exact r.app (RpA.rep r n)
theorem Zv:GOk K C Ztg Dl.Ym:=by intro H x y d vx vy Bx By Q rx ry e q;unfold Dl.Ym at e;split at e;cases e;obtain ⟨rfl,_⟩:=rx;obtain ⟨rfl,_⟩:=ry;exact Xnk (Out.flat q ⟨rfl,rfl⟩);split at e;rename_i hz;cases e;obtain ⟨rfl,h1,_⟩:=rx;obtain ⟨rfl,h2,_⟩:=ry;exact .inr (.inl ⟨_,_,rfl,rfl,Zce hz,Out.flat q ⟨rfl,Zjg h1 h2,rfl⟩⟩);cases e;split at e;rename_i hz;cases e;obtain ⟨a,xs,B,rfl,e2,e3,_⟩:=rx;obtain ⟨a',xs',B',rfl,e2',e3',_⟩:=ry;obtain ⟨hz,f1,f2⟩:=hz;refine Xeu e2 e2' (by rw [e3.len,e3'.len];exact Zce hz) fun p hp=>?_;exact Out.lst q ((e3.flat' f1).app (e3'.flat' f2)) hp;cases e;cases e
theorem Zmf {g:Int->Int->D}{f:D->D->Option D}(hf:∀x y d,f x y=some d->∃i j,x=.int i/\y=.int j/\d=g i j)(hr:∀H i j,Rp K C H (g i j) (gv i j) []):GOk K C (rI0 gv) f:=by intro H x y d vx vy Bx By Q rx ry e q;obtain ⟨i,j,rfl,rfl,rfl⟩:=hf x y d e;obtain ⟨rfl,_⟩:=rx;obtain ⟨rfl,_⟩:=ry;exact rd_I0 (Out.flat q (hr H i j))
theorem Xiy {g:Int->Int->D}{f:D->D->Option D}(hf:∀x y d,f x y=some d->∃i j,x=.int i/\y=.int j/\d=g i j/\Cd i j)(hr:∀H i j,Rp K C H (g i j) (gv i j) []):GOk K C (rI Cd gv) f:=by intro H x y d vx vy Bx By Q rx ry e q;obtain ⟨i,j,rfl,rfl,rfl,hc⟩:=hf x y d e;obtain ⟨rfl,_⟩:=rx;obtain ⟨rfl,_⟩:=ry;exact rd_I hc (Out.flat q (hr H i j))
theorem rpI {i:Int}:Rp K C H (.int i) (.int i) []:=⟨rfl,rfl⟩
theorem rpB {i:Bool}:Rp K C H (.bl i) (.bl i) []:=⟨rfl,rfl⟩
theorem Zaz:GOk K C (rI0 fun i j=>.int (i - j)) Dl.Zbg:=Zmf (fun x y d e=>by unfold Dl.Zbg at e;split at e<;>cases e;exact ⟨_,_,rfl,rfl,rfl⟩) fun _ _ _=>rpI
theorem Zdq:GOk K C (rI0 fun i j=>.bl (decide (i<j))) Dl.gLt:=Zmf (fun x y d e=>by unfold Dl.gLt at e;split at e<;>cases e;exact ⟨_,_,rfl,rfl,rfl⟩) fun _ _ _=>rpB
theorem Xfj:GOk K C (rI0 fun i j=>.bl (decide (i<=j))) Dl.gLe:=Zmf (fun x y d e=>by unfold Dl.gLe at e;split at e<;>cases e;exact ⟨_,_,rfl,rfl,rfl⟩) fun _ _ _=>rpB
theorem Zdh:GOk K C (rI0 fun i j=>.bl (decide (j<i))) Dl.gGt:=Zmf (fun x y d e=>by unfold Dl.gGt at e;split at e<;>cases e;exact ⟨_,_,rfl,rfl,rfl⟩) fun _ _ _=>rpB
theorem Xmj:GOk K C (rI0 fun i j=>.bl (decide (j<=i))) Dl.gGe:=Zmf (fun x y d e=>by unfold Dl.gGe at e;split at e<;>cases e;exact ⟨_,_,rfl,rfl,rfl⟩) fun _ _ _=>rpB
theorem Yz:GOk K C (rI (fun _ j=>0<j) fun i j=>.int (i % j)) Dl.Zel:=Xiy (fun x y d e=>by
  unfold Dl.Zel at e;split at e;split at e;rename_i h;cases e;exact ⟨_,_,rfl,rfl,rfl,h⟩;cases e
  · cases e) fun _ _ _=>rpI
theorem Zyq:GOk K C (rI Xmc fun i j=>.int (i / j)) Dl.Xlt:=Xiy (fun x y d e=>by
  unfold Dl.Xlt at e;split at e;split at e;rename_i h;cases e;exact ⟨_,_,rfl,rfl,rfl,h⟩;cases e
  · cases e) fun _ _ _=>rpI
theorem Zbb:GOk K C (rI CPow fun i j=>.int (i ^ j.toNat)) Dl.Zgf:=Xiy (fun x y d e=>by
  unfold Dl.Zgf at e;split at e;split at e;rename_i h;cases e;exact ⟨_,_,rfl,rfl,rfl,h⟩;cases e
  · cases e) fun _ _ _=>rpI
theorem Zyt {i j:Int}(h:(Dl.short i||Dl.short j)=true):Xly i j:=by unfold Dl.short at h;simp only [Bool.or_eq_true,Ax,decide_eq_true_eq] at h;exact h
theorem Xu:GOk K C Xah Dl.Zat:=by intro H x y d vx vy Bx By Q rx ry e q;unfold Dl.Zat at e;split at e;split at e;rename_i h;cases e;obtain ⟨rfl,_⟩:=rx;obtain ⟨rfl,_⟩:=ry;exact Xna (Zyt h) (Out.flat q rpI);cases e;split at e;rename_i h;cases e;obtain ⟨a,xs,B,rfl,e2,e3,_⟩:=rx;obtain ⟨rfl,_⟩:=ry;obtain ⟨h1,h2,h3,h4⟩:=h;refine Xmy e2 (by omega) (by omega) (by rw [e3.len];exact Zce h2) fun p hp=>?_;exact Out.lst q ((e3.flat' h4).rep _) hp;cases e;cases e
theorem Zfm {A:List Addr}(h:Dl.dep d<=20)(r:Rp K C H d v A):Dn K H v (toPy d)/\CO (toPy d)=true:=by obtain ⟨q1,q2,q3⟩:=r.dn h (by decide);refine ⟨q1,?_⟩;unfold CO;rw [q2,q3];simp only [Ce,decide_eq_true_eq];omega
theorem Ji:GOk K C (Zho K) Dl.gEq:=by intro H x y d vx vy Bx By Q rx ry e q;unfold Dl.gEq at e;split at e;rename_i h;cases e;obtain ⟨a1,a2⟩:=Zfm h.1 rx;obtain ⟨b1,b2⟩:=Zfm h.2 ry;refine .inr ⟨_,_,a1,b1,a2,b2,?_⟩;rw [Zuz (by omega) (by omega)];exact Out.flat q rpB;cases e
theorem Zrn:GOk K C (Xlo K) Dl.gNe:=by intro H x y d vx vy Bx By Q rx ry e q;unfold Dl.gNe at e;split at e;rename_i h;cases e;obtain ⟨a1,a2⟩:=Zfm h.1 rx;obtain ⟨b1,b2⟩:=Zfm h.2 ry;refine .inr ⟨_,_,a1,b1,a2,b2,?_⟩;rw [Zuz (by omega) (by omega)];exact Out.flat q rpB;cases e
theorem Zrv {x:D}(r:Rp K C H x v B):decide (v=.non)=Dl.Zjt x:=by cases x;rw [r.1];rfl;rw [r.1];rfl;rw [r.1];rfl;rw [r.1];rfl;obtain ⟨a,xs,B,rfl,_⟩:=r;rfl;obtain ⟨a,xs,rfl,_⟩:=r;rfl;obtain ⟨a,rfl,_⟩:=r;rfl;obtain ⟨a,rfl,_⟩:=r;rfl;obtain ⟨a,dx,rfl,_⟩:=r;rfl;obtain ⟨a,dx,xs,B,rfl,_⟩:=r;rfl;obtain ⟨a,xs,B,rfl,_⟩:=r;rfl;obtain ⟨a,xs,B,rfl,_⟩:=r;rfl;obtain ⟨a,o,xs,rfl,_⟩:=r;rfl;obtain ⟨a,o,xs,rfl,_⟩:=r;rfl
theorem Xfe:GOk K C (rIsA false) Dl.gIs:=by intro H x y d vx vy Bx By Q rx ry e q;unfold Dl.gIs at e;split at e;cases e;refine .inl ⟨ry.1,?_⟩;simp only [BH,if_false];rw [Zrv rx];exact Out.flat q rpB;split at e;cases e;obtain ⟨rfl,_⟩:=rx;obtain ⟨rfl,_⟩:=ry;exact .inr ⟨_,_,rfl,rfl,by simp only [BH,if_false];exact Out.flat q rpB⟩;cases e;cases e
theorem Znp:GOk K C (rIsA true) Dl.Zfg:=by intro H x y d vx vy Bx By Q rx ry e q;unfold Dl.Zfg at e;split at e;cases e;refine .inl ⟨ry.1,?_⟩;simp only [if_true];rw [Zrv rx];exact Out.flat q rpB;split at e;cases e;obtain ⟨rfl,_⟩:=rx;obtain ⟨rfl,_⟩:=ry;exact .inr ⟨_,_,rfl,rfl,by simp only [if_true];exact Out.flat q rpB⟩;cases e;cases e
theorem Xjx:AOk K C E Γ Δ 2 [] Zhg Dl.Zu:=fun _ _ H _ _ _ _ _ p=>p [] H (Xk.refl _) ⟨[],RpA.nil,(fun _ h=>nomatch h),fun _=>BI⟩
theorem InS.left (h:InS A S1 a):InS A (S1++S2) a:=h.mono fun _ hp=>As _ hp
theorem InS.right (h:InS A S2 a):InS A (S1++S2) a:=h.mono fun _ hp=>Ai _ hp
theorem Zzy (he:EOk K C E Γ Δ m1 S1 te fe)(ha:AOk K C E Γ Δ m2 S2 t f):AOk K C E Γ Δ 0 (S1++S2) (Ja te t) (Dl.Zb fe f):=
  fun H0 Hb H σ ρ A Q I p=>he H0 Hb H σ ρ A _ I (p.bind.imp (fun x q vx H1 g1 r1=>ha H0 Hb H1 σ ρ A _ (I.mono g1) (q.bind.imp (fun ys q vs H2 g2 r2=>by
    obtain ⟨Bx,r1,r1',_⟩:=r1;obtain ⟨By,r2,r2',_⟩:=r2;exact q _ H2 (g1.trans g2) ⟨Bx++By,⟨vx,vs,Bx,By,rfl,r1.same g2,r2,rfl⟩,fun a h=>(Ad.mp h).elim (fun h=>(r1' a h).imp id InS.left) (fun h=>(r2' a h).imp (fun h=>g1.free h) InS.right),(fun z=>nomatch z)⟩)
    fun c x q H' g'=>q H' (g1.trans g'))) fun c x q H' g'=>q H' g')
theorem Zmk (he:EOk K C E Γ Δ 2 S1 te fe)(ha:AOk K C E Γ Δ 2 S2 t f)(h1:∀p∈S1,p.1∈Δ:=by decide)(h2:∀p∈S1,∀q∈S2,p.1≠q.1:=by decide):AOk K C E Γ Δ 2 (S1++S2) (Ja te t) (Dl.Zb fe f):=
  fun H0 Hb H σ ρ A Q I p=>he H0 Hb H σ ρ A _ I (p.bind.imp (fun x q vx H1 g1 r1=>ha H0 Hb H1 σ ρ A _ (I.mono g1) (q.bind.imp (fun ys q vs H2 g2 r2=>by
    obtain ⟨Bx,r1,r1',_,n1⟩:=r1;obtain ⟨By,r2,r2',n2⟩:=r2;refine q _ H2 (g1.trans g2) ⟨Bx++By,⟨vx,vs,Bx,By,rfl,r1.same g2,r2,rfl⟩,fun a h=>(Ad.mp h).elim (fun h=>(r1' a h).imp id InS.left) (fun h=>(r2' a h).imp (fun h=>g1.free h) InS.right),fun _=>?_⟩;refine AO.mpr ⟨n1 rfl,n2 rfl,fun a ha b hb e=>?_⟩;subst e;rcases r2' a hb with z | z;obtain ⟨xs,w,_⟩:=r1.isl a ha;rw [w] at z;cases z
    · obtain ⟨p2,hp2,z⟩:=z.mem;rcases r1' a ha with w | w;exact I.ne z w
      · obtain ⟨p1,hp1,w⟩:=w.mem;exact (I.deep p1.1 (h1 p1 hp1)).2.1 p2.1 (fun e=>h2 p1 hp1 p2 hp2 e.symm) a w z)
    fun c x q H' g'=>q H' (g1.trans g'))) fun c x q H' g'=>q H' g')
theorem Xku (ha:AOk K C E Γ Δ 2 S t f):EOk K C E Γ Δ 2 S (Xlz t) (Dl.fA Dl.Jq f):=
  fun H0 Hb H σ ρ A Q I p=>ha H0 Hb H σ ρ A _ I (p.bind.imp (fun ds q vs H1 g1 r1=>by
    obtain ⟨d,e,q⟩:=Zfc q;unfold Dl.Jq at e;split at e;rename_i hz;cases e;obtain ⟨B,r1,r1',n1⟩:=r1;refine ⟨by rw [r1.len];exact Zce hz,fun p hp=>?_⟩;have g2:=sameNew hp (.lst vs);refine q _ _ (g1.trans g2) ⟨p::B,⟨p,vs,B,rfl,Ye,r1.same g2,rfl⟩,fun a ha=>?_,(fun z=>nomatch z),fun _=>Ap.mpr ⟨fun h=>?_,n1 rfl⟩⟩;rcases Aj.mp ha with z | z;rw [z];exact .inl (g1.free hp);exact r1' a z;obtain ⟨xs,w,_⟩:=r1.isl p h;rw [w] at hp;cases hp
    · cases e) fun c x q H' g'=>q H' g')
theorem Xcc (ha:AOk K C E Γ Δ m S t f):EOk K C E Γ Δ 1 S (Xlz t) (Dl.fA Dl.Jq f):=
  fun H0 Hb H σ ρ A Q I p=>ha H0 Hb H σ ρ A _ I (p.bind.imp (fun ds q vs H1 g1 r1=>by
    obtain ⟨d,e,q⟩:=Zfc q;unfold Dl.Jq at e;split at e;rename_i hz;cases e;obtain ⟨B,r1,r1',n1⟩:=r1;refine ⟨by rw [r1.len];exact Zce hz,fun p hp=>?_⟩;have g2:=sameNew hp (.lst vs);refine q _ _ (g1.trans g2) ⟨p::B,⟨p,vs,B,rfl,Ye,r1.same g2,rfl⟩,fun a ha=>?_,fun _ a r e=>?_,(fun z=>nomatch z)⟩;rcases Aj.mp ha with z | z;rw [z];exact .inl (g1.free hp);exact r1' a z;cases e;refine ⟨g1.free hp,fun h=>?_⟩;obtain ⟨xs,w,_⟩:=r1.isl p h;rw [w] at hp;cases hp
    · cases e) fun c x q H' g'=>q H' g')
theorem Zvw (hm:m=0\/m=2)(ha:AOk K C E Γ Δ m S t f):EOk K C E Γ Δ m S (Xfl t) (Dl.fA Dl.Zcf f):=
  fun H0 Hb H σ ρ A Q I p=>ha H0 Hb H σ ρ A _ I (p.bind.imp (fun ds q vs H1 g1 r1=>by
    obtain ⟨d,e,q⟩:=Zfc q;unfold Dl.Zcf at e;split at e;rename_i hz;cases e;obtain ⟨B,r1,r1',n1⟩:=r1;refine ⟨by rw [r1.len];exact Zce hz,fun p hp=>?_⟩;have g2:=sameNew hp (.tup vs);exact q _ _ (g1.trans g2) ⟨B,⟨p,vs,rfl,Ye,r1.same g2⟩,r1',(fun z=>by omega),n1⟩
    · cases e) fun c x q H' g'=>q H' g')
theorem Xeq {r:List V->Hp->VK->Prop}{g:List D->Option D}(hg:GAk K C r g)(ha:AOk K C E Γ Δ m S t f):EOk K C E Γ Δ 2 [] (tCB r t) (Dl.fA g f):=
  fun H0 Hb H σ ρ A Q I p=>ha H0 Hb H σ ρ A _ I (p.bind.imp (fun ds q vs H1 g1 r1=>by
    obtain ⟨d,e,q⟩:=Zfc q;obtain ⟨B,r1,_⟩:=r1;exact hg H1 ds d vs B Q r1 e fun v H' B' g2 r2 h1 h2=>q v H' (g1.trans g2) (Res.new r2 h1 fun a ha=>g1.free (h2 a ha))) fun c x q H' g'=>q H' g')
theorem RpA.one' {A:List Addr}(r:RpA K C H [d] vs A):∃v,vs=[v]/\Rp K C H d v A:=by obtain ⟨x,l,B,B',e1,e2,e3,e4⟩:=r;obtain ⟨e5,e6⟩:=e3;subst e1 e4 e5 e6;rw [Dt];exact ⟨x,rfl,e2⟩
theorem RpA.two' {e:D}{A:List Addr}(r:RpA K C H [d,e] vs A):∃v w B B',vs=[v,w]/\Rp K C H d v B/\Rp K C H e w B':=by obtain ⟨x,l,B,B',e1,e2,e3,e4⟩:=r;obtain ⟨w,e5,e6⟩:=e3.one';subst e1 e5;exact ⟨x,w,B,B',rfl,e2,e6⟩
theorem Yi:GAk K C (Zaj K) Dl.Zbc:=by
 intro H xs d vs B Q r e q;obtain ⟨x,rfl⟩:=Zni (F:=Dl.Zbc) rfl (fun x _ _=>by cases x<;>rfl) e;obtain ⟨v,rfl,r1⟩:=r.one';cases x with
 | lst xs =>cases (show some (D.int xs.length)=some d from e);obtain ⟨a,ys,B,rfl,e2,e3,_⟩:=r1;refine Zvt (SqL.of e2) ?_;rw [e3.len];exact Out.flat q rpI
 | tup xs =>cases (show some (D.int xs.length)=some d from e);obtain ⟨a,ys,rfl,e2,e3⟩:=r1;refine Xgb (SqT.of e2) ?_;rw [e3.len];exact Out.flat q rpI
 | scr xs =>cases (show some (D.int xs.length)=some d from e);obtain ⟨a,rfl,e2,_⟩:=r1;refine Zvt e2.sq ?_;rw [Ae];exact Out.flat q rpI
 | str z =>have e:(if z.length<=Dl.lim then some (D.int z.length) else none)=some d:=e;by_cases hz:z.length<=Dl.lim;rw [if_pos hz] at e;cases e;obtain ⟨rfl,_⟩:=r1;exact Xkn (Zce hz) (Out.flat q rpI);rw [if_neg hz] at e;exact Jb e
 | _=>exact Jb e
theorem Xgt:GAk K C (rSum K) Dl.Xpu:=by
 intro H xs d vs B Q r e q;obtain ⟨x,rfl⟩:=Zni (F:=Dl.Xpu) rfl (fun x _ _=>by cases x<;>rfl) e;obtain ⟨v,rfl,r1⟩:=r.one';cases x with
 | lst xs =>obtain ⟨ns,h1,h2⟩:=Bq.mp e;cases h2;obtain ⟨a,ys,B,rfl,e2,e3,_⟩:=r1;have h:=e3.ofInts h1;subst h;exact Xqb (SqL.of e2) (Out.flat q rpI)
 | _=>exact Jb e
def Zwa:List V->Hp->VK->Prop:=fun xs H Q=>∃i j,xs=[.int i,.int j]/\Q (.int (if j<i then j else i)) H
theorem Zib (hc:X.calm=true):Zar X (.builtin "min") Zwa:=Zxl hc
theorem Zvk:GAk K C Zwa Dl.Xll:=by intro H xs d vs B Q r e q;unfold Dl.Xll at e;split at e;cases e;obtain ⟨v,w,B,B',rfl,r1,r2⟩:=r.two';obtain ⟨rfl,_⟩:=r1;obtain ⟨rfl,_⟩:=r2;exact ⟨_,_,rfl,Out.flat q rpI⟩;cases e
theorem Xiz:GAk K C (Xbb K) Dl.Xlv:=by
 intro H xs d vs B Q r e q;obtain ⟨x,rfl⟩:=Zni (F:=Dl.Xlv) rfl (fun x _ _=>by cases x<;>rfl) e;obtain ⟨v,rfl,r1⟩:=r.one';cases x with
 | lst xs =>obtain ⟨ns,h1,h2⟩:=Bq.mp e;cases h2;obtain ⟨a,ys,B,rfl,e2,e3,_⟩:=r1;have h:=e3.ofBools h1;subst h;exact Xky (SqL.of e2) (Out.flat q rpB)
 | _=>exact Jb e
theorem Xia:GAk K C (Xdn K) Dl.Xlr:=by
 intro H xs d vs B Q r e q;obtain ⟨x,rfl⟩:=Zni (F:=Dl.Xlr) rfl (fun x _ _=>by cases x<;>rfl) e;obtain ⟨v,rfl,r1⟩:=r.one';cases x with
 | lst xs =>obtain ⟨ns,h1,h2⟩:=Bq.mp e;cases h2;obtain ⟨a,ys,B,rfl,e2,e3,_⟩:=r1;have h:=e3.ofBools h1;subst h;exact Xhl (SqL.of e2) (Out.flat q rpB)
 | _=>exact Jb e
theorem RpA.rng {lo:Int}:RpA K C H (Dl.Zhb lo n) (Zpi lo n) []:=by
 unfold Dl.Zhb Zpi;generalize AJ n=l
 induction l with
 | nil=>exact RpA.nil
 | cons k l ih=>exact ⟨_,_,[],[],rfl,rpI,ih,rfl⟩
theorem Zeh:GAk K C (Zjs K) Dl.Zdm:=by
 intro H xs d vs B Q r e q;obtain ⟨x,rfl⟩:=Zni (F:=Dl.Zdm) rfl (fun x _ _=>by cases x<;>rfl) e;obtain ⟨v,rfl,r1⟩:=r.one';cases x with
 | lst xs =>have e:(if Dl.Xn xs then some (D.lst xs) else none)=some d:=e;split at e;rename_i hf;cases e;obtain ⟨a,ys,B,rfl,e2,e3,_⟩:=r1;exact Xaj (SqL.of e2) fun l hl=>Out.lst q (e3.flat' hf) hl;exact Jb e
 | tup xs =>have e:(if Dl.Xn xs then some (D.lst xs) else none)=some d:=e;split at e;rename_i hf;cases e;obtain ⟨a,ys,rfl,e2,e3⟩:=r1;exact .inl ⟨a,ys,rfl,.inr (SqT.of e2),fun l hl=>Out.lst q (e3.flat' hf) hl⟩;exact Jb e
 | rng i j =>have e:(if -1000000000<=i/\i<=1000000000/\-1000000000<=j/\j<=1000000000/\(j - i).toNat<=Dl.lim then some (D.lst (Dl.Zhb i (j - i).toNat)) else none)=some d:=e;split at e;rename_i hf;cases e;obtain ⟨a,rfl,e2,_⟩:=r1;obtain ⟨h1,h2,h3,h4,h5⟩:=hf;exact Xby e2 (by omega) (by omega) (by omega) (by omega) h5 fun l hl=>Out.lst q RpA.rng hl;exact Jb e
 | _=>exact Jb e
theorem Xdd:OOk K C E Γ Δ Zle Dl.Zfi:=fun _ _ H _ _ _ _ _ p=>p H (Xk.refl _)
theorem Xam {t:TE}{f:FE}(h:EOk K C E Γ Δ m S t f):OOk K C E Γ Δ (Xce t) (Dl.Zdk f):=fun H0 Hb H σ ρ A Q I p=>h H0 Hb H σ ρ A _ I (p.bind.imp (fun d q v H' g r=>by
  obtain ⟨B,r,_⟩:=r;cases d with
  | int i =>obtain ⟨rfl,_⟩:=r;exact ⟨i,rfl,q H' g⟩
  | _=>exact q.elim) fun c x q H' g'=>q H' g')
theorem Zkn (n d:Nat)(o:Option Int):Dl.Zzj n d o=HT.sIx n d o:=by
 cases o with
 | none=>rfl
 | some v =>have h:=HT.clip_eq v n d;show (if v<0 then (max (v+(n:Int)) 0).toNat else min v.toNat n)=_;by_cases hv:v<0;rw [if_pos hv] at h ⊢;omega;rw [if_neg hv] at h ⊢;omega
theorem RpA.cut {ds:List D}{vs:List V}{A:List Addr}(h:Dl.Xn ds=true)(r:RpA K C H ds vs A)(lo hi:Option Int):RpA K C H (Dl.cut ds lo hi) (cutV vs lo hi) []:=by unfold Dl.cut cutV;rw [Zkn,Zkn,r.len];exact (r.flatDrop h _).flatTake (Ztd h _) _
theorem Zzn (ns:List Int)(lo hi:Option Int):cutV (ns.map V.int) lo hi=(Dl.cut ns lo hi).map V.int:=by unfold Dl.cut cutV;rw [Zkn,Zkn,Ae,D1,Ez]
theorem Xph {th:TO}(ha:EOk K C E Γ Δ m S ta fa)(hl:OOk K C E Γ Δ tl fl)(hh:OOk K C E Γ Δ th fh):EOk K C E Γ Δ 2 [] (tSl (Xls K) ta tl th) (Dl.fSl Dl.gSl fa fl fh):=
  fun H0 Hb H σ ρ A Q I p=>ha H0 Hb H σ ρ A _ I (p.bind.imp (fun x q vx H1 g1 r1=>hl H0 Hb H1 σ ρ A _ (I.mono g1) (q.bind.imp (fun lo q H2 g2=>hh H0 Hb H2 σ ρ A _ (I.mono (g1.trans g2)) (q.bind.imp (fun hi q H3 g3=>by
    obtain ⟨d,e,q⟩:=Zfc q;obtain ⟨B,r1,_⟩:=r1;have r1:=r1.same (g2.trans g3);have g13:=g1.trans (g2.trans g3);have out:Out K C H3 d Q:=fun v H' B g4 r h1 h2=>q v H' (g13.trans g4) (Res.new r h1 fun a ha=>g13.free (h2 a ha));unfold Dl.gSl at e;split at e;split at e;rename_i hf;cases e;obtain ⟨a,ys,B,rfl,e2,e3,_⟩:=r1;exact Zup (SqL.of e2) fun p hp=>Out.lst out (e3.cut hf _ _) hp;cases e;cases e;obtain ⟨a,rfl,e2,_⟩:=r1;refine Zup e2.sq fun p hp=>?_;rw [Zzn];exact Out.lst out RpA.ints hp
    · cases e) fun c x q H' g'=>q H' ((g1.trans g2).trans g'))) fun c x q H' g'=>q H' (g1.trans g'))) fun c x q H' g'=>q H' g')
theorem Xec {t:TE}{f:FE}(h:EOk K C E Γ Δ m S t f):∀(H0 Hb H:Hp) (σ:St) (ρ:Yb) (A:Nat->List Addr) (Q:Bool->Hp->Prop),Zq K C H0 Hb H Γ Δ σ ρ A->
    Zz (Dl.cE f ρ) (fun b=>∀H',Xk H H'->Q b H') (fun c x=>∀H',Xk H H'->EC C E c x H')->t σ H fun x H'=>∃k,x=.bl k/\Q k H':=fun H0 Hb H σ ρ A Q I p=>h H0 Hb H σ ρ A _ I (p.bind.imp (fun d q v H' g r=>by
  obtain ⟨B,r,_⟩:=r;cases d with
  | bl b =>obtain ⟨rfl,_⟩:=r;exact ⟨b,rfl,q H' g⟩
  | _=>exact q.elim) fun c x q H' g'=>q H' g')
theorem Xal {t:TE}{f:FE}(h:EOk K C E Γ Δ m S t f):TOk K C E Γ Δ (Zzk t) (Dl.cE f):=Xec h
theorem tok_B {t:TE}{f:FE}(h:EOk K C E Γ Δ m S t f):TOk K C E Γ Δ (tB t) (Dl.cE f):=Xec h
theorem Xik {t:TT}{f:FT}(h:TOk K C E Γ Δ t f):TOk K C E Γ Δ (tNot t) (Dl.Zma f):=fun H0 Hb H σ ρ A Q I p=>h H0 Hb H σ ρ A _ I (p.bind.imp (fun b q H' g=>q H' g) fun c x q H' g'=>q H' g')
theorem Xjl {t u:TT}{f g:FT}(h:TOk K C E Γ Δ t f)(h':TOk K C E Γ Δ u g):TOk K C E Γ Δ (tAnd t u) (Dl.Zot f g):=fun H0 Hb H σ ρ A Q I p=>h H0 Hb H σ ρ A _ I (p.bind.imp (fun b q H' g'=>by
  cases b with
  | true=>exact h' H0 Hb H' σ ρ A Q (I.mono g') (Zz.imp q (fun b q H2 g2=>q H2 (g'.trans g2)) fun c x q H2 g2=>q H2 (g'.trans g2))
  | false=>exact q H' g') fun c x q H' g'=>q H' g')
theorem Xnn {t u:TT}{f g:FT}(h:TOk K C E Γ Δ t f)(h':TOk K C E Γ Δ u g):TOk K C E Γ Δ (tOr t u) (Dl.cOr f g):=fun H0 Hb H σ ρ A Q I p=>h H0 Hb H σ ρ A _ I (p.bind.imp (fun b q H' g'=>by
  cases b with
  | false=>exact h' H0 Hb H' σ ρ A Q (I.mono g') (Zz.imp q (fun b q H2 g2=>q H2 (g'.trans g2)) fun c x q H2 g2=>q H2 (g'.trans g2))
  | true=>exact q H' g') fun c x q H' g'=>q H' g')
theorem Xlg:TOk K C E Γ Δ Xjg Dl.Zec:=fun _ _ H _ _ _ _ _ p=>p H (Xk.refl _)
theorem EOk.run {t:TE}{f:FE}(h:EOk K C E Γ Δ m S t f)(I:Zq K C H0 Hb H Γ Δ σ ρ A)(g:Xk H H1)
  (p:Zz (f ρ) (fun d=>∀v H',Xk H H'->Res K C m S H A d v H'->Q v H') (fun c x=>∀H',Xk H H'->EC C E c x H')):t σ H1 Q:=
 h H0 Hb H1 σ ρ A Q (I.mono g) (p.imp (fun d q v H2 g2 r=>q v H2 (g.trans g2) (r.later g (Xk.refl _))) fun c x q H2 g2=>q H2 (g.trans g2))
theorem Xlf (ha:EOk K C E Γ Δ m1 S1 ta fa)(hb:EOk K C E Γ Δ m S tb fb):EOk K C E Γ Δ m S (Xbk ta tb) (Dl.Xlq fa fb):=fun H0 Hb H σ ρ A Q I p=>ha H0 Hb H σ ρ A _ I (p.bind.imp (fun d q v H' g r=>by
  obtain ⟨B,r,_⟩:=r;cases d with
  | bl b =>
    obtain ⟨rfl,_⟩:=r;refine ⟨b,rfl,?_⟩;cases b with
    | true=>exact hb.run I g q
    | false=>exact q _ H' g (Res.flat rpB)
  | _=>exact q.elim) fun c x q H' g'=>q H' g')
theorem Xkm (ha:EOk K C E Γ Δ m1 S1 ta fa):EOk K C E Γ Δ 2 [] (Zzq ta) (Dl.f1 Dl.gNot fa):=fun H0 Hb H σ ρ A Q I p=>ha H0 Hb H σ ρ A _ I (p.bind.imp (fun d q v H' g r=>by
  obtain ⟨B,r,_⟩:=r;cases d with
  | bl b =>obtain ⟨rfl,_⟩:=r;exact ⟨b,rfl,q _ H' g (Res.flat rpB)⟩
  | _=>exact q.elim) fun c x q H' g'=>q H' g')
def spD (K:AE)(C:String->Addr)(n mr:Nat)(F:List D->R D):Sp:=fun vs H Q E=>∃ds B,ds.length=n/\RpA K C H ds vs B/\
 Zz (F ds) (fun d=>∀v H',Xk H H'->Res K C mr [] H (fun _=>[]) d v H'->Q v H') (fun c x=>∀H',Xk H H'->EC C E c x H')
theorem InS.none (h:InS A [] a):False:=by obtain ⟨p,hp,_⟩:=h;cases hp
theorem Res.reA {A':Nat->List Addr}(r:Res K C m [] H A d v H'):Res K C m S H A' d v H':=by obtain ⟨B,r1,r2,r3,r4⟩:=r;exact ⟨B,r1,fun a ha=>(r2 a ha).imp id fun h=>h.none.elim,r3,r4⟩
theorem Xdk (ha:AOk K C E Γ Δ m S t f)(hn:∀ρ ds,f ρ=.ok ds->ds.length=n):EOk K C E Γ Δ mr [] (Zmv (spD K C n mr F) [] E t) (Dl.Xy F f):=
  fun H0 Hb H σ ρ A Q I p=>Zxr (ha H0 Hb H σ ρ A _ I (by
    have p':=p.bind;cases e:f ρ with
    | bad=>rw [e] at p';exact p'
    | err c x=>rw [e] at p';exact p'
    | ok ds =>
      rw [e] at p';intro vs H1 g1 r1;obtain ⟨B,r1,_⟩:=r1;exact ⟨ds,B,hn ρ ds e,r1,Zz.imp p' (fun d q v H' g2 r=>q v H' (g1.trans g2) ((r.later g1 (Xk.refl _)).reA)) fun c x q H' g'=>q H' (g1.trans g')⟩))
theorem Xkz (ρ:Yb)(ds:List D)(h:Dl.Zu ρ=.ok ds):ds.length=0:=by cases h;rfl
theorem Zlc (hf:∀ρ ds,f ρ=.ok ds->ds.length=n)(ρ:Yb)(ds:List D)(h:Dl.Zb fe f ρ=.ok ds):ds.length=n+1:=by
 unfold Dl.Zb at h;cases e:fe ρ with
 | ok x =>
  rw [e] at h;cases e':f ρ with
  | ok xs =>rw [e'] at h;cases h;rw [BB,hf ρ xs e']
  | err c x=>rw [e'] at h;cases h
  | bad=>rw [e'] at h;cases h
 | err c x=>rw [e] at h;cases h
 | bad=>rw [e] at h;cases h
def Goes (K:AE)(C:String->Addr)(J:It)(ds:List D)(Hb:Hp):Prop:=∀H2,Xk Hb H2->(∀i,i<ds.length->J.go i H2)/\(∀i,ds.length<=i->J.stop i H2)/\
 ∀i x H3,i<ds.length->J.yld i H2 x H3->Xk H2 H3/\∃d B,ds[i]?=some d/\Rp K C H3 d x B/\∀a∈B,Hb a≠none
def IOk (K:AE)(C:String->Addr)(E:XK)(Γ Δ:List Nat)(S:List (Nat×Bool))(wi:TI)(f:FI):Prop:=∀(H0 Hb H:Hp) (σ:St) (ρ:Yb) (A:Nat->List Addr) (Rr:It->Hp->Prop),Zq K C H0 Hb H Γ Δ σ ρ A->
  Zz (f ρ) (fun ds=>∀J H' W,Xk H H'->(∀a∈W,(∃o,H' a=some o/\IsM o)/\(H a=none\/InS A S a))->ds.length<=Dl.lim->
    (∀Hc,Agree W H' Hc->Goes K C J ds Hc)->Rr J H') (fun c x=>∀H',Xk H H'->EC C E c x H')->wi σ H Rr
theorem Zvh (r:RpA K C Hc ds vs B)(h:∀H2,Xk Hc H2->(∀i,i<vs.length->J.go i H2)/\(∀i,vs.length<=i->J.stop i H2)/\∀i x H3,J.yld i H2 x H3->H3=H2/\(i<vs.length->vs[i]?=some x)):Goes K C J ds Hc:=fun H2 g=>by obtain ⟨h1,h2,h3⟩:=h H2 g;have hl:=r.len;refine ⟨fun i hi=>h1 i (by omega),fun i hi=>h2 i (by omega),fun i x H3 hi y=>?_⟩;obtain ⟨e,y2⟩:=h3 i x H3 y;subst e;obtain ⟨d,Bd,q1,q2,q3⟩:=r.get' (y2 (by omega));refine ⟨Xk.refl _,d,Bd,q1,q2.same g,fun a ha z=>?_⟩;obtain ⟨xs,e,_⟩:=q2.isl a ha;rw [e] at z;cases z
theorem Zmr (r:RpA K C Hc ds vs B)(h:∀H2,Xk Hc H2->SqL K H2 a vs):Goes K C (Itl K a) ds Hc:=Zvh r fun H2 g=>by have q:=h H2 g;exact ⟨fun i hi=>⟨vs,vs[i],q,by simp [hi]⟩,fun i hi=>⟨vs,q,hi⟩,fun i x H3 y=>⟨y.1,fun _=>y.2 vs q⟩⟩
theorem Xcv {lo:Int}:Goes K C (Itr lo n) (Dl.Zhb lo n) Hc:=Zvh (vs:=Zpi lo n) RpA.rng fun H2 _=>by
 have hl:(Zpi lo n).length=n:=by simp [Zpi]
 refine ⟨fun i hi=>by rw [hl] at hi;exact hi,fun i hi=>by rw [hl] at hi;exact hi,fun i x H3 y=>⟨y.1,fun hi=>?_⟩⟩;rw [hl] at hi;rw [y.2];simp [Zpi,hi]
theorem FzL.keep (h:FzL K H a xs)(hk:∀b o,H b=some o->¬IsM o->Hb b=some o):FzL K Hb a xs:=by rcases h with ⟨o,h⟩ | h;exact .inl ⟨o,hk a _ h (fun z=>by cases z)⟩;exact .inr h
theorem FzL.same (h:FzL K H a xs)(g:Xk H Hb):FzL K Hb a xs:=h.keep fun b o q _=>g b o q
theorem Xau {t:TE}{f:FE}(h:EOk K C E Γ Δ m S t f):IOk K C E Γ Δ S (Xbm K t) (Dl.Zad f):=fun H0 Hb H σ ρ A Rr I p=>h H0 Hb H σ ρ A _ I (p.bind.imp (fun d q v H' g r=>by
  obtain ⟨B,r,r',_⟩:=r;cases d with
  | lst ds =>obtain ⟨a,xs,B',rfl,e2,e3,e4⟩:=r;subst e4;simp only at q;split at q;rename_i hl;refine ⟨a,rfl,⟨xs,SqL.of e2⟩,q _ H' (a::B') g (fun b hb=>?_) hl fun Hc h1=>Zmr (e3.agree h1 fun b hb=>.tail _ hb) fun H2 g2=>SqL.of (g2 _ _ ((h1.1 a (.head _)).trans e2))⟩;rcases Aj.mp hb with z | z;rw [z];exact ⟨⟨_,e2,.lst⟩,r' a (.head _)⟩;exact ⟨e3.isl b z,r' b (.tail _ z)⟩;exact q.elim
  | scr ns =>obtain ⟨a,rfl,e2,_⟩:=r;simp only at q;split at q;rename_i hl;exact ⟨a,rfl,⟨_,e2.sq⟩,q _ H' [] g (fun b hb=>nomatch hb) (by rw [Ae];exact hl) fun Hc h2=>Zmr RpA.ints fun H2 g2=>((e2.keep h2.2).same g2).sq⟩;exact q.elim
  | _=>exact q.elim) fun c x q H' g'=>q H' g')
theorem Xdw (lo:Int)(n:Nat):(Dl.Zhb lo n).length=n:=by simp [Dl.Zhb]
theorem Xcf (h:AOk K C E Γ Δ m S t f):IOk K C E Γ Δ [] (Xdm t) (Dl.Zek f):=fun H0 Hb H σ ρ A Rr I p=>h H0 Hb H σ ρ A _ I (p.bind.imp (fun ds q vs H' g r=>by
  obtain ⟨B,r,_⟩:=r;split at q;split at q;rename_i hl;obtain ⟨v,rfl,r1⟩:=r.one';obtain ⟨rfl,_⟩:=r1;exact ⟨_,rfl,by omega,by omega,q _ H' [] g (fun b hb=>nomatch hb) (by rw [Xdw];show _<=1000000;omega) fun Hc _=>Xcv⟩;exact q.elim
  · exact q.elim) fun c x q H' g'=>q H' g')
theorem Zrx {k:Nat}{g:TG}{tc:TT}{Rr:Hp->Prop}(go:Goes K C J ds Hc)(Pv:Nat->Hp->Prop)(h0:Pv 0 (upd H Dd (.lst [])))(hb:∀i H,Pv i H->Xk Hc H)
    (hs:∀i d x B H H3,ds[i]?=some d->Pv i H->Xk H H3->Rp K C H3 d x B->(∀a∈B,Hc a≠none)->∀os:St,os.length=k->g x (σ++os) H3 fun σ' Hg=>(∃os',os'.length=k/\σ'=σ++os')/\tc σ' Hg fun b H2=>if b=true then te σ' H2 fun v H3=>∃ys,H3 Dd=some (.lst ys)/\ys.length<Ak/\Pv (i+1) (upd H3 Dd (.lst (ys++[v]))) else Pv (i+1) H2)
    (hd:∀H,Pv ds.length H->Rr H) :
    ∃W:Nat->Nat->Hp->Prop,(∃m,W 0 m (upd H Dd (.lst [])))/\∀i m H,W i m H->
      (J.stop i H/\Rr H)\/(J.go i H/\∃N:Hp->Prop,(∀H',N H'->∃m',m'<m/\W (i+1) m' H')/\∀x H',J.yld i H x H'->∀os:St,os.length=k->g x (σ++os) H' fun σ' Hg=>(∃os',os'.length=k/\σ'=σ++os')/\tc σ' Hg fun b H2 =>
        if b=true then te σ' H2 fun v H3=>∃ys,H3 Dd=some (.lst ys)/\ys.length<Ak/\N (upd H3 Dd (.lst (ys++[v])))
        else N H2):=by
  refine ⟨fun i m H=>m=ds.length - i/\i<=ds.length/\Pv i H,⟨ds.length,by simp,D9 _,h0⟩,?_⟩;rintro i m H1 ⟨rfl,hi,p⟩;obtain ⟨g1,g2,g3⟩:=go H1 (hb i H1 p);by_cases hlt:i<ds.length;refine .inr ⟨g1 i hlt,Pv (i+1),fun H' p'=>⟨ds.length - (i+1),by omega,rfl,hlt,p'⟩,fun x H' y=>?_⟩;obtain ⟨e,d,B,y1,y2,y3⟩:=g3 i x H' hlt y;exact hs i d x B H1 H' y1 p e y2 y3;have e:i=ds.length:=by omega
  subst e;exact .inl ⟨g2 _ (AI _),hd H1 p⟩
theorem Zqd {g:TG}{tb:TS}{Dd:Ends}(go:Goes K C J ds Hc)(Pv:Nat->St->Hp->Prop)(h0:Pv 0 σ H)(hb:∀i σ H,Pv i σ H->Xk Hc H)
  (hs:∀i d x B σ H H3,ds[i]?=some d->Pv i σ H->Xk H H3->Rp K C H3 d x B->(∀a∈B,Hc a≠none)->g x σ H3 fun σ2 H2=>tb {Dd with nx:=Pv (i+1),ct:=Pv (i+1),bk:=Dd.nx} σ2 H2) (hd:∀σ H,Pv ds.length σ H->Dd.nx σ H) :
  ∃W:Nat->Nat->St->Hp->Prop,(∃m,W 0 m σ H)/\∀i m σ H,W i m σ H->
   (J.stop i H/\Dd.nx σ H)\/(J.go i H/\∃N:St->Hp->Prop,(∀σ' H',N σ' H'->∃m',m'<m/\W (i+1) m' σ' H')/\∀x H',J.yld i H x H'->g x σ H' fun σ2 H2=>tb {Dd with nx:=N,ct:=N,bk:=Dd.nx} σ2 H2):=by
 refine ⟨fun i m σ H=>m=ds.length - i/\i<=ds.length/\Pv i σ H,⟨ds.length,by simp,D9 _,h0⟩,?_⟩;rintro i m σ H1 ⟨rfl,hi,p⟩;obtain ⟨g1,g2,g3⟩:=go H1 (hb i σ H1 p);by_cases hlt:i<ds.length;refine .inr ⟨g1 i hlt,Pv (i+1),fun σ' H' p'=>⟨ds.length - (i+1),by omega,rfl,hlt,p'⟩,fun x H' y=>?_⟩;obtain ⟨e,d,B,y1,y2,y3⟩:=g3 i x H' hlt y;exact hs i d x B σ H1 H' y1 p e y2 y3;have e:i=ds.length:=by omega
 subst e;exact .inl ⟨g2 _ (AI _),hd σ H1 p⟩
theorem Zq.more (I:Zq K C H0 Hb H Γ Δ σ ρ A)(os:St):Zq K C H H H [] [] (σ++os) (ρ++Aa os.length none) A:=by refine ⟨Xk.refl _,Xk.refl _,by rw [Ao,Ao,I.len,Ct],fun i e h=>?_,fun i h=>?_,(fun _ h=>nomatch h),(fun _ h=>nomatch h),(fun _ h=>nomatch h)⟩;by_cases hi:i<ρ.length;rw [Au hi] at h;obtain ⟨w,q1,q2⟩:=I.rep i e h;refine ⟨w,?_,q2⟩;rw [Au (by rw [I.len];exact hi)];exact q1;rw [Bp (by omega)] at h;have hm:=AU h;rw [DD] at hm;exact absurd hm.2 (by intro z;cases z);refine I.nil i fun e h'=>h e ?_;rw [Au (Ah.mp h').1];exact h'
def NOk (K:AE)(C:String->Addr)(n k:Nat)(g:TG)(b:FB):Prop:=∀(H:Hp) (σ os:St) (ρ:Yb) (A:Nat->List Addr) (d:D) (v:V) (B:List Addr) (Rr:St->Hp->Prop),σ.length=n->os.length=k->Zq K C H H H [] [] (σ++os) ρ A->Rp K C H d v B->
 Zz (b d ρ) (fun ρ'=>∀os' A',os'.length=k->Zq K C H H H [] [] (σ++os') ρ' A'->Rr (σ++os') H) (fun _ _=>False)->g v (σ++os) H Rr
def Xmi (K:AE)(C:String->Addr)(n k:Nat)(g:TGs)(b:List D->Yb->R Yb):Prop:=∀(H:Hp) (σ os:St) (ρ:Yb) (A:Nat->List Addr) (d:List D) (v:List V) (B:List Addr) (Rr:St->Hp->Prop),σ.length=n->os.length=k->Zq K C H H H [] [] (σ++os) ρ A->RpA K C H d v B->
 Zz (b d ρ) (fun ρ'=>∀os' A',os'.length=k->Zq K C H H H [] [] (σ++os') ρ' A'->Rr (σ++os') H) (fun _ _=>False)->g v (σ++os) H Rr
theorem Ztk (k:Nat)(b:FB)(c:FT)(e:FE)(ρ:Yb)(xs:List D){x:D}(h:xs[i]?=some x):Dl.Zci k b c e ρ (xs.drop i)=(b x (ρ++Aa k none)).calm.bind fun ρ1=>(c ρ1).bind fun t=>if t then (e ρ1).bind fun y=>(Dl.Zci k b c e ρ (xs.drop (i+1))).bind fun ys=>.ok (y::ys) else Dl.Zci k b c e ρ (xs.drop (i+1)):=by obtain ⟨hi,rfl⟩:=Ah.mp h;rw [B0 hi];rfl
theorem Zbr {r:R α}{ok:α->Prop}(h:Zz r.calm ok er):Zz r ok (fun _ _=>False):=by
 cases r with
 | ok a=>exact h
 | err c x=>exact h
 | bad=>exact h
theorem get_set {l:List α}{x y:α}(h:(l.set i x)[j]?=some y):(j=i/\i<l.length/\y=x)\/(j≠i/\l[j]?=some y):=by by_cases e:i=j;subst e;rw [List.getElem?_set_self'] at h;by_cases hi:i<l.length;rw [Al hi] at h;simp at h;exact .inl ⟨rfl,hi,h.symm⟩;rw [List.getElem?_eq_none (by omega)] at h;cases h;rw [Bc e] at h;exact .inr ⟨fun z=>e z.symm,h⟩
theorem Zq.put (I:Zq K C H0 Hb H Γ Δ σ ρ A)(r:Rp K C H d v B)
  (h1:∀j∈Γ',j≠i->j∈Γ/\∀a l,A j=a::l->a∉B)
  (h2:i∈Γ'->(∀a∈B,H0 a=none)/\∀a l,B=a::l->Hb a=none/\a∉l/\∀j,j≠i->a∉A j)
  (h3:∀j∈Δ',j≠i->j∈Δ/\∀a∈A j,a∉B)
  (h4:i∈Δ'->B.Nodup/\(∀j,j≠i->∀a∈B,a∉A j)/\∀a∈B,Hb a=none):∃A',Zq K C H0 Hb H Γ' Δ' (σ.set i (some v)) (ρ.set i (some d)) A'/\∀j a,a∈A' j->a∈B\/a∈A j:=by
 by_cases hi:i<ρ.length;refine ⟨fun j=>if j=i then B else A j,⟨I.s0,I.same,by rw [Bw,Bw,I.len],fun j e h=>?_,fun j h=>?_,fun j hj a ha=>?_,fun j hj a l e=>?_,fun j hj=>?_⟩,fun j a ha=>?_⟩;rcases get_set h with ⟨e1,_,e2⟩ | ⟨e1,e2⟩;subst e1;cases e2;refine ⟨v,?_,by rw [if_pos rfl];exact r⟩;rw [BV (by rw [I.len];exact hi)];obtain ⟨w,q1,q2⟩:=I.rep j e e2;refine ⟨w,?_,by rw [if_neg e1];exact q2⟩;rw [Bc (fun z=>e1 z.symm)];exact q1;by_cases e:j=i;subst e;exact absurd (BV hi) (h d);rw [if_neg e];refine I.nil j fun x hx=>h x ?_;rw [Bc (fun z=>e z.symm)];exact hx;by_cases e:j=i;subst e;rw [if_pos rfl] at ha;exact (h2 hj).1 a ha;rw [if_neg e] at ha;exact I.loc j (h1 j hj e).1 a ha;by_cases e':j=i;subst e';rw [if_pos rfl] at e;obtain ⟨q0,q1,q2⟩:=(h2 hj).2 a l e;refine ⟨q0,q1,fun k hk=>?_⟩;rw [if_neg hk];exact q2 k hk;rw [if_neg e'] at e;obtain ⟨q0,q⟩:=h1 j hj e';obtain ⟨q3,q1,q2⟩:=I.top j q0 a l e;refine ⟨q3,q1,fun k hk=>?_⟩;by_cases ek:k=i;rw [if_pos ek];exact q a l e;rw [if_neg ek];exact q2 k hk;by_cases e:j=i;subst e;rw [if_pos rfl];obtain ⟨q1,q2,q3⟩:=h4 hj;refine ⟨q1,fun k hk a ha=>?_,q3⟩;rw [if_neg hk];exact q2 k hk a ha;rw [if_neg e];obtain ⟨q0,q⟩:=h3 j hj e;obtain ⟨q1,q2,q3⟩:=I.deep j q0;refine ⟨q1,fun k hk a ha=>?_,q3⟩;by_cases ek:k=i;rw [if_pos ek];exact q a ha;rw [if_neg ek];exact q2 k hk a ha;have ha:a∈(if j=i then B else A j):=ha;by_cases e:j=i;rw [if_pos e] at ha;exact .inl ha;rw [if_neg e] at ha;exact .inr ha;have e1:ρ.set i (some d)=ρ:=EV (by omega);have e2:σ.set i (some v)=σ:=EV (by rw [I.len];omega);have e3:A i=[]:=I.nil i fun x h=>by have:=(Ah.mp h).1;omega
 refine ⟨A,?_,fun j a ha=>.inr ha⟩;rw [e1,e2];refine ⟨I.s0,I.same,I.len,I.rep,I.nil,fun j hj a ha=>?_,fun j hj a l e=>?_,fun j hj=>?_⟩;by_cases e:j=i;subst e;rw [e3] at ha;cases ha;exact I.loc j (h1 j hj e).1 a ha;by_cases e':j=i;subst e';rw [e3] at e;cases e;exact I.top j (h1 j hj e').1 a l e;by_cases e:j=i;subst e;rw [e3];exact ⟨BI,fun _ _ _ h=>(nomatch h),fun _ h=>(nomatch h)⟩;exact I.deep j (h3 j hj e).1
theorem Zq.writeA {es:List D}{l:List Addr}(I:Zq K C H0 Hb H Γ Δ σ ρ A)(hi:i∈Γ)(hA:A i=a::l)(hl:i<ρ.length)(hs:σ[i]?=some (some (.ref a)))
  (mk:∀H',H' a=some o'->RpA K C H' es ys B'->Rp K C H' d' (.ref a) (a::B')) (r:RpA K C H es ys B') (hn:∀b∈B',H0 b=none) (ha:a∉B')
  (h1:∀j∈Γ',j≠i->j∈Γ/\∀b l,A j=b::l->b∉B')
  (h2:∀j∈Δ',j≠i->j∈Δ/\∀b∈A j,b∉B')
  (h3:i∈Δ'->B'.Nodup/\(∀j,j≠i->∀b∈B',b∉A j)/\∀b∈B',Hb b=none):∃A',Zq K C H0 Hb (upd H a o') Γ' Δ' σ (ρ.set i (some d')) A'/\∀j b,b∈A' j->b∈a::B'\/b∈A j:=by
 obtain ⟨xs,hxs,hm⟩:=I.is (j:=i) (a:=a) (by rw [hA];exact .head _);have hne:∀j,j≠i->a∉A j:=(I.top i hi a l hA).2.2;have hb0:Hb a=none:=(I.top i hi a l hA).1;have h0:H0 a=none:=I.loc i hi a (by rw [hA];exact .head _);have ext:Ext (fun b=>b=a) H (upd H a o'):=fun b o h=>by by_cases e:b=a;subst e;rw [hxs] at h;cases h;exact .inr ⟨rfl,hm⟩;rw [Xs e];exact .inl h
 refine ⟨fun j=>if j=i then a::B' else A j,⟨I.s0,fun b o h=>?_,by rw [Bw,I.len],fun j e h=>?_,fun j h=>?_,fun j hj b hb=>?_,fun j hj b l' e=>?_,fun j hj=>?_⟩,fun j b hb=>?_⟩;rw [Xs (Xq h hb0)];exact I.same b o h;rcases get_set h with ⟨e1,_,e2⟩ | ⟨e1,e2⟩;subst e1;cases e2;refine ⟨.ref a,hs,?_⟩;rw [if_pos rfl];exact mk _ Ye (r.ext ext (fun b hb h=>ha (by rw [h] at hb;exact hb)));obtain ⟨w,q1,q2⟩:=I.rep j e e2;refine ⟨w,q1,?_⟩;rw [if_neg e1];exact q2.ext ext fun b hb h=>hne j e1 (by rw [h] at hb;exact hb);by_cases e:j=i;subst e;exact absurd (BV hl) (h _);rw [if_neg e];refine I.nil j fun x hx=>h x ?_;rw [Bc (fun z=>e z.symm)];exact hx;by_cases e:j=i;subst e;rw [if_pos rfl] at hb;rcases Aj.mp hb with z | z;rw [z];exact h0;exact hn b z;rw [if_neg e] at hb;exact I.loc j (h1 j hj e).1 b hb;by_cases e':j=i;subst e';rw [if_pos rfl] at e;cases e;refine ⟨hb0,ha,fun k hk=>?_⟩;rw [if_neg hk];exact hne k hk;rw [if_neg e'] at e;obtain ⟨q0,q⟩:=h1 j hj e';obtain ⟨q3,q1,q2⟩:=I.top j q0 b l' e;refine ⟨q3,q1,fun k hk=>?_⟩;by_cases ek:k=i;rw [if_pos ek];intro z;rcases Aj.mp z with z | z;exact hne j e' (by rw [e,z];exact .head _);exact q b l' e z;rw [if_neg ek];exact q2 k hk;by_cases e:j=i;subst e;rw [if_pos rfl];obtain ⟨q1,q2,q3⟩:=h3 hj;refine ⟨Ap.mpr ⟨ha,q1⟩,fun k hk b hb=>?_,fun b hb=>?_⟩;rw [if_neg hk];rcases Aj.mp hb with z | z;rw [z];exact hne k hk;exact q2 k hk b z;rcases Aj.mp hb with z | z;rw [z];exact hb0;exact q3 b z;rw [if_neg e];obtain ⟨q0,q⟩:=h2 j hj e;obtain ⟨q1,q2,q3⟩:=I.deep j q0;refine ⟨q1,fun k hk b hb=>?_,q3⟩;by_cases ek:k=i;rw [if_pos ek];intro z;rcases Aj.mp z with z | z;exact hne j e (by rw [<- z];exact hb);exact q b hb z;rw [if_neg ek];exact q2 k hk b hb;by_cases e:j=i;simp only [if_pos e] at hb;exact .inl hb;simp only [if_neg e] at hb;exact .inr hb
theorem Zq.writeO {es:List D}{l:List Addr}(I:Zq K C H0 Hb H Γ Δ σ ρ A)(hi:i∈Γ)(hA:A i=a::l)(hl:i<ρ.length)(hs:σ[i]?=some (some (.ref a)))
  (mk:∀H',H' a=some o'->RpA K C H' es ys B'->Rp K C H' d' (.ref a) (a::B')) (r:RpA K C H es ys B') (hn:∀b∈B',H0 b=none) (ha:a∉B')
  (h1:∀j∈Γ',j≠i->j∈Γ/\∀b l,A j=b::l->b∉B')
  (h2:∀j∈Δ',j≠i->j∈Δ/\∀b∈A j,b∉B')
  (h3:i∈Δ'->B'.Nodup/\(∀j,j≠i->∀b∈B',b∉A j)/\∀b∈B',Hb b=none):∃A',Zq K C H0 Hb (upd H a o') Γ' Δ' σ (ρ.set i (some d')) A':=
 let ⟨A',h,_⟩:=I.writeA hi hA hl hs mk r hn ha h1 h2 h3;⟨A',h⟩
theorem Zq.write {es:List D}{l:List Addr}(I:Zq K C H0 Hb H Γ Δ σ ρ A)(hi:i∈Γ)(hA:A i=a::l)(hl:i<ρ.length)(hs:σ[i]?=some (some (.ref a)))
  (r:RpA K C H es ys B') (hn:∀b∈B',H0 b=none) (ha:a∉B')
  (h1:∀j∈Γ',j≠i->j∈Γ/\∀b l,A j=b::l->b∉B')
  (h2:∀j∈Δ',j≠i->j∈Δ/\∀b∈A j,b∉B')
  (h3:i∈Δ'->B'.Nodup/\(∀j,j≠i->∀b∈B',b∉A j)/\∀b∈B',Hb b=none):∃A',Zq K C H0 Hb (upd H a (.lst ys)) Γ' Δ' σ (ρ.set i (some (.lst es))) A':=I.writeO hi hA hl hs (fun _ q1 q2=>⟨a,_,_,rfl,q1,q2,rfl⟩) r hn ha h1 h2 h3
theorem Zzw {k:Nat}(i:Nat)(h1:n<=i)(h2:i<n+k):NOk K C n k (Zac i) (Dl.Zr i):=fun H σ os ρ A d v B Rr hσ hos I r p=>by
 have e:(σ++os).set i (some v)=σ++os.set (i - n) (some v):=by rw [<- hσ,Ca _ _ (by omega)]
 obtain ⟨A',I',_⟩:=I.put (Γ':=[]) (Δ':=[]) (i:=i) r (fun _ h=>nomatch h) (fun h=>nomatch h) (fun _ h=>nomatch h) (fun h=>nomatch h);show Rr ((σ++os).set i (some v)) H;rw [e] at I' ⊢;exact p _ A' (by rw [Bw];exact hos) I'
theorem Xis {k:Nat}:Xmi K C n k Zuj Dl.Zej:=fun H σ os ρ A d v B Rr hσ hos I r p=>by
 cases d with
 | nil=>exact ⟨r.1,p _ A hos I⟩
 | cons _ _=>exact p.elim
theorem Xbt {k:Nat}{g:TG}{b:FB}{bs:List D->Yb->R Yb}(h1:NOk K C n k g b)(h2:Xmi K C n k gs bs):Xmi K C n k (Zem g gs) (Dl.Xr b bs):=fun H σ os ρ A d v B Rr hσ hos I r p=>by
 cases d with
 | nil=>exact p.elim
 | cons d ds =>obtain ⟨x,l,B1,B2,e1,e2,e3,e4⟩:=r;subst e1 e4;exact ⟨x,l,rfl,h1 H σ os ρ A d x B1 _ hσ hos I e2 (Zz.imp (Zz.bind p) (fun ρ1 q os1 A1 ho1 I1=>h2 H σ os1 ρ1 A1 ds l B2 Rr hσ ho1 I1 e3 q) fun _ _ z=>z)⟩
theorem Xjp {k:Nat}{bs:List D->Yb->R Yb}{l:Nat}(hn:∀ds ρ ρ',bs ds ρ=.ok ρ'->ds.length=l)(h:Xmi K C n k gs bs):NOk K C n k (Zcf K l gs) (Dl.Zeo bs):=fun H σ os ρ A d v B Rr hσ hos I r p=>by
 cases d with
 | tup ds =>
  obtain ⟨a,xs,rfl,e2,e3⟩:=r;have p':Zz (bs ds ρ) (fun ρ'=>∀os' A',os'.length=k->Zq K C H H H [] [] (σ++os') ρ' A'->Rr (σ++os') H) (fun _ _=>False):=p;have hl:xs.length=l:=by
   rw [e3.len];cases e:bs ds ρ with
   | ok ρ'=>exact hn ds ρ ρ' e
   | err _ _=>rw [e] at p';exact p'.elim
   | bad=>rw [e] at p';exact p'.elim
  exact ⟨a,xs,rfl,SqT.of e2,hl,h H σ os ρ A ds xs B Rr hσ hos I e3 p'⟩
 | _=>exact p.elim
theorem Zrp {k:Nat}{g:TG}{tc:TT}{fb:FB}{fc:FT}(hi:IOk K C E Γ Δ S wi fi)(hg:NOk K C n k g fb)(hc:TOk K C E0 [] [] tc fc)(he:EOk K C E0 [] [] 2 [] te fe):EOk K C E Γ Δ 2 [] (Zdx k g wi tc te) (Dl.Zaa n k fi fb fc fe):=fun H0 Hb H σ ρ A Q I p=>by
  unfold Dl.Zaa at p;split at p
  · rename_i hn;refine hi H0 Hb H σ ρ A _ I (p.bind.imp (fun ds q J H1 W g1 hW hlen hJ Dd hD=>?_) fun c x q H' g'=>q H' g');have I1:=I.mono g1;have go:Goes K C J ds H1:=hJ H1 ⟨fun _ _=>rfl,fun b o h _=>h⟩;have q':=Zbr q.bind;refine Zrx go (fun i H2=>Xk H1 H2/\∃(us:List D) (ys:List V) (B':List Addr),H2 Dd=some (.lst ys)/\us.length<=i/\RpA K C H2 us ys B'/\B'.Nodup/\Dd∉B'/\(∀a∈B',H1 a=none)/\
      Zz (Dl.Zci k fb fc fe ρ (ds.drop i)) (fun zs=>∀v H',Xk H H'->Res K C 2 [] H A (.lst (us++zs)) v H'->Q v H') (fun _ _=>False)) ⟨sameNew hD _,[],[],[],Ye,AI _,RpA.nil,BI,(fun h=>nomatch h),(fun _ h=>nomatch h),q'⟩ (fun _ _ h=>h.1) ?_ ?_
    · rintro i x v Bx H2a H2 hx ⟨g2a,us,ys,B',hD2,hul,ru,nd,hDB,hnew,pq⟩ g2b rx _ os hos;have g2:=g2a.trans g2b;have hil:=(Ah.mp hx).1;rw [Ztk _ _ _ _ _ _ hx] at pq;have I2:=(I1.mono g2).more os;have pq':=Zbr pq.bind;rw [<- hos] at pq';refine hg H2 σ os _ A x v Bx _ (by rw [I.len,hn]) hos I2 rx (pq'.imp (fun ρ1 pq os1 A1 ho1 I3=>⟨⟨os1,ho1,rfl⟩,?_⟩) fun _ _ z=>z);refine hc H2 H2 H2 _ _ _ _ I3 (pq.bind.imp (fun b pq H3 g3=>?_) fun _ _ z=>z.elim);have hD2':=g2b _ _ hD2;have ru':=ru.same g2b;cases b with
      | false =>simp only [BH,if_false] at pq ⊢;rw [hos] at pq;exact ⟨g2.trans g3,us,ys,B',g3 _ _ hD2',by omega,ru'.same g3,nd,hDB,hnew,pq⟩
      | true =>
        simp only [if_true] at pq ⊢;refine he H2 H2 H3 _ _ _ _ (I3.mono g3) (pq.bind.imp (fun y pq w H4 g4 r4=>?_) fun _ _ z=>z.elim);rw [hos] at pq;obtain ⟨By,ry,hy1,_,hy2⟩:=r4;have g24:=g3.trans g4;have hD4:=g24 _ _ hD2';have hnewy:∀a∈By,H3 a=none:=fun a ha=>(hy1 a ha).elim id fun z=>z.none.elim;have hDy:Dd∉By:=fun h=>by have z:=hnewy Dd h;rw [g3 _ _ hD2'] at z;cases z
        have ext:Ext (fun a=>a=Dd) H4 (upd H4 Dd (.lst (ys++[w]))):=fun b o h=>by by_cases e:b=Dd;subst e;rw [hD4] at h;cases h;exact .inr ⟨rfl,.lst⟩;rw [Xs e];exact .inl h
        have hDB':Dd∉B'++By:=fun h=>(Ad.mp h).elim hDB hDy;refine ⟨ys,hD4,?_,?_,us++[y],ys++[w],B'++By,Ye,by rw [Ao];simp;omega,?_,?_,hDB',?_,?_⟩;rw [ru.len];exact Zdd (by omega);intro b o h;have hb:b≠Dd:=Xq h hD;rw [Xs hb];exact (g2.trans g24) b o h;exact ((ru'.same g24).app (RpA.one ry)).ext ext fun a ha h=>hDB' (by rw [h] at ha;exact ha);refine AO.mpr ⟨nd,hy2 rfl,fun a ha b hb e=>?_⟩;subst e;obtain ⟨xs,z,_⟩:=(ru'.same g3).isl a ha;rw [hnewy a hb] at z;cases z;intro a ha;rcases Ad.mp ha with h | h;exact hnew a h;exact (g2.trans g3).free (hnewy a h)
        · exact pq.bind.imp (fun zs pq v H' g' r=>by
            rw [CK] at r;exact pq v H' g' r) fun _ _ z=>z
    rintro H2 ⟨g2,us,ys,B',hD2,hul,ru,nd,hDB,hnew,pq⟩;rw [Dz] at pq;have pq:∀v H',Xk H H'->Res K C 2 [] H A (.lst (us++[])) v H'->Q v H':=pq;rw [Dt] at pq;refine pq _ H2 (g1.trans g2) ⟨Dd::B',⟨Dd,ys,B',rfl,hD2,ru,rfl⟩,fun a ha=>.inl ?_,(fun z=>nomatch z),fun _=>Ap.mpr ⟨hDB,nd⟩⟩;rcases Aj.mp ha with h | h;rw [h];exact g1.free hD;exact g1.free (hnew a h)
  exact p.elim
theorem Zqb.weak {H0 Hb:Hp}{D:Ends}{r:R Fl}(h:Zqb K C E mr Γl Δl Γ' Δ' H0 Hb D r)(h1:∀i∈Γ',i∈Γ1)(h2:∀i∈Δ',i∈Δ1):Zqb K C E mr Γl Δl Γ1 Δ1 H0 Hb D r:=by
 unfold Zqb at *;refine Zz.imp h (fun fl q=>?_) fun _ _ q=>q;cases fl with
 | nx ρ'=>exact fun σ' H' A' I=>q σ' H' A' (I.weak h1 h2)
 | ret d=>exact q
 | brk ρ'=>exact q
 | cnt ρ'=>exact q
theorem Xae {t:TS}{f:FS}(h:SOk K C E mr Γl Δl Γ Δ Γ1 Δ1 t f)(h1:∀i∈Γ',i∈Γ1:=by decide)(h2:∀i∈Δ',i∈Δ1:=by decide):SOk K C E mr Γl Δl Γ Δ Γ' Δ' t f:=fun H0 Hb H σ ρ A D I p =>
 h H0 Hb H σ ρ A D I (p.weak h1 h2)
theorem Xqh:SOk K C E mr Γl Δl Γ Δ Γ Δ Zll Dl.sNx:=fun _ _ H σ _ A _ I p=>p σ H A I
theorem Zuo:SOk K C E mr Γl Δl Γ Δ Γ' Δ' Zry Dl.Zqs:=fun _ _ _ _ _ _ _ _ p=>p.elim
theorem Xho {t u:TS}{f g:FS}(h1:SOk K C E mr Γl Δl Γ Δ Γ1 Δ1 t f)(h2:SOk K C E mr Γl Δl Γ1 Δ1 Γ' Δ' u g):SOk K C E mr Γl Δl Γ Δ Γ' Δ' (Xfd t u) (Dl.Xm f g):=fun H0 Hb H σ ρ A D I p =>
  h1 H0 Hb H σ ρ A _ I (Zz.imp (Zz.bind p) (fun fl q=>by
    cases fl with
    | nx ρ'=>exact fun σ' H' A' I'=>h2 H0 Hb H' σ' ρ' A' D I' q
    | ret d=>exact q
    | brk ρ'=>exact q
    | cnt ρ'=>exact q) fun _ _ q=>q)
theorem Xk.from0 (I:Zq K C H0 Hb H Γ Δ σ ρ A)(g:Xk H H'):Xk H0 H':=I.s0.trans (I.same.trans g)
theorem Zq.top_out (I:Zq K C H0 Hb H Γ Δ σ ρ A)(hj:j∈Γ)(hS:(j,false)∉S){l:List Addr}(e:A j=a::l):¬InS A S a:=fun h=>by
 obtain ⟨q0,q1,q2⟩:=I.top j hj a l e;obtain ⟨p,hp,q⟩:=h;split at q;by_cases ep:p.1=j;rw [ep,e] at q;exact q1 q;exact q2 p.1 ep (Fn q);rename_i hf;by_cases ep:p.1=j;refine hS ?_;have:p=(j,false):=by obtain ⟨p1,p2⟩:=p;simp at ep hf;rw [ep,hf]
 rw [<- this];exact hp;exact q2 p.1 ep q
theorem Zq.deep_out (I:Zq K C H0 Hb H Γ Δ σ ρ A)(hj:j∈Δ)(hS:∀p∈S,p.1≠j)(e:a∈A j):¬InS A S a:=fun h=>by obtain ⟨p,hp,q⟩:=h.mem;exact (I.deep j hj).2.1 p.1 (hS p hp) a e q
theorem Zrb (he:EOk K C E Γ Δ 2 [] te fe)(h1:∀j∈Γ',j=i\/j∈Γ:=by decide)(h2:∀j∈Δ',j=i\/j∈Δ:=by decide):SOk K C E mr Γl Δl Γ Δ Γ' Δ' (Zfs te (Zac i)) (Dl.Ya i fe):=fun H0 Hb H σ ρ A D I p =>
  he H0 Hb H σ ρ A _ I (Zz.imp (Zz.bind p) (fun d q v H1 g1 r=>by
    obtain ⟨B,r1,r2,r3,r4⟩:=r;have hn:∀a∈B,H a=none:=fun a ha=>(r2 a ha).elim id fun z=>z.none.elim;have nd:=r4 rfl;obtain ⟨A',I',_⟩:=(I.mono g1).put (Γ':=Γ') (Δ':=Δ') (i:=i) r1 (fun j hj e=>⟨(h1 j hj).elim (fun z=>absurd z e) id,fun a l e' ha=>I.ne (j:=j) (by rw [e'];exact .head _) (hn a ha)⟩)
      (fun _=>⟨fun a ha=>I.s0.free (I.same.free (hn a ha)),fun a l e=>by subst e;exact ⟨I.same.free (hn a (.head _)),(Ap.mp nd).1,fun j _ h=>I.ne h (hn a (.head _))⟩⟩)
      (fun j hj e=>⟨(h2 j hj).elim (fun z=>absurd z e) id,fun a ha hB=>I.ne ha (hn a hB)⟩)
      (fun _=>⟨nd,fun j _ a ha h=>I.ne h (hn a ha),fun a ha=>I.same.free (hn a ha)⟩)
    exact q _ H1 A' I') fun c x q H' g'=>q H' (Xk.from0 I g'))
theorem Xao (he:EOk K C E Γ Δ 2 S te fe)(h0:∀p∈S,p.1∈Δ:=by decide):SOk K C E 2 Γl Δl Γ Δ Γ' Δ' (Xez te) (Dl.Jx fe):=fun H0 Hb H σ ρ A D I p =>
  he H0 Hb H σ ρ A _ I (Zz.imp (Zz.bind p) (fun d q v H1 g1 r=>by
    obtain ⟨B,r1,r2,r3,r4⟩:=r;refine q v H1 (Xk.from0 I g1) ⟨B,r1,fun a ha=>.inl ((r2 a ha).elim (fun z=>I.s0.free (I.same.free z)) fun z=>?_),(fun z=>nomatch z),r4⟩;obtain ⟨p,hp,z⟩:=z.mem;exact I.s0.free ((I.deep p.1 (h0 p hp)).2.2 a z)) fun c x q H' g'=>q H' (Xk.from0 I g'))
theorem Xay (he:EOk K C E Γ Δ m S te fe)(h0:∀p∈S,p.1∈Γ:=by decide):SOk K C E 0 Γl Δl Γ Δ Γ' Δ' (Xez te) (Dl.Jx fe):=fun H0 Hb H σ ρ A D I p =>
  he H0 Hb H σ ρ A _ I (Zz.imp (Zz.bind p) (fun d q v H1 g1 r=>by
    obtain ⟨B,r1,r2,r3,r4⟩:=r;refine q v H1 (Xk.from0 I g1) ⟨B,r1,fun a ha=>.inl ((r2 a ha).elim (fun z=>I.s0.free (I.same.free z)) fun z=>?_),(fun z=>nomatch z),(fun z=>nomatch z)⟩;obtain ⟨p,hp,z⟩:=z.mem;exact I.loc p.1 (h0 p hp) a z) fun c x q H' g'=>q H' (Xk.from0 I g'))
theorem Xnz {tc:TT}{t u:TS}{fc:FT}{f g:FS}(hc:TOk K C E Γ Δ tc fc)(h1:SOk K C E mr Γl Δl Γ Δ Γ' Δ' t f)(h2:SOk K C E mr Γl Δl Γ Δ Γ' Δ' u g):SOk K C E mr Γl Δl Γ Δ Γ' Δ' (Xar tc t u) (Dl.sIf fc f g):=fun H0 Hb H σ ρ A D I p =>
  hc H0 Hb H σ ρ A _ I (Zz.imp (Zz.bind p) (fun b q H1 g1=>by
    cases b with
    | true=>exact h1 H0 Hb H1 σ ρ A D (I.mono g1) q
    | false=>exact h2 H0 Hb H1 σ ρ A D (I.mono g1) q) fun c x q H' g'=>q H' (Xk.from0 I g'))
theorem Zbv (I:Zq K C H0 Hb H Γ Δ σ ρ A)(e:ρ[i]?=some (some (.lst ds))):∃a xs l,σ[i]?=some (some (.ref a))/\H a=some (.lst xs)/\RpA K C H ds xs l/\A i=a::l/\i<ρ.length:=by obtain ⟨v,q1,a,xs,l,rfl,q3,q4,q5⟩:=I.rep i _ e;exact ⟨a,xs,l,q1,q3,q4,q5,(Ah.mp e).1⟩
theorem Zzu (hi:i∈Γ:=by decide)(he:EOk K C E Γ Δ 2 [] te fe):SOk K C E mr Γl Δl Γ Δ Γ Δ (Zie (tBM K "list" Zdw (Zcr i) (Ja te Zhg))) (Dl.Zjr i fe):=fun H0 Hb H σ ρ A D I p=>by
  unfold Dl.Zjr at p;split at p
  · rename_i ds e;obtain ⟨a,xs,l,s1,h1,r1,hA,hl⟩:=Zbv I e;refine ⟨.ref a,s1,.inl ⟨rfl,xs,SqL.of h1⟩,he H0 Hb H σ ρ A _ I (Zz.imp (Zz.bind p) (fun d q v H1 g1 r=>?_) fun c x q H' g'=>q H' (Xk.from0 I g'))⟩;split at q
    · rename_i hz;obtain ⟨B,r2,r3,_,r4⟩:=r;have hn:∀a∈B,H a=none:=fun a ha=>(r3 a ha).elim id fun z=>z.none.elim;have h1':=g1 _ _ h1;show Zdw (.ref a) [v] H1 fun _ H3=>D.nx σ H3;refine Xfg h1' (by rw [r1.len];exact Zdd hz) ?_;obtain ⟨tb,ta,tt⟩:=I.top i hi a l hA;have I1:=I.mono g1;have haB:a∉B:=fun z=>by have:=hn a z;rw [h1] at this;cases this
      have w1:∀b∈l++B,H0 b=none:=fun b hb=>by rcases Ad.mp hb with z | z;exact I.loc i hi b (by rw [hA];exact .tail _ z);exact I.s0.free (I.same.free (hn b z))
      have w2:∀j∈Γ,j≠i->j∈Γ/\∀b l',A j=b::l'->b∉l++B:=fun j hj e=>⟨hj,fun b l' e' z=>by
        rcases Ad.mp z with z | z;exact (I.top j hj b l' e').2.2 i (fun w=>e w.symm) (by rw [hA];exact .tail _ z)
        · exact I.ne (j:=j) (by rw [e'];exact .head _) (hn b z)⟩
      have w3:∀j∈Δ,j≠i->j∈Δ/\∀b∈A j,b∉l++B:=fun j hj e=>⟨hj,fun b hb z=>by
        rcases Ad.mp z with z | z;exact (I.deep j hj).2.1 i (fun w=>e w.symm) b hb (by rw [hA];exact .tail _ z)
        · exact I.ne hb (hn b z)⟩
      have w4:i∈Δ->(l++B).Nodup/\(∀j,j≠i->∀b∈l++B,b∉A j)/\∀b∈l++B,Hb b=none:=fun hd=>by obtain ⟨d1,d2,d3⟩:=I.deep i hd;rw [hA] at d1 d2 d3;refine ⟨AO.mpr ⟨(Ap.mp d1).2,r4 rfl,fun x hx y hy e=>?_⟩,fun j hj b hb=>?_,fun b hb=>?_⟩;subst e;exact I.ne (j:=i) (by rw [hA];exact .tail _ hx) (hn x hy);rcases Ad.mp hb with z | z;exact d2 j hj b (.tail _ z);exact fun w=>I.ne w (hn b z);rcases Ad.mp hb with z | z;exact d3 b (.tail _ z);exact I.same.free (hn b z)
      obtain ⟨A',I'⟩:=I1.write (Γ':=Γ) (Δ':=Δ) hi hA hl s1 ((r1.same g1).app (RpA.one r2)) w1 (fun z=>(Ad.mp z).elim ta haB) w2 w3 w4;exact q _ _ A' I'
    exact q.elim
  exact p.elim
def BOk (K:AE)(C:String->Addr)(Γ Δ:List Nat)(g:TG)(b:FB):Prop:=∀(H0 Hb H:Hp) (σ:St) (ρ:Yb) (A:Nat->List Addr) (d:D) (v:V) (B:List Addr) (Rr:St->Hp->Prop),Zq K C H0 Hb H Γ Δ σ ρ A->Rp K C H d v B->(∀a∈B,Hb a≠none)->
 Zz (b d ρ) (fun ρ'=>∀σ' A',Zq K C H0 Hb H Γ Δ σ' ρ' A'->Rr σ' H) (fun _ _=>False)->g v σ H Rr
def Xny (K:AE)(C:String->Addr)(Γ Δ:List Nat)(g:TGs)(b:List D->Yb->R Yb):Prop:=∀(H0 Hb H:Hp) (σ:St) (ρ:Yb) (A:Nat->List Addr) (d:List D) (v:List V) (B:List Addr) (Rr:St->Hp->Prop),Zq K C H0 Hb H Γ Δ σ ρ A->RpA K C H d v B->(∀a∈B,Hb a≠none)->
 Zz (b d ρ) (fun ρ'=>∀σ' A',Zq K C H0 Hb H Γ Δ σ' ρ' A'->Rr σ' H) (fun _ _=>False)->g v σ H Rr
theorem Xcq (h1:i∉Γ:=by decide)(h2:i∉Δ:=by decide):BOk K C Γ Δ (Zac i) (Dl.Zr i):=fun H0 Hb H σ ρ A d v B Rr I r hB p=>by obtain ⟨A',I',_⟩:=I.put (Γ':=Γ) (Δ':=Δ) (i:=i) r (fun j hj e=>⟨hj,fun a l e' ha=>hB a ha (I.top j hj a l e').1⟩) (fun hj=>absurd hj h1) (fun j hj e=>⟨hj,fun a ha hb=>hB a hb ((I.deep j hj).2.2 a ha)⟩) (fun hj=>absurd hj h2);exact p _ A' I'
theorem Xhm:Xny K C Γ Δ Zuj Dl.Zej:=fun H0 Hb H σ ρ A d v B Rr I r hB p=>by
 cases d with
 | nil=>exact ⟨r.1,p _ A I⟩
 | cons _ _=>exact p.elim
theorem Xcx {g:TG}{b:FB}{bs:List D->Yb->R Yb}(h1:BOk K C Γ Δ g b)(h2:Xny K C Γ Δ gs bs):Xny K C Γ Δ (Zem g gs) (Dl.Xr b bs):=fun H0 Hb H σ ρ A d v B Rr I r hB p=>by
 cases d with
 | nil=>exact p.elim
 | cons d ds =>obtain ⟨x,l,B1,B2,e1,e2,e3,e4⟩:=r;subst e1 e4;refine ⟨x,l,rfl,h1 H0 Hb H σ ρ A d x B1 _ I e2 (fun a ha=>hB a (As _ ha)) (Zz.imp (Zz.bind p) (fun ρ1 q σ1 A1 I1=>?_) fun _ _ z=>z)⟩;exact h2 H0 Hb H σ1 ρ1 A1 ds l B2 Rr I1 e3 (fun a ha=>hB a (Ai _ ha)) q
theorem Xfp {bs:List D->Yb->R Yb}(hn:∀ds ρ ρ',bs ds ρ=.ok ρ'->ds.length=n)(h:Xny K C Γ Δ gs bs):BOk K C Γ Δ (Zcf K n gs) (Dl.Zeo bs):=fun H0 Hb H σ ρ A d v B Rr I r hB p=>by
 cases d with
 | tup ds =>
  obtain ⟨a,xs,rfl,e2,e3⟩:=r;have hl:xs.length=n:=by
   rw [e3.len];have p':Zz (bs ds ρ) (fun ρ'=>∀σ' A',Zq K C H0 Hb H Γ Δ σ' ρ' A'->Rr σ' H) (fun _ _=>False):=p;cases e:bs ds ρ with
   | ok ρ'=>exact hn ds ρ ρ' e
   | err _ _=>rw [e] at p';exact p'.elim
   | bad=>rw [e] at p';exact p'.elim
  exact ⟨a,xs,rfl,SqT.of e2,hl,h H0 Hb H σ ρ A ds xs B Rr I e3 hB p⟩
 | _=>exact p.elim
theorem Zyr (ds:List D)(ρ ρ':Yb)(h:Dl.Zej ds ρ=.ok ρ'):ds.length=0:=by
 cases ds with
 | nil=>rfl
 | cons _ _=>cases h
theorem Zpl {b:FB}{bs:List D->Yb->R Yb}(hb:∀ds ρ ρ',bs ds ρ=.ok ρ'->ds.length=n)(ds:List D)(ρ ρ':Yb)(h:Dl.Xr b bs ds ρ=.ok ρ'):ds.length=n+1:=by
 cases ds with
 | nil=>cases h
 | cons d ds =>
  have h:((b d ρ).bind fun ρ'=>bs ds ρ')=.ok ρ':=h;cases e:b d ρ with
  | ok ρ1 =>rw [e] at h;rw [BB,hb ds ρ1 ρ' h]
  | err _ _=>rw [e] at h;cases h
  | bad=>rw [e] at h;cases h
def ownAt (A:Nat->List Addr)(Γ Δ:List Nat):List Addr:=Γ.flatMap (fun i=>(A i).take 1)++Δ.flatMap A
theorem Zdp (h:a∈ownAt A Γ Δ):(∃i∈Γ,∃l,A i=a::l)\/∃i∈Δ,a∈A i:=by
 rcases Ad.mp h with h | h;obtain ⟨i,hi,h⟩:=Dv.mp h;left;refine ⟨i,hi,?_⟩;cases e:A i with
 | nil=>rw [e] at h;cases h
 | cons b l =>rw [e] at h;simp only [List.take_succ_cons,List.take_zero,An] at h;rw [h];exact ⟨l,rfl⟩
 obtain ⟨i,hi,h⟩:=Dv.mp h;exact .inr ⟨i,hi,h⟩
theorem Zwg (hi:i∈Γ){l:List Addr}(e:A i=a::l):a∈ownAt A Γ Δ:=As _ (Dv.mpr ⟨i,hi,by rw [e];simp⟩)
theorem Zsf (hi:i∈Δ)(h:a∈A i):a∈ownAt A Γ Δ:=Ai _ (Dv.mpr ⟨i,hi,h⟩)
theorem Zge (b:FB)(s:FS)(xs:List D){x:D}(h:xs[i]?=some x)(ρ:Yb):Dl.Zbx b s (xs.drop i) ρ=(b x ρ).calm.bind fun ρ1=>(s ρ1).bind fun fl=>match fl with
  | .nx ρ2=>Dl.Zbx b s (xs.drop (i+1)) ρ2
  | .cnt ρ2=>Dl.Zbx b s (xs.drop (i+1)) ρ2
  | .brk ρ2=>.ok (.nx ρ2)
  | .ret d=>.ok (.ret d):=by
 obtain ⟨hi,rfl⟩:=Ah.mp h;rw [B0 hi];rfl
theorem Xhf {g:TG}{tb:TS}{fb:FB}{fs:FS}(hi:IOk K C E Γ Δ S wi fi)(hb:BOk K C Γl Δl g fb)(hs:SOk K C E mr Γl Δl Γl Δl Γl Δl tb fs)
    (h1:∀i∈Γl,i∈Γ:=by decide) (h2:∀i∈Δl,i∈Δ:=by decide) (h3:∀p∈S,p.1∉Γl/\p.1∉Δl:=by decide):SOk K C E mr Γk Δk Γ Δ Γl Δl (Xey wi g tb) (Dl.Zhu fi fb fs):=fun H0 Hb H σ ρ A D I p=>by
  refine hi H0 Hb H σ ρ A _ I (Zz.imp (Zz.bind p) (fun ds q J H1 W g1 hW hlen hJ=>?_) fun c x q H' g'=>q H' (Xk.from0 I g'));have I1:=(I.mono g1).weak h1 h2;have hlst:∀a∈ownAt A Γl Δl,∃o,H1 a=some o/\IsM o:=fun a ha=>by rcases Zdp ha with ⟨i,_,l,e⟩ | ⟨i,_,e⟩;exact I1.is (j:=i) (by rw [e];exact .head _);exact I1.is e
  have hbn:∀a∈ownAt A Γl Δl,Hb a=none:=fun a ha=>by rcases Zdp ha with ⟨i,hi,l,e⟩ | ⟨i,hi,e⟩;exact (I1.top i hi a l e).1;exact (I1.deep i hi).2.2 a e
  have hout:∀a∈W,a∉ownAt A Γl Δl:=fun a ha ho=>by rcases (hW a ha).2 with z | z;rcases Zdp ho with ⟨i,hi,l,e⟩ | ⟨i,hi,e⟩;exact I.ne (j:=i) (by rw [e];exact .head _) z;exact I.ne e z;rcases Zdp ho with ⟨i,hi,l,e⟩ | ⟨i,hi,e⟩;exact I1.top_out hi (fun h=>(h3 _ h).1 hi) e z;exact I1.deep_out hi (fun p hp e'=>(h3 p hp).2 (by rw [e'];exact hi)) e z
  let Hc:Hp:=fun b=>if b∈ownAt A Γl Δl then none else H1 b
  have c1:Xk Hc H1:=fun b o h=>by show H1 b=some o;have h:(if b∈ownAt A Γl Δl then none else H1 b)=some o:=h;split at h;cases h;exact h
  have c2:Xk Hb Hc:=fun b o h=>by show (if b∈ownAt A Γl Δl then none else H1 b)=some o;rw [if_neg fun ho=>by rw [hbn b ho] at h;cases h];exact I1.same b o h
  have c3:∀a,a∉ownAt A Γl Δl->Hc a=H1 a:=fun a ha=>if_neg ha;have c4:∀a∈ownAt A Γl Δl,Hc a=none:=fun a ha=>if_pos ha;have I2:Zq K C H0 Hc H1 Γl Δl σ ρ A:=⟨I1.s0.trans c2,c1,I1.len,I1.rep,I1.nil,I1.loc,fun i hi a l e=>⟨c4 a (Zwg hi e),(I1.top i hi a l e).2⟩,fun i hi=>⟨(I1.deep i hi).1,(I1.deep i hi).2.1,fun a ha=>c4 a (Zsf hi ha)⟩⟩;have back:∀{σ':St} {ρ':Yb} {H':Hp} {A':Nat->List Addr},Zq K C H0 Hc H' Γl Δl σ' ρ' A'->Zq K C H0 Hb H' Γl Δl σ' ρ' A':=fun I' =>
    ⟨I1.s0,c2.trans I'.same,I'.len,I'.rep,I'.nil,I'.loc,fun i hi a l e=>⟨c2.free (I'.top i hi a l e).1,(I'.top i hi a l e).2⟩,fun i hi=>⟨(I'.deep i hi).1,(I'.deep i hi).2.1,fun a ha=>c2.free ((I'.deep i hi).2.2 a ha)⟩⟩
  have go:Goes K C J ds Hc:=hJ Hc ⟨fun a ha=>c3 a (hout a ha),fun b o h hn=>(c3 b fun ho=>by
    obtain ⟨xs,e,hm⟩:=hlst b ho;rw [e] at h;cases h;exact hn hm).trans h⟩
  refine Zqd go (fun k σ' H'=>∃ρ' A',Zq K C H0 Hc H' Γl Δl σ' ρ' A'/\Zqb K C E mr Γk Δk Γl Δl H0 Hb D (Dl.Zbx fb fs (ds.drop k) ρ')) ⟨ρ,A,I2,q⟩ (fun _ _ _ ⟨_,_,I',_⟩=>I'.same) ?_ ?_;rintro k d x Bx σ' Ha H' hd ⟨ρ',A',Ia,pq⟩ ga rx hBx;have I':=Ia.mono ga;rw [Zge _ _ _ hd] at pq;have pq':=Zbr (Zz.bind pq);refine hb H0 Hc H' σ' ρ' A' d x Bx _ I' rx hBx (Zz.imp pq' (fun ρ1 pq σ1 A1 I1'=>?_) fun _ _ z=>z);refine hs H0 Hc H' σ1 ρ1 A1 _ I1' (Zz.imp (Zz.bind pq) (fun fl pq=>?_) fun _ _ z=>z);cases fl with
  | nx ρ2=>exact fun σ2 H2 A2 I2'=>⟨ρ2,A2,I2',pq⟩
  | cnt ρ2=>exact fun σ2 H2 A2 I2'=>⟨ρ2,A2,I2',pq⟩
  | brk ρ2=>exact fun σ2 H2 A2 I2'=>pq σ2 H2 A2 (back I2')
  | ret d=>exact pq
  rintro σ' H' ⟨ρ',A',I',pq⟩;rw [Dz] at pq;exact pq σ' H' A' (back I')
theorem Zxo (r:RpA K C H ds vs B):∃A,Zq K C H H H [] [] (vs.map some++Aa (N - vs.length) none) (ds.map some++Aa (N - ds.length) none) A:=by
 have hl:=r.len;have key:∀{ds:List D} {vs:List V} {B:List Addr},RpA K C H ds vs B->∃A:Nat->List Addr,(∀(i:Nat) d,ds[i]?=some d->∃v,vs[i]?=some v/\Rp K C H d v (A i))/\∀i,ds.length<=i->A i=[]:=by
  intro ds
  induction ds with
  | nil=>intro vs B r;exact ⟨fun _=>[],fun i d h=>by simp at h,fun _ _=>rfl⟩
  | cons d ds ih =>
   intro vs B r;obtain ⟨x,l,B1,B2,e1,e2,e3,e4⟩:=r;obtain ⟨A,h1,h2⟩:=ih e3;subst e1;refine ⟨fun i=>match i with | 0=>B1 | i+1=>A i,fun i d' h=>?_,fun i h=>?_⟩;cases i with
   | zero=>simp at h;subst h;exact ⟨x,rfl,e2⟩
   | succ i=>simp at h;obtain ⟨v,q1,q2⟩:=h1 i d' h;exact ⟨v,by simpa using q1,q2⟩
   cases i with
   | zero=>simp at h
   | succ i=>exact h2 i (by simpa using h)
 obtain ⟨A,h1,h2⟩:=key r;refine ⟨A,Xk.refl _,Xk.refl _,by simp [hl],fun i d h=>?_,fun i h=>?_,(fun _ h=>nomatch h),(fun _ h=>nomatch h),(fun _ h=>nomatch h)⟩;by_cases hi:i<ds.length;rw [Au (by simpa using hi),Bh] at h;obtain ⟨d',hd,e⟩:=AB.mp h;cases e;obtain ⟨v,q1,q2⟩:=h1 i d hd;refine ⟨v,?_,q2⟩;rw [Au (by simp [hl,hi]),Bh,q1];rfl;rw [Bp (by simpa using hi)] at h;have:=AU h;rw [DD] at this;exact absurd this.2 (by intro z;cases z);by_cases hi:i<ds.length;exact absurd (by rw [Au (by simpa using hi),Bh,Al hi];rfl) (h ds[i]);exact h2 i (by omega)
theorem Zqv {t:TS}{f:FS}(h:SOk K C E mr [] [] [] [] Γ' Δ' t f)(r:RpA K C H ds vs B)
  (p:Zz (Dl.run N f ds) (fun d=>∀v H',Xk H H'->Res K C mr [] H (fun _=>[]) d v H'->Q v H') (fun c x=>∀H',Xk H H'->EC C E c x H')) :
  t {nx:=fun _ H'=>Q .non H',rt:=Q} (vs.map some++Aa (N - vs.length) none) H:=by
 obtain ⟨A,I⟩:=Zxo (N:=N) r;refine h H H H _ _ A _ I (Zz.imp (Zz.bind p) (fun fl q=>?_) fun _ _ q=>q);cases fl with
 | nx ρ'=>exact fun σ' H' A' I'=>q _ H' I'.same (Res.flat ⟨rfl,rfl⟩)
 | ret d=>exact q
 | brk _=>exact q.elim
 | cnt _=>exact q.elim
end
structure JE (X:Cx)(C:String->Addr)(E:XK)(Γ Δ:List Nat)(m:Nat)(S:List (Nat×Bool))(e:Expr)(t:TE)(f:FE):Prop where
 q:QE X e t
 o:EOk X.K C E Γ Δ m S t f
structure JT (X:Cx)(C:String->Addr)(E:XK)(Γ Δ:List Nat)(e:Expr)(t:TT)(f:FT):Prop where
 q:QT X e t
 o:TOk X.K C E Γ Δ t f
structure JW (X:Cx)(C:String->Addr)(E:XK)(Γ Δ:List Nat)(e:Expr)(t:TT)(f:FT):Prop where
 q:QW X e t
 o:TOk X.K C E Γ Δ t f
structure JA (X:Cx)(C:String->Addr)(E:XK)(Γ Δ:List Nat)(m:Nat)(S:List (Nat×Bool))(e:List Expr)(n:Nat)(t:TA)(f:FA):Prop where
 q:QA X e t
 o:AOk X.K C E Γ Δ m S t f
 n:∀ρ ds,f ρ=.ok ds->ds.length=n
structure JO (X:Cx)(C:String->Addr)(E:XK)(Γ Δ:List Nat)(e:Option Expr)(t:TO)(f:FO):Prop where
 q:QO X e t
 o:OOk X.K C E Γ Δ t f
structure JI (X:Cx)(C:String->Addr)(E:XK)(Γ Δ:List Nat)(S:List (Nat×Bool))(tg e:Expr)(t:TI)(f:FI):Prop where
 q:QI X tg e t
 o:IOk X.K C E Γ Δ S t f
structure JG (X:Cx)(C:String->Addr)(Γ Δ:List Nat)(e:Expr)(t:TG)(f:FB):Prop where
 q:QG X e t
 o:BOk X.K C Γ Δ t f
structure JGs (X:Cx)(C:String->Addr)(Γ Δ:List Nat)(es:List Expr)(n:Nat)(t:TGs)(f:List D->Yb->R Yb):Prop where
 q:QGs X es t
 o:Xny X.K C Γ Δ t f
 n:∀ds ρ ρ',f ds ρ=.ok ρ'->ds.length=n
structure JS (X:Cx)(C:String->Addr)(E:XK)(mr:Nat)(Γl Δl Γ Δ Γ' Δ':List Nat)(s:Stmt)(t:TS)(f:FS):Prop where
 q:QS X s t
 o:SOk X.K C E mr Γl Δl Γ Δ Γ' Δ' t f
structure JSs (X:Cx)(C:String->Addr)(E:XK)(mr:Nat)(Γl Δl Γ Δ Γ' Δ':List Nat)(s:List Stmt)(t:TS)(f:FS):Prop where
 q:QSs X s t
 o:SOk X.K C E mr Γl Δl Γ Δ Γ' Δ' t f
structure JIf (X:Cx)(C:String->Addr)(E:XK)(Γ Δ:List Nat)(e:List Expr)(t:TT)(f:FT):Prop where
 q:QIf X e t
 o:TOk X.K C E Γ Δ t f
section
variable {S:List (Nat×Bool)}{a:Expr}{rest:List Expr}{fs:FE}
theorem Zc {i:Int}:JE X C E Γ Δ 2 [] (.Constant (.int i) j pos) (tC (.int i)) (Dl.fC (.int i)):=⟨Xmv,Xdt fun _=>rpI⟩
theorem Zhf {i:Bool}:JE X C E Γ Δ 2 [] (.Constant (.bool i) j pos) (tC (.bl i)) (Dl.fC (.bl i)):=⟨qe_bl,Xdt fun _=>rpB⟩
theorem Zdf :JE X C E Γ Δ 2 [] (.Constant .none j pos) (tC .non) (Dl.fC .non):=⟨Xno,Xdt fun _=>⟨rfl,rfl⟩⟩
theorem Jk (h:Bk x=true:=by decide +kernel):JE X C E Γ Δ 2 [] (.Constant (.str x) j pos) (tC (.str x)) (Dl.fC (.str x)):=⟨Xeg,Xdt fun _=>⟨rfl,h,rfl⟩⟩
theorem Zk (i:Nat)(hN:X.N[i]?=some x:=by rfl)(hv:autoParam (Vis X.env.scope x) aT3._auto_1)(hd:(x==("__debug__":Str))=false:=by decide)
  (hcd:(x==("__classdict__":Str))=false:=by decide):JE X C E Γ Δ 0 [(i,false)] (.Name x pos) (Zcr i) (Dl.fV i):=⟨qv i hN hv hd hcd,eok_v⟩
theorem Zhj (i:Nat)(hi:i∈Δ:=by decide)(hN:X.N[i]?=some x:=by rfl)(hv:autoParam (Vis X.env.scope x) aT3._auto_1)(hd:(x==("__debug__":Str))=false:=by decide)
  (hcd:(x==("__classdict__":Str))=false:=by decide):JE X C E Γ Δ 2 [(i,false)] (.Name x pos) (Zcr i) (Dl.fV i):=⟨qv i hN hv hd hcd,Xon hi⟩
theorem Xp (h:JE X C E Γ Δ m S e te fe):JE X C E Γ Δ 2 [] e te (Dl.f1 Dl.Xi fe):=⟨h.q,Xba h.o⟩
theorem Zp {r:R2}(ho:OpR X (Cj op) r)(hg:GOk X.K C r g)(ha:JE X C E Γ Δ m1 S1 a ta fa)(hb:JE X C E Γ Δ m2 S2 b tb fb):JE X C E Γ Δ 2 [] (.BinOp a op b pos) (tOp r ta tb) (Dl.f2 g fa fb):=⟨Xod ho ha.q hb.q,Zyg hg ha.o hb.o⟩
theorem Zsa (ha:JE X C E Γ Δ m1 S1 a ta fa):JE X C E Γ Δ 2 [] (.UnaryOp .USub a pos) (tUn (rU fun i=>.int (-i)) ta) (Dl.f1 Dl.Zzi fa):=⟨qe_un Xmp ha.q,Xrg (fun H x d vx Bx Q r e q=>by
  unfold Dl.Zzi at e;split at e;cases e;obtain ⟨rfl,_⟩:=r;exact rd_U (Out.flat q rpI)
  · cases e) ha.o⟩
theorem Zgu {op:Hh}{r:R2}(ho:OpR X (A9 op) r)(hg:GOk X.K C r g)(ha:JE X C E Γ Δ m1 S1 a ta fa)(hb:JE X C E Γ Δ m2 S2 b tb fb)(hm:Ck op b=false):JE X C E Γ Δ 2 [] (.Compare a [op] [b] pos) (tOp r ta tb) (Dl.f2 g fa fb):=⟨Xiu ho ha.q hb.q hm,Zyg hg ha.o hb.o⟩
theorem Xf {op:Hh}{r:R2}(ho:OpR X (A9 op) r)(hg:GOk X.K C r g)(ha:JE X C E Γ Δ m1 S1 a ta fa)(hb:JE X C E Γ Δ m2 S2 b tb fb)(hm:Ck op b=false):JT X C E Γ Δ (.Compare a [op] [b] pos) (Zzk (tOp r ta tb)) (Dl.cE (Dl.f2 g fa fb)):=⟨Xix ho ha.q hb.q hm,Xal (Zyg hg ha.o hb.o)⟩
theorem Xes {op:BoolOp}(h:JE X C E Γ Δ m S a ta fa):JE X C E Γ Δ m S (.BoolOp op [a] pos) ta fa:=⟨Xmq h.q,h.o⟩
theorem Xeb (ha:JE X C E Γ Δ m1 S1 a ta fa)(hb:JE X C E Γ Δ m S (.BoolOp .And (b::rest) pos) tb fb):JE X C E Γ Δ m S (.BoolOp .And (a::b::rest) pos) (Xbk ta tb) (Dl.Xlq fa fb):=⟨Xpo ha.q hb.q,Xlf ha.o hb.o⟩
theorem Xnl (ha:JE X C E Γ Δ m1 S1 a ta fa):JE X C E Γ Δ 2 [] (.UnaryOp .Not a pos) (Zzq ta) (Dl.f1 Dl.gNot fa):=⟨Xpy ha.q,Xkm ha.o⟩
theorem Zcc (h:JE X C E Γ Δ m S e te fe)(he:∀whole,isTrue e X.env whole=(do let v <- whole;CI e.pos;A5 [v] (truthy v)):=by intro _;rfl):JT X C E Γ Δ e (tB te) (Dl.cE fe):=⟨Xqx h.q he,tok_B h.o⟩
theorem Zdj {fA:FT}(ha:JT X C E Γ Δ a tA fA):JT X C E Γ Δ (.UnaryOp .Not a pos) (tNot tA) (Dl.Zma fA):=⟨Xoa ha.q,Xik ha.o⟩
theorem Zia {fA:FT}(ha:JT X C E Γ Δ a tA fA):JW X C E Γ Δ (.BoolOp .And [a] pos) tA fA:=⟨Xit ha.q,ha.o⟩
theorem Zer {fA:FT}(ha:JT X C E Γ Δ a tA fA):JW X C E Γ Δ (.BoolOp .Or [a] pos) tA fA:=⟨Xqo ha.q,ha.o⟩
theorem Zmx {fA:FT}(ha:JT X C E Γ Δ a tA fA)(hb:JW X C E Γ Δ (.BoolOp .And (b::rest) pos) tB' fB):JW X C E Γ Δ (.BoolOp .And (a::b::rest) pos) (tAnd tA tB') (Dl.Zot fA fB):=⟨Xqg ha.q hb.q,Xjl ha.o hb.o⟩
theorem Zhh {fA:FT}(ha:JT X C E Γ Δ a tA fA)(hb:JW X C E Γ Δ (.BoolOp .Or (b::rest) pos) tB' fB):JW X C E Γ Δ (.BoolOp .Or (a::b::rest) pos) (tOr tA tB') (Dl.cOr fA fB):=⟨qw_or ha.q hb.q,Xnn ha.o hb.o⟩
theorem Zpe {fA:FT}(h:JW X C E Γ Δ a tA fA):JT X C E Γ Δ a tA fA:=⟨qt_w h.q,h.o⟩
theorem Zj:JA X C E Γ Δ 2 [] [] 0 Zhg Dl.Zu:=⟨Zes,Xjx,Xkz⟩
theorem Zd (ha:JE X C E Γ Δ m1 S1 e te fe)(hr:JA X C E Γ Δ m2 S2 es n t f)(hs:Ab (e::es) X.env=(false,AF e X.env)::Ab es X.env):JA X C E Γ Δ 0 (S1++S2) (e::es) (n+1) (Ja te t) (Dl.Zb fe f):=⟨Yy ha.q hr.q hs,Zzy ha.o hr.o,Zlc hr.n⟩
theorem Zqr (S:List (Nat×Bool))(ha:JE X C E Γ Δ 2 S1 e te fe)(hr:JA X C E Γ Δ 2 S2 es n t f)(hs:Ab (e::es) X.env=(false,AF e X.env)::Ab es X.env)(h1:∀p∈S1,p.1∈Δ:=by decide)(h2:∀p∈S1,∀q∈S2,p.1≠q.1:=by decide)(hS:S1++S2=S:=by rfl):JA X C E Γ Δ 2 S (e::es) (n+1) (Ja te t) (Dl.Zb fe f):=by subst hS;exact ⟨Yy ha.q hr.q hs,Zmk ha.o hr.o h1 h2,Zlc hr.n⟩
theorem Zi (ha:JE X C E Γ Δ 2 [] e te fe)(hr:JA X C E Γ Δ 2 [] es n t f)(hs:Ab (e::es) X.env=(false,AF e X.env)::Ab es X.env):JA X C E Γ Δ 2 [] (e::es) (n+1) (Ja te t) (Dl.Zb fe f):=⟨Yy ha.q hr.q hs,Zmk (S1:=[]) (S2:=[]) ha.o hr.o (fun _ h=>nomatch h) (fun _ h=>nomatch h),Zlc hr.n⟩
theorem Zmj (h:JA X C E Γ Δ 2 S es n t f):JE X C E Γ Δ 2 S (.Tuple es x1 pos) (Xfl t) (Dl.fA Dl.Zcf f):=⟨Xfk h.q,Zvw (.inr rfl) h.o⟩
theorem Zih (h:JA X C E Γ Δ 0 S es n t f):JE X C E Γ Δ 0 S (.Tuple es x1 pos) (Xfl t) (Dl.fA Dl.Zcf f):=⟨Xfk h.q,Zvw (.inl rfl) h.o⟩
theorem Yd (h:JA X C E Γ Δ 2 S es n t f):JE X C E Γ Δ 2 S (.List es pos) (Xlz t) (Dl.fA Dl.Jq f):=⟨Xer h.q,Xku h.o⟩
theorem Zlr (h:JA X C E Γ Δ m S es n t f):JE X C E Γ Δ 1 S (.List es pos) (Xlz t) (Dl.fA Dl.Jq f):=⟨Xer h.q,Xcc h.o⟩
theorem Zs (K:AE)(ha:JE X C E Γ Δ m1 S1 a ta fa)(hb:JE X C E Γ Δ m2 S2 b tb fb)(hs:Zct b)(hK:X.K=K:=by rfl):JE X C E Γ Δ 0 S1 (.Subscript a b pos) (tOp (rIx K) ta tb) (Dl.f2 Dl.gIx fa fb):=by subst hK;exact ⟨qe_ix Xqw ha.q hb.q hs,Xrd ha.o hb.o⟩
theorem Zid:JO X C E Γ Δ none Zle Dl.Zfi:=⟨Xir,Xdd⟩
theorem Zde (h:JE X C E Γ Δ m S e te fe):JO X C E Γ Δ (some e) (Xce te) (Dl.Zdk fe):=⟨Xhh h.q,Xam h.o⟩
theorem Zum (K:AE){th:TO}(he:JE X C E Γ Δ m S e te fe)(hl:JO X C E Γ Δ lo tl fl)(hu:JO X C E Γ Δ hi th fh)(hK:X.K=K:=by rfl):JE X C E Γ Δ 2 [] (.Subscript e (.Slice lo hi none p2) pos) (tSl (Xls K) te tl th) (Dl.fSl Dl.gSl fe fl fh):=by subst hK;exact ⟨Zsd Zvo he.q hl.q hu.q,Xph he.o hl.o hu.o⟩
theorem Xc {k:Nat}(Df:Def X.prog X.w X.K X.mg X.base CX k x ps (spD K C n mr F))(hr:Zgb k X.A)(hg:Gl X x)(hx:Zfr CX X E)
  (ha:JA X C E Γ Δ m S (e::es) n t f) (hdb:(x==("__debug__":Str))=false:=by decide) (he:Ab (e::es) X.env=(false,AF e X.env)::Ab es X.env:=by rfl) (hpl:(AW pos (Ab es X.env)).any (·.1)=false:=by rfl) (hK:X.K=K:=by rfl) :
  JE X C E Γ Δ mr [] (.Call (.Name x p) (e::es) [] pos) (Zmv (spD K C n mr F) [] E t) (Dl.Xy F f):=by
 subst hK;exact ⟨Zrj Df hr hg hx ha.q hdb he hpl,Xdk ha.o ha.n⟩
theorem Xj {id:String}{r:List V->Hp->VK->Prop}{g:List D->Option D}(hc:Zar X (.builtin id) r)(hgk:GAk X.K C r g)(hg:Gl X x)(hm:X.mg x=none)(hv:BN x=some (.builtin id))(ha:JA X C E Γ Δ m S (e::es) n t f)(hn:x≠"__name__":=by decide)(hdb:(x==("__debug__":Str))=false:=by decide)
  (he:Ab (e::es) X.env=(false,AF e X.env)::Ab es X.env:=by rfl) (hpl:(AW pos (Ab es X.env)).any (·.1)=false:=by rfl):JE X C E Γ Δ 2 [] (.Call (.Name x p) (e::es) [] pos) (tCB r t) (Dl.fA g f):=⟨Zsg hc hg hm hv ha.q hn hdb he hpl,Xeq hgk ha.o⟩
theorem Jp {r:List V->Hp->VK->Prop}{g:List D->Option D}(hc:Zar X (.type T) r)(hgk:GAk X.K C r g)(hg:Gl X x)(hm:X.mg x=none)(hv:BN x=some (.type T))(ha:JA X C E Γ Δ m S (e::es) n t f)(hn:x≠"__name__":=by decide)(hdb:(x==("__debug__":Str))=false:=by decide)
  (he:Ab (e::es) X.env=(false,AF e X.env)::Ab es X.env:=by rfl) (hpl:(AW pos (Ab es X.env)).any (·.1)=false:=by rfl):JE X C E Γ Δ 2 [] (.Call (.Name x p) (e::es) [] pos) (tCB r t) (Dl.fA g f):=⟨Zyh hc hg hm hv ha.q hn hdb he hpl,Xeq hgk ha.o⟩
theorem Yr (h:JE X C E Γ Δ m S e te fe):JI X C E Γ Δ S tg e (Xbm X.K te) (Dl.Zad fe):=⟨Xih h.q,Xau h.o⟩
theorem Zcs (hg:Gl X "range")(hm:X.mg "range"=none)(ha:JA X C E Γ Δ m S [a] n t f)(hs:Ab [a] X.env=[(false,AF a X.env)]:=by rfl):JI X C E Γ Δ [] tg (.Call (.Name "range" p) [a] [] pos) (Xdm t) (Dl.Zek f):=⟨Zwb hg hm ha.q hs,Xcf ha.o⟩
theorem Yx (h1:i∉Γ:=by decide)(h2:i∉Δ:=by decide)(hN:X.N.Nodup)(hi:X.N[i]?=some x)(hx:Loc X.env.scope x)(hf:autoParam (X.fn x=true\/X.env.scope.names.lookup x=some .local) aT0._auto_1):JG X C Γ Δ (.Name x pos) (Zac i) (Dl.Zr i):=⟨Zfx hN hi hx hf,Xcq h1 h2⟩
theorem Zly:JGs X C Γ Δ [] 0 Zuj Dl.Zej:=⟨Zji,Xhm,Zyr⟩
theorem Zby {fb:FB}(h1:JG X C Γ Δ e tt fb)(h2:JGs X C Γ Δ es n u fu)(hs:(Aq (e::es) X.env).map (·.2)=Bu e X.env::(Aq es X.env).map (·.2):=by rfl):JGs X C Γ Δ (e::es) (n+1) (Zem tt u) (Dl.Xr fb fu):=⟨Zcy h1.q h2.q hs,Xcx h1.o h2.o,Zpl h2.n⟩
theorem Zre {k:Nat}(hc:X.calm=true)(h:JGs X C Γ Δ es n u fu)(hn:(Aq es X.env).length=n:=by rfl)(hst:(Aq es X.env).findIdx? (·.1)=none:=by rfl):JG X C Γ Δ (.Tuple es k pos) (Zcf X.K n u) (Dl.Zeo fu):=⟨Znt hc h.q hn hst,Xfp h.n h.o⟩
theorem Jr:JIf X C E Γ Δ [] Xjg Dl.Zec:=⟨Zvc,Xlg⟩
theorem Xjh {fA:FT}(h:JT X C E Γ Δ c tA fA):JIf X C E Γ Δ [c] tA fA:=⟨Xjc h.q,h.o⟩
structure JB (X:Cx)(C:String->Addr)(n k:Nat)(e:Expr)(t:TG)(f:FB):Prop where
 q:QG X e t
 o:NOk X.K C n k t f
structure JBs (X:Cx)(C:String->Addr)(n k:Nat)(es:List Expr)(l:Nat)(t:TGs)(f:List D->Yb->R Yb):Prop where
 q:QGs X es t
 o:Xmi X.K C n k t f
 n:∀ds ρ ρ',f ds ρ=.ok ρ'->ds.length=l
theorem Yp {k:Nat}(i:Nat)(hN:X.N.Nodup:=by decide +kernel)(hi:X.N[i]?=some x:=by rfl)(hx:Loc X.env.scope x:=by exact .inl rfl)(hf:X.fn x=true\/X.env.scope.names.lookup x=some .local:=by exact .inr rfl)(h1:n<=i:=by decide)(h2:i<n+k:=by decide):JB X C n k (.Name x pos) (Zac i) (Dl.Zr i):=⟨Zfx hN hi hx hf,Zzw i h1 h2⟩
theorem Zkv {k:Nat}:JBs X C n k [] 0 Zuj Dl.Zej:=⟨Zji,Xis,Zyr⟩
theorem Zbz {k l:Nat}{fb:FB}(h1:JB X C n k e tt fb)(h2:JBs X C n k es l u fu)(hs:(Aq (e::es) X.env).map (·.2)=Bu e X.env::(Aq es X.env).map (·.2):=by rfl):JBs X C n k (e::es) (l+1) (Zem tt u) (Dl.Xr fb fu):=⟨Zcy h1.q h2.q hs,Xbt h1.o h2.o,Zpl h2.n⟩
theorem Zqq (K:AE){k l kk:Nat}(h:JBs X C n k es l u fu)(hc:X.calm=true:=by rfl)(hn:(Aq es X.env).length=l:=by rfl)(hst:(Aq es X.env).findIdx? (·.1)=none:=by rfl)(hK:X.K=K:=by rfl):JB X C n k (.Tuple es kk pos) (Zcf K l u) (Dl.Zeo fu):=by subst hK;exact ⟨Znt hc h.q hn hst,Xjp h.n h.o⟩
theorem Zcd {tc:TT}{fc:FT}(esc:Scope)(N N2 xs:List Str)(B:Zur sc esc xs N N2)(hi:JI X C E Γ Δ S tg iter wi fi)(hg:∀cl C' s0 H0 fp,JB (X.blkN N2 xs sc cl C' s0 H0 fp) C n xs.length tg gg fg)(ht:∀cl C' s0 H0 fp,JIf (X.blkN N2 xs sc cl C' s0 H0 fp) C E0 [] [] ifs tc fc)(he:∀cl C' s0 H0 fp,JE (X.blkN N2 xs sc cl C' s0 H0 fp) C E0 [] [] 2 [] elt te fe)
  (hesc:X.env.scope=esc:=by rfl) (hN:X.N=N:=by rfl) (hc:X.calm=true:=by rfl) (hs:∀v,AQ iter X.env v=pure v:=by intro _;rfl):JE X C E Γ Δ 2 [] (.ListComp elt [⟨tg,iter,ifs,0⟩] sc pos) (Zdx xs.length gg wi tc te) (Dl.Zaa n xs.length fi fg fc fe):=
 ⟨Xcp esc N N2 xs B hi.q (fun cl C' s0 H0 fp=>(hg cl C' s0 H0 fp).q) (fun cl C' s0 H0 fp=>(ht cl C' s0 H0 fp).q) (fun cl C' s0 H0 fp=>(he cl C' s0 H0 fp).q) hesc hN hc hs,Zrp hi.o (hg [] 0 X.s₀ X.H₀ []).o (ht [] 0 X.s₀ X.H₀ []).o (he [] 0 X.s₀ X.H₀ []).o⟩
variable {other:List Stmt}{u v:TS}{g h:FS}
theorem Xb:JSs X C E mr Γl Δl Γ Δ Γ Δ [] Zll Dl.sNx:=⟨Zpj,Xqh⟩
theorem Zg (Γ1 Δ1:List Nat)(h1:JS X C E mr Γl Δl Γ Δ Γ1 Δ1 s1 u g)(h2:JSs X C E mr Γl Δl Γ1 Δ1 Γ' Δ' ss v h):JSs X C E mr Γl Δl Γ Δ Γ' Δ' (s1::ss) (Xfd u v) (Dl.Xm g h):=⟨Zlb h1.q h2.q,Xho h1.o h2.o⟩
theorem Zm (h1:JS X C E mr Γl Δl Γ Δ Γ' Δ' s1 u g):JSs X C E mr Γl Δl Γ Δ Γ' Δ' [s1] u g:=⟨Zkq h1.q,h1.o⟩
theorem Zbe (Γ1 Δ1:List Nat)(h:JSs X C E mr Γl Δl Γ Δ Γ1 Δ1 ss u g)(h1:∀i∈Γ',i∈Γ1:=by decide)(h2:∀i∈Δ',i∈Δ1:=by decide):JSs X C E mr Γl Δl Γ Δ Γ' Δ' ss u g:=⟨h.q,Xae h.o h1 h2⟩
theorem Xbq:JS X C E mr Γl Δl Γ Δ Γ' Δ' s1 Zry Dl.Zqs:=⟨Xbv,Zuo⟩
theorem Xl (he:JE X C E Γ Δ 2 S e te fe)(h0:∀p∈S,p.1∈Δ:=by decide):JS X C E 2 Γl Δl Γ Δ Γ' Δ' (.Return (some e) pos) (Xez te) (Dl.Jx fe):=⟨Zuu he.q,Xao he.o h0⟩
theorem Zpv (he:JE X C E Γ Δ m S e te fe)(h0:∀p∈S,p.1∈Γ:=by decide):JS X C E 0 Γl Δl Γ Δ Γ' Δ' (.Return (some e) pos) (Xez te) (Dl.Jx fe):=⟨Zuu he.q,Xay he.o h0⟩
theorem Yn {fA:FT}(hc:JT X C E Γ Δ c tA fA)(ha:JSs X C E mr Γl Δl Γ Δ Γ' Δ' body u g)(hb:JSs X C E mr Γl Δl Γ Δ Γ' Δ' other v h):JS X C E mr Γl Δl Γ Δ Γ' Δ' (.If c body other pos) (Xar tA u v) (Dl.sIf fA g h):=⟨Xii hc.q ha.q hb.q,Xnz hc.o ha.o hb.o⟩
theorem Zw (hN:X.N.Nodup)(hi:X.N[i]?=some x)(hx:Loc X.env.scope x)(he:JE X C E Γ Δ 2 [] e te fe)(hs:BS e (some (.Name x pos')) pos.line X.env=pure false:=by rfl)(hf:autoParam (X.fn x=true\/X.env.scope.names.lookup x=some .local) aT0._auto_1)
  (h1:∀j∈Γ',j=i\/j∈Γ:=by decide) (h2:∀j∈Δ',j=i\/j∈Δ:=by decide):JS X C E mr Γl Δl Γ Δ Γ' Δ' (.Assign [.Name x pos'] e pos) (Zfs te (Zac i)) (Dl.Ya i fe):=⟨Xfh hN hi hx he.q hs hf,Zrb he.o h1 h2⟩
theorem Zfz {py spos:Pos}{tc:TT}{fc:FT}(esc:Scope)(N N2 xs:List Str)(B:Zur sc esc xs N N2)(hy:N[i]?=some y)(hl:esc.names.lookup y=some .local)(hi:JI X C E Γ Δ S tg iter wi fi)(hg:∀cl C' s0 H0 fp,JB (X.blkN N2 xs sc cl C' s0 H0 fp) C n xs.length tg gg fg)(ht:∀cl C' s0 H0 fp,JIf (X.blkN N2 xs sc cl C' s0 H0 fp) C E0 [] [] ifs tc fc)(he:∀cl C' s0 H0 fp,JE (X.blkN N2 xs sc cl C' s0 H0 fp) C E0 [] [] 2 [] elt te fe)
  (hesc:X.env.scope=esc:=by rfl) (hN:X.N=N:=by rfl) (hc:X.calm=true:=by rfl) (hsw:BS (.ListComp elt [⟨tg,iter,ifs,0⟩] sc pos) (some (.Name y py)) spos.line X.env=pure true:=by rfl) (hs:∀v,AQ iter X.env v=pure v:=by intro _;rfl)
  (h1:∀j∈Γ',j=i\/j∈Γ:=by decide) (h2:∀j∈Δ',j=i\/j∈Δ:=by decide):JS X C E mr Γl Δl Γ Δ Γ' Δ' (.Assign [.Name y py] (.ListComp elt [⟨tg,iter,ifs,0⟩] sc pos) spos) (Zfs (Zdx xs.length gg wi tc te) (Zac i)) (Dl.Ya i (Dl.Zaa n xs.length fi fg fc fe)):=
 ⟨Zsi esc N N2 xs B hy hl hi.q (fun cl C' s0 H0 fp=>(hg cl C' s0 H0 fp).q) (fun cl C' s0 H0 fp=>(ht cl C' s0 H0 fp).q) (fun cl C' s0 H0 fp=>(he cl C' s0 H0 fp).q) hesc hN hc hsw hs,Zrb (Zrp hi.o (hg [] 0 X.s₀ X.H₀ []).o (ht [] 0 X.s₀ X.H₀ []).o (he [] 0 X.s₀ X.H₀ []).o) h1 h2⟩
theorem Zgk (hi:i∈Γ:=by decide)(hN:X.N[i]?=some x:=by rfl)(hv:autoParam (Vis X.env.scope x) aT3._auto_1)(hd:(x==("__debug__":Str))=false:=by decide)(hcd:(x==("__classdict__":Str))=false:=by decide)
  (he:JE X C E Γ Δ 2 [] e te fe) (hse:Ab [e] X.env=(false,AF e X.env)::Ab [] X.env)
  (hbase:Bt (.Name x p) "append" X.env (AF (.Name x p) X.env)=AF (.Name x p) X.env:=by rfl)
  (hfew:((AW cpos (Ab [e] X.env)).all (fun x=>!x.1)&&(Cq cpos (BO [] X.env)).all (fun x=>x.1.isSome)&&decide (([e]:List Expr).length+([]:List Bo).length+(if ([]:List Bo).isEmpty then 0 else 1)<30))=true:=by rfl)
  (hline:(apos.endLine==cpos.line)=true:=by rfl) (hplain:(AW cpos (Ab ([]:List Expr) X.env)).any (·.1)=false:=by rfl) (hsw:BS (.Call (.Attribute (.Name x p) "append" apos) [e] [] cpos) none pos.line X.env=pure false:=by rfl) :
  JS X C E mr Γl Δl Γ Δ Γ Δ (.Expr (.Call (.Attribute (.Name x p) "append" apos) [e] [] cpos) pos) (Zie (tBM X.K "list" Zdw (Zcr i) (Ja te Zhg))) (Dl.Zjr i fe):=
 ⟨Zkr (Zsr PySem.F.plainAttrs_list PySem.F.slot_list_append PySem.F.type_list_append Zhv (qv i hN hv hd hcd) (Yy he.q Zes hse) hbase hfew hline hse hplain) hsw,Zzu hi he.o⟩
theorem Zca {fb:FB}(Γl Δl:List Nat)(hp:EL (AA X.prog X.w) X.A X.env X.xe)(hc:X.calm=true)(hi:JI X C E Γ Δ S tg iter wi fi)(hg:JG X C Γl Δl tg tt fb)(hb:JSs X C E mr Γl Δl Γl Δl Γl Δl body u g)(hs:∀x,AQ iter X.env x=pure x:=by intro _;rfl)
  (h1:∀i∈Γl,i∈Γ:=by decide) (h2:∀i∈Δl,i∈Δ:=by decide) (h3:∀p∈S,p.1∉Γl/\p.1∉Δl:=by decide):JS X C E mr Γk Δk Γ Δ Γl Δl (.For tg iter body [] pos) (Xey wi tt u) (Dl.Zhu fi fb g):=⟨Zwf hp hc hi.q hg.q hb.q hs,Xhf hi.o hg.o hb.o h1 h2 h3⟩
end
theorem Fun.okC {P:Aw}{base:AZ}{st:Stmt}{f:Addr}{N:List Str}{k:Nat}{g:FS}(F:Fun K x qual st f fd)(S:Xd N ps (Zl st))(hn:ps.length=n)
    (hbody:∀(cdv:Value) (A:AR) (outer:List Env) (s:Ac) (H:Hp) (E:XK),Zgb k (A.deeper (CN qual (Zl st) s.heap.objs.size f cdv))->
      ∃t,JSs (Zol CX0 P w K mg base N qual (Zl st) f cdv A outer s H E).nox C E0 mr [] [] [] [] Γ' Δ' (Js st) t g):Zbd P w K mg base CX0 (k+1) f fd ps (spD K C n mr fun ds=>(Dl.run N.length g ds).calm):=
  F.okQ S (fun vs H Q E h=>by
    obtain ⟨ds,B,h1,h2,_⟩:=h;rw [h2.len,h1,hn]) fun cdv A outer s H vs Q E hr h=>by
    obtain ⟨ds,B,h1,h2,h3⟩:=h;obtain ⟨t,ht⟩:=hbody cdv A outer s H E hr;exact ⟨t,ht.q,Zqv (K:=K) ht.o h2 (Zz.imp (Zbr h3) (fun _ q=>q) fun _ _ z=>z.elim)⟩
section
variable {S:List (Nat×Bool)}
def Kit (c:String):Prop:=∀(K:AE) (d:D) (b:Bool),Dl.Zkm c d=some (.bl b)->GR K (.type (Dl.Xej d)) (.type c)=some b
theorem Xip:Kit "int":=fun K d b h=>by cases d<;>cases h<;>rfl
theorem Xbe:Kit "bool":=fun K d b h=>by cases d<;>cases h<;>rfl
theorem Xkc:Kit "str":=fun K d b h=>by cases d<;>cases h<;>rfl
theorem Zls:Kit "list":=fun K d b h=>by cases d<;>cases h<;>rfl
theorem kit_tuple:Kit "tuple":=fun K d b h=>by cases d<;>cases h<;>rfl
theorem Xhz {c:String}(hk:Kit c)(ha:EOk K C E Γ Δ m S ta fa):EOk K C E Γ Δ 2 [] (tCB (Xlu K) (Ja ta (Ja (tC (.ty c)) Zhg))) (Dl.f1 (Dl.Zkm c) fa):=fun H0 Hb H σ ρ A Q I p =>
  ha H0 Hb H σ ρ A _ I (p.bind.imp (fun x q v H1 g1 r=>by
    obtain ⟨d,e,q⟩:=Zfc q;obtain ⟨B,r,_⟩:=r;have out:∀b t,d=.bl b->TyOf K H1 v t->t=.type (Dl.Xej x)->Xlu K [v,.ty c] H1 Q:=fun b t ed ty et=>by subst ed et;exact Xnw ty (hk K x b e) (q _ H1 g1 (Res.flat rpB))
    show Xlu K [v,.ty c] H1 Q;cases x with
    | non=>cases e;exact out _ _ rfl (by rw [r.1];exact .non) rfl
    | bl b=>cases e;exact out _ _ rfl (by rw [r.1];exact .bl _) rfl
    | int i=>cases e;exact out _ _ rfl (by rw [r.1];exact .int _) rfl
    | str z=>cases e;exact out _ _ rfl (by rw [r.1];exact .str _) rfl
    | lst ds =>cases e;obtain ⟨a,xs,B,rfl,e2,_⟩:=r;exact out _ _ rfl (.lst e2) rfl
    | tup ds =>cases e;obtain ⟨a,xs,rfl,e2,_⟩:=r;exact out _ _ rfl (.tup e2) rfl
    | scr _=>cases e
    | rng _ _=>cases e
    | exc _ _=>cases e
    | obj _ _ _=>cases e
    | dct _ _=>cases e
    | dtt _ _=>cases e
    | flst _=>cases e
    | fdt _ _=>cases e) fun c x q H' g'=>q H' g')
theorem Xki {f:Int->Int->Int}(hg:∀x y d,g x y=some d->∃i j,x=.int i/\y=.int j/\d=.int (f i j))(he:EOk K C E Γ Δ m S te fe)(h1:∀j∈Γ',j=i\/j∈Γ:=by decide)(h2:∀j∈Δ',j=i\/j∈Δ:=by decide) :
  SOk K C E mr Γl Δl Γ Δ Γ' Δ' (tAug i te (ipI f)) (Dl.Xln i g fe):=fun H0 Hb H σ ρ A D I p=>by
 unfold Dl.Xln at p;split at p;rename_i x e;obtain ⟨v,e1,r⟩:=I.rep i x e;refine ⟨v,e1,he H0 Hb H σ ρ A _ I (Zz.imp (Zz.bind p) (fun y q w H1 g1 r1=>?_) fun c x q H' g'=>q H' (Xk.from0 I g'))⟩;obtain ⟨z,ez,q⟩:=Zfc (Zz.bind q);obtain ⟨B,r1,_⟩:=r1;obtain ⟨k,l,rfl,rfl,rfl⟩:=hg x y z ez;obtain ⟨rfl,_⟩:=r;obtain ⟨rfl,_⟩:=r1;obtain ⟨A',I',_⟩:=(I.mono g1).put (Γ':=Γ') (Δ':=Δ') (i:=i) (d:=.int (f k l)) (v:=.int (f k l)) (B:=[]) rpI (fun j hj e=>⟨(h1 j hj).elim (fun z=>absurd z e) id,fun _ _ _ z=>nomatch z⟩)
  (fun _=>⟨(fun _ z=>nomatch z),(fun _ _ z=>nomatch z)⟩) (fun j hj e=>⟨(h2 j hj).elim (fun z=>absurd z e) id,fun _ _ z=>nomatch z⟩) (fun _=>⟨BI,(fun _ _ _ z=>nomatch z),(fun _ z=>nomatch z)⟩)
 exact ⟨k,l,rfl,rfl,q _ H1 A' I'⟩;exact p.elim
theorem Xkw:∀x y d,Dl.Xdg x y=some d->∃i j,x=.int i/\y=.int j/\d=.int (i+j):=fun x y d e=>by unfold Dl.Xdg at e;split at e<;>cases e;exact ⟨_,_,rfl,rfl,rfl⟩
theorem Zq.rewrite {l:List Addr}{es:List D}(I:Zq K C H0 Hb H Γ Δ σ ρ A)(g1:Xk H H1)(hi:i∈Γ)(hA:A i=a::l)(hl:i<ρ.length)(s1:σ[i]?=some (some (.ref a)))(r:RpA K C H1 es ys B')
    (hB:∀b∈B',b∈l\/H b=none) (hD:i∈Δ->B'.Nodup):∃A',Zq K C H0 Hb (upd H1 a (.lst ys)) Γ Δ σ (ρ.set i (some (.lst es))) A':=by
  obtain ⟨tb,ta,tt⟩:=I.top i hi a l hA;have ha:a∈A i:=by rw [hA];exact .head _
  have w1:∀b∈B',H0 b=none:=fun b hb=>(hB b hb).elim (fun z=>I.loc i hi b (by rw [hA];exact .tail _ z)) fun z=>I.s0.free (I.same.free z);have w0:a∉B':=fun z=>(hB a z).elim ta fun z=>I.ne ha z;have w2:∀j∈Γ,j≠i->j∈Γ/\∀b l',A j=b::l'->b∉B':=fun j hj e=>⟨hj,fun b l' e' z=>(hB b z).elim
    (fun z=>(I.top j hj b l' e').2.2 i (fun w=>e w.symm) (by rw [hA];exact .tail _ z)) fun z=>I.ne (j:=j) (by rw [e'];exact .head _) z⟩
  have w3:∀j∈Δ,j≠i->j∈Δ/\∀b∈A j,b∉B':=fun j hj e=>⟨hj,fun b hb z=>(hB b z).elim
    (fun z=>(I.deep j hj).2.1 i (fun w=>e w.symm) b hb (by rw [hA];exact .tail _ z)) fun z=>I.ne hb z⟩
  have w4:i∈Δ->B'.Nodup/\(∀j,j≠i->∀b∈B',b∉A j)/\∀b∈B',Hb b=none:=fun hd=>by obtain ⟨d1,d2,d3⟩:=I.deep i hd;rw [hA] at d2 d3;exact ⟨hD hd,fun j hj b hb=>(hB b hb).elim (fun z=>d2 j hj b (.tail _ z)) fun z w=>I.ne w z,fun b hb=>(hB b hb).elim (fun z=>d3 b (.tail _ z)) fun z=>I.same.free z⟩
  exact (I.mono g1).write (Γ':=Γ) (Δ':=Δ) hi hA hl s1 r w1 w0 w2 w3 w4
theorem Xfx (hi:i∈Γ:=by decide)(he:EOk K C E Γ Δ 2 [] te fe):SOk K C E mr Γl Δl Γ Δ Γ Δ (Zie (tBM K "list" Zii (Zcr i) (Ja te Zhg))) (Dl.Xgc i fe):=fun H0 Hb H σ ρ A D I p=>by
 unfold Dl.Xgc at p;split at p;rename_i ds e;obtain ⟨a,xs,l,s1,h1,r1,hA,hl⟩:=Zbv I e;refine ⟨.ref a,s1,.inl ⟨rfl,xs,SqL.of h1⟩,he H0 Hb H σ ρ A _ I (Zz.imp (Zz.bind p) (fun d q v H1 g1 r=>?_) fun c x q H' g'=>q H' (Xk.from0 I g'))⟩;obtain ⟨B,r2,r3,_,r4⟩:=r;have hn:∀a∈B,H a=none:=fun a ha=>(r3 a ha).elim id fun z=>z.none.elim;cases d with
 | lst es =>
  simp only at q;split at q;rename_i hz;obtain ⟨b,zs,B2,rfl,e2,e3,e4⟩:=r2;subst e4;have nd:=r4 rfl;show Zii (.ref a) [.ref b] H1 fun _ H3=>D.nx σ H3;refine ⟨a,b,xs,zs,rfl,rfl,g1 _ _ h1,e2,by rw [r1.len,e3.len];exact Zce hz,?_⟩;obtain ⟨A',I'⟩:=I.rewrite g1 hi hA hl s1 ((r1.same g1).app e3) (fun b hb=>(Ad.mp hb).imp id fun z=>hn b (.tail _ z)) fun hd=>by obtain ⟨d1,_⟩:=I.deep i hd;rw [hA] at d1;refine AO.mpr ⟨(Ap.mp d1).2,(Ap.mp nd).2,fun x hx y hy e=>?_⟩;subst e;exact I.ne (j:=i) (by rw [hA];exact .tail _ hx) (hn x (.tail _ hy))
  exact q _ _ A' I';exact q.elim
 | _=>exact q.elim
 exact p.elim
theorem RpA.set:∀{ds:List D} {vs:List V} {A:List Addr} {j:Nat} {d:D} {v:V},RpA K C H ds vs A->Rp K C H d v []->Dl.Xn ds=true->RpA K C H (ds.set j d) (vs.set j v) []
 | [],_,_,_,_,_,r,_,_=>by rw [r.1];exact RpA.nil
 | x::ds,_,_,0,d,v,r,q,h=>by obtain ⟨y,l,B,B',e1,e2,e3,e4⟩:=r;simp only [Dl.Xn,Ax] at h;subst e1;exact ⟨v,l,[],[],rfl,q,e3.flat' h.2,rfl⟩
 | x::ds,_,_,j+1,d,v,r,q,h=>by obtain ⟨y,l,B,B',e1,e2,e3,e4⟩:=r;simp only [Dl.Xn,Ax] at h;subst e1;have z:=e2.flat h.1;subst z;exact ⟨y,_,[],[],rfl,e2,RpA.set e3 q h.2,rfl⟩
theorem Xje (hi:i∈Γ:=by decide)(he:EOk K C E Γ Δ m1 S1 te fe)(hk:EOk K C E Γ Δ m2 S2 tk fk):SOk K C E mr Γl Δl Γ Δ Γ Δ (Zfs te (Zbg (Zcr i) tk Zfe)) (Dl.Zth i fk fe):=fun H0 Hb H σ ρ A D I p=>by
 refine he H0 Hb H σ ρ A _ I (Zz.imp (Zz.bind p) (fun d q v H1 g1 r=>?_) fun c x q H' g'=>q H' (Xk.from0 I g'));have I1:=I.mono g1;split at q;rename_i ds e;obtain ⟨a,xs,l,s1,h1,r1,hA,hl⟩:=Zbv I1 e;refine ⟨.ref a,s1,hk H0 Hb H1 σ ρ A _ I1 (Zz.imp (Zz.bind q) (fun z q w H2 g2 rz=>?_) fun c x q H' g'=>q H' (Xk.from0 I1 g'))⟩;obtain ⟨Bz,rz,_⟩:=rz;obtain ⟨B,rd,_⟩:=r;cases z with
 | int n =>obtain ⟨rfl,_⟩:=rz;simp only at q;split at q;rename_i hf;split at q;rename_i j ej;have zB:=rd.flat hf.1;subst zB;obtain ⟨A',I'⟩:=I1.rewrite g2 hi hA hl s1 (RpA.set (j:=j) (r1.same g2) (rd.same g2) hf.2) (fun _ hb=>nomatch hb) fun _=>BI;exact ⟨a,xs,n,j,rfl,rfl,g2 _ _ h1,by rw [r1.len];exact ej,q _ _ A' I'⟩;exact q.elim;exact q.elim
 | _=>exact q.elim
 exact q.elim
def BsN (K:AE)(C:String->Addr)(Γ Δ Γ' Δ':List Nat)(g:TGs)(b:List D->Yb->R Yb):Prop:=∀(H0 Hb H:Hp) (σ:St) (ρ:Yb) (A:Nat->List Addr) (d:List D) (v:List V) (B:List Addr) (Rr:St->Hp->Prop),Zq K C H0 Hb H Γ Δ σ ρ A->RpA K C H d v B->B.Nodup->(∀a∈B,Hb a=none/\∀j,a∉A j)->
 Zz (b d ρ) (fun ρ'=>∀σ' A',Zq K C H0 Hb H Γ' Δ' σ' ρ' A'->Rr σ' H) (fun _ _=>False)->g v σ H Rr
theorem Xic (h1:∀i∈Γ',i∈Γ)(h2:∀i∈Δ',i∈Δ):BsN K C Γ Δ Γ' Δ' Zuj Dl.Zej:=fun H0 Hb H σ ρ A d v B Rr I r _ _ p=>by
 cases d with
 | nil=>exact ⟨r.1,p _ A (I.weak h1 h2)⟩
 | cons _ _=>exact p.elim
theorem Zzx {bs:List D->Yb->R Yb}(h2:BsN K C (i::Γ) (i::Δ) Γ' Δ' gs bs):BsN K C Γ Δ Γ' Δ' (Zem (Zac i) gs) (Dl.Xr (Dl.Zr i) bs):=fun H0 Hb H σ ρ A d v B Rr I r nd hB p=>by
  cases d with
  | nil=>exact p.elim
  | cons d ds =>
    obtain ⟨x,l,B1,B2,e1,e2,e3,e4⟩:=r;subst e1 e4;obtain ⟨n1,n2,n3⟩:=AO.mp nd;have hB1:∀a∈B1,Hb a=none/\∀j,a∉A j:=fun a ha=>hB a (As _ ha);obtain ⟨A',I',hA'⟩:=I.put (Γ':=i::Γ) (Δ':=i::Δ) (i:=i) e2
      (fun j hj e=>⟨(Aj.mp hj).elim (fun z=>absurd z e) id,fun a l' e' ha=>(hB1 a ha).2 j (by rw [e'];exact .head _)⟩)
      (fun _=>⟨fun a ha=>I.s0.free (hB1 a ha).1,fun a l' e=>by
        subst e;exact ⟨(hB1 a (.head _)).1,(Ap.mp n1).1,fun j _=>(hB1 a (.head _)).2 j⟩⟩)
      (fun j hj e=>⟨(Aj.mp hj).elim (fun z=>absurd z e) id,fun a ha hb=>(hB1 a hb).2 j ha⟩)
      (fun _=>⟨n1,fun j _ a ha=>(hB1 a ha).2 j,fun a ha=>(hB1 a ha).1⟩)
    exact ⟨x,l,rfl,h2 H0 Hb H _ _ A' ds l B2 Rr I' e3 n2 (fun a ha=>⟨(hB a (Ai _ ha)).1,fun j h=>(hA' j a h).elim (fun z=>n3 a z a ha rfl) fun z=>(hB a (Ai _ ha)).2 j z⟩) p⟩
theorem Zts {bs:List D->Yb->R Yb}(hn:∀ds ρ ρ',bs ds ρ=.ok ρ'->ds.length=n)(he:EOk K C E Γ Δ 2 [] te fe)(hb:BsN K C Γ Δ Γ' Δ' gs bs):SOk K C E mr Γl Δl Γ Δ Γ' Δ' (Zfs te (Zcf K n gs)) (Dl.Xdz fe (Dl.Zeo bs)):=fun H0 Hb H σ ρ A D I p=>by
 refine he H0 Hb H σ ρ A _ I (Zz.imp (Zz.bind p) (fun d q v H1 g1 r=>?_) fun c x q H' g'=>q H' (Xk.from0 I g'));obtain ⟨B,r1,r2,_,r4⟩:=r;have hn':∀a∈B,H a=none:=fun a ha=>(r2 a ha).elim id fun z=>z.none.elim;have q':=Zbr (Zz.bind q);cases d with
 | tup ds =>
  obtain ⟨a,xs,rfl,e2,e3⟩:=r1;have q'':Zz (bs ds ρ) (fun ρ'=>∀σ' H' A',Zq K C H0 Hb H' Γ' Δ' σ' ρ' A'->D.nx σ' H') (fun _ _=>False):=q';have hl:xs.length=n:=by
   rw [e3.len];cases e:bs ds ρ with
   | ok ρ'=>exact hn ds ρ ρ' e
   | err _ _=>rw [e] at q'';exact q''.elim
   | bad=>rw [e] at q'';exact q''.elim
  exact ⟨a,xs,rfl,SqT.of e2,hl,hb H0 Hb H1 σ ρ A ds xs B D.nx (I.mono g1) e3 (r4 rfl) (fun a ha=>⟨I.same.free (hn' a ha),fun j z=>I.ne z (hn' a ha)⟩) (Zz.imp q'' (fun ρ' q σ' A' I'=>q σ' H1 A' I') fun _ _ z=>z)⟩
 | _=>exact q'.elim
variable {a:Expr}{rest:List Expr}{fs:FE}
theorem Zje (K:AE)(hk:Kit T)(hg:Gl X "isinstance")(hm:X.mg "isinstance"=none)(hgt:Gl X ty)(hmt:X.mg ty=none)(hvt:BN ty=some (.type T))(ha:JE X C E Γ Δ m S e te fe)(hse:Ab (e::[.Name ty p2]) X.env=(false,AF e X.env)::Ab [.Name ty p2] X.env)
  (hn:ty≠"__name__":=by decide) (hd:(ty==("__debug__":Str))=false:=by decide) (hpl:(AW pos (Ab [.Name ty p2] X.env)).any (·.1)=false:=by rfl) (hK:X.K=K:=by rfl) :
  JE X C E Γ Δ 2 [] (.Call (.Name "isinstance" p) [e,.Name ty p2] [] pos) (tCB (Xlu K) (Ja te (Ja (tC (.ty T)) Zhg))) (Dl.f1 (Dl.Zkm T) fe):=by
 subst hK;exact ⟨Zsg Zpu hg hm HH (Yy ha.q (Yy (Xjs (v:=.ty T) hgt hmt hvt rfl hn hd) Zes Za) hse) (by decide) (by decide) hse hpl,Xhz hk ha.o⟩
theorem Xnp (hg:∀x y d,g x y=some d->∃i j,x=.int i/\y=.int j/\d=.int (ff i j))(ho:PIp X op (ipI ff))(hN:X.N.Nodup)(hi:X.N[i]?=some x)(hx:Loc X.env.scope x)(he:JE X C E Γ Δ m S e te fe)
  (hf:autoParam (X.fn x=true\/X.env.scope.names.lookup x=some .local) aT0._auto_1) (h1:∀j∈Γ',j=i\/j∈Γ:=by decide) (h2:∀j∈Δ',j=i\/j∈Δ:=by decide):JS X C E mr Γl Δl Γ Δ Γ' Δ' (.AugAssign (.Name x pos') op e pos) (tAug i te (ipI ff)) (Dl.Xln i g fe):=⟨Xme hN hi hx he.q ho hf,Xki hg he.o h1 h2⟩
theorem Xpz (hi:i∈Γ:=by decide)(hN:X.N[i]?=some x:=by rfl)(hv:autoParam (Vis X.env.scope x) aT3._auto_1)(hd:(x==("__debug__":Str))=false:=by decide)(hcd:(x==("__classdict__":Str))=false:=by decide)
  (he:JE X C E Γ Δ 2 [] e te fe) (hse:Ab [e] X.env=(false,AF e X.env)::Ab [] X.env)
  (hbase:Bt (.Name x p) "extend" X.env (AF (.Name x p) X.env)=AF (.Name x p) X.env:=by rfl)
  (hfew:((AW cpos (Ab [e] X.env)).all (fun x=>!x.1)&&(Cq cpos (BO [] X.env)).all (fun x=>x.1.isSome)&&decide (([e]:List Expr).length+([]:List Bo).length+(if ([]:List Bo).isEmpty then 0 else 1)<30))=true:=by rfl)
  (hline:(apos.endLine==cpos.line)=true:=by rfl) (hplain:(AW cpos (Ab ([]:List Expr) X.env)).any (·.1)=false:=by rfl) (hsw:BS (.Call (.Attribute (.Name x p) "extend" apos) [e] [] cpos) none pos.line X.env=pure false:=by rfl) :
  JS X C E mr Γl Δl Γ Δ Γ Δ (.Expr (.Call (.Attribute (.Name x p) "extend" apos) [e] [] cpos) pos) (Zie (tBM X.K "list" Zii (Zcr i) (Ja te Zhg))) (Dl.Xgc i fe):=
 ⟨Zkr (Zsr PySem.F.plainAttrs_list PySem.F.slot_list_extend PySem.F.type_list_extend Zyc (qv i hN hv hd hcd) (Yy he.q Zes hse) hbase hfew hline hse hplain) hsw,Xfx hi he.o⟩
theorem Zrc (hi:i∈Γ:=by decide)(hN:X.N[i]?=some x:=by rfl)(hv:autoParam (Vis X.env.scope x) aT3._auto_1)(hd:(x==("__debug__":Str))=false:=by decide)(hcd:(x==("__classdict__":Str))=false:=by decide)
    (he:JE X C E Γ Δ m1 S1 e te fe) (hk:JE X C E Γ Δ m2 S2 kx tk fk) (hs:B7 [.Subscript (.Name x p) kx p2] e pos.line X.env=pure false:=by rfl) (hw:B8 [.Subscript (.Name x p) kx p2] e X.env=pure none:=by rfl) (h1:(Aq [.Subscript (.Name x p) kx p2] X.env).map (·.2)=[Bu (.Subscript (.Name x p) kx p2) X.env]:=by rfl)
    (hq:∀v,Bu (.Subscript (.Name x p) kx p2) X.env v=(do
      let ov <- A5 [v] (AF (.Name x p) X.env)
      let iv <- A5 [v,ov] (AF kx X.env)
      CI p2
      A5 [v,ov,iv] (CV ov iv v)
      Dy [v,ov,iv] []):=by intro _;rfl) :
    JS X C E mr Γl Δl Γ Δ Γ Δ (.Assign [.Subscript (.Name x p) kx p2] e pos) (Zfs te (Zbg (Zcr i) tk Zfe)) (Dl.Zth i fk fe):=⟨Zjl he.q (Zgq (qv i hN hv hd hcd) hk.q set_list hq) hs hw h1,Xje hi he.o hk.o⟩
structure JN (X:Cx)(C:String->Addr)(Γ Δ Γ' Δ':List Nat)(es:List Expr)(n:Nat)(t:TGs)(f:List D->Yb->R Yb):Prop where
 q:QGs X es t
 o:BsN X.K C Γ Δ Γ' Δ' t f
 n:∀ds ρ ρ',f ds ρ=.ok ρ'->ds.length=n
theorem Xee (h1:∀i∈Γ',i∈Γ:=by decide)(h2:∀i∈Δ',i∈Δ:=by decide):JN X C Γ Δ Γ' Δ' [] 0 Zuj Dl.Zej:=⟨Zji,Xic h1 h2,Zyr⟩
theorem Zlq (hN:X.N.Nodup)(hi:X.N[i]?=some x)(hx:Loc X.env.scope x)(h2:JN X C (i::Γ) (i::Δ) Γ' Δ' es n u fu)(hf:autoParam (X.fn x=true\/X.env.scope.names.lookup x=some .local) aT0._auto_1)
  (hs:(Aq (.Name x p::es) X.env).map (·.2)=Bu (.Name x p) X.env::(Aq es X.env).map (·.2):=by rfl):JN X C Γ Δ Γ' Δ' (.Name x p::es) (n+1) (Zem (Zac i) u) (Dl.Xr (Dl.Zr i) fu):=⟨Zcy (Zfx hN hi hx hf) h2.q hs,Zzx h2.o,Zpl h2.n⟩
theorem Znm {k:Nat}(hc:X.calm=true)(he:JE X C E Γ Δ 2 [] e te fe)(hb:JN X C Γ Δ Γ' Δ' es n u fu)(hn:(Aq es X.env).length=n:=by rfl)(hst:(Aq es X.env).findIdx? (·.1)=none:=by rfl)
  (hs:B7 [.Tuple es k p] e pos.line X.env=pure false:=by rfl) (hw:B8 [.Tuple es k p] e X.env=pure none:=by rfl) (h1:(Aq [.Tuple es k p] X.env).map (·.2)=[Bu (.Tuple es k p) X.env]:=by rfl) :
  JS X C E mr Γl Δl Γ Δ Γ' Δ' (.Assign [.Tuple es k p] e pos) (Zfs te (Zcf X.K n u)) (Dl.Xdz fe (Dl.Zeo fu)):=⟨Zjl he.q (Znt hc hb.q hn hst) hs hw h1,Zts hb.n he.o hb.o⟩
end
section
variable {S:List (Nat×Bool)}
theorem Zq.base (h:Zq K C Hb Hb H Γ Δ σ ρ A)(s:Xk H0 Hb):Zq K C H0 Hb H Γ Δ σ ρ A:=⟨s,h.same,h.len,h.rep,h.nil,fun i hi a ha=>s.free (h.loc i hi a ha),h.top,h.deep⟩
theorem Zq.fresh (h:Zq K C H0 Hb H Γ Δ σ ρ A):Zq K C Hb Hb H [] [] σ ρ A:=⟨Xk.refl _,h.same,h.len,h.rep,h.nil,fun _ hi=>(nomatch hi),fun _ hi=>(nomatch hi),fun _ hi=>(nomatch hi)⟩
theorem Res.base (s:Xk H0 Hb)(r:Res K C m [] Hb (fun _=>[]) d v H'):Res K C m [] H0 (fun _=>[]) d v H':=by obtain ⟨B,r1,r2,r3,r4⟩:=r;exact ⟨B,r1,fun a ha=>(r2 a ha).imp s.free id,fun q a l e=>⟨s.free (r3 q a l e).1,(r3 q a l e).2⟩,r4⟩
def JOk (K:AE)(C:String->Addr)(E:XK)(Γ Δ:List Nat)(t:TJ)(f:FA):Prop:=∀(H0 Hb H:Hp) (σ:St) (ρ:Yb) (A:Nat->List Addr) (Q:Hp->Prop),Zq K C H0 Hb H Γ Δ σ ρ A->
 Zz (f ρ) (fun _=>∀H',Xk H H'->Q H') (fun c x=>∀H',Xk H H'->EC C E c x H')->t σ H Q
theorem Xkv:JOk K C E Γ Δ jNil Dl.Zu:=fun _ _ H _ _ _ _ _ p=>p H (Xk.refl _)
theorem Xif {s:Str}{t:TJ}(h:s.length<=2000)(ht:JOk K C E Γ Δ t f):JOk K C E Γ Δ (Zui (tC (.str s)) t) f:=fun H0 Hb H σ ρ A Q I p=>⟨s,rfl,h,ht H0 Hb H σ ρ A Q I p⟩
theorem Zta {c:String}{t:TJ}(ha:JOk K C E Γ Δ t f):SOk K C E mr Γl Δl Γ Δ Γ' Δ' (Zqw (.ref (C c)) E (Ja (tJs t) Zhg)) (Dl.Zrg c f):=fun H0 Hb H σ ρ A D I p =>
 ha H0 Hb H σ ρ A _ I (Zz.imp (Zz.bind p) (fun _ q H1 g z=>⟨(by show 1<=Ak;decide),q H1 (Xk.from0 I g) Da trivial⟩) fun _ _ q H1 g=>q H1 (Xk.from0 I g))
end
theorem Fun.okCE {P:Aw}{base:AZ}{st:Stmt}{f:Addr}{N:List Str}{k:Nat}{g:FS}(F:Fun K x qual st f fd)(S:Xd N ps (Zl st))(hn:ps.length=n)
    (hbody:∀(cdv:Value) (A:AR) (outer:List Env) (s:Ac) (H:Hp) (E:XK),Zgb k (A.deeper (CN qual (Zl st) s.heap.objs.size f cdv))->
      ∃t,JSs ((Zol (CXE P w) P w K mg base N qual (Zl st) f cdv A outer s H E).wish (ER (Zol (CXE P w) P w K mg base N qual (Zl st) f cdv A outer s H E) E)) C E mr [] [] [] [] Γ' Δ' (Js st) t g):Zbd P w K mg base (CXE P w) (k+1) f fd ps (spD K C n mr fun ds=>Dl.run N.length g ds):=
  F.okEQ S (fun vs H Q E h=>by
    obtain ⟨ds,B,h1,h2,_⟩:=h;rw [h2.len,h1,hn]) fun cdv A outer s H vs Q E hr h=>by
    obtain ⟨ds,B,h1,h2,h3⟩:=h;obtain ⟨t,ht⟩:=hbody cdv A outer s H E hr;exact ⟨t,ht.q,Zqv (K:=K) ht.o h2 h3⟩
section
variable {S:List (Nat×Bool)}
theorem RpA.drop {ds:List D}{vs:List V}{A:List Addr}(r:RpA K C H ds vs A):∀n,∃B,RpA K C H (ds.drop n) (vs.drop n) B/\∀a∈B,a∈A:=by
 intro n
 induction ds generalizing vs A n with
 | nil=>rw [r.1];exact ⟨[],by simp;exact ⟨rfl,rfl⟩,fun _ h=>nomatch h⟩
 | cons d ds ih =>
  cases n with
  | zero=>exact ⟨A,r,fun _ h=>h⟩
  | succ n =>obtain ⟨x,l,B,B',e1,e2,e3,e4⟩:=r;subst e1 e4;obtain ⟨B2,q1,q2⟩:=ih e3 n;exact ⟨B2,q1,fun a ha=>Ai _ (q2 a ha)⟩
theorem RpA.take {ds:List D}{vs:List V}{A:List Addr}(r:RpA K C H ds vs A):∀n,∃B,RpA K C H (ds.take n) (vs.take n) B/\∀a∈B,a∈A:=by
 intro n
 induction ds generalizing vs A n with
 | nil=>rw [r.1];exact ⟨[],by simp;exact ⟨rfl,rfl⟩,fun _ h=>nomatch h⟩
 | cons d ds ih =>
  cases n with
  | zero=>exact ⟨[],⟨rfl,rfl⟩,fun _ h=>nomatch h⟩
  | succ n =>obtain ⟨x,l,B,B',e1,e2,e3,e4⟩:=r;subst e1 e4;obtain ⟨B2,q1,q2⟩:=ih e3 n;exact ⟨B++B2,⟨x,_,B,B2,rfl,e2,q1,rfl⟩,fun a ha=>(Ad.mp ha).elim (fun h=>As _ h) fun h=>Ai _ (q2 a h)⟩
theorem RpA.cutV {ds:List D}{vs:List V}{A:List Addr}(r:RpA K C H ds vs A)(lo hi:Option Int):∃B,RpA K C H (Dl.cut ds lo hi) (L2.cutV vs lo hi) B/\∀a∈B,a∈A:=by unfold Dl.cut L2.cutV;rw [Zkn,Zkn,r.len];obtain ⟨B1,q1,q2⟩:=r.drop (HT.sIx ds.length 0 lo);obtain ⟨B2,p1,p2⟩:=q1.take (HT.sIx ds.length ds.length hi - HT.sIx ds.length 0 lo);exact ⟨B2,p1,fun a ha=>q2 a (p2 a ha)⟩
theorem Res.newTop {p:Addr}(g1:Xk H H')(r:RpA K C H' ds vs B)(hB:∀a∈B,H a=none\/InS A S a)(hp:H' p=none):Res K C 1 S H A (.lst ds) (.ref p) (upd H' p (.lst vs)):=by have g2:=sameNew hp (.lst vs);refine ⟨p::B,⟨p,vs,B,rfl,Ye,r.same g2,rfl⟩,fun b hb=>?_,fun _ b l e=>?_,(fun z=>nomatch z)⟩;rcases Aj.mp hb with z | z;rw [z];exact .inl (g1.free hp);exact hB b z;cases e;refine ⟨g1.free hp,fun h=>?_⟩;obtain ⟨ys,w,_⟩:=r.isl p h;rw [w] at hp;cases hp
theorem Xjo {th:TO}(ha:EOk K C E Γ Δ m S ta fa)(hl:OOk K C E Γ Δ tl fl)(hh:OOk K C E Γ Δ th fh):EOk K C E Γ Δ 1 S (tSl (Xls K) ta tl th) (Dl.fSl Dl.Xge fa fl fh):=
  fun H0 Hb H σ ρ A Q I p=>ha H0 Hb H σ ρ A _ I (p.bind.imp (fun x q vx H1 g1 r1=>hl H0 Hb H1 σ ρ A _ (I.mono g1) (q.bind.imp (fun lo q H2 g2=>hh H0 Hb H2 σ ρ A _ (I.mono (g1.trans g2)) (q.bind.imp (fun hi q H3 g3=>by
    obtain ⟨d,e,q⟩:=Zfc q;obtain ⟨B,r1,rB,_⟩:=r1;have r1:=r1.same (g2.trans g3);have g13:=g1.trans (g2.trans g3);unfold Dl.Xge at e;split at e;cases e;obtain ⟨a,ys,B',rfl,e2,e3,e4⟩:=r1;subst e4;obtain ⟨B2,q1,q2⟩:=e3.cutV lo hi;exact Zup (SqL.of e2) fun p hp=>q _ _ (g13.trans (sameNew hp _)) (Res.newTop g13 q1 (fun b hb=>rB b (.tail _ (q2 b hb))) hp)
    · cases e) fun c x q H' g'=>q H' ((g1.trans g2).trans g'))) fun c x q H' g'=>q H' (g1.trans g'))) fun c x q H' g'=>q H' g')
theorem InS.l (h:InS A S1 a):InS A (S1++S2) a:=h.mono fun _ hp=>As _ hp
theorem InS.r (h:InS A S2 a):InS A (S1++S2) a:=h.mono fun _ hp=>Ai _ hp
theorem Xaw (ha:EOk K C E Γ Δ m1 S1 ta fa)(hb:EOk K C E Γ Δ m2 S2 tb fb):EOk K C E Γ Δ 1 (S1++S2) (tOp Ztg ta tb) (Dl.f2 Dl.Zoy fa fb):=
  fun H0 Hb H σ ρ A Q I p=>ha H0 Hb H σ ρ A _ I (p.bind.imp (fun x q vx H1 g1 r1=>hb H0 Hb H1 σ ρ A _ (I.mono g1) (q.bind.imp (fun y q vy H2 g2 r2=>by
    obtain ⟨d,e,q⟩:=Zfc q;obtain ⟨Bx,r1,rB,_⟩:=r1;obtain ⟨By,r2,rB2,_⟩:=r2;have r1:=r1.same g2;have g13:=g1.trans g2;unfold Dl.Zoy at e;split at e;split at e;rename_i hz;cases e;obtain ⟨a,xs,B,rfl,e2,e3,e4⟩:=r1;obtain ⟨a',xs',B',rfl,e2',e3',e4'⟩:=r2;subst e4 e4';refine Xeu e2 e2' (by rw [e3.len,e3'.len];exact Zce hz) fun p hp=>?_;exact q _ _ (g13.trans (sameNew hp _)) (Res.newTop g13 (e3.app e3') (fun b hb=>(Ad.mp hb).elim (fun h=>(rB b (.tail _ h)).imp id InS.l) fun h=>(rB2 b (.tail _ h)).imp (fun z=>g1.free z) InS.r) hp);cases e
    · cases e) fun c x q H' g'=>q H' (g1.trans g'))) fun c x q H' g'=>q H' g')
variable {a:Expr}{rest:List Expr}{fs:FE}{u:TS}{g:FS}
theorem Xew (K:AE){th:TO}(he:JE X C E Γ Δ m S e te fe)(hl:JO X C E Γ Δ lo tl fl)(hu:JO X C E Γ Δ hi th fh)(hK:X.K=K:=by rfl):JE X C E Γ Δ 1 S (.Subscript e (.Slice lo hi none p2) pos) (tSl (Xls K) te tl th) (Dl.fSl Dl.Xge fe fl fh):=by subst hK;exact ⟨Zsd Zvo he.q hl.q hu.q,Xjo he.o hl.o hu.o⟩
theorem Zvy (ha:JE X C E Γ Δ m1 S1 a ta fa)(hb:JE X C E Γ Δ m2 S2 b tb fb):JE X C E Γ Δ 1 (S1++S2) (.BinOp a .Add b pos) (tOp Ztg ta tb) (Dl.f2 Dl.Zoy fa fb):=⟨Xod Zt ha.q hb.q,Xaw ha.o hb.o⟩
end
structure ClsIn (K:AE)(C:Addr):Prop where
 ty:EH K (.ref C)=some (.type "type")
 cl:∃c,Gx K C=some c
 se:C6 K (.ref C) (.ref C)=some true
theorem all_nil {P:α->Prop}:∀c∈([]:List α),P c:=fun _ h=>nomatch h
theorem all_cons {P:α->Prop}{a:α}{l:List α}(h:P a)(hl:∀c∈l,P c):∀c∈a::l,P c:=fun c hc=>(Aj.mp hc).elim (fun e=>by rw [e];exact h) fun hc=>hl c hc
section
variable {S:List (Nat×Bool)}
theorem RpA.split {A:List Addr}(r:RpA K C H ds vs A):∀n,∃B1 B2,A=B1++B2/\RpA K C H (ds.take n) (vs.take n) B1/\RpA K C H (ds.drop n) (vs.drop n) B2:=by
 intro n
 induction ds generalizing vs A n with
 | nil =>obtain ⟨e1,e2⟩:=r;subst e1 e2;exact ⟨[],[],rfl,by simp;exact ⟨rfl,rfl⟩,by simp;exact ⟨rfl,rfl⟩⟩
 | cons d ds ih =>
  cases n with
  | zero=>exact ⟨[],A,rfl,⟨rfl,rfl⟩,r⟩
  | succ n =>obtain ⟨x,l,B,B',e1,e2,e3,e4⟩:=r;subst e1 e4;obtain ⟨B1,B2,q0,q1,q2⟩:=ih e3 n;subst q0;exact ⟨B++B1,B2,(CK ..).symm,⟨x,_,B,B1,rfl,e2,q1,rfl⟩,q2⟩
def Zla:V->List V->Hp->VK->Prop:=fun x vs H Q=>∃l xs i y,x=.ref l/\vs=[.int i,y]/\H l=some (.lst xs)/\0<=i/\i<=xs.length/\xs.length<Ak/\Q .non (upd H l (.lst (xs.take i.toNat++y::xs.drop i.toNat)))
theorem Zlm:((Ak:Nat):Int)<2 ^ 63:=by rw [Dx];decide
theorem Zve :MtM X "list.insert" Zla:=by
 intro pins s σ H x vs v us Q I rx rv h;obtain ⟨l,xs,i,y,rfl,rfl,hH,h0,h1,hz,q⟩:=h;cases rx;obtain ⟨u,w',rfl,ru,rw'⟩:=vals2 rv;obtain ⟨tk,rfl⟩:=ru;obtain ⟨z,its,n,r,hl,e⟩:=I.lstM hH;have hlen:its.length=xs.length:=hl.symm;have h63:=Zlm;have hfit:¬(!Builtin.List.listFitsIndex i)=true:=by unfold HN;simp;omega
 refine DQ F.slot_list_insert ⟨_,e,rfl⟩ F.entry_list_insert (F.args_list_insert_3 _ _ _) (PySem.AutoListH.list_insert_list_int_val_1 l its.toArray n i tk w' hfit (by rw [Ay];omega)) ⟨e,?_⟩;refine ⟨.non,_,I.lset (its':=its.take i.toNat++w'::its.drop i.toNat) hH e ?_ ((r.take i.toNat).append (.cons rw' (r.drop i.toNat))) ?_,rfl,q⟩;have hk:(if i<0 then (i+((its.toArray.size:Nat):Int)).toNat else min i.toNat its.toArray.size)=i.toNat:=by rw [if_neg (by omega),Ay];omega
 simp only [hk];simp;exact B5 (by rw [Cp];omega);rw [Ao,BB,Bb,Cp];omega
theorem Xie (hi:i∈Γ:=by decide)(hk:EOk K C E Γ Δ m S tk fk)(he:EOk K C E Γ Δ 2 [] te fe):SOk K C E mr Γl Δl Γ Δ Γ Δ (Zie (tBM K "list" Zla (Zcr i) (Ja tk (Ja te Zhg)))) (Dl.Xlw i fk fe):=fun H0 Hb H σ ρ A D I p=>by
  unfold Dl.Xlw at p;split at p
  · rename_i ds e;obtain ⟨a,xs,l,s1,h1,r1,hA,hl⟩:=Zbv I e;refine ⟨.ref a,s1,.inl ⟨rfl,xs,SqL.of h1⟩,hk H0 Hb H σ ρ A _ I (Zz.imp (Zz.bind p) (fun z q vz Hz gz rz=>?_) fun c x q H' g'=>q H' (Xk.from0 I g'))⟩;refine he H0 Hb Hz σ ρ A _ (I.mono gz) (Zz.imp (Zz.bind q) (fun d q v H1 g1 r=>?_) fun c x q H' g'=>q H' (Xk.from0 I (gz.trans g')));obtain ⟨Bz,rz,_⟩:=rz;obtain ⟨B,r2,r3,_,r4⟩:=r;have hn:∀a∈B,Hz a=none:=fun a ha=>(r3 a ha).elim id fun z=>z.none.elim;have hn':∀a∈B,H a=none:=fun a ha=>gz.free (hn a ha);cases z with
    | int n =>
      simp only at q;split at q
      · rename_i hz;obtain ⟨rfl,_⟩:=rz;show Zla (.ref a) [.int n,v] H1 fun _ H3=>D.nx σ H3;have g:=gz.trans g1;refine ⟨a,xs,n,v,rfl,rfl,g _ _ h1,hz.1,by rw [r1.len];exact hz.2.1,by rw [r1.len];exact Zdd hz.2.2,?_⟩;obtain ⟨B1,B2,q0,q1,q2⟩:=(r1.same g).split n.toNat
        have e5:RpA K C H1 (ds.take n.toNat++d::ds.drop n.toNat) (xs.take n.toNat++v::xs.drop n.toNat) (B1++(B++B2)):=q1.app ⟨v,_,B,B2,rfl,r2,q2,rfl⟩;obtain ⟨A',I'⟩:=I.rewrite g hi hA hl s1 e5 (fun b hb=>by
          rw [q0];rcases Ad.mp hb with z | z;exact .inl (As _ z)
          · rcases Ad.mp z with z | z;exact .inr (hn' b z)
            · exact .inl (Ai _ z)) fun hd=>by
          obtain ⟨d1,_⟩:=I.deep i hd;rw [hA] at d1;have d2:=(Ap.mp d1).2;rw [q0] at d2;obtain ⟨n1,n2,n3⟩:=AO.mp d2;have hin:∀b∈l,b∉B:=fun b hb z=>I.ne (j:=i) (by rw [hA];exact .tail _ hb) (hn' b z);rw [q0] at hin;refine AO.mpr ⟨n1,AO.mpr ⟨r4 rfl,n2,fun x hx y hy e=>?_⟩,fun x hx y hy e=>?_⟩;subst e;exact hin x (Ai _ hy) hx;subst e;rcases Ad.mp hy with z | z;exact hin x (As _ hx) z;exact n3 x hx x z rfl
        exact q _ _ A' I'
      exact q.elim
    | _=>exact q.elim
  exact p.elim
end
structure JJ (X:Cx)(C:String->Addr)(E:XK)(Γ Δ:List Nat)(es:List Expr)(t:TJ)(f:FA):Prop where
 q:QJ X es t
 o:JOk X.K C E Γ Δ t f
section
variable {S:List (Nat×Bool)}{a:Expr}{rest:List Expr}{fs:FE}{s:Stmt}{u:TS}{g:FS}
theorem Xpf:JJ X C E Γ Δ [] jNil Dl.Zu:=⟨Xqz,Xkv⟩
theorem Xmt (h:JJ X C E Γ Δ es tj f)(hx:x.length<=2000:=by decide)(hv:Ci (.Constant (.str x) jj pos::es) X.env=AF (.Constant (.str x) jj pos) X.env::Ci es X.env:=by rfl):JJ X C E Γ Δ (.Constant (.str x) jj pos::es) (Zui (tC (.str x)) tj) f:=⟨Zus Xeg h.q hv,Xif hx h.o⟩
theorem Zvs (hq:ET X.K (C cn) bmV "ValueError.__new__"=true)(hm:X.mg x=some (.ref (C cn)))(hj:JJ (X.wish (ER X E)) C E Γ Δ (a::b::es) tj f)(hn:es.length<=100:=by decide)(hv:Ci (a::b::es) X.env=AF a X.env::AF b X.env::Ci es X.env:=by rfl)
  (hg:Gl X x:=by rfl) (hc:X.calm=true:=by rfl) (hx:X.ex=[]:=by rfl)
  (hdb:(x==("__debug__":Str))=false:=by decide) (he:Ab [.JoinedStr (a::b::es) jp] X.env=(false,AF (.JoinedStr (a::b::es) jp) X.env)::Ab [] X.env:=by rfl) (hpl:(AW cpos (Ab ([]:List Expr) X.env)).any (·.1)=false:=by rfl) :
  JS (X.wish (ER X E)) C E mr Γl Δl Γ Δ Γ' Δ' (.Raise (some (.Call (.Name x np) [.JoinedStr (a::b::es) jp] [] cpos)) none pos) (Zqw (.ref (C cn)) E (Ja (tJs tj) Zhg)) (Dl.Zrg cn f):=
 ⟨Xbs hq hm (Yy (qe_js hj.q hn hv) Zes he) hg hc hx hdb he hpl,Zta hj.o⟩
theorem Xox (h:JS X.nox C E mr Γl Δl Γ Δ Γ' Δ' s u g):JS X C E mr Γl Δl Γ Δ Γ' Δ' s u g:=⟨Xpc h.q,h.o⟩
theorem Xni (hi:i∈Γ:=by decide)(hN:X.N[i]?=some x:=by rfl)(hv:autoParam (Vis X.env.scope x) aT3._auto_1)(hd:(x==("__debug__":Str))=false:=by decide)(hcd:(x==("__classdict__":Str))=false:=by decide)
  (hk:JE X C E Γ Δ m S kx tk fk) (he:JE X C E Γ Δ 2 [] e te fe) (hse:Ab [kx,e] X.env=(false,AF kx X.env)::Ab [e] X.env) (hse2:Ab [e] X.env=(false,AF e X.env)::Ab [] X.env)
  (hbase:Bt (.Name x p) "insert" X.env (AF (.Name x p) X.env)=AF (.Name x p) X.env:=by rfl)
  (hfew:((AW cpos (Ab [kx,e] X.env)).all (fun x=>!x.1)&&(Cq cpos (BO [] X.env)).all (fun x=>x.1.isSome)&&decide (([kx,e]:List Expr).length+([]:List Bo).length+(if ([]:List Bo).isEmpty then 0 else 1)<30))=true:=by rfl)
  (hline:(apos.endLine==cpos.line)=true:=by rfl) (hplain:(AW cpos (Ab [e] X.env)).any (·.1)=false:=by rfl) (hsw:BS (.Call (.Attribute (.Name x p) "insert" apos) [kx,e] [] cpos) none pos.line X.env=pure false:=by rfl) :
  JS X C E mr Γl Δl Γ Δ Γ Δ (.Expr (.Call (.Attribute (.Name x p) "insert" apos) [kx,e] [] cpos) pos) (Zie (tBM X.K "list" Zla (Zcr i) (Ja tk (Ja te Zhg)))) (Dl.Xlw i fk fe):=
 ⟨Zkr (Zsr PySem.F.plainAttrs_list PySem.F.slot_list_insert PySem.F.type_list_insert Zve (qv i hN hv hd hcd) (Yy hk.q (Yy he.q Zes hse2) hse) hbase hfew hline hse hplain) hsw,Xie hi hk.o he.o⟩
end
theorem pl_of (h:Dl.plain n z=true):Pl n z:=by unfold Dl.plain at h;rw [Ax] at h;refine ⟨of_decide_eq_true h.1,fun c hc=>?_⟩;exact of_decide_eq_true (CG.mp h.2 c hc)
section
variable {S:List (Nat×Bool)}
theorem Xib {t:TJ}(he:EOk K C E Γ Δ m S te fe)(ht:JOk K C E Γ Δ t f):JOk K C E Γ Δ (Zui (tFvr te) t) (Dl.Zb (Dl.f1 Dl.Xlx fe) f):=fun H0 Hb H σ ρ A Q I p=>by
 have p1:=Zz.bind p;have p2:=Zz.bind p1;refine he H0 Hb H σ ρ A _ I (Zz.imp p2 (fun d q v H1 g r=>?_) fun _ _ q=>q);obtain ⟨B,r1,_⟩:=r;cases d with
 | str z =>unfold Dl.Xlx at q;simp only [] at q;by_cases hi:Dl.plain 100 z=true;rw [if_pos hi] at q;have e:v=.str z:=r1.1;subst e;refine ⟨z,rfl,pl_of hi,fun y hy=>⟨y,rfl,hy,?_⟩⟩;exact ht H0 Hb H1 σ ρ A Q (I.mono g) (Zz.imp (Zz.bind q) (fun ds q H2 g2=>q H2 (g.trans g2)) fun c x q H2 g2=>q H2 (g.trans g2));rw [if_neg hi] at q;exact q.elim
 | _=>exact q.elim
variable {a:Expr}{rest:List Expr}{fs:FE}
theorem Xqt (he:JE X C E Γ Δ m S e te fe)(h:JJ X C E Γ Δ es tj f)(hv:Ci (.FormattedValue e 114 none pos::es) X.env=AF (.FormattedValue e 114 none pos) X.env::Ci es X.env:=by rfl):JJ X C E Γ Δ (.FormattedValue e 114 none pos::es) (Zui (tFvr te) tj) (Dl.Zb (Dl.f1 Dl.Xlx fe) f):=⟨Zus (Xrc he.q) h.q hv,Xib he.o h.o⟩
end
def Xfw (K:AE)(c:Value)(N:Nat)(tb:XK->TS)(th:TS):TS:=fun D σ H=>∃E:XK,tb E D σ H/\∀cls dx H',E cls dx H'->EK K cls c=some true/\∀σ':St,σ'.length=N->th D σ' H'
theorem Xgl {c:Str}{C:Addr}{tb:XK->TS}(hm:X.mg c=some (.ref C))
  (hb:∀(E:XK) (pn:List (Addr×Obj)),PSs (({X with pn:=pn}:Cx).wish (ER {X with pn:=pn} E)) body (tb E)) (hh:∀e:Addr,PSs (X.hand e) (b₀::suite) th)
  (hg:Gl X c:=by rfl) (hx:X.ex=[]:=by rfl) (hst:X.stack=X.env::X.outer:=by rfl) (hf:X.env.frame=some X.env.locals:=by rfl) (hdb:(c==("__debug__":Str))=false:=by decide) :
  PS X (.Try body [.ExceptHandler (some (.Name c np)) none (b₀::suite) hpos] [] [] pos) (Xfw X.K (.ref C) X.N.length tb th):=by
 intro pins s σ H D I h;obtain ⟨E,h1,h2⟩:=h;refine wpAny_Try_except (Bl (hb E (X.pn++pins) [] s σ H D (I.inpin.wish _) h1) (fun f s1 q=>?_) fun ev s1 q=>?_)
 ·have q1:SP ({X with pn:=X.pn++pins}:Cx) [] D f s1:=q.unwish;have q':SP X pins D f s1:=by
   cases f with
   | next=>obtain ⟨σ',H',I',z⟩:=q1;exact ⟨σ',H',I'.outpin,z⟩
   | brk=>obtain ⟨σ',H',I',z⟩:=q1;exact ⟨σ',H',I'.outpin,z⟩
   | cont=>obtain ⟨σ',H',I',z⟩:=q1;exact ⟨σ',H',I'.outpin,z⟩
   | ret u=>obtain ⟨v,σ',H',I',r,z⟩:=q1;exact ⟨v,σ',H',I'.outpin,r,z⟩
  cases f with
  | next=>exact DS q'
  | brk=>exact q'
  | cont=>exact q'
  | ret u=>exact q'
 ·obtain ⟨e0,dx,rfl,hdx,pins',e,own,cls,z,σ1,H1,ee,I1,x,hz,oo,qE⟩:=q;cases ee;have J1:Inv X pins σ1 H1 s1:=I1.outpin;have oo1:Zkw X pins H1 own:=fun b hb=>let ⟨a1,a2,a3,a4,a5⟩:=oo b hb;⟨a1,a2,a3,a4,fun p hp=>a5 p (As _ hp)⟩
  obtain ⟨hmat,hth⟩:=h2 cls dx H1 qE;refine Xle J1 x hz oo1 hx I.ok.frames hst hf fun s2 T I2 x2 oo2=>?_;refine Zyx I2 x2 oo2 hx fun s3 T3 I3 x3 oo3=>?_;refine wpAny_handleBy_cons (codeAny_handlers_test ?_) (by intro q;cases q);refine Zpd (X:=X.hand e0) (I3.hand e0) hg hm ?_ hdb;have ty:PySem.W.Looks (AA X.prog X.w) s3.heap (typeOf (.ref e0)) cls:=by obtain ⟨oe,vs,a0,he,hc,_⟩:=x3;subst hc;exact (PySem.W.Looks.ld he).andThen .now
  refine (PySem.W.exm_one I3.kIn ty hmat).here ?_;refine (codeAny_handlers_suite ?_);refine Zyx (X:=X.hand e0) (I3.hand e0) x3 oo3 hx fun s4 T4 I4 x4 oo4=>?_;refine Bl (hh e0 pins s4 _ _ _ I4 (hth σ1 J1.len)) (fun f s6 q=>?_) fun _ _ z=>z.elim;cases f with
  | next=>obtain ⟨σ',H',I',z⟩:=q;exact ⟨_,_,I'.unhand I.ok.hd,z⟩
  | brk=>obtain ⟨σ',H',I',z⟩:=q;exact ⟨_,_,I'.unhand I.ok.hd,z⟩
  | cont=>obtain ⟨σ',H',I',z⟩:=q;exact ⟨_,_,I'.unhand I.ok.hd,z⟩
  | ret u=>obtain ⟨v,σ',H',I',r,z⟩:=q;exact ⟨v,_,_,I'.unhand I.ok.hd,r,z⟩
section
variable {S:List (Nat×Bool)}
theorem Zq.blank (s:Xk H0 Hb)(g:Xk Hb H)(hl:σ.length=N):Zq K C H0 Hb H [] [] σ (Aa N Da) (fun _=>[]):=
  ⟨s,g,by simp [hl],(fun j d q=>by
      rw [EW] at q;split at q<;>cases q),fun _ _=>rfl,fun _ hi=>(nomatch hi),fun _ hi=>(nomatch hi),fun _ hi=>(nomatch hi)⟩
theorem Xdh {tb:XK->TS}{fb fh:FS}{Eh:XK}(hb:∀E',SOk K C E' mr Γl Δl [] [] Γ1 Δ1 (tb E') fb)(hh:SOk K C Eh mr Γl Δl [] [] Γ1 Δ1 th fh)
  (hc:∀c∈cs,EK K (.ref (C c)) (.ref c0)=some true):SOk K C E mr Γl Δl Γ Δ Γ1 Δ1 (Xfw K (.ref c0) N tb th) (Dl.Zuh cs N fb fh):=fun H0 Hb H σ ρ A D I p=>by
 refine ⟨fun cls dx H'=>Xk Hb H'/\∃c x,cls=.ref (C c)/\fb ρ=.err c x,?_,?_⟩;refine hb _ Hb Hb H σ ρ A D I.fresh ?_;unfold Dl.Zuh at p;cases e:fb ρ with
 | bad=>rw [e] at p;exact p
 | err c x =>exact fun H' g dx hf=>⟨g,c,x,rfl,rfl⟩
 | ok fl =>
  rw [e] at p;cases fl with
  | nx ρ'=>exact fun σ' H' A' I'=>p σ' H' A' (I'.base I.s0)
  | brk ρ'=>exact fun σ' H' A' I'=>p σ' H' A' (I'.base I.s0)
  | cnt ρ'=>exact fun σ' H' A' I'=>p σ' H' A' (I'.base I.s0)
  | ret d=>exact fun v H' g r=>p v H' (I.s0.trans g) (r.base I.s0)
 rintro cls dx H' ⟨g,c,x,rfl,ef⟩;unfold Dl.Zuh at p;rw [ef] at p;simp only [] at p;by_cases hcs:cs.contains c=true;rw [if_pos hcs] at p;refine ⟨hc c (by simpa using hcs),fun σ' hl=>?_⟩;refine hh H0 Hb _ _ _ (fun _=>[]) _ (Zq.blank I.s0 g hl) ?_;exact Zz.imp (Zbr p) (fun fl q=>q) fun _ _ z=>z.elim;rw [if_neg hcs] at p;exact p.elim
end
theorem Xfq {c:Str}{tb:XK->TS}{fb fh:FS}{E0:XK}(cs:List String)(hm:X.mg c=some (.ref c0))
  (hb:∀(E:XK) (pn:List (Addr×Obj)),JSs (({X with pn:=pn}:Cx).wish (ER {X with pn:=pn} E)) C E mr Γl Δl [] [] Γ1 Δ1 body (tb E) fb) (hh:∀a:Addr,JSs (X.hand a) C E0 mr Γl Δl [] [] Γ1 Δ1 (b₀::suite) th fh)
  (hc:∀c∈cs,EK X.K (.ref (C c)) (.ref c0)=some true)
  (hg:Gl X c:=by rfl) (hx:X.ex=[]:=by rfl) (hst:X.stack=X.env::X.outer:=by rfl) (hf:X.env.frame=some X.env.locals:=by rfl) (hdb:(c==("__debug__":Str))=false:=by decide) :
  JS X C E mr Γl Δl Γ Δ Γ1 Δ1 (.Try body [.ExceptHandler (some (.Name c np)) none (b₀::suite) hpos] [] [] pos) (Xfw X.K (.ref c0) X.N.length tb th) (Dl.Zuh cs X.N.length fb fh):=
 ⟨⟨Xgl hm (fun E pn=>(hb E pn).q.out) (fun a=>(hh a).q.out) hg hx hst hf hdb⟩,Xdh (fun E'=>(hb E' []).o) (hh 0).o hc⟩
section
variable {S:List (Nat×Bool)}
def Xos (K:AE)(C:String->Addr)(H H':Hp):Prop:=∀d v,Rp K C H d v []->Rp K C H' d v []
theorem Zxc (h:H a=some (.lst xs)):Xos K C H (upd H a (.lst ys)):=fun d v r=>by refine Rp.ext (W:=fun b=>b=a) (fun b o hb=>?_) (fun _ h=>nomatch h) r;by_cases e:b=a;subst e;rw [h] at hb;cases hb;exact .inr ⟨rfl,.lst⟩;rw [Xs e];exact .inl hb
theorem Zrd (hi:i∈Γ)(hk:EOk K C E Γ Δ m S tk fk)(I:Zq K C H0 Hb H Γ Δ σ ρ A)(rd:Rp K C H d v [])
  (q:Zz (Dl.Xma i fk d ρ) (fun ρ'=>∀σ' H' A',Zq K C H0 Hb H' Γ Δ σ' ρ' A'->Xos K C H H'->Rr σ' H') (fun c x=>∀H',Xk H0 H'->EC C E c x H')):(Zbg (Zcr i) tk Zfe) v σ H Rr:=by
 unfold Dl.Xma at q;split at q;rename_i ds e;obtain ⟨a,xs,l,s1,h1,r1,hA,hl⟩:=Zbv I e;refine ⟨.ref a,s1,hk H0 Hb H σ ρ A _ I (Zz.imp (Zz.bind q) (fun z q w H2 g2 rz=>?_) fun c x q H' g'=>q H' (Xk.from0 I g'))⟩;obtain ⟨Bz,rz,_⟩:=rz;cases z with
 | int n =>obtain ⟨rfl,_⟩:=rz;simp only at q;split at q;rename_i hf;split at q;rename_i j ej;obtain ⟨A',I'⟩:=I.rewrite g2 hi hA hl s1 (RpA.set (j:=j) (r1.same g2) (rd.same g2) hf.2) (fun _ hb=>nomatch hb) fun _=>BI;exact ⟨a,xs,n,j,rfl,rfl,g2 _ _ h1,by rw [r1.len];exact ej,q _ _ A' I' fun d' v' r'=>Zxc (g2 _ _ h1) d' v' (r'.same g2)⟩;exact q.elim;exact q.elim
 | _=>exact q.elim
 exact q.elim
theorem Xad (hi:i∈Γ:=by decide)(he:EOk K C E Γ Δ m1 S1 te fe)(hk1:EOk K C E Γ Δ m2 S2 tk1 fk1)(hk2:EOk K C E Γ Δ m3 S3 tk2 fk2) :
  SOk K C E mr Γl Δl Γ Δ Γ Δ (Zfs te (Zcf K 2 (Zem (Zbg (Zcr i) tk1 Zfe) (Zem (Zbg (Zcr i) tk2 Zfe) Zuj)))) (Dl.Zye i fk1 fk2 fe):=fun H0 Hb H σ ρ A D I p=>by
 refine he H0 Hb H σ ρ A _ I (Zz.imp (Zz.bind p) (fun d q v H1 g1 r=>?_) fun c x q H' g'=>q H' (Xk.from0 I g'));have I1:=I.mono g1;obtain ⟨B,r,_⟩:=r;split at q;rename_i d1 d2;split at q;rename_i fl;obtain ⟨a,xs,rfl,e2,e3⟩:=r;obtain ⟨x1,l1,B1,B1',rfl,r2,r3,_⟩:=e3;obtain ⟨x2,l2,B2,B2',rfl,r4,r5,_⟩:=r3;obtain ⟨rfl,_⟩:=r5;have z1:=r2.flat fl.1;have z2:=r4.flat fl.2;subst z1 z2;refine ⟨a,[x1,x2],rfl,SqT.of e2,rfl,x1,[x2],rfl,?_⟩;refine Zrd hi hk1 I1 r2 (Zz.imp (Zz.bind q) (fun ρ1 q σ1 H2 A1 I2 st=>?_) fun _ _ q=>q);refine ⟨x2,[],rfl,Zrd hi hk2 I2 (st _ _ r4) (Zz.imp (Zz.bind q) (fun ρ2 q σ2 H3 A2 I3 _=>⟨rfl,q σ2 H3 A2 I3⟩) fun _ _ q=>q)⟩;exact q.elim;exact q.elim
theorem RpA.ofStrs:∀{ds:List D} {vs:List V} {A:List Addr} {ts:List Str},RpA K C H ds vs A->Dl.strsOf ds=some ts->vs=ts.map V.str/\∀t∈ts,Bk t=true
 | [],_,_,ts,r,h=>by simp only [Dl.strsOf,Cr] at h;rw [r.1,<- h];exact ⟨rfl,fun _ z=>nomatch z⟩
 | d::ds,_,_,ts,r,h=>by
  obtain ⟨x,l,B,B',e1,e2,e3,e4⟩:=r;cases d<;>simp only [Dl.strsOf] at h<;>try cases h
  obtain ⟨ms,h1,h2⟩:=AB.mp h;obtain ⟨q1,q2⟩:=RpA.ofStrs e3 h1;subst h2;rw [e1,e2.1,q1];refine ⟨rfl,fun t ht=>?_⟩;rcases Aj.mp ht with z | z;rw [z];exact e2.2.1;exact q2 t z
theorem Zkd {s:Str}(hs:Bk s=true):∀{ts:List Str},(∀t∈ts,Bk t=true)->Bk (Cv s ts)=true
 | [],_=>by show Bk Eu=true;decide +kernel
 | [x],h=>h x (.head _)
 | x::y::r,h=>by show Bk (x++s++Cv s (y::r))=true;exact Zjg (Zjg (h x (.head _)) hs) (Zkd hs fun t ht=>h t (.tail _ ht))
def rJoin (K:AE):V->List V->Hp->VK->Prop:=fun x vs H Q=>∃s ts a,x=.str s/\vs=[.ref a]/\SqL K H a (ts.map V.str)/\(ts.map (·.length)).sum+ts.length*s.length<=Ak/\Q (.str (Cv s ts)) H
theorem Zmu:∀{ts:List Str} {us:List Value},Yw (ts.map V.str) us->∃l:List (Str×Tok),l.map (·.1)=ts/\us=strValues l
 | [],us,h=>by cases h;exact ⟨[],rfl,rfl⟩
 | t::ts,us,h=>by
  cases h with
  | cons r rr =>obtain ⟨tk,rfl⟩:=r;obtain ⟨l,h1,h2⟩:=Zmu rr;exact ⟨(t,tk)::l,by rw [<- h1];rfl,by rw [h2];rfl⟩
theorem Xfu :MtR X "str.join" (rJoin X.K):=by
 intro pins s σ H x vs v us Q I rx rv h;obtain ⟨sep,ts,a,rfl,rfl,hq,hz,q⟩:=h;obtain ⟨tk,rfl⟩:=rx;obtain ⟨u,rfl,ru⟩:=rv.one;cases ru;obtain ⟨its,rv2,p,_⟩:=I.list hq;obtain ⟨l,h1,h2⟩:=Zmu rv2;subst h1 h2;have hok:EG ((l.map (·.1)).toArray.foldl (·+·.length+sep.length) 0)=false:=by rw [StrLaws.joinTotal];unfold EG;simpa using hz
 refine DQ F.slot_str_join (GO _ sep tk) F.entry_str_join (F.args_str_join_2 _ _) (meets_str_join_list sep tk a l hok) ⟨p.isList,post_join l ⟨joinFit_length hok,fun t' k=>?_⟩⟩;have e:Txt.join sep (l.map (·.1))=Cv sep (l.map (·.1)):=StrLaws.glued_eq_join _ _;rw [e];exact ⟨.str _,H,I.tok _,⟨_,rfl⟩,q⟩
theorem Xdj (ha:EOk K C E Γ Δ m1 S1 ta fa)(hb:EOk K C E Γ Δ m2 S2 tb fb):EOk K C E Γ Δ 2 [] (tBM K "str" (rJoin K) ta (Ja tb Zhg)) (Dl.Xbu fa fb):=
  fun H0 Hb H σ ρ A Q I p=>ha H0 Hb H σ ρ A _ I (p.bind.imp (fun x q vx H1 g1 r1=>by
    obtain ⟨Bx,r1,_⟩:=r1;cases x with
    | str s =>
      obtain ⟨rfl,hs,_⟩:=r1;refine ⟨rfl,hb H0 Hb H1 σ ρ A _ (I.mono g1) (q.bind.imp (fun y q vy H2 g2 r2=>?_) fun c x q H' g'=>q H' (g1.trans g'))⟩;obtain ⟨d,e,q⟩:=Zfc q;obtain ⟨By,r2,_⟩:=r2;cases y with
      | lst ds =>obtain ⟨a,ys,B,rfl,e2,e3,_⟩:=r2;obtain ⟨ts,h1,h2⟩:=Bq.mp (show (Dl.strsOf ds).bind (fun ts=>if (ts.map (·.length)).sum+ts.length*s.length<=Dl.lim then some (D.str (Cv s ts)) else none)=some d from e);split at h2;rename_i hz;cases h2;obtain ⟨q1,q2⟩:=RpA.ofStrs e3 h1;subst q1;exact ⟨s,ts,a,rfl,rfl,SqL.of e2,Zce hz,q _ _ (g1.trans g2) (Res.flat ⟨rfl,Zkd hs q2,rfl⟩)⟩;cases h2
      | _=>cases e
    | _=>exact q.elim) fun c x q H' g'=>q H' g')
variable {a:Expr}{rest:List Expr}{fs:FE}
theorem Xkh (K:AE)(ho:JE X C E Γ Δ m1 S1 o ta fa)(he:JE X C E Γ Δ m2 S2 e tb fb)(hse:Ab [e] X.env=(false,AF e X.env)::Ab [] X.env)(hbase:Bt o "join" X.env (AF o X.env)=AF o X.env:=by rfl)
  (hfew:((AW cpos (Ab [e] X.env)).all (fun x=>!x.1)&&(Cq cpos (BO [] X.env)).all (fun x=>x.1.isSome)&&decide (([e]:List Expr).length+([]:List Bo).length+(if ([]:List Bo).isEmpty then 0 else 1)<30))=true:=by rfl)
  (hline:(apos.endLine==cpos.line)=true:=by rfl) (hplain:(AW cpos (Ab ([]:List Expr) X.env)).any (·.1)=false:=by rfl) (hK:X.K=K:=by rfl):JE X C E Γ Δ 2 [] (.Call (.Attribute o "join" apos) [e] [] cpos) (tBM K "str" (rJoin K) ta (Ja tb Zhg)) (Dl.Xbu fa fb):=by
 subst hK;exact ⟨Zsr PySem.F.plainAttrs_str PySem.F.slot_str_join PySem.F.type_str_join Xfu ho.q (Yy he.q Zes hse) hbase hfew hline hse hplain,Xdj ho.o he.o⟩
theorem Xgr {k1 k2:Expr}{q1 q2 q3 q4:Pos}(hi:i∈Γ:=by decide)(hN:X.N[i]?=some x:=by rfl)(hv:autoParam (Vis X.env.scope x) aT3._auto_1)(hd:(x==("__debug__":Str))=false:=by decide)(hcd:(x==("__classdict__":Str))=false:=by decide)
    (hc:X.calm=true:=by rfl) (he:JE X C E Γ Δ m1 S1 e te fe) (hk1:JE X C E Γ Δ m2 S2 k1 tk1 fk1) (hk2:JE X C E Γ Δ m3 S3 k2 tk2 fk2)
    (hn:(Aq [.Subscript (.Name x q1) k1 q2,.Subscript (.Name x q3) k2 q4] X.env).length=2:=by rfl) (hst:(Aq [.Subscript (.Name x q1) k1 q2,.Subscript (.Name x q3) k2 q4] X.env).findIdx? (·.1)=none:=by rfl)
    (hs:B7 [.Tuple [.Subscript (.Name x q1) k1 q2,.Subscript (.Name x q3) k2 q4] nn p] e pos.line X.env=pure false:=by rfl) (hw:B8 [.Tuple [.Subscript (.Name x q1) k1 q2,.Subscript (.Name x q3) k2 q4] nn p] e X.env=pure none:=by rfl)
    (h1:(Aq [.Tuple [.Subscript (.Name x q1) k1 q2,.Subscript (.Name x q3) k2 q4] nn p] X.env).map (·.2)=[Bu (.Tuple [.Subscript (.Name x q1) k1 q2,.Subscript (.Name x q3) k2 q4] nn p) X.env]:=by rfl)
    (ha1:∀v,Bu (.Subscript (.Name x q1) k1 q2) X.env v=(do
      let ov <- A5 [v] (AF (.Name x q1) X.env)
      let iv <- A5 [v,ov] (AF k1 X.env)
      CI q2
      A5 [v,ov,iv] (CV ov iv v)
      Dy [v,ov,iv] []):=by intro _;rfl)
    (ha2:∀v,Bu (.Subscript (.Name x q3) k2 q4) X.env v=(do
      let ov <- A5 [v] (AF (.Name x q3) X.env)
      let iv <- A5 [v,ov] (AF k2 X.env)
      CI q4
      A5 [v,ov,iv] (CV ov iv v)
      Dy [v,ov,iv] []):=by intro _;rfl)
    (hc1:(Aq [.Subscript (.Name x q1) k1 q2,.Subscript (.Name x q3) k2 q4] X.env).map (·.2)=Bu (.Subscript (.Name x q1) k1 q2) X.env::(Aq [.Subscript (.Name x q3) k2 q4] X.env).map (·.2):=by rfl)
    (hc2:(Aq [.Subscript (.Name x q3) k2 q4] X.env).map (·.2)=Bu (.Subscript (.Name x q3) k2 q4) X.env::(Aq ([]:List Expr) X.env).map (·.2):=by rfl) :
    JS X C E mr Γl Δl Γ Δ Γ Δ (.Assign [.Tuple [.Subscript (.Name x q1) k1 q2,.Subscript (.Name x q3) k2 q4] nn p] e pos) (Zfs te (Zcf X.K 2 (Zem (Zbg (Zcr i) tk1 Zfe) (Zem (Zbg (Zcr i) tk2 Zfe) Zuj)))) (Dl.Zye i fk1 fk2 fe):=
  ⟨Zjl he.q (Znt hc (Zcy (Zgq (qv i hN hv hd hcd) hk1.q set_list ha1) (Zcy (Zgq (qv i hN hv hd hcd) hk2.q set_list ha2) Zji hc2) hc1) hn hst) hs hw h1,Xad hi he.o hk1.o hk2.o⟩
end
theorem Inv.turnTup {p:Addr}(I:Inv X pins σ H s)(k:∀b o,b∉ch->s.heap.get? b=some o->h'.get? b=some o)(hf:∀b∈ch,Zty X pins H b)
  (hp:s.heap.objs.size<=p) (hz:xs.length<=Ak) (hv:Yw xs its) (ho:IsTup h' p its.toArray):Inv X pins σ (upd H p (.tup xs)) {s with heap:=h',toks:=t'}:=by
 have hn:H p=none:=I.hok.fresh hp;have nch:∀b u,H b=some u->b∉ch:=fun b u e z=>by rw [(hf b z).1] at e;cases e
 refine I.step (g':=s.gens) (d':=s.drawn) (ch:=ch) (fun b hb=>⟨(hf b hb).2.2.2.1,(hf b hb).2.1,(hf b hb).2.2.2.2.1,(hf b hb).2.2.2.2.2⟩) (fun b o _ _ hc e _=>k b o hc e) (fun b o _ _ hc e _=>⟨o.slots,k b o hc e⟩) (fun b o _ e n=>?_)
  (fun b o hc e=>⟨o,k b o hc e⟩) (fun b ys e=>by rw [Xs (Xq e hn)];exact e) (fun b o u e=>by rw [Xs (Xq e hn)];exact e) (fun b p n e=>by rw [Xs (Xq e hn)];exact e) (fun m hm=>?_) (fun b u e=>?_) I.bare
 rw [Xs];exact n;exact A8 (Ar (AN e) hp);obtain ⟨o,es,ep,ho,r⟩:=hm;exact ⟨o,es,ep,k _ o (fun z=>(hf _ z).2.1 rfl) ho,r⟩;by_cases hb:b=p;subst hb;rw [Ye] at e;cases e;exact ⟨hz,its,hv,ho⟩;rw [Xs hb] at e;refine (I.hok b u e).stay (fun c v hc q=>k c v ?_ q) (fun c q=>by rw [Xs (Xq q hn)];exact q) (fun c ys q=>by rw [Xs (Xq q hn)];exact q) fun c ob u q=>by rw [Xs (Xq q hn)];exact q
 rcases hc with z | z;rw [z];exact nch b u e;exact nch c _ z
theorem Inv.turneds (I:Inv X pins σ H s)(k:∀b o,b∉ch->s.heap.get? b=some o->h'.get? b=some o)(hf:∀b∈ch,Zty X pins H b):Inv X pins σ H {s with heap:=h',toks:=t'}:=by
 have nch:∀b u,H b=some u->b∉ch:=fun b u e z=>by rw [(hf b z).1] at e;cases e
 refine I.step (g':=s.gens) (d':=s.drawn) (ch:=ch) (fun b hb=>⟨(hf b hb).2.2.2.1,(hf b hb).2.1,(hf b hb).2.2.2.2.1,(hf b hb).2.2.2.2.2⟩) (fun b o _ _ hc e _=>k b o hc e) (fun b o _ _ hc e _=>⟨o.slots,k b o hc e⟩) (fun _ _ _ _ n=>n)
  (fun b o hc e=>⟨o,k b o hc e⟩) (fun _ _ e=>e) (fun _ _ _ e=>e) (fun _ _ _ e=>e) (fun m hm=>?_) (fun b u e=>?_) I.bare
 obtain ⟨o,es,ep,ho,r⟩:=hm;exact ⟨o,es,ep,k _ o (fun z=>(hf _ z).2.1 rfl) ho,r⟩;refine (I.hok b u e).stay (fun c v hc q=>k c v ?_ q) (fun _ q=>q) (fun _ _ q=>q) fun _ _ _ q=>q;rcases hc with z | z;rw [z];exact nch b u e;exact nch c _ z
def Itz (K:AE)(a b:Addr):It:=
  ⟨fun i H=>∃xs ys x y,SqL K H a xs/\SqL K H b ys/\xs[i]?=some x/\ys[i]?=some y,
   fun i H v H'=>∃p,v=.ref p/\H p=none/\∀xs ys,SqL K H a xs->SqL K H b ys->∃x y,xs[i]?=some x/\ys[i]?=some y/\H'=upd H p (.tup [x,y]),
   fun i H=>∃xs ys,SqL K H a xs/\SqL K H b ys/\(xs.length<=i\/ys.length<=i)⟩
theorem Xdl {x y:V}{u v:Value}(h1:RelV x u)(h2:RelV y v):Yw [x,y] [u,v]:=.cons h1 (.cons h2 .nil)
theorem Xcw {P:Aw}{b z TI TO i1 i2:Addr}(Dd:ZipApart z TI TO i1 i2 a b) :
    Turn P w K (.Tuple elts x1 pos) (Itz K a b) [z,TI,TO,i1,i2] z (fun i h=>IsZip h z TI TO .none/\IsPair h TI (.ref i1) (.ref i2)/\(∃u v,IsPair h TO u v)/\h.IsListIter i1 a i/\h.IsListIter i2 b i) where
  mem:=by simp
  obj:=fun i h st c hc=>by obtain ⟨h1,h2,⟨u,v,h3⟩,⟨o4,e4,_,d4⟩,⟨o5,e5,_,d5⟩⟩:=st;simp only [Aj,BA,or_false] at hc;rcases hc with rfl | rfl | rfl | rfl | rfl;exact ⟨_,h1,fun v z=>by cases z⟩;exact ⟨_,h2,fun v z=>by cases z⟩;exact ⟨_,h3,fun v z=>by cases z⟩;exact ⟨_,e4,fun v z=>by rw [d4] at z;cases z⟩;exact ⟨_,e5,fun v z=>by rw [d5] at z;cases z⟩
  keep:=fun i h h' st k=>by obtain ⟨h1,h2,⟨u,v,h3⟩,h4,h5⟩:=st;exact ⟨k z (by simp) _ h1,k TI (by simp) _ h2,⟨u,v,k TO (by simp) _ h3⟩,h4.at fun o e=>k i1 (by simp) o e,h5.at fun o e=>k i2 (by simp) o e⟩
  item:=by
    intro X hP hw hK hc i pins s σ H E I hf st hg;subst hP hw hK;obtain ⟨xs,ys,x,y,hq1,hq2,hx,hy⟩:=hg;obtain ⟨h1,h2,⟨u0,v0,h3⟩,h4,h5⟩:=st;obtain ⟨its1,rv1,p1,hz1⟩:=I.list hq1;obtain ⟨its2,rv2,p2,hz2⟩:=I.list hq2;obtain ⟨u,hu,ru⟩:=rv1.get hx;obtain ⟨v,hv,rv⟩:=rv2.get hy;refine wpAny_pyNext_zip_item Dd h1 h2 h3 h4 h5 p1.isList p2.isList (x:=u) (y:=v) (by simpa using hu) (by simpa using hv) fun h' a1 a2 a3 a4 a5 a6 a7=>?_;refine ⟨_,rfl,wpAny_letOwnedTupleGo_zip a1 fun h'' b1 b2=>?_⟩;have hne:s.heap.objs.size≠z:=fun e=>absurd (AN h1) (by rw [<- e];exact Bg _);have ht:IsPair h'' s.heap.objs.size u v:=b2.extBut _ _ hne a5;have I2:=I.turnTup (t':=s.toks) (h':=h'') (ch:=[z,TO,i1,i2]) (p:=s.heap.objs.size) (xs:=[x,y]) (its:=[u,v]) (fun c o hc e=>by
        simp only [Aj,BA,or_false,not_or] at hc;exact b2.extBut _ _ hc.1 (a7 c o hc.1 hc.2.1 hc.2.2.1 hc.2.2.2 e)) (fun c hc=>hf c (by
        simp only [Aj,BA,or_false] at hc ⊢;rcases hc with h | h | h | h<;>simp [h])) (AI _) (by show 2<=Ak;decide) (Xdl ru rv) ⟨_,ht,rfl,_,rfl⟩
    refine ⟨.ref s.heap.objs.size,_,I2,rfl,⟨_,rfl,I.hok.fresh (AI _),fun xs' ys' e1 e2=>⟨x,y,by rw [I.list_inj e1 hq1];exact hx,by rw [I.list_inj e2 hq2];exact hy,rfl⟩⟩,⟨b1,?_,⟨u,v,b2.extBut _ _ Dd.TOz a2⟩,a3.extBut b2.extBut Dd.i1z,a4.extBut b2.extBut Dd.i2z⟩,fun c hc=>?_⟩;exact b2.extBut _ _ Dd.TIz (a7 _ _ Dd.TIz Dd.TITO Dd.TIi1 Dd.TIi2 h2);rw [Xs];exact (hf c hc).1;rintro rfl;have:∃o,s.heap.get? s.heap.objs.size=some o:=by simp only [Aj,BA,or_false] at hc;rcases hc with e | e | e | e | e;exact ⟨_,by rw [e];exact h1⟩;exact ⟨_,by rw [e];exact h2⟩;exact ⟨_,by rw [e];exact h3⟩;obtain ⟨o,q,_⟩:=h4;exact ⟨o,by rw [e];exact q⟩;obtain ⟨o,q,_⟩:=h5;exact ⟨o,by rw [e];exact q⟩
    obtain ⟨o,q⟩:=this;exact absurd (AN q) (Bg _)
  done:=by
    intro X hP hw hK hc i pins s σ H E I hf st hg;subst hP hw hK;obtain ⟨xs,ys,hq1,hq2,hl⟩:=hg;obtain ⟨h1,h2,⟨u0,v0,h3⟩,h4,h5⟩:=st;obtain ⟨its1,rv1,p1,hz1⟩:=I.list hq1;obtain ⟨its2,rv2,p2,hz2⟩:=I.list hq2;have l1:=rv1.length;have l2:=rv2.length;refine wpAny_pyNext_zip_end (I.ok.hd hc) Dd h1 h2 h3 h4 h5 p1.isList p2.isList ?_ fun h' k=>⟨rfl,I.turneds (t':=s.toks) (ch:=[z,TO,i1,i2]) (fun c o hc e=>by
        simp only [Aj,BA,or_false,not_or] at hc;exact k c o hc.1 hc.2.1 hc.2.2.1 hc.2.2.2 e) (fun c hc=>hf c (by
        simp only [Aj,BA,or_false] at hc ⊢;rcases hc with h | h | h | h<;>simp [h]))⟩
    rcases hl with hl | hl;exact .inl (by simp;omega);exact .inr (by simp;omega)
  self:=fun _ _ _ _ _ st h=>Hj st.1 h
section
variable {a:Expr}
def iZip (K:AE)(ta tb:TE):TI:=fun σ H R=>Ja ta (Ja tb Zhg) σ H fun vs H1=>∃p q,vs=[.ref p,.ref q]/\(∃xs,SqL K H1 p xs)/\(∃ys,SqL K H1 q ys)/\R (Itz K p q) H1
theorem SqL.lt {p:Addr}(I:Inv X pins σ H s)(h:SqL X.K H p xs):p<s.heap.objs.size:=by obtain ⟨its,_,⟨o,n,e,_⟩,_⟩:=I.list h;exact AN e
theorem Xmx (hg:Gl X "zip")(hm:X.mg "zip"=none)(ha:PE X a ta)(hb:PE X b tb)(hs:Ab [a,b] X.env=(false,AF a X.env)::Ab [b] X.env)(hs2:Ab [b] X.env=(false,AF b X.env)::Ab [] X.env)(hs3:Ab ([]:List Expr) X.env=[]:=by rfl) :
  PI X (.Tuple elts x1 tpos) (.Call (.Name "zip" p) [a,b] [] pos) (iZip X.K ta tb):=by
 intro pins s σ H R I h;refine Call_ (Zns I hg hm boot_zip (CA (thn (Zqc ha (Zqc hb Xeh hs2) hs pos pins s σ H _ I h) fun us s1 ⟨vs,H1,I1,r1,q1⟩=>?_) (by rw [hs,hs2]) (by rw [hs2,hs3];rfl)));obtain ⟨l1,l2,rfl,⟨xs,hq1⟩,⟨ys,hq2⟩,q⟩:=q1;obtain ⟨u,v,rfl,rx,ry⟩:=vals2 r1;cases rx;cases ry;obtain ⟨its1,rv1,p1,hz1⟩:=I1.list hq1;obtain ⟨its2,rv2,p2,hz2⟩:=I1.list hq2;have lt1:@LT.lt Nat _ l1 s1.heap.objs.size:=SqL.lt I1 hq1;have lt2:@LT.lt Nat _ l2 s1.heap.objs.size:=SqL.lt I1 hq2;refine call_zip_2 p1.isList p2.isList fun h' z1 z2 z3 z4 z5 z6 z7=>?_;refine Hj z1 ?_;have I2:Inv X pins σ H1 {s1 with heap:=h'}:=I1.kept (t':=s1.toks) z7;refine ⟨_,[s1.heap.objs.size+4,s1.heap.objs.size+2,s1.heap.objs.size+3,s1.heap.objs.size,s1.heap.objs.size+1],_,_,H1,rfl,I2,Xcw (a:=l1) (b:=l2) ?_,⟨z1,z2,⟨_,_,z3⟩,z4,z5⟩,fun c hc=>?_,q⟩;constructor<;>first | exact A8 (by omega) | exact Ff (by omega)
 have hc':s1.heap.objs.size<=c:=by simp only [Aj,BA,or_false] at hc;rcases hc with rfl | rfl | rfl | rfl | rfl<;>first | exact AI _ | exact Di _ _
 exact I1.fpOk hc' (I1.hok.fresh hc')
end
section
variable {S:List (Nat×Bool)}
theorem RpA.two {e:D}{w:V}{A:List Addr}(r:Rp K C H d v A)(q:Rp K C H e w B):RpA K C H [d,e] [v,w] (A++B):=(RpA.one r).app (RpA.one q)
theorem Xct {b:Addr}{es:List D}{ws:List V}(r:RpA K C Hc ds vs B1)(r':RpA K C Hc es ws B2)(h:∀H2,Xk Hc H2->SqL K H2 a vs/\SqL K H2 b ws):Goes K C (Itz K a b) (Dl.Zxb ds es) Hc:=fun H2 g=>by
 obtain ⟨qa,qb⟩:=h H2 g;have hl:=r.len;have hl':=r'.len;have he:(Dl.Zxb ds es).length=min ds.length es.length:=by simp [Dl.Zxb]
 refine ⟨fun i hi=>⟨vs,ws,vs[i]'(by omega),ws[i]'(by omega),qa,qb,Al (by omega),Al (by omega)⟩,fun i hi=>⟨vs,ws,qa,qb,by omega⟩,fun i x H3 hi y=>?_⟩;obtain ⟨p,rfl,hp,yy⟩:=y;obtain ⟨x,y,hx,hy,rfl⟩:=yy vs ws qa qb;obtain ⟨d,Bd,q1,q2,q3⟩:=r.get' hx;obtain ⟨e,Be,p1,p2,p3⟩:=r'.get' hy;have sm:=sameNew hp (.tup [x,y]);refine ⟨sm,.tup [d,e],Bd++Be,by simp [Dl.Zxb,List.getElem?_zipWith,q1,p1],⟨p,[x,y],rfl,Ye,RpA.two ((q2.same g).same sm) ((p2.same g).same sm)⟩,fun a ha z=>?_⟩;rcases Ad.mp ha with ha | ha;obtain ⟨xs,e,_⟩:=q2.isl a ha;rw [e] at z;cases z;obtain ⟨xs,e,_⟩:=p2.isl a ha;rw [e] at z;cases z
theorem Xhb {t u:TE}{f f':FE}(h:EOk K C E Γ Δ m1 S1 t f)(h':EOk K C E Γ Δ m2 S2 u f'):IOk K C E Γ Δ (S1++S2) (iZip K t u) (Dl.Ztz f f'):=fun H0 Hb H σ ρ A Rr I p=>h H0 Hb H σ ρ A _ I (p.bind.imp (fun d q v H1 g1 r=>h' H0 Hb H1 σ ρ A _ (I.mono g1) (q.bind.imp (fun e q w H2 g2 r2=>by
  obtain ⟨B,r,r',_⟩:=r;obtain ⟨B2,r2,r2',_⟩:=r2;cases d with
  | lst ds =>
    cases e with
    | lst es =>
      obtain ⟨a,xs,B',rfl,e2,e3,e4⟩:=r;obtain ⟨b,ys,B2',rfl,f2,f3,f4⟩:=r2;subst e4 f4;simp only at q;split at q
      · rename_i hl;refine ⟨a,b,rfl,⟨xs,SqL.of (g2 _ _ e2)⟩,⟨ys,SqL.of f2⟩,q _ H2 (a::B'++b::B2') (g1.trans g2) (fun c hc=>?_) (by simp only [Dl.Zxb,DU];omega) fun Hc h1=>Xct ((e3.same g2).agree h1 fun b hb=>As _ (.tail _ hb)) (f3.agree h1 fun b hb=>Ai _ (.tail _ hb)) fun H2' g2' =>
          ⟨SqL.of (g2' _ _ ((h1.1 a (As _ (.head _))).trans (g2 _ _ e2))),SqL.of (g2' _ _ ((h1.1 b (Ai _ (.head _))).trans f2))⟩⟩
        rcases Ad.mp hc with z | z;refine ⟨?_,(r' c z).imp id (·.left)⟩;rcases Aj.mp z with z | z;rw [z];exact ⟨_,g2 _ _ e2,.lst⟩;obtain ⟨zs,q,hm⟩:=e3.isl c z;exact ⟨zs,g2 _ _ q,hm⟩;refine ⟨?_,(r2' c z).imp (fun q=>g1.free q) (·.right)⟩;rcases Aj.mp z with z | z;rw [z];exact ⟨_,f2,.lst⟩;exact f3.isl c z
      exact q.elim
    | _=>exact q.elim
  | _=>cases e<;>exact q.elim) fun c x q H' g'=>q H' (g1.trans g'))) fun c x q H' g'=>q H' g')
variable {a:Expr}
theorem Znl (hg:Gl X "zip")(hm:X.mg "zip"=none)(ha:JE X C E Γ Δ m1 S1 a ta fa)(hb:JE X C E Γ Δ m2 S2 b tb fb)(hs:Ab [a,b] X.env=(false,AF a X.env)::Ab [b] X.env)(hs2:Ab [b] X.env=(false,AF b X.env)::Ab [] X.env) :
  JI X C E Γ Δ (S1++S2) (.Tuple elts x1 tpos) (.Call (.Name "zip" p) [a,b] [] pos) (iZip X.K ta tb) (Dl.Ztz fa fb):=⟨⟨Xmx hg hm ha.q.out hb.q.out hs hs2⟩,Xhb ha.o hb.o⟩
end
section
def Xmn:List V->Hp->VK->Prop:=fun vs H Q=>∃b,vs=[.bl b]/\Q (.int (if b=true then 1 else 0)) H
theorem Zmh:Zar X (.type "int") Xmn:=by intro pins s σ H xs us Q I r h;obtain ⟨b,rfl,q⟩:=h;obtain ⟨u,rfl,rx⟩:=vals1 r;cases rx;exact call_int_bool ⟨.int (if b=true then 1 else 0),H,I.tok _,⟨_,rfl⟩,q⟩
variable {S:List (Nat×Bool)}
theorem Zzc:GAk K C Xmn Dl.Xjy:=by intro H xs d vs Bx Q r e q;unfold Dl.Xjy at e;split at e;rename_i b;cases e;obtain ⟨v,rfl,r1⟩:=r.one';obtain ⟨rfl,_⟩:=r1;exact ⟨b,rfl,Out.flat q rpI⟩;cases e
variable {S:List (Nat×Bool)}{a:Expr}{rest:List Expr}{fs:FE}{bpos:Pos}
end
section
variable {kp:Pos}{k:Nat}
variable {S:List (Nat×Bool)}
end
section
variable {S:List (Nat×Bool)}{a:Expr}{rest:List Expr}{fs:FE}{kp:Pos}{k:Nat}
variable {u:TS}{g:FS}
end
section
variable {a:Expr}{pt2:Pos}{k k2:Nat}
variable {S:List (Nat×Bool)}
end
section
variable {S:List (Nat×Bool)}{a lx:Expr}{rest:List Expr}{tl:TE}{fs fl:FE}
variable {A:AR}{E:Value->Ac->Prop}
variable {k:Nat}
end
theorem Zoi (val:Nat->Int):∀k j,j<=k->val (EB (fun i j=>decide (val i<val j)) k)<=val j
 | 0,j,h=>by
  have e:j=0:=by omega
  subst e;exact Fy _
 | k+1,j,h=>by have ih:=Zoi val k;rw [EB];by_cases c:val (k+1)<val (EB (fun i j=>decide (val i<val j)) k);rw [if_pos (by simpa using c)];by_cases e:j=k+1;subst e;exact Fy _;have:=ih j (by omega);omega;rw [if_neg (by simpa using c)];by_cases e:j=k+1;subst e;omega;exact ih j (by omega)
theorem Zxp (h:ns≠[]):Dl.Xed ns∈ns/\∀n∈ns,Dl.Xed ns<=n:=by
 cases ns with
 | nil=>exact absurd rfl h
 | cons x r =>
  show r.foldl min x∈_/\_;have key:∀(r:List Int) (x:Int),r.foldl min x∈x::r/\∀n∈x::r,r.foldl min x<=n:=by
   intro r
   induction r with
   | nil=>intro x;exact ⟨.head _,fun n hn=>by rw [An.mp hn];exact Fy _⟩
   | cons y r ih =>intro x;obtain ⟨h1,h2⟩:=ih (min x y);refine ⟨?_,fun n hn=>?_⟩;rcases Aj.mp h1 with e | e;rw [Er,e];by_cases c:x<=y;rw [Int.min_eq_left c];exact .head _;rw [Int.min_eq_right (by omega)];exact .tail _ (.head _);exact .tail _ (.tail _ e);have h3:=h2 (min x y) (.head _);rw [Er];rcases Aj.mp hn with rfl | hn;omega;rcases Aj.mp hn with rfl | hn;omega;exact h2 n (.tail _ hn)
  exact key r x
def Xpq (K:AE):List V->Hp->VK->Prop:=fun xs H Q=>∃p ns,xs=[.ref p]/\SqL K H p (ns.map V.int)/\ns≠[]/\∀m,m∈ns->(∀n∈ns,m<=n)->Q (.int m) H
def Xhn (K:AE):List V->Hp->VK->Prop:=fun xs H Q=>Zwa xs H Q\/Xpq K xs H Q
theorem Zxq (hc:X.calm=true):Zar X (.builtin "min") (Xpq X.K):=by
 intro pins s σ H xs us Q I r h;obtain ⟨p,ns,rfl,hq,hne,q⟩:=h;obtain ⟨u,rfl,rx⟩:=vals1 r;cases rx;obtain ⟨its,rv,pl,hz⟩:=I.list hq;have hi:Ed its ns:=intsAre_of rv;obtain ⟨xs,hxs⟩:=hi.allInts.items;have hn:numsOf its.toArray.toList=ns:=by rw [show its.toArray.toList=its from rfl,hi.numsOf]
 have hl:=pl.isList;rw [hxs] at hl hn;rw [Ib] at hn;have hsz:xs.size=ns.length:=by rw [<- hn];simp
 have h0:0<ns.length:=CS.mpr hne;have val:∀i (hi:i<ns.length),EQ xs i=ns[i]:=fun i hi=>by
  have:i<xs.size:=by omega
  subst hn;simp [EQ,this]
 refine min_intList (I.ok.hd hc) hl (by omega) fun v h' tk hv hk=>?_;obtain ⟨tk',rfl⟩:=intItems_at hv;have hlt:EB (fun i j=>decide (EQ xs i<EQ xs j)) (xs.size - 1)<ns.length:=by have:=Zxd (fun i j=>decide (EQ xs i<EQ xs j)) (xs.size - 1);omega
 refine ⟨.int (EQ xs (EB (fun i j=>decide (EQ xs i<EQ xs j)) (xs.size - 1))),H,I.kept hk,⟨tk',rfl⟩,q _ (by rw [val _ hlt];exact BC hlt) fun n hn'=>?_⟩;obtain ⟨j,hj,e⟩:=DK.mp hn';have q1:=Zoi (EQ xs) (xs.size - 1) j (by omega);rw [val j hj,e] at q1;exact q1
theorem Zyd (hc:X.calm=true):Zar X (.builtin "min") (Xhn X.K):=(Zib hc).or (Zxq hc)
theorem Xbo:GAk K C (Xhn K) Dl.Xax:=by intro H xs d vs B Q r e q;unfold Dl.Xax at e;split at e;cases e;obtain ⟨v,w,B,B',rfl,r1,r2⟩:=r.two';obtain ⟨rfl,_⟩:=r1;obtain ⟨rfl,_⟩:=r2;exact .inl ⟨_,_,rfl,Out.flat q rpI⟩;obtain ⟨ns,h1,h2⟩:=Bq.mp e;split at h2;cases h2;rename_i hne;cases h2;obtain ⟨v,rfl,r1⟩:=r.one';obtain ⟨a,ys,B,rfl,e2,e3,_⟩:=r1;have h:=e3.ofInts h1;subst h;obtain ⟨s1,s2⟩:=Zxp hne;refine .inr ⟨a,ns,rfl,SqL.of e2,hne,fun mm h1 h2=>?_⟩;rw [show mm=Dl.Xed ns from Int.le_antisymm (h2 _ s1) (s2 mm h1)];exact Out.flat q rpI;cases e
open Dl (FM FMT)
section
variable {S:List (Nat×Bool)}
def spM (K:AE)(C:String->Addr)(n:Nat)(G:List D->R (D×D)):Sp:=fun vs H Q E=>∃d0 ds v0 vs' A0 B,vs=v0::vs'/\ds.length=n/\Rp K C H d0 v0 A0/\A0.Nodup/\RpA K C H ds vs' B/\(∀a∈B,a∉A0)/\
 Zz (G (d0::ds)) (fun p=>∀v H' A1 Br,(∀b o,b∉A0->H b=some o->H' b=some o)->Rp K C H' p.2 v0 A1->A1.Nodup->(∀a∈A1,a∈A0\/H a=none)->Rp K C H' p.1 v Br->Br.Nodup->(∀a∈Br,(a∈A0\/H a=none)/\a∉A1)->Q v H')
  (fun c x=>∀H',(∀b o,b∉A0->H b=some o->H' b=some o)->EC C E c x H')
theorem Zq.deepTo (I:Zq K C H0 Hb H Γ Δ σ ρ A)(hi:i∈Δ)(hl:i<ρ.length)(hs:σ[i]?=some (some v))
  (hk:∀c o,c∉A i->H c=some o->H' c=some o) (r:Rp K C H' d' v A') (nd:A'.Nodup) (hA:∀a∈A',a∈A i\/(Hb a=Da/\∀j,a∉A j)) :
  Zq K C H0 Hb H' Γ Δ σ (ρ.set i (some d')) (fun j=>if j=i then A' else A j):=by
 obtain ⟨d1,d2,d3⟩:=I.deep i hi;have hA2:∀a∈A',Hb a=Da/\∀j,j≠i->a∉A j:=fun a ha=>(hA a ha).elim (fun z=>⟨d3 a z,fun j hj=>d2 j hj a z⟩) fun z=>⟨z.1,fun j _=>z.2 j⟩;have ext:Ext (fun c=>c∈A i) H H':=fun c o h=>by by_cases e:c∈A i;obtain ⟨o',ho,hm⟩:=I.is e;rw [ho] at h;cases h;exact .inr ⟨e,hm⟩;exact .inl (hk c o e h)
 refine ⟨I.s0,fun c o h=>?_,by rw [Bw,I.len],fun j e h=>?_,fun j h=>?_,fun j hj c hc=>?_,fun j hj c l' e=>?_,fun j hj=>?_⟩;exact hk c o (fun z=>by rw [d3 c z] at h;cases h) (I.same c o h);rcases get_set h with ⟨e1,_,e2⟩ | ⟨e1,e2⟩;subst e1;cases e2;exact ⟨v,hs,by rw [if_pos rfl];exact r⟩;obtain ⟨w,q1,q2⟩:=I.rep j e e2;refine ⟨w,q1,?_⟩;rw [if_neg e1];exact q2.ext ext fun c hc z=>d2 j e1 c z hc;by_cases e:j=i;subst e;exact absurd (BV hl) (h d');rw [if_neg e];exact I.nil j fun x hx=>h x (by rw [Bc (fun z=>e z.symm)];exact hx);by_cases e:j=i;subst e;rw [if_pos rfl] at hc;exact I.s0.free (hA2 c hc).1;rw [if_neg e] at hc;exact I.loc j hj c hc;by_cases e':j=i;subst e';rw [if_pos rfl] at e;subst e;refine ⟨(hA2 c (.head _)).1,(Ap.mp nd).1,fun k hk=>?_⟩;rw [if_neg hk];exact (hA2 c (.head _)).2 k hk;rw [if_neg e'] at e;obtain ⟨q1,q2,q3⟩:=I.top j hj c l' e;refine ⟨q1,q2,fun k hk=>?_⟩;by_cases e2:k=i;subst e2;rw [if_pos rfl];exact fun z=>(hA2 c z).2 j e' (by rw [e];exact .head _);rw [if_neg e2];exact q3 k hk;by_cases e:j=i;subst e;rw [if_pos rfl];refine ⟨nd,fun k hk a ha=>?_,fun a ha=>(hA2 a ha).1⟩;rw [if_neg hk];exact (hA2 a ha).2 k hk;rw [if_neg e];obtain ⟨q1,q2,q3⟩:=I.deep j hj;refine ⟨q1,fun k hk a ha=>?_,q3⟩;by_cases e2:k=i;subst e2;rw [if_pos rfl];exact fun z=>(hA2 a z).2 j e ha;rw [if_neg e2];exact q2 k hk a ha
def MOk (K:AE)(C:String->Addr)(E:XK)(Γ Δ:List Nat)(t:TE)(f:FM):Prop:=∀(H0 Hb H:Hp) (σ:St) (ρ:Yb) (A:Nat->List Addr) (Q:VK),Zq K C H0 Hb H Γ Δ σ ρ A->
 Zz (f ρ) (fun p=>∀v H' A' B,Zq K C H0 Hb H' Γ Δ σ p.2 A'->Rp K C H' p.1 v B->B.Nodup->(∀a∈B,Hb a=none/\∀j,a∉A' j)->Q v H') (fun c x=>∀H',Xk H0 H'->EC C E c x H')->t σ H Q
def MTOk (K:AE)(C:String->Addr)(E:XK)(Γ Δ:List Nat)(t:TT)(f:FMT):Prop:=∀(H0 Hb H:Hp) (σ:St) (ρ:Yb) (A:Nat->List Addr) (Q:Bool->Hp->Prop),Zq K C H0 Hb H Γ Δ σ ρ A->
 Zz (f ρ) (fun p=>∀H' A',Zq K C H0 Hb H' Γ Δ σ p.2 A'->Q p.1 H') (fun c x=>∀H',Xk H0 H'->EC C E c x H')->t σ H Q
theorem Xbz (h:MOk K C E Γ Δ te fm)(h1:∀j∈Γ',j=i\/j∈Γ:=by decide)(h2:∀j∈Δ',j=i\/j∈Δ:=by decide):SOk K C E mr Γl Δl Γ Δ Γ' Δ' (Zfs te (Zac i)) (Dl.Zuy i fm):=fun H0 Hb H σ ρ A D I p =>
  h H0 Hb H σ ρ A _ I (Zz.imp (Zz.bind p) (fun q pq v H1 A1 B I1 r nd hB=>by
    obtain ⟨A',I',_⟩:=I1.put (Γ':=Γ') (Δ':=Δ') (i:=i) r (fun j hj e=>⟨(h1 j hj).elim (fun z=>absurd z e) id,fun a l e' ha=>(hB a ha).2 j (by rw [e'];exact .head _)⟩)
      (fun _=>⟨fun a ha=>I1.s0.free (hB a ha).1,fun a l e=>by subst e;exact ⟨(hB a (.head _)).1,(Ap.mp nd).1,fun j _=>(hB a (.head _)).2 j⟩⟩)
      (fun j hj e=>⟨(h2 j hj).elim (fun z=>absurd z e) id,fun a ha hb=>(hB a hb).2 j ha⟩)
      (fun _=>⟨nd,fun j _ a ha=>(hB a ha).2 j,fun a ha=>(hB a ha).1⟩)
    exact pq _ H1 A' I') fun c x q=>q)
theorem RpA.setV:∀{ds:List D} {vs:List V} {B:List Addr} {j:Nat} {d:D} {v:V} {Bd:List Addr},RpA K C H ds vs B->j<ds.length->Rp K C H d v Bd->∃B1 Bj B2,B=B1++(Bj++B2)/\RpA K C H (ds.set j d) (vs.set j v) (B1++(Bd++B2))
 | [],_,_,_,_,_,_,_,h,_=>by simp at h
 | d0::ds,_,_,0,d,v,Bd,r,_,q=>by obtain ⟨x,l,B,B',e1,e2,e3,e4⟩:=r;subst e1 e4;exact ⟨[],B,B',rfl,v,l,Bd,B',rfl,q,e3,rfl⟩
 | d0::ds,_,_,j+1,d,v,Bd,r,h,q=>by obtain ⟨x,l,B,B',e1,e2,e3,e4⟩:=r;subst e1 e4;obtain ⟨B1,Bj,B2,rfl,r2⟩:=RpA.setV (j:=j) e3 (by simpa using h) q;exact ⟨B++B1,Bj,B2,by simp,x,l.set j v,B,_,rfl,e2,r2,by simp⟩
theorem Zue {Bj:List Addr}(h:(B1++(Bj++B2)).Nodup)(nd:B.Nodup)(hd:∀a∈B,a∉B1/\a∉B2):(B1++(B++B2)).Nodup:=by obtain ⟨h1,h2,h3⟩:=AO.mp h;obtain ⟨h4,h5,h6⟩:=AO.mp h2;refine AO.mpr ⟨h1,AO.mpr ⟨nd,h5,fun a ha b hb e=>(hd a ha).2 (by rw [e];exact hb)⟩,fun a ha b hb e=>?_⟩;subst e;rcases Ad.mp hb with z | z;exact (hd a z).1 ha;exact h3 a ha a (Ai _ z) rfl
def Znc (K:AE)(C:String->Addr)(E:XK)(Γ Δ Γ' Δ':List Nat)(t:TS)(f:FS):Prop:=∀(H0 Hb H:Hp) (σ:St) (ρ:Yb) (A:Nat->List Addr) (D:Ends),Zq K C H0 Hb H Γ Δ σ ρ A->
  Zz (f ρ) (fun fl=>match fl with
    | .nx ρ'=>∀σ' H' A',σ'[0]?=σ[0]?->Zq K C H0 Hb H' Γ' Δ' σ' ρ' A'->D.nx σ' H'
    | _=>False) (fun c x=>∀H',Xk H0 H'->EC C E c x H')->t D σ H
theorem Zwe (he:EOk K C E Γ Δ 2 [] te fe)(h0:i≠0:=by decide)(h1:∀j∈Γ',j=i\/j∈Γ:=by decide)(h2:∀j∈Δ',j=i\/j∈Δ:=by decide):Znc K C E Γ Δ Γ' Δ' (Zfs te (Zac i)) (Dl.Ya i fe):=fun H0 Hb H σ ρ A D I p =>
  he H0 Hb H σ ρ A _ I (Zz.imp (Zz.bind p) (fun d q v H1 g1 r=>by
    obtain ⟨B,r1,r2,r3,r4⟩:=r;have hn:∀a∈B,H a=none:=fun a ha=>(r2 a ha).elim id fun z=>z.none.elim;have nd:=r4 rfl;obtain ⟨A',I',_⟩:=(I.mono g1).put (Γ':=Γ') (Δ':=Δ') (i:=i) r1 (fun j hj e=>⟨(h1 j hj).elim (fun z=>absurd z e) id,fun a l e' ha=>I.ne (j:=j) (by rw [e'];exact .head _) (hn a ha)⟩)
      (fun _=>⟨fun a ha=>I.s0.free (I.same.free (hn a ha)),fun a l e=>by subst e;exact ⟨I.same.free (hn a (.head _)),(Ap.mp nd).1,fun j _ h=>I.ne h (hn a (.head _))⟩⟩)
      (fun j hj e=>⟨(h2 j hj).elim (fun z=>absurd z e) id,fun a ha hB=>I.ne ha (hn a hB)⟩)
      (fun _=>⟨nd,fun j _ a ha h=>I.ne h (hn a ha),fun a ha=>I.same.free (hn a ha)⟩)
    exact q _ H1 A' (Bc h0) I') fun c x q H' g'=>q H' (Xk.from0 I g'))
def Xow (K:AE)(C:String->Addr)(E:XK)(Γ Δ:List Nat)(t:TS)(G:FM):Prop:=∀(H0 Hb H:Hp) (σ:St) (ρ:Yb) (A:Nat->List Addr) (D:Ends) (Q:VK),Zq K C H0 Hb H Γ Δ σ ρ A->D.rt=Q->(D.nx=fun _ H'=>Q .non H')->
 Zz (G ρ) (fun p=>∀v H' σ' A' B,σ'[0]?=σ[0]?->Zq K C H0 Hb H' [0] [0] σ' p.2 A'->Rp K C H' p.1 v B->B.Nodup->(∀a∈B,Hb a=none/\∀j,a∉A' j)->Q v H') (fun c x=>∀H',Xk H0 H'->EC C E c x H')->t D σ H
theorem Xfn {t u:TS}{g:FS}(h:Znc K C E Γ Δ Γ1 Δ1 t g)(hr:Xow K C E Γ1 Δ1 u G):Xow K C E Γ Δ (Xfd t u) (Dl.Zfl g G):=fun H0 Hb H σ ρ A D Q I e1 e2 p =>
  h H0 Hb H σ ρ A _ I (Zz.imp (Zz.bind p) (fun fl q=>by
    cases fl with
    | nx ρ'=>exact fun σ' H' A' hσ I'=>hr H0 Hb H' σ' ρ' A' D Q I' e1 e2 (Zz.imp q (fun p q v H2 σ2 A2 B h2=>q v H2 σ2 A2 B (h2.trans hσ)) fun _ _ q=>q)
    | _=>exact q.elim) fun c x q=>q)
theorem Xkf (r:RpA K C H ds vs B):∃A:Nat->List Addr,(∀(i:Nat) d,ds[i]?=some d->∃v,vs[i]?=some v/\Rp K C H d v (A i))/\(∀i,ds.length<=i->A i=[])/\∀i,∀a∈A i,a∈B:=by
 induction ds generalizing vs B with
 | nil=>exact ⟨fun _=>[],fun i d h=>by simp at h,fun _ _=>rfl,fun _ _ h=>nomatch h⟩
 | cons d ds ih =>
  obtain ⟨x,l,B1,B2,e1,e2,e3,e4⟩:=r;obtain ⟨A,h1,h2,h3⟩:=ih e3;subst e1 e4;refine ⟨fun i=>match i with | 0=>B1 | i+1=>A i,fun i d' h=>?_,fun i h=>?_,fun i a ha=>?_⟩;cases i with
  | zero=>simp at h;subst h;exact ⟨x,rfl,e2⟩
  | succ i=>simp at h;obtain ⟨v,q1,q2⟩:=h1 i d' h;exact ⟨v,by simpa using q1,q2⟩
  cases i with
  | zero=>simp at h
  | succ i=>exact h2 i (by simpa using h)
  cases i with
  | zero=>exact As _ ha
  | succ i=>exact Ai _ (h3 i a ha)
theorem Zss (r0:Rp K C H d0 v0 A0)(nd:A0.Nodup)(r:RpA K C H ds vs B)(hd:∀a∈B,a∉A0) :
  ∃A,Zq K C (fun b=>if b∈A0 then none else H b) (fun b=>if b∈A0 then none else H b) H [0] [0] ((v0::vs).map some++Aa (N - (v0::vs).length) none) ((d0::ds).map some++Aa (N - (d0::ds).length) none) A/\A 0=A0:=by
 obtain ⟨A,h1,h2,h3⟩:=Xkf r;have hl:=r.len;have hne:∀j,j≠0->∀a∈A0,a∉(match j with | 0=>A0 | i+1=>A i):=fun j hj a ha h=>by
  cases j with
  | zero=>exact hj rfl
  | succ j=>exact hd a (h3 j a h) ha
 have h0:∀a∈A0,(if a∈A0 then none else H a)=none:=fun a ha=>if_pos ha;refine ⟨fun i=>match i with | 0=>A0 | i+1=>A i,⟨Xk.refl _,fun b o h=>?_,by simp [hl],fun i d h=>?_,fun i h=>?_,fun i hi a ha=>?_,fun i hi a l e=>?_,fun i hi=>?_⟩,rfl⟩;have h:(if b∈A0 then none else H b)=some o:=h;split at h;cases h;exact h;cases i with
 | zero=>simp at h;subst h;exact ⟨v0,by simp,r0⟩
 | succ i =>by_cases hi:i<ds.length;rw [Au (by simpa using hi),Bh,Cf] at h;obtain ⟨d',hd',e⟩:=AB.mp h;cases e;obtain ⟨v,q1,q2⟩:=h1 i d hd';refine ⟨v,?_,q2⟩;rw [Au (by simp [hl,hi]),Bh,Cf,q1];rfl;rw [Bp (by simpa using hi)] at h;have:=AU h;rw [DD] at this;exact absurd this.2 (by intro z;cases z)
 cases i with
 | zero=>exact absurd (by simp) (h d0)
 | succ i =>by_cases hi:i<ds.length;refine absurd ?_ (h ds[i]);rw [Au (by simpa using hi),Bh,Cf,Al hi];rfl;exact h2 i (by omega)
 rw [An.mp hi] at ha;exact h0 a ha;obtain rfl:=An.mp hi;have e:A0=a::l:=e;subst e;exact ⟨h0 a (.head _),(Ap.mp nd).1,fun j hj=>hne j hj a (.head _)⟩;obtain rfl:=An.mp hi;exact ⟨nd,hne,h0⟩
theorem Zxf {t:TS}{E':XK}(h:Xow K C E [0] [0] t G)(r0:Rp K C H d0 v0 A0)(nd:A0.Nodup)(r:RpA K C H ds vs B)(hd:∀a∈B,a∉A0)
    (p:Zz (Dl.Xqe N G (d0::ds)) (fun p=>∀v H' A1 Br,(∀b o,b∉A0->H b=some o->H' b=some o)->Rp K C H' p.2 v0 A1->A1.Nodup->(∀a∈A1,a∈A0\/H a=none)->Rp K C H' p.1 v Br->Br.Nodup->(∀a∈Br,(a∈A0\/H a=none)/\a∉A1)->Q v H')
      (fun c x=>∀H',(∀b o,b∉A0->H b=some o->H' b=some o)->EC C E c x H')) :
    t {nx:=fun _ H'=>Q .non H',rt:=Q} ((v0::vs).map some++Aa (N - (v0::vs).length) none) H:=by
  obtain ⟨A,I,hA⟩:=Zss (N:=N) r0 nd r hd;have bk:∀{H'},Xk (fun b=>if b∈A0 then none else H b) H'->∀b o,b∉A0->H b=some o->H' b=some o:=fun g b o hb h=>g b o ((if_neg hb).trans h);have fr:∀{a},(if a∈A0 then none else H a)=none->a∈A0\/H a=none:=fun {a} h=>by split at h;exact .inl (by assumption);exact .inr h
  refine h _ _ H _ _ A _ Q I rfl rfl (Zz.imp (Zz.bind p) (fun q pq v H' σ' A' B' hσ I' rr ndr hB=>?_) fun c x q H' g=>q H' (bk g));split at pq;rename_i d e;obtain ⟨w,hw,rw'⟩:=I'.rep 0 d e;have hw2:some (some w)=some (some v0):=by rw [<- hw,hσ];simp
  cases hw2;obtain ⟨q1,q2,q3⟩:=I'.deep 0 (by simp);refine pq v H' (A' 0) B' (bk I'.same) rw' q1 (fun a ha=>fr (q3 a ha)) rr ndr fun a ha=>⟨fr (hB a ha).1,(hB a ha).2 0⟩;exact pq.elim
end
structure JM (X:Cx)(C:String->Addr)(E:XK)(Γ Δ:List Nat)(e:Expr)(t:TE)(f:FM):Prop where
 q:QE X e t
 o:MOk X.K C E Γ Δ t f
structure JMT (X:Cx)(C:String->Addr)(E:XK)(Γ Δ:List Nat)(e:Expr)(t:TT)(f:FMT):Prop where
 q:QT X e t
 o:MTOk X.K C E Γ Δ t f
structure JMW (X:Cx)(C:String->Addr)(E:XK)(Γ Δ:List Nat)(e:Expr)(t:TT)(f:FMT):Prop where
 q:QW X e t
 o:MTOk X.K C E Γ Δ t f
structure JP (X:Cx)(C:String->Addr)(E:XK)(Γ Δ Γ' Δ':List Nat)(s:Stmt)(t:TS)(f:FS):Prop where
 q:QS X s t
 o:Znc X.K C E Γ Δ Γ' Δ' t f
structure JMB (X:Cx)(C:String->Addr)(E:XK)(Γ Δ:List Nat)(s:List Stmt)(t:TS)(f:FM):Prop where
 q:QSs X s t
 o:Xow X.K C E Γ Δ t f
structure MDef (P:Aw)(w:AS)(K:AE)(mg:Str->Option Value)(base:AZ)(CX:CXT)(k:Nat)(C:Addr)(x:Str)(ps:List Str)(sp:Sp):Prop where
 ex:∃f fd,Meth K C x f/\Binds K fd ps []/\Zbd P w K mg base CX k f fd ps sp
structure MkDef (P:Aw)(w:AS)(K:AE)(mg:Str->Option Value)(base:AZ)(CX:CXT)(k:Nat)(C:Addr)(ps:List Str)(sp:Sp):Prop where
 ex:∃f fd,Mk K C f/\Binds K fd ps []/\Zbd P w K mg base CX k f fd ps sp
section
variable {S:List (Nat×Bool)}{a:Expr}{rest:List Expr}{fa:FA}{c:String}{f md:Str}{k:Nat}{s:Stmt}{tm:TE}{u:TS}{g:FS}
theorem Zir {v:TS}(Γ1 Δ1:List Nat)(h:JP X C E Γ Δ Γ1 Δ1 s u g)(hr:JMB X C E Γ1 Δ1 ss v fm):JMB X C E Γ Δ (s::ss) (Xfd u v) (Dl.Zfl g fm):=⟨Zlb h.q hr.q,Xfn h.o hr.o⟩
theorem Zip (hN:X.N.Nodup)(hi:X.N[i]?=some x)(hx:Loc X.env.scope x)(he:JE X C E Γ Δ 2 [] e te fe)(h0:i≠0:=by decide)(hs:BS e (some (.Name x p')) pos.line X.env=pure false:=by rfl)(hf:autoParam (X.fn x=true\/X.env.scope.names.lookup x=some .local) aT0._auto_1)
  (h1:∀j∈Γ',j=i\/j∈Γ:=by decide) (h2:∀j∈Δ',j=i\/j∈Δ:=by decide):JP X C E Γ Δ Γ' Δ' (.Assign [.Name x p'] e pos) (Zfs te (Zac i)) (Dl.Ya i fe):=⟨Xfh hN hi hx he.q hs hf,Zwe he.o h0 h1 h2⟩
end
section
variable {a:Expr}{ff:FA}{k:Nat}
end
theorem allN0 (h:P []):∀us:List Value,us.length=0->P us
 | [],_=>h
theorem Zvr (h:∀a0,P [a0])(us:List Value)(hl:us.length=1):P us:=by
 cases us with
 | nil=>exact absurd hl (by decide)
 | cons a us=>exact allN0 (P:=fun z=>P (a::z)) (h a) us (Do hl)
theorem Zsv (h:∀a0 a1,P [a0,a1])(us:List Value)(hl:us.length=2):P us:=by
 cases us with
 | nil=>exact absurd hl (by decide)
 | cons a us=>exact Zvr (P:=fun z=>P (a::z)) (h a) us (Do hl)
theorem Zhd (h:∀a0 a1 a2,P [a0,a1,a2])(us:List Value)(hl:us.length=3):P us:=by
 cases us with
 | nil=>exact absurd hl (by decide)
 | cons a us=>exact Zsv (P:=fun z=>P (a::z)) (h a) us (Do hl)
theorem Zwd (h:∀a0 a1 a2 a3,P [a0,a1,a2,a3])(us:List Value)(hl:us.length=4):P us:=by
 cases us with
 | nil=>exact absurd hl (by decide)
 | cons a us=>exact Zhd (P:=fun z=>P (a::z)) (h a) us (Do hl)
theorem Xcz (h:∀a0 a1 a2 a3 a4,P [a0,a1,a2,a3,a4])(us:List Value)(hl:us.length=5):P us:=by
 cases us with
 | nil=>exact absurd hl (by decide)
 | cons a us=>exact Zwd (P:=fun z=>P (a::z)) (h a) us (Do hl)
theorem Xdb {K:Params->AE}{t:Nat}{r:PySem.W.RowW}{d:DefRec}{run:Value->List Value->Sem Value}
  (e:∀P,as=(K P).map (·.1)) (W:PySem.W.WalkO q loose XP (PySem.W.InK K) r d kwd run):PySem.W.WalkX q loose XP (PySem.W.X.obsZ as) (PySem.W.X.valZ K n t) r d kwd run:=
 fun w s₀ s₁ mg mb G y a o pm cd doc dV kV ho hd hcd hD hmg hg args vals as' L hpre hlay hrd hwl hlo =>
  W w s₀ s₁ mg mb G (PySem.W.InK.keeps w _ _ (PySem.W.X.z_facts e y).2.1 (PySem.W.Laid.keeps L)) a o pm cd doc dV kV ho hd hcd hD hmg hg args vals as' hpre hlay hrd hwl hlo
section
variable {k:Nat}{ff:FA}{p3:Pos}
end
def Xoq (K:AE)(C:Addr)(bmB:List Value)(newId:String)(fI:Addr):Bool:=match K.lookup C with
  | some ⟨.type "type",_,.cls cd,sl⟩=>(match cd.mro,sl.toList with
    | .ref C'::bm,[_,_,_,_,some (.builtin n),_]=>C'==C&&n==newId&&!cd.hasDel&&cd.hasDict&&PySem.W.tailIn K bmB bm&&PySem.W.nsOkIn K cd.ns&&BY K cd.ns "__init__"==some (some (.ref fI))
    | _,_=>false)
  | _=>false
section
variable {A:AR}{E:Value->Ac->Prop}{g:Array Du}{d:GH}{t:Nat}
variable {q:Str}{C N:Addr}{bs:List Value}{B:String}
end
end L2
namespace L2
open PySem PySem.Spec PyProof.Rows
open PySem.W (Looks)
open Builtin Builtin.ObjectAttr
variable {prog:Aw}{w:AS}{A:AR}{E:Value->Ac->Prop}{h:AZ}{g:Array Du}{d:GH}{t:Nat}{os:Gg}{sn:List Str}{sub:List Value}{ab:Bool}{col:Option Bool}{dd:Option Addr}
section
variable {nm q:Str}{C N x:Addr}{bs bm bmB:List Value}{k0 k1 k2 k3 k5:Option Value}{B newId sa owner:String}
 {name:Str} {v:Value} {fs:Array Value} {sl:Array (Option Value)}
end
end L2
namespace L2
open PySem PySem.Spec PyProof.Rows
open PySem.W (Looks)
variable {prog P:Aw}{w:AS}{A:AR}{E:XK}{h:AZ}{g:Array Du}{d:GH}{t m mr m1 m2 i m3 n:Nat}{os:Gg}{C:String->Addr}{hdct ab:Bool}{sn:List Str}{sub:List Value}{col:Option Bool}{dd:Option Addr}{o e a b c kx:Expr}{vs:Array Value}{mA mg:Str->Option Value}{v:Value}{name x:Str}{X:Cx}{pins:List (Addr×Obj)}{σ:St}{H:Hp}{s:Ac}{es:List Expr}{ta te tb tk:TE}{pos pos' apos np cpos p p2:Pos}{B:List Addr}{K:AE}{Γ Δ Γ' Δ' Γl Δl Γk Δk Γ1 Δ1:List Nat}{fe fa fb fk:FE}{S1 S2 S3:List (Nat×Bool)}{wi:TI}{u:TS}{fi:FI}{ret suite:List Stmt}{hs:List C0}{zs:List Clz}{ds:List (List (String×Bool)×Option Nat×FS)}{b₀:Stmt}{ks:List (Int ⊕ Str)}{xs:List V}{ρ:Dl.Env}
section
variable {E:Value->Ac->Prop}
variable {nm q:Str}{C N x:Addr}{bs bm bmB:List Value}{k0 k1 k2 k3 k5:Option Value}{B newId initId:String}
end
section
variable {E:Value->Ac->Prop}{a C dx:Addr}{o:Obj}
end
open Dl (D R FE FT FA FO FS FI FB Fl)
structure ErrF (K:AE)(C:Addr)(nm:Str)(fI:Addr):Prop where
 exc:Xoq K C bmV "ValueError.__new__" fI=true
 sa:Cm K (.ref C) "__setattr__"=some (some (.builtin "object.__setattr__"))
 nf:Cm K (.ref C) nm=some none
 hd:PySem.W.hasDictIn K C=true
def exA (e C:Addr)(dx:Option Addr):HO:=.ext fun h=>∃t sl,h.get? e=some {cls:=.ref C,dict:=dx,data:=.fields #[.ref t,.none,.none,.none,.bool false,.none],slots:=sl}
structure BaseI (K:AE)(B:Addr):Prop where
 sp:FC K (.ref B) "__getattribute__"=some (some (.builtin "type.__getattribute__"))
 rd:PySem.W.readsIn K B (.type "type")=true
 fc:PySem.W.findCls K (.ref B) (.type "type") "__init__"=some (.val (.builtin "ValueError.__init__"))
section
variable {value:Expr}{t:TA}{tv:TE}{b f:Str}{B:Addr}
end
def Xoe (K:AE)(nm:Str):Sp:=fun vs H Q _=>∃e C i fI,vs=[.ref e,.int i]/\H e=some (exA e C none)/\ErrF K C nm fI/\i.natAbs.log2<1920/\∀d,H d=none->Q .non (upd (upd H d (.xd [(nm,.int i)])) e (exA e C (some d)))
section
variable {base:AZ}
structure IDef (P:Aw)(w:AS)(K:AE)(mg:Str->Option Value)(base:AZ)(C:Addr)(nm:Str):Prop where
 ex:∃fI fd ps,ErrF K C nm fI/\EH K (.ref fI)=some (.type "function")/\ps.length=2/\Binds K fd ps []/\Zbd P w K mg base CX0 1 fI fd ps (Xoe K nm)
variable {S:List (Nat×Bool)}
variable {S:List (Nat×Bool)}
theorem Xbl {k:Nat}{tc:TT}{fc:FT}{g:FS}(hi:IOk K C E Γ Δ S wi fi)(ht:TOk K C E Γ' Δ' tc fc)(hr:SOk K C E mr [] [] Γ' Δ' [] [] u g)(hret:∀ρ fl,g ρ=.ok fl->∃d,fl=.ret d)
  (h1:∀j∈Γ',j≠k/\j∈Γ) (h2:∀j∈Δ',j≠k/\j∈Δ):SOk K C E mr Γk Δk Γ Δ Γ' Δ' (Xey wi (Zac k) (Xar tc u Zll)) (Dl.Zhu fi (Dl.Zoz k) (Dl.sIf fc g Dl.sNx)):=fun H0 Hb H σ ρ A D I p=>by
 refine hi H0 Hb H σ ρ A _ I (Zz.imp (Zz.bind p) (fun ds q J H1 W g1 hW hlen hJ=>?_) fun c x q H' g'=>q H' (Xk.from0 I g'));have I1:=I.mono g1;have go:Goes K C J ds H1:=hJ H1 ⟨fun a _=>rfl,fun b o h _=>h⟩;refine Zqd go (fun j σ' H'=>Xk H1 H'/\∃ρ',Zqb K C E mr Γk Δk Γ' Δ' H0 Hb D (Dl.Zbx (Dl.Zoz k) (Dl.sIf fc g Dl.sNx) (ds.drop j) ρ')/\(∃A',Zq K C H0 Hb H' Γ' Δ' σ' ρ' A')/\(σ'=σ/\ρ'=ρ\/∃v d,σ'=σ.set k (some v)/\ρ'=ρ.set k (some d)))
  ⟨Xk.refl _,ρ,q,⟨A,I1.weak (fun j hj=>(h1 j hj).2) fun j hj=>(h2 j hj).2⟩,.inl ⟨rfl,rfl⟩⟩ (fun _ _ _ h=>h.1) ?_ ?_
 rintro j d x Bx σ' Ha H' hd ⟨ga,ρ',pq,_,hσ⟩ gb rx hBx;rw [Zge _ _ _ hd] at pq;have pq':=Zbr (Zz.bind pq);have eσ:σ'.set k (some x)=σ.set k (some x)/\ρ'.set k (some d)=ρ.set k (some d):=by rcases hσ with ⟨e1,e2⟩ | ⟨v,d',e1,e2⟩;rw [e1,e2];exact ⟨rfl,rfl⟩;rw [e1,e2,G9,G9];exact ⟨rfl,rfl⟩
 by_cases hfl:Dl.flat d=true;have eb:Dl.Zoz k d ρ'=.ok (ρ'.set k (some d)):=if_pos hfl;rw [eb,eσ.2] at pq';have eB:Bx=[]:=Rp.flat hfl rx;subst eB;obtain ⟨A',I',_⟩:=((I1.mono ga).mono gb).put (Γ':=Γ') (Δ':=Δ') (i:=k) (d:=d) (v:=x) (B:=[]) rx (fun j hj _=>⟨(h1 j hj).2,fun _ _ _ z=>nomatch z⟩) (fun hk=>⟨(fun _ z=>nomatch z),(fun _ _ z=>nomatch z)⟩) (fun j hj _=>⟨(h2 j hj).2,fun _ _ z=>nomatch z⟩) (fun _=>⟨BI,(fun _ _ _ z=>nomatch z),(fun _ z=>nomatch z)⟩);show Xar tc u Zll _ (σ'.set k (some x)) H';rw [eσ.1];refine ht H0 Hb H' _ _ A' _ I' (Zz.imp (Zz.bind (Zz.bind pq')) (fun b q H2 g2=>?_) fun c x q H2 g2=>q H2 (Xk.from0 I' g2));cases b with
 | true =>
  refine hr H0 Hb H2 _ _ A' _ (I'.mono g2) ?_;have q:Zz (g (ρ.set k (some d))) _ _:=q;cases e:g (ρ.set k (some d)) with
  | ok fl =>obtain ⟨d',rfl⟩:=hret _ _ e;rw [e] at q;exact q
  | err c x=>rw [e] at q;exact q
  | bad=>rw [e] at q;exact q.elim
 | false=>exact ⟨(ga.trans gb).trans g2,_,q,⟨A',I'.mono g2⟩,.inr ⟨x,d,rfl,rfl⟩⟩
 have eb:Dl.Zoz k d ρ'=.bad:=if_neg hfl;rw [eb] at pq';exact pq'.elim;rintro σ' H' ⟨ga,ρ',pq,⟨A',I'⟩,_⟩;rw [Dz] at pq;exact pq σ' H' A' I'
variable {iter:Expr}{g:FS}{ip:Pos}{k:Nat}
theorem Xdv :∀ρ fl,Dl.Jx fe ρ=.ok fl->∃d,fl=.ret d:=fun ρ fl h=>by
 unfold Dl.Jx at h;cases e:fe ρ with
 | ok d=>rw [e] at h;cases h;exact ⟨d,rfl⟩
 | err c x=>rw [e] at h;cases h
 | bad=>rw [e] at h;cases h
theorem Xgx {tA:TT}{fA:FT}(Γ' Δ':List Nat)(hp:EL (AA X.prog X.w) X.A X.env X.xe)(hc:X.calm=true)(hi:JI X C E Γ Δ S (.Name x p) iter wi fi)(hN:X.N.Nodup)(hik:X.N[k]?=some x)(hx:Loc X.env.scope x)
  (ht:JT X C E Γ' Δ' c tA fA) (hr:JSs X C E mr [] [] Γ' Δ' [] [] ret u g) (hret:∀ρ fl,g ρ=.ok fl->∃d,fl=.ret d) (hf:autoParam (X.fn x=true\/X.env.scope.names.lookup x=some .local) aT0._auto_1) (hs:∀x,AQ iter X.env x=pure x:=by intro _;rfl)
  (h1:∀j∈Γ',j≠k/\j∈Γ:=by decide) (h2:∀j∈Δ',j≠k/\j∈Δ:=by decide):JS X C E mr Γk Δk Γ Δ Γ' Δ' (.For (.Name x p) iter [.If c ret [] ip] [] pos) (Xey wi (Zac k) (Xar tA u Zll)) (Dl.Zhu fi (Dl.Zoz k) (Dl.sIf fA g Dl.sNx)):=
 ⟨Zwf hp hc hi.q (Zfx hN hik hx hf) (Zkq (Xii ht.q hr.q Zpj)) hs,Xbl hi.o ht.o hr.o hret h1 h2⟩
end
structure Clz where
 c:Value
 i:Option Nat
 th:TS
inductive PClz (X:Cx):List C0->List Clz->Prop
 | nil:PClz X [] []
 | named {c n:Str} {np hpos:Pos} {C:Addr} {b₀:Stmt} {suite:List Stmt} {i:Nat} {th:TS} {hs:List C0} {zs:List Clz} (hm:X.mg c=some (.ref C)) (hg:Gl X c) (hdb:(c==("__debug__":Str))=false) (hi:X.N[i]?=some n) (hl:X.env.scope.names.lookup n=some .local)
   (hh:∀e:Addr,PSs (X.hand e) (b₀::suite) th) (hr:PClz X hs zs):PClz X (.ExceptHandler (some (.Name c np)) (some n) (b₀::suite) hpos::hs) (⟨.ref C,some i,th⟩::zs)
 | plain {c:Str} {np hpos:Pos} {C:Addr} {b₀:Stmt} {suite:List Stmt} {th:TS} {hs:List C0} {zs:List Clz} (hm:X.mg c=some (.ref C)) (hg:Gl X c) (hdb:(c==("__debug__":Str))=false)
   (hh:∀e:Addr,PSs (X.hand e) (b₀::suite) th) (hr:PClz X hs zs):PClz X (.ExceptHandler (some (.Name c np)) none (b₀::suite) hpos::hs) (⟨.ref C,none,th⟩::zs)
inductive OClz (K:AE)(C:String->Addr)(N mr:Nat)(Γl Δl Γ1 Δ1:List Nat):List Clz->List (List (String×Bool)×Option Nat×FS)->Prop
 | nil:OClz K C N mr Γl Δl Γ1 Δ1 [] []
 | named {c:Addr} {i:Nat} {th:TS} {fh:FS} {tb:List (String×Bool)} {Γ2 Δ2:List Nat} {Eh:XK} {zs:List Clz} {ds:List (List (String×Bool)×Option Nat×FS)} (ht:∀p∈tb,EK K (.ref (C p.1)) (.ref c)=some p.2) (hi:i<N) (hh:SOk K C Eh mr [] [] [] [] Γ2 Δ2 th fh)
   (hr:OClz K C N mr Γl Δl Γ1 Δ1 zs ds):OClz K C N mr Γl Δl Γ1 Δ1 (⟨.ref c,some i,th⟩::zs) ((tb,some i,fh)::ds)
 | plain {c:Addr} {th:TS} {fh:FS} {tb:List (String×Bool)} {Eh:XK} {zs:List Clz} {ds:List (List (String×Bool)×Option Nat×FS)} (ht:∀p∈tb,EK K (.ref (C p.1)) (.ref c)=some p.2) (hh:SOk K C Eh mr Γl Δl [] [] Γ1 Δ1 th fh)
   (hr:OClz K C N mr Γl Δl Γ1 Δ1 zs ds):OClz K C N mr Γl Δl Γ1 Δ1 (⟨.ref c,none,th⟩::zs) ((tb,none,fh)::ds)
inductive JClz (X:Cx)(C:String->Addr)(mr:Nat)(Γl Δl Γ1 Δ1:List Nat):List C0->List Clz->List (List (String×Bool)×Option Nat×FS)->Prop
 | mk {hs:List C0} {zs:List Clz} {ds:List (List (String×Bool)×Option Nat×FS)} (p:PClz X hs zs) (o:OClz X.K C X.N.length mr Γl Δl Γ1 Δ1 zs ds):JClz X C mr Γl Δl Γ1 Δ1 hs zs ds
section
variable {hpos:Pos}{th:TS}{fh:FS}
end
theorem Xhi (K:AE)(he:JE X C E Γ Δ 2 [] e te fe)(hse:Ab [e] X.env=(false,AF e X.env)::Ab [] X.env)(hK:X.K=K:=by rfl)
  (hi:i∈Γ:=by decide) (hN:X.N[i]?=some x:=by rfl) (hv:autoParam (Vis X.env.scope x) aT3._auto_1) (hd:(x==("__debug__":Str))=false:=by decide) (hcd:(x==("__classdict__":Str))=false:=by decide)
  (hbase:Bt (.Name x p) "extend" X.env (AF (.Name x p) X.env)=AF (.Name x p) X.env:=by rfl)
  (hfew:((AW cpos (Ab [e] X.env)).all (fun x=>!x.1)&&(Cq cpos (BO [] X.env)).all (fun x=>x.1.isSome)&&decide (([e]:List Expr).length+([]:List Bo).length+(if ([]:List Bo).isEmpty then 0 else 1)<30))=true:=by rfl)
  (hline:(apos.endLine==cpos.line)=true:=by rfl) (hplain:(AW cpos (Ab ([]:List Expr) X.env)).any (·.1)=false:=by rfl) (hsw:BS (.Call (.Attribute (.Name x p) "extend" apos) [e] [] cpos) none pos.line X.env=pure false:=by rfl) :
  JS X C E mr Γl Δl Γ Δ Γ Δ (.Expr (.Call (.Attribute (.Name x p) "extend" apos) [e] [] cpos) pos) (Zie (tBM K "list" Zii (Zcr i) (Ja te Zhg))) (Dl.Xgc i fe):=by
 subst hK;exact Xpz hi hN hv hd hcd he hse hbase hfew hline hplain hsw
def rDin:R2:=fun x y H Q=>∃a o,y=.ref a/\Zul H a x o/\Q (.bl o.isSome) H
theorem Xoh (hu:X.A.units+64<Bi):OpR X (A9 .In) rDin:=by intro pins s σ H x y v u Q I rx ry h;obtain ⟨a,o,rfl,g,q⟩:=h;cases (show u=A7 a from ry);exact d_in (by omega) I g rx fun s3 I3=>⟨.bl o.isSome,H,I3,rfl,q⟩
def Zwy:V->V->V->Hp->(Hp->Prop)->Prop:=fun o i v H Q=>∃a H4,o=.ref a/\Xid H a i v H4/\Q H4
theorem set_dict (hu:X.A.units+64<Bi):PSet X Zwy:=by intro pins s σ H o i v ov iv u Q I ro ri rv h;obtain ⟨a,H4,rfl,g,q⟩:=h;cases (show ov=A7 a from ro);exact Zxm (by omega) I g ri rv fun s4 I4=>⟨H4,I4,q⟩
section
variable {S:List (Nat×Bool)}
theorem Zgc {x:D}{k:Int ⊕ Str}{v:V}(e:Dl.Xbh x=some k)(r:Rp K C H x v B):v=kV k:=by
 cases x with
 | int i=>cases e;exact r.1
 | str z=>cases e;exact r.1
 | _=>cases e
theorem Zkz {k:Int ⊕ Str}:∀{ks:List (Int ⊕ Str)} {xs:List V},ks.length=xs.length->((ks.zip xs).any fun kv=>decide (kv.1=k))=Dl.Zuk ks k
 | [],_,_=>rfl
 | j::ks,[],h=>by cases h
 | j::ks,x::xs,h=>by have:=Zkz (k:=k) (ks:=ks) (xs:=xs) (by simpa using h);unfold Dl.Zuk at *;rw [CU,D4,D4,this]
theorem Xhe {k:Int ⊕ Str}(h:ks.length=xs.length):(Zqh (ks.zip xs) k).isSome=Dl.Zuk ks k:=by rw [<- Zlw,Zkz h]
theorem Xkb:GOk K C rDin Dl.Xpm:=by intro H x y d vx vy Bx By Q rx ry e q;unfold Dl.Xpm at e;split at e;rename_i k ks ds hk;cases e;obtain ⟨a,xs,B,rfl,h1,h2,h3,_⟩:=ry;have hv:=Zgc hk rx;subst hv;refine ⟨a,_,rfl,Zul.k h1,?_⟩;rw [Xhe (by rw [h2,h3.len])];exact Out.flat q rpB;cases e
theorem Xbp:EOk K C E Γ Δ 2 [] Zyj (Dl.fC (.dct [] [])):=fun H0 Hb H σ ρ A Q I p q hp=>by
 refine p _ _ (sameNew hp _) ⟨[q],⟨q,[],[],rfl,Ye,rfl,RpA.nil,rfl⟩,fun a ha=>?_,fun z=>by omega,fun _=>Ap.mpr ⟨(fun z=>nomatch z),BI⟩⟩;have:a=q:=by simpa using ha
 subst this;exact .inl hp
theorem Zli {k:Int ⊕ Str}{v:V}:∀{ks:List (Int ⊕ Str)} {xs:List V},ks.length=xs.length->(ks.zip xs).map (fun kv=>if kv.1=k then (kv.1,v) else kv)=ks.zip (BD (fun j x=>if j=k then v else x) ks xs)
 | [],_,_=>rfl
 | j::ks,[],h=>by cases h
 | j::ks,x::xs,h=>by have:=Zli (k:=k) (v:=v) (ks:=ks) (xs:=xs) (by simpa using h);rw [CU,AH,this,E2,CU];congr 1;by_cases e:j=k;simp [e];simp [e]
theorem RpA.repl {k:Int ⊕ Str}{d:D}{v:V}(r:Rp K C H d v []):∀{ks:List (Int ⊕ Str)} {ds:List D} {xs:List V},RpA K C H ds xs []->Dl.Xn ds=true->RpA K C H (BD (fun j x=>if j=k then d else x) ks ds) (BD (fun j x=>if j=k then v else x) ks xs) []
 | [],ds,xs,_,_=>by cases ds<;>cases xs<;>exact RpA.nil
 | j::ks,[],xs,q,_=>by rw [q.1];exact RpA.nil
 | j::ks,x::ds,xs,q,h=>by obtain ⟨y,l,B,B',e1,e2,e3,e4⟩:=q;simp only [Dl.Xn,Ax] at h;subst e1;have z:=e2.flat h.1;subst z;refine ⟨_,_,[],[],rfl,?_,RpA.repl r (e3.flat' h.2) h.2,rfl⟩;show Rp K C H (if j=k then d else x) (if j=k then v else y) [];by_cases e:j=k;rw [if_pos e,if_pos e];exact r;rw [if_neg e,if_neg e];exact e2
theorem RpA.snoc0 {d:D}{v:V}(r:Rp K C H d v []):∀{ds:List D} {xs:List V},RpA K C H ds xs []->RpA K C H (ds++[d]) (xs++[v]) []
 | [],xs,q=>by rw [q.1];exact ⟨v,[],[],[],rfl,r,RpA.nil,rfl⟩
 | x::ds,xs,q=>by obtain ⟨y,l,B,B',e1,e2,e3,e4⟩:=q;obtain ⟨rfl,rfl⟩:=List.append_eq_nil_iff.mp e4.symm;subst e1;exact ⟨y,_,[],[],rfl,e2,RpA.snoc0 r e3,rfl⟩
theorem Zrq {H0 Hb:Hp}{A:Nat->List Addr}{ds:List D}(I:Zq K C H0 Hb H Γ Δ σ ρ A)(e:ρ[i]?=some (some (.dct ks ds))):∃a xs l,σ[i]?=some (some (.ref a))/\H a=some (.dK (ks.zip xs))/\ks.length=ds.length/\RpA K C H ds xs l/\A i=a::l/\i<ρ.length:=by obtain ⟨v,h1,h2⟩:=I.rep i _ e;obtain ⟨a,xs,B,rfl,h3,h4,h5,h6⟩:=h2;exact ⟨a,xs,B,h1,h3,h4,h5,h6,(Ah.mp e).1⟩
theorem Xaz (hi:i∈Γ:=by decide)(he:EOk K C E Γ Δ m1 S1 te fe)(hk:EOk K C E Γ Δ m2 S2 tk fk):SOk K C E mr Γl Δl Γ Δ Γ Δ (Zfs te (Zbg (Zcr i) tk Zwy)) (Dl.Zis i fk fe):=fun H0 Hb H σ ρ A D I p=>by
 refine he H0 Hb H σ ρ A _ I (Zz.imp (Zz.bind p) (fun d q v H1 g1 r=>?_) fun c x q H' g'=>q H' (Xk.from0 I g'));have I1:=I.mono g1;split at q;rename_i ks ds e;obtain ⟨a,xs,l,s1,h1,h2,r1,hA,hl⟩:=Zrq I1 e;refine ⟨.ref a,s1,hk H0 Hb H1 σ ρ A _ I1 (Zz.imp (Zz.bind q) (fun z q w H2 g2 rz=>?_) fun c x q H' g'=>q H' (Xk.from0 I1 g'))⟩;obtain ⟨Bz,rz,_⟩:=rz;obtain ⟨B,rd,_⟩:=r;split at q;rename_i k hk;split at q;rename_i hf;have hv:=Zgc hk rz;subst hv;have zB:=rd.flat hf.1;subst zB;have hx:ks.length=xs.length:=by rw [h2,r1.len]
 have r2:=(r1.same g2).flat' hf.2.1;have rd2:=rd.same g2;have I2:=I1.mono g2;refine ⟨a,_,rfl,Xid.k (g2 _ _ h1) (Gh (by rw [CL];exact GK _ _) (Zdd hf.2.2)),?_⟩;unfold Dl.Xgw at q;unfold putK;rw [Zkz hx];split at q;rename_i hh;rw [if_pos hh,Zli hx];obtain ⟨A',I'⟩:=I2.writeO (Γ':=Γ) (Δ':=Δ) (o':=.dK (ks.zip (BD (fun j x=>if j=k then v else x) ks xs))) (d':=.dct ks (BD (fun j x=>if j=k then d else x) ks ds)) hi hA hl s1 (fun H' q1 q2=>⟨a,_,_,rfl,q1,by rw [DU,h2,Fg],q2,rfl⟩) (RpA.repl rd2 r2 hf.2.1) (fun _ z=>nomatch z) (fun z=>nomatch z) (fun j hj _=>⟨hj,fun _ _ _ z=>nomatch z⟩) (fun j hj _=>⟨hj,fun _ _ z=>nomatch z⟩) (fun _=>⟨BI,(fun _ _ _ z=>nomatch z),(fun _ z=>nomatch z)⟩);exact q _ _ A' I';rename_i hh;rw [if_neg hh,show ks.zip xs++[(k,v)]=(ks++[k]).zip (xs++[v]) by rw [GA hx];rfl];obtain ⟨A',I'⟩:=I2.writeO (Γ':=Γ) (Δ':=Δ) (o':=.dK ((ks++[k]).zip (xs++[v]))) (d':=.dct (ks++[k]) (ds++[d])) hi hA hl s1 (fun H' q1 q2=>⟨a,_,_,rfl,q1,by simp [h2],q2,rfl⟩) (RpA.snoc0 rd2 r2) (fun _ z=>nomatch z) (fun z=>nomatch z) (fun j hj _=>⟨hj,fun _ _ _ z=>nomatch z⟩) (fun j hj _=>⟨hj,fun _ _ z=>nomatch z⟩) (fun _=>⟨BI,(fun _ _ _ z=>nomatch z),(fun _ z=>nomatch z)⟩);exact q _ _ A' I';exact q.elim;exact q.elim;exact q.elim
variable {tg:Expr}
theorem Xkq:JE X C E Γ Δ 2 [] (.Dict [] [] pos) Zyj (Dl.fC (.dct [] [])):=⟨⟨Xbr⟩,Xbp⟩
theorem Xhq (hi:i∈Γ:=by decide)(hN:X.N[i]?=some x:=by rfl)(hv:autoParam (Vis X.env.scope x) aT3._auto_1)(hd:(x==("__debug__":Str))=false:=by decide)(hcd:(x==("__classdict__":Str))=false:=by decide)
    (he:JE X C E Γ Δ m1 S1 e te fe) (hk:JE X C E Γ Δ m2 S2 kx tk fk) (hs:B7 [.Subscript (.Name x p) kx p2] e pos.line X.env=pure false:=by rfl) (hw:B8 [.Subscript (.Name x p) kx p2] e X.env=pure none:=by rfl) (h1:(Aq [.Subscript (.Name x p) kx p2] X.env).map (·.2)=[Bu (.Subscript (.Name x p) kx p2) X.env]:=by rfl)
    (hq:∀v,Bu (.Subscript (.Name x p) kx p2) X.env v=(do
      let ov <- A5 [v] (AF (.Name x p) X.env)
      let iv <- A5 [v,ov] (AF kx X.env)
      CI p2
      A5 [v,ov,iv] (CV ov iv v)
      Dy [v,ov,iv] []):=by intro _;rfl) (hu:X.A.units+64<Bi) :
    JS X C E mr Γl Δl Γ Δ Γ Δ (.Assign [.Subscript (.Name x p) kx p2] e pos) (Zfs te (Zbg (Zcr i) tk Zwy)) (Dl.Zis i fk fe):=⟨Zjl he.q (Zgq (qv i hN hv hd hcd) hk.q (set_dict hu) hq) hs hw h1,Xaz hi he.o hk.o⟩
abbrev TX:=Str->St->Hp->VK->Prop
def PX (X:Cx)(es:List Expr)(t:TX):Prop:=
 ∀(out:Str) (pins:List (Addr×Obj)) (s:Ac) (σ:St) (H:Hp) (Q:VK),Inv X pins σ H s->out.length+2000*es.length<=Ak->t out σ H Q->
  Az (AA X.prog X.w) X.A (joinParts out (Ci es X.env)) (EP X pins σ Q) X.xe s
def XOk (K:AE)(C:String->Addr)(E:XK)(Γ Δ:List Nat)(t:TX)(f:FA):Prop:=∀(H0 Hb H:Hp) (σ:St) (ρ:Dl.Env) (A:Nat->List Addr) (Q:VK) (out:Str),Bk out=true->Zq K C H0 Hb H Γ Δ σ ρ A->
 Zz ((f ρ).bind fun xs=>Dl.oR (Dl.catO out xs)) (fun d=>∀v H',Xk H H'->Res K C 2 [] H A d v H'->Q v H') (fun c x=>∀H',Xk H H'->EC C E c x H')->t out σ H Q
end
structure JX (X:Cx)(C:String->Addr)(E:XK)(Γ Δ:List Nat)(es:List Expr)(t:TX)(f:FA):Prop where
 q:PX X es t
 o:XOk X.K C E Γ Δ t f
section
variable {S:List (Nat×Bool)}{tx:TX}{f:FA}
variable {tc:TE}{fc:FE}
end
end L2
namespace L2
open PySem PyProof.Rows
variable {prog:Aw}{w:AS}{A:AR}{E:Value->Ac->Prop}{s:Ac}{κ:D5}{P:AK->Prop}{lat:AK->AK->Prop}{st:Fc}{x d0:AK}{α:Type}{lo nrem:Nat}{a0 Z:List AK}{Rs:List (List AK)}
structure Ask (prog:Aw)(w:AS)(A:AR)(s:Ac)(κ:D5)(P:AK->Prop)(r:AK->AK->Bool)(lat:AK->AK->Prop:=fun _ _=>True):Prop where
 run:∀{x y:AK} {Q:Bool->Ac->Prop} {E:Value->Ac->Prop},P x->P y->lat x y->Q (r x y) s->Az (AA prog w) A (keyLt' κ x.1 y.1) Q E s
 tr:∀{x y z:AK},P x->P y->P z->r y x=false->r z y=false->r z x=false
 as:∀{x y:AK},P x->P y->r x y=true->r y x=false
section
variable {r:AK->AK->Bool}
end
section
variable {r:AK->AK->Bool}
def Up (r:AK->AK->Bool)(l:List AK):Prop:=l.Pairwise fun x y=>r y x=false
structure MI (r:AK->AK->Bool)(a b out:List AK)(ia ib:Nat):Prop where
 pm:out.Perm (a.take ia++b.take ib)
 so:Up r out
 le:∀x∈out,∀y,(y∈a.drop ia\/y∈b.drop ib)->r y x=false
variable {a b out:List AK}{ia ib:Nat}
structure MJ (r:AK->AK->Bool)(a b out:List AK)(na nb:Nat):Prop where
 pm:out.Perm (a.drop na++b.drop nb)
 so:Up r out
 le:∀x∈out,∀y,(y∈a.take na\/y∈b.take nb)->r x y=false
end
structure SG (st st':Fc):Prop where
 k:Cw st'=Cw st
 a:FJ st'=FJ st
 p:EI st'=EI st
 f:Gv st'=Gv st
section
variable {r:AK->AK->Bool}
structure SC (κ:D5)(lo:Nat)(st st':Fc):Prop where
 k:Cw st'=κ
 f:Gv st'=none
 p:EI st'=EI st
 m:(FJ st').Perm (FJ st)
 o:∀i,i<lo->(FJ st')[i]?=(FJ st)[i]?
def Eqv (r:AK->AK->Bool)(x y:AK):Prop:=r x y=false/\r y x=false
end
abbrev Pn:=Nat×Nat×Nat
def Pend:Nat->List (List AK)->List Pn->Prop
 | _,[],[]=>True
 | off,R::Rs,p::ps=>p.1=off/\p.2.1=R.length/\Pend (off+R.length) Rs ps
 | _,_,_=>False
structure RI (κ:D5)(r:AK->AK->Bool)(a0:List AK)(st:Fc)(Rs:List (List AK))(Z:List AK):Prop where
 k:Cw st=κ
 f:Gv st=none
 m:(FJ st).toList.Perm a0
 l:(FJ st).toList=Rs.flatten++Z
 p:Pend 0 Rs (EI st).toList
 u:∀R∈Rs,Up r R/\1<=R.length
section
variable {r:AK->AK->Bool}
end
end L2
namespace L2
open PySem PySem.SeqAt PySem.MeetsSeq PySem.MeetsSeq3
open AutoSeq1 (wpAny_loadPart')
end L2
namespace L2
open PySem PySem.SeqAt PyProof.Rows
open Dl (Pc sLt pcLt ctLt)
variable {A:AR}{s:Ac}{prog:Aw}{w:AS}{E:Value->Ac->Prop}
open Dl (Pr kLt Xpp)
end L2
namespace L2
open PySem PySem.Spec PyProof.Rows
open Dl (D R FE FT FA FO FS FI FB Fl Pc ctLt)
variable {K:AE}{C:String->Addr}{E:XK}{Γ Δ Γl Δl Γ' Δ' js Γk Δk Γ1 Δ1:List Nat}{m m1 m2 m3 mr n mb i j:Nat}{S1 S2 S3 Sb:List (Nat×Bool)}{H H':Hp}{X:Cx}{a c f P:Addr}{b e kx tg body elt iter:Expr}{o:Obj}{ta te tk td ty tm:TE}{tb:V->Hp->VK->Prop}{tc:TT}{fa:FA}{fb fe fk fy:FE}{fc:FT}{p p1 p2 pos apos cpos lpos np pos' p3:Pos}{x qual y:Str}{es ifs:List Expr}{t:TA}{prog:Aw}{w:AS}{A:AR}{s:Ac}{pins:List (Addr×Obj)}{σ:St}{params:Eg}{sc:Scope}{cl:List (Str×Addr)}{xs:List V}{Q:VK}{N ps N2:List Str}{mg:Str->Option Value}{st:Stmt}{fd:B3}{g:FS}{ts:List (Addr×Pos×Str)}{T:List Addr}{h:AZ}{v:Option Value}{oc:Value}{od an:Option Addr}{osl:Array (Option Value)}{ss:List Stmt}{CX:CXT}{fm:FM}{wi:TI}{u:TS}
section
variable {S:List (Nat×Bool)}
end
theorem Zmp:∀{bs:List Addr} {its:List Value},Yw (bs.map V.ref) its->its=bs.map A7
 | [],_,.nil=>rfl
 | b::bs,_,.cons r rs=>by rw [show _=A7 b from r,Zmp rs];rfl
section
variable {S:List (Nat×Bool)}
variable {a c o:Expr}{tb tc:TE}{fa fc:FE}
end
structure RoomH (k:Nat)(A:AR):Prop where
 dp:A.depth+3*k+5<D0
 un:A.units+16*k+200<Bi
structure FnOkH (P:Aw)(w:AS)(K:AE)(mg:Str->Option Value)(base:AZ)(k:Nat)(f:Addr)(fd:B3)(ps:List Str)(sp:Sp):Prop where
 len:∀vs H Q E,sp vs H Q E->vs.length=ps.length
 run:∀(A:AR) (outer:List Env) (s:Ac) (H:Hp) (args:Args) (us:List Value) (vs:List V) (Q:VK) (E:XK),RoomH k A->Xmz P w K mg base A outer s H->Ef s fd args (ps.zip us)->Yw vs us->sp vs H Q E->
  Dj (AA P w) A (.call (.ref f) args) (CR CX0 outer P w H s Q E) s
structure DefH (P:Aw)(w:AS)(K:AE)(mg:Str->Option Value)(base:AZ)(k:Nat)(x:Str)(ps:List Str)(sp:Sp):Prop where
 ex:∃f fd,mg x=some (.ref f)/\DO K (.ref f)=true/\Binds K fd ps []/\FnOkH P w K mg base k f fd ps sp
section
variable {k:Nat}{S:List (Nat×Bool)}
variable {a c o:Expr}{tb tc:TE}{fa fc:FE}
end
section
variable {K:Type}[DecidableEq K]{knd:HeapKind prog w K}{E:Value->Ac->Prop}
end
section
variable {S:List (Nat×Bool)}
variable {a c:Expr}{f:FA}
end
structure LamSc (X:Cx)(N:List Str)(p:Str)(sc:Scope)(cl:List (Str×Addr)):Prop where
 kind:sc.kind=.function
 co:sc.isCoroutine=false
 gen:sc.isGenerator=false
 nocell:∀x∈sc.names,x.2≠.cell
 par:sc.names.lookup p=some .local
 nd:N.Nodup
 hd:N.head?=some p
 tl:∀x∈N.tail,sc.names.lookup x=some .free
 fr:∀x,sc.names.lookup x=some .free->∃c,cl.lookup x=some c
 cls:∀x c,cl.lookup x=some c->X.env.cells.lookup x=some c
def BMod (base:AZ)(mg:Str->Option Value):Prop:=∃bm ob,mg "__builtins__"=some (.ref bm)/\bm≠Et/\base.get? bm=some ob/\ob.cls=.type "module"/\ob.dict=some Et/\ob.data=.plain
section
variable {E:Value->Ac->Prop}
variable {I S:Addr}{R:Fd->Ac->Prop}{Q:V->Hp->Prop}
end
structure LamOk (X:Cx)(N:List Str)(p qual:Str)(params:Eg)(body:Expr)(sc:Scope)(cl:List (Str×Addr))(js:List Nat)(P c:Addr)(lpos:Pos):Prop where
 bm:BMod X.base X.mg
 tab:X.H₀ P=some (.tbl lpos qual)
 code:X.env.code=.ref c
 hd:PySem.W.CodeHd X.base c P
 clo:GU sc X.env=pure cl
 qu:X.env.qual++"<lambda>"=qual
 df:defaultsOf params X.env=([],[])
 lsc:LamSc X N p sc cl
 jsx:∀(i:Nat) (x:Str),N.tail[i]?=some x->∃j:Nat,js[i]?=some j/\X.N[j]?=some x/\Vis X.env.scope x/\X.env.kindOf x≠some .local
 len:js.length+1=N.length
 bind:∀(u pm ctv:Value) (c:Addr),HV (PySem.W.kla_fn "<lambda>" qual params body sc cl pm (.ref c) ctv) ⟨[u],[]⟩=pure [(p,u)]
 dep:X.A.in1.depth<D0
 calm:X.calm=true
section
variable {p:Str}
variable {kp:Pos}{tb:TE}
variable {S:List (Nat×Bool)}
end
section
variable {S:List (Nat×Bool)}{p:Str}{kp:Pos}{tb:TE}
end
structure FunL (K:AE)(x qual:Str)(st:Stmt)(f:Addr)(fd:B3)(c:Addr):Prop where
 ex:∃(oc:Value) (od:Option Addr) (kV doc pm:Value) (an:Option Addr) (ct:Value) (osl:Array (Option Value)),
  fd=Gc x qual (Zdo st) (Js st) (Zl st) .none kV doc pm an (.ref c) ct/\K.lookup f=some ⟨oc,od,.func fd,osl⟩/\Es K (.ref c) qual=true
 kp:DO K (.ref f)=true
section
variable {P:Aw}{base:AZ}{k:Nat}
variable {S:List (Nat×Bool)}
end
def Zhz (T:List Addr)(K:AE):AE:=K.filter fun p=>!T.contains p.1
theorem Zit {T:List Addr}{a:Addr}(h:T.contains a=true):∀K:AE,(Zhz T K).lookup a=none
 | []=>rfl
 | (b,o)::K=>by unfold Zhz;rw [Gr];split;rename_i hb;rw [AY];split;rename_i e;have e:=eq_of_beq e;subst e;have hb:(!T.contains a)=true:=hb;rw [h] at hb;cases hb;exact Zit h K;exact Zit h K
theorem Zag {T:List Addr}{a:Addr}(h:T.contains a=false):∀K:AE,(Zhz T K).lookup a=K.lookup a
 | []=>rfl
 | (b,o)::K=>by unfold Zhz;rw [Gr,AY];split;rw [AY];split;rfl;exact Zag h K;rename_i hb;have hb:¬(!T.contains b)=true:=hb;split;rename_i e;have e:=eq_of_beq e;subst e;rw [h] at hb;exact absurd rfl hb;exact Zag h K
theorem dropT_in (x:K.In h):(Zhz T K).In h:=fun a o e=>by
 cases q:T.contains a with
 | true=>rw [Zit q] at e;cases e
 | false=>rw [Zag q] at e;exact x a o e
section
variable {n:Str}
theorem dropT_ns (e:BY K a n=some v)(h:T.contains a=false:=by decide):BY (Zhz T K) a n=some v:=by unfold BY at e ⊢;rw [Zag h];exact e
theorem Zso (e:Es K (.ref c) qual=true)(h:T.contains c=false:=by decide):Es (Zhz T K) (.ref c) qual=true:=by unfold Es at e ⊢;simp only [Zag h];exact e
theorem dropT_hd (e:Gw K c P=true)(h:T.contains c=false:=by decide):Gw (Zhz T K) c P=true:=by unfold Gw at e ⊢;rw [Zag h];exact e
theorem Ztx (l:K.lookup f=some ⟨oc,od,.func fd,osl⟩)(h:T.contains f=false:=by decide):DO (Zhz T K) (.ref f)=true:=by unfold DO;simp only [Zag h,l]
theorem fun_mkT {kV doc pm ct:Value}(l:K.lookup f=some ⟨oc,od,.func (Gc x qual (Zdo st) (Js st) (Zl st) .none kV doc pm an (.ref c) ct),osl⟩)
  (cd:Es K (.ref c) qual=true) (hf:T.contains f=false:=by decide) (hc:T.contains c=false:=by decide):FunL (Zhz T K) x qual st f (Gc x qual (Zdo st) (Js st) (Zl st) .none kV doc pm an (.ref c) ct) c:=
 ⟨⟨oc,od,kV,doc,pm,an,ct,osl,rfl,by rw [Zag hf];exact l,Zso cd hc⟩,Ztx l hf⟩
theorem Xlm (l:K.lookup a=some o)(h:T.contains a=false:=by decide):(Zhz T K).lookup a=some o:=by rw [Zag h];exact l
variable {H2:Hp}
variable {pa pb pc pd:Pos}
variable {P:Aw}{h':AZ}{o:HO}
variable {u u':HO}
end
section
variable {S:List (Nat×Bool)}
theorem Zpk {k:Int ⊕ Str}:∀{ks:List (Int ⊕ Str)} {ds:List D} {xs:List V},RpA K C H ds xs []->Dl.Xn ds=true->match Dl.dAt ks ds k with
  | some d=>∃v,Zqh (ks.zip xs) k=some v/\Rp K C H d v []/\Dl.flat d=true
  | none=>Zqh (ks.zip xs) k=none
 | [],ds,xs,_,_=>by cases ds<;>rfl
 | j::ks,[],xs,q,_=>by rw [q.1];rfl
 | j::ks,x::ds,xs,q,h=>by obtain ⟨y,l,B,B',e1,e2,e3,e4⟩:=q;simp only [Dl.Xn,Ax] at h;subst e1;have z:=e2.flat h.1;subst z;rw [Dl.dAt];by_cases e:j=k;rw [if_pos e];exact ⟨y,Zhq e,e2,h.1⟩;rw [if_neg e,CU,Zht e];exact Zpk (e3.flat' h.2) h.2
theorem Xgi {fd:FE}(hd:EOk K C E Γ Δ m1 S1 td fd)(hy:EOk K C E Γ Δ m2 S2 ty fy):EOk K C E Γ Δ 2 [] (Xgs td ty) (Dl.f2 Dl.Zzh fd fy):=
  fun H0 Hb H σ ρ A Q I p=>hd H0 Hb H σ ρ A _ I (p.bind.imp (fun d q vd H1 g1 r1=>hy H0 Hb H1 σ ρ A _ (I.mono g1) (q.bind.imp (fun y q vy H2 g2 r2=>by
    obtain ⟨z,e,q2⟩:=Zfc q;obtain ⟨Bd,r1,_⟩:=r1;obtain ⟨By,r2,_⟩:=r2;cases d with
    | dct ks ds =>have e:(if Dl.Xn ds then (Dl.Xbh y).bind fun k=>Dl.dAt ks ds k else none)=some z:=e;split at e;rename_i hf;obtain ⟨k,hk,e⟩:=Bq.mp e;obtain ⟨a,xs,B,rfl,h1,h2,h3,_⟩:=r1;have hvk:=Zgc hk r2;subst hvk;have hv:=Zpk (ks:=ks) (k:=k) ((h3.same g2).flat' hf) hf;rw [e] at hv;obtain ⟨v,v1,v2,_⟩:=hv;refine ⟨a,v,rfl,?_,q2 v H2 (g1.trans g2) (Res.flat v2)⟩;rw [<- v1];exact Zul.k (g2 _ _ h1);cases e
    | _=>cases e) fun c x q H' g'=>q H' (g1.trans g'))) fun c x q H' g'=>q H' g')
theorem Zzm {tx:TE}{fd fx:FE}(hd:EOk K C E Γ Δ m1 S1 td fd)(hy:EOk K C E Γ Δ m2 S2 ty fy)(hx:EOk K C E Γ Δ m3 S3 tx fx):EOk K C E Γ Δ 2 [] (Zvv td ty tx) (Dl.Zsu fd fy fx):=
  fun H0 Hb H σ ρ A Q I p=>hd H0 Hb H σ ρ A _ I (p.bind.imp (fun d q vd H1 g1 r1=>by
    obtain ⟨Bd,r1,_⟩:=r1;cases d with
    | dct ks ds =>
      obtain ⟨a,xs,B,rfl,h1,h2,h3,_⟩:=r1;refine ⟨a,rfl,.inl ⟨_,.inl h1⟩,hy H0 Hb H1 σ ρ A _ (I.mono g1) (q.bind.imp (fun y q vy H2 g2 r2=>hx H0 Hb H2 σ ρ A _ ((I.mono g1).mono g2) (q.bind.imp (fun z q vz H3 g3 r3=>?_) fun c x q H' g'=>q H' (g1.trans (g2.trans g')))) fun c x q H' g'=>q H' (g1.trans g'))⟩;obtain ⟨By,r2,_⟩:=r2;obtain ⟨Bz,r3,_⟩:=r3;split at q;rename_i k hk;split at q;rename_i hf;have hvk:=Zgc hk r2;subst hvk;have hv:=Zpk (ks:=ks) (k:=k) ((h3.same (g2.trans g3)).flat' hf.1) hf.1;have zB:=r3.flat hf.2;subst zB;refine ⟨_,Zul.k ((g2.trans g3) _ _ h1),?_⟩;cases e:Dl.dAt ks ds k with
      | some d =>rw [e] at hv q;obtain ⟨v,v1,v2,_⟩:=hv;rw [v1];exact q v H3 (g1.trans (g2.trans g3)) (Res.flat v2)
      | none =>rw [e] at hv q;rw [show Zqh (ks.zip xs) k=none from hv];exact q vz H3 (g1.trans (g2.trans g3)) (Res.flat r3)
      exact q.elim;exact q.elim
    | _=>exact q.elim) fun c x q H' g'=>q H' g')
variable {a c o:Expr}{tb tc:TE}{fa fc:FE}
theorem Zxa (ha:JE X C E Γ Δ m1 S1 a ta fa)(hb:JE X C E Γ Δ m2 S2 b tb fb)(hu:X.A.units+64<Bi)(hs:NoSl b:=by intro _ _;rfl):JE X C E Γ Δ 2 [] (.Subscript a b pos) (Xgs ta tb) (Dl.f2 Dl.Zzh fa fb):=⟨⟨Xfr (by omega) ha.q.out hb.q.out hs⟩,Xgi ha.o hb.o⟩
theorem Xhw (ha:JE X C E Γ Δ m1 S1 a ta fa)(hb:JE X C E Γ Δ m2 S2 b tb fb)(hc:JE X C E Γ Δ m3 S3 c tc fc)(hu:X.A.units+64<Bi)(hbase:Bt a "get" X.env (AF a X.env)=AF a X.env:=by rfl)
  (hfew:((AW cpos (Ab [b,c] X.env)).all (fun x=>!x.1)&&(Cq cpos (BO [] X.env)).all (fun x=>x.1.isSome)&&decide (([b,c]:List Expr).length+([]:List Bo).length+(if ([]:List Bo).isEmpty then 0 else 1)<30))=true:=by rfl)
  (hline:(apos.endLine==cpos.line)=true:=by rfl) (htr:AW cpos (Ab [b,c] X.env)=[(false,AF b X.env),(false,AF c X.env)]:=by rfl):JE X C E Γ Δ 2 [] (.Call (.Attribute a "get" apos) [b,c] [] cpos) (Zvv ta tb tc) (Dl.Zsu fa fb fc):=
 ⟨⟨Xck (by omega) ha.q.out hb.q.out hc.q.out ⟨hbase,hfew,hline,htr⟩⟩,Zzm ha.o hb.o hc.o⟩
variable {pos2:Pos}{e1 e2:Expr}{t1 t2:TE}{f1 f2:FE}{v:TS}{h:FS}
end
open Dl (FM)
section
variable {S:List (Nat×Bool)}
def MOkF (K:AE)(C:String->Addr)(E:XK)(Γ Δ:List Nat)(i:Nat)(t:TE)(f:FM):Prop:=∀(H0 Hb H:Hp) (σ:St) (ρ:Yb) (A:Nat->List Addr) (Q:VK),Zq K C H0 Hb H Γ Δ σ ρ A->
 Zz (f ρ) (fun p=>∀v H' A' B,Zq K C H0 Hb H' Γ Δ σ p.2 A'->(∀b o,b∉A i->H b=some o->H' b=some o)->(∀j,j≠i->p.2[j]?=ρ[j]?/\A' j=A j)->Rp K C H' p.1 v B->B.Nodup->(∀a∈B,Hb a=none/\∀j,a∉A' j)->Q v H') (fun c x=>∀H',Xk H0 H'->EC C E c x H')->t σ H Q
variable {p4 p5 mpos mapos:Pos}{c:String}{md kx:Str}{k:Nat}
structure JMF (X:Cx)(C:String->Addr)(E:XK)(Γ Δ:List Nat)(j:Nat)(e:Expr)(t:TE)(f:FM):Prop where
 q:QE X e t
 o:MOkF X.K C E Γ Δ j t f
end
@[reducible] def Cx.blkC (X:Cx)(N2:List Str)(y:Str)(sc:Scope)(cl:List (Str×Addr))(C:Addr)(s0:Ac)(H0:Hp)(fp:List Addr):Cx:=
 {X with N:=N2++[y],s₀:=s0,H₀:=H0,env:=Fa sc cl C X.env,outer:=X.stack,ex:=fp,fn:=fun z=>z==y,pn:=[],xe:=fun _ _=>False}
structure BlkC (sc esc:Scope)(y:Str)(N N2:List Str):Prop where
 kind:sc.kind=.function
 cell:∀n acc,FF n sc.names acc=(y,n)::acc
 one:∀z∈sc.names,z.2=.cell->z.1=y
 nfree:∀z∈sc.names,z.2=.free->z.1≠y
 loc:∀z∈sc.names,z.2=.local->sc.names.lookup z.1=some .local
 free:∀z∈sc.names,z.2=.free->esc.names.lookup z.1=some .cell\/esc.names.lookup z.1=some .free
 out:∀z∈N2,sc.names.lookup z≠some .local/\z≠y
 nd:N.Nodup
 len:N2.length=N.length
 ren:∀p∈N.zip N2,p.2=p.1\/sc.names.lookup p.2=none
section
variable {g:TG}
variable {S:List (Nat×Bool)}
variable {gg:TG}{fi:FI}{fg:FB}
end
open Dl (FMT)
section
variable {S:List (Nat×Bool)}
theorem Xjq {t:TS}{f:FS}(hc:TOk K C E Γ Δ tc fc)(h1:Znc K C E Γ Δ Γ' Δ' t f)(h2:Znc K C E Γ Δ Γ' Δ' u g):Znc K C E Γ Δ Γ' Δ' (Xar tc t u) (Dl.sIf fc f g):=fun H0 Hb H σ ρ A D I p =>
  hc H0 Hb H σ ρ A _ I (Zz.imp (Zz.bind p) (fun b q H1 g1=>by
    cases b with
    | true=>exact h1 H0 Hb H1 σ ρ A D (I.mono g1) q
    | false=>exact h2 H0 Hb H1 σ ρ A D (I.mono g1) q) fun c x q H' g'=>q H' (Xk.from0 I g'))
end
section
variable {k:Nat}{S:List (Nat×Bool)}{a:Expr}{q3:Pos}
variable {ff:FA}{z:Str}
end
section
variable {S:List (Nat×Bool)}
def SOkT (K:AE)(C:String->Addr)(E:XK)(t:TS)(f:FS):Prop:=∀(H0 Hb H:Hp) (σ:St) (ρ:Yb) (A:Nat->List Addr) (D:Ends),Zq K C H0 Hb H [] [] σ ρ A->
  Zz (f ρ) (fun fl=>match fl with
    | .ret d=>∀v H' Br,Xk H H'->Rp K C H' d v Br->(∀a∈Br,(∃j,a∈A j)\/H a=none)->D.rt v H'
    | _=>False) (fun c x=>∀H',Xk H H'->EC C E c x H')->t D σ H
end
structure JTs (X:Cx)(C:String->Addr)(E:XK)(ss:List Stmt)(t:TS)(f:FS):Prop where
 q:QSs X ss t
 o:SOkT X.K C E t f
 n:∀ρ ρ',f ρ≠.ok (.nx ρ')
section
variable {k:Nat}{S:List (Nat×Bool)}{f:FA}
end
open Dl (Pr kLt Xpp)
section
variable {E:Value->Ac->Prop}
end
open Dl (D R FE FT FA FO FS FI FB FM FMT Fl) in
section
variable {c:Expr}{tA:TT}{fA:Dl.FT}{ip rp:Pos}
end
end L2
namespace L2
open PySem
def UpP (a:Array Nat):Prop:=∀(i j x y:Nat),i<j->a[i]?=some x->a[j]?=some y->x<y
structure TabU (t:SetTable):Prop where
 no:t.dummies=#[]
 up:UpP t.place
end L2
namespace L2
open PySem PySem.Spec PyProof.Rows
open Dl (Xgf Zyn)
variable {prog:Aw}{w:AS}{A:AR}{E:Value->Ac->Prop}{s:Ac}{a:Addr}{ks:List Int}{es:Array (Int×Value)}{t:SetTable}{X:Cx}{pins:List (Addr×Obj)}{e:Expr}{te:TE}{p:Pos}{K:AE}{C:String->Addr}{Γ Δ:List Nat}{m1 m:Nat}{S1:List (Nat×Bool)}
section
variable {it:Addr}{ep i:Nat}
end
open Dl (D R FE FT FA FO FS FI FB Fl)
section
variable {σ:St}{H:Hp}{p' pos pos':Pos}
variable {E:XK}
variable {S:List (Nat×Bool)}{fe:FE}{p2 apos cpos:Pos}
end
end L2
namespace L2
open PySem PyProof.Rows
variable {prog:Aw}{w:AS}{A:AR}{E:Value->Ac->Prop}{s:Ac}{κ:D5}{P:AK->Prop}{st:Fc}{ps:AK->Int}{d0:AK}{a0 Z:List AK}{Rs:List (List AK)}
def SB (r:AK->AK->Bool)(ps:AK->Int)(x y:AK):Prop:=r y x=false/\(r x y=false->ps x<ps y)
def Tl (ps:AK->Int)(g:Nat->AK)(n m:Nat):Prop:=∀i j,i<j->n<=j->j<m->ps (g i)<ps (g j)
section
variable {r:AK->AK->Bool}{lo nrem:Nat}
structure DnL (r:AK->AK->Bool)(ps:AK->Int)(g:Nat->AK)(x q m:Nat):Prop where
 fall:∀i j,i<j->j<x->i<x - (q+1)->SB r ps (g j) (g i)
 like:∀i j,x - (q+1)<=i->i<x->x - (q+1)<=j->j<x->Eqv r (g i) (g j)
 tail:Tl ps g (x - (q+1)) m
 q1:q+1<=x
structure Od (ps:AK->Int)(Rs:List (List AK))(Z:List AK):Prop where
 runs:Rs.Pairwise fun A B=>∀x∈A,∀y∈B,ps x<ps y
 rest:∀R∈Rs,∀x∈R,∀y∈Z,ps x<ps y
 tail:Z.Pairwise fun x y=>ps x<ps y
end
end L2
namespace L2
open PySem PySem.Spec PyProof.Rows
variable {prog:Aw}{w:AS}{A:AR}{E:Value->Ac->Prop}{s:Ac}{a c:Addr}{vs:List Value}{kz cs:List Int}{keys:Array Value}{P:PySem.Fin->Ac->Prop}{X:Cx}{pins:List (Addr×Obj)}{σ:St}{H:Hp}{tb:V->Hp->VK->Prop}{QQ:List Int->Hp->Prop}{N:List Str}{p lpos np pos kp2 cp apos cpos:Pos}{qual:Str}{params:Eg}{body e iter tg:Expr}{sc:Scope}{cl:List (Str×Addr)}{js Γ Δ Γ' Δ' Γl Δl Γ1 Δ1:List Nat}{te:TE}{K:AE}{C:String->Addr}{m mb mr n:Nat}{Sb:List (Nat×Bool)}{fe:FE}{s1:Stmt}{ifs:List Expr}
def kp (x:AK):Int×Int:=(numOf x.1,numOf x.2)
section
variable {kS:Addr}{e e1:Nat}
variable {f:Addr}
variable {p:Str}{P:Addr}{kp:Pos}{tb:TE}{k:Nat}
end
open Dl (D R FE FT FA FO FS FI FB Fl)
section
variable {E:XK}{m1 m2:Nat}{S:List (Nat×Bool)}
variable {p:Str}{P:Addr}{kp:Pos}{tb:TE}{fb:FE}{k:Nat}
def AllN (H0:Hp)(A:Nat->List Addr):Prop:=∀j,∀a∈A j,H0 a=none
def PostU (K:AE)(C:String->Addr)(E:XK)(Γl Δl Γ' Δ':List Nat)(H0 Hb:Hp)(D:Ends)(r:R Fl):Prop:=Zz r (fun fl=>match fl with
    | .nx ρ'=>∀σ' H' A',Zq K C H0 Hb H' Γ' Δ' σ' ρ' A'->AllN H0 A'->D.nx σ' H'
    | .ret d=>∀v H' B,Xk Hb H'->Rp K C H' d v B->(∀a∈B,H0 a=none)->D.rt v H'
    | .brk ρ'=>∀σ' H' A',Zq K C H0 Hb H' Γl Δl σ' ρ' A'->AllN H0 A'->D.bk σ' H'
    | .cnt ρ'=>∀σ' H' A',Zq K C H0 Hb H' Γl Δl σ' ρ' A'->AllN H0 A'->D.ct σ' H')
  (fun c x=>∀H',Xk Hb H'->EC C E c x H')
def SOkU (K:AE)(C:String->Addr)(E:XK)(Γl Δl Γ Δ Γ' Δ':List Nat)(t:TS)(f:FS):Prop:=∀(H0 Hb H:Hp) (σ:St) (ρ:Yb) (A:Nat->List Addr) (D:Ends),Zq K C H0 Hb H Γ Δ σ ρ A->AllN H0 A->PostU K C E Γl Δl Γ' Δ' H0 Hb D (f ρ)->t D σ H
end
structure JU (X:Cx)(C:String->Addr)(E:XK)(Γl Δl Γ Δ Γ' Δ':List Nat)(s:Stmt)(t:TS)(f:FS):Prop where
 q:QS X s t
 o:SOkU X.K C E Γl Δl Γ Δ Γ' Δ' t f
structure JUs (X:Cx)(C:String->Addr)(E:XK)(Γl Δl Γ Δ Γ' Δ':List Nat)(ss:List Stmt)(t:TS)(f:FS):Prop where
 q:QSs X ss t
 o:SOkU X.K C E Γl Δl Γ Δ Γ' Δ' t f
section
variable {E:XK}{k:Nat}{S:List (Nat×Bool)}{c:Expr}{ss body other:List Stmt}{u v:TS}{g h:FS}{pos':Pos}
variable {elt:Expr}{wi:TI}{tc:TT}{gg:TG}{fi:FI}{fc:FT}{fg:FB}
end
section
variable {E:XK}{S:List (Nat×Bool)}{p1 p2 p3:Pos}{x y z:Str}{i j l k:Nat}
end
end L2
namespace L2
open PySem PyProof.Rows
variable {prog:Aw}{w:AS}{A:AR}{E:Value->Ac->Prop}{s:Ac}{κ:D5}{P:PySem.Fin->Ac->Prop}{st:Fc}{ps:AK->Int}{vs:List Value}{kz cs:List Int}{keys:Array Value}
section
variable {P:AK->Prop}{r:AK->AK->Bool}
variable {a kS:Addr}{e e1:Nat}
end
end L2
namespace L2
open PySem PySem.Spec PyProof.Rows
variable {X:Cx}{pins:List (Addr×Obj)}{σ:St}{H:Hp}{s:Ac}{tb:V->Hp->VK->Prop}{A:AR}{E:Value->Ac->Prop}{P:PySem.Fin->Ac->Prop}{vs:List Value}{cs:List Int}{QQ:List Int->Hp->Prop}{N:List Str}{p qual:Str}{params:Eg}{body e:Expr}{sc:Scope}{cl:List (Str×Addr)}{js Γ Δ:List Nat}{c:Addr}{lpos np pos kp2 cp:Pos}{te:TE}{K:AE}{C:String->Addr}{m mb:Nat}{Sb:List (Nat×Bool)}
section
variable {a f:Addr}
variable {P:Addr}{kp:Pos}{tb:TE}{k:Nat}
end
open Dl (D R FE FT FA FO FS FI FB Fl)
section
variable {E:XK}{Γ' Δ':List Nat}{m1 m2:Nat}{S:List (Nat×Bool)}
variable {P:Addr}{kp:Pos}{tb:TE}{fe fb:FE}{k:Nat}
end
end L2
namespace L2
open PySem PySem.SeqAt PyProof.Rows
open Dl (sLt Pr kLt Xpp)
variable {prog:Aw}{w:AS}{A:AR}{E:Value->Ac->Prop}{s:Ac}
end L2
namespace L2
open PySem PySem.Spec PyProof.Rows
open Dl (D R FE FT FA FO FS FI FB FM FMT Fl Pr kLt Xpp)
variable {X:Cx}{K:AE}{C:String->Addr}{H:Hp}{prog:Aw}{w:AS}{A:AR}{E:Value->Ac->Prop}{s:Ac}{tg e a b:Expr}{apos cpos tpos p p2 pos np:Pos}{elts es:List Expr}{x1 m mr i m1 m2 n:Nat}{Γ Δ Γ' Δ' Γl Δl Γ1 Δ1 Γk Δk:List Nat}{te ta tb:TE}{fe fa:FE}{x y:Str}{S1 S2:List (Nat×Bool)}{fb:FB}{t u:TS}{f g:FS}{wi:TI}{fi:FI}{CX:CXT}{ps:List Str}{s1:Stmt}{ss body other:List Stmt}{I:Addr}{fp wr:List Addr}{P:Nat->Value->Prop}
section
variable {l:Expr}{tl:TE}
structure M0 (X:Cx)(o:Expr)(md:Str)(apos cpos:Pos):Prop where
 base:Bt o md X.env (AF o X.env)=AF o X.env
 few:((AW cpos (Ab ([]:List Expr) X.env)).all (fun x=>!x.1)&&(Cq cpos (BO [] X.env)).all (fun x=>x.1.isSome)&&decide (([]:List Expr).length+([]:List Bo).length+(if ([]:List Bo).isEmpty then 0 else 1)<30))=true
 line:(apos.endLine==cpos.line)=true
 trees:AW cpos (Ab ([]:List Expr) X.env)=[]
variable {E:XK}{S:List (Nat×Bool)}
variable {E:XK}{S:List (Nat×Bool)}
end
inductive LorT:HO->Prop where
 | lst {xs:List V}:LorT (.lst xs)
 | dtt {kvs:List (List Key×V)}:LorT (.dT kvs)
section
variable {E:XK}{S:List (Nat×Bool)}
variable {pos':Pos}{j:Nat}
variable {fb:FE}
end
section
variable {E:XK}{S:List (Nat×Bool)}
def BOk0 (K:AE)(C:String->Addr)(Γ Δ:List Nat)(g:TG)(b:FB):Prop:=∀(H0 Hb H:Hp) (σ:St) (ρ:Yb) (A:Nat->List Addr) (d:D) (v:V) (B:List Addr) (Rr:St->Hp->Prop),Zq K C H0 Hb H Γ Δ σ ρ A->Rp K C H d v B->(∀a∈B,Hb a≠none)->
 Zz (b d ρ) (fun ρ'=>∀σ' A',σ'[0]?=σ[0]?->Zq K C H0 Hb H Γ Δ σ' ρ' A'->Rr σ' H) (fun _ _=>False)->g v σ H Rr
def BsOk0 (K:AE)(C:String->Addr)(Γ Δ:List Nat)(g:TGs)(b:List D->Yb->R Yb):Prop:=∀(H0 Hb H:Hp) (σ:St) (ρ:Yb) (A:Nat->List Addr) (d:List D) (v:List V) (B:List Addr) (Rr:St->Hp->Prop),Zq K C H0 Hb H Γ Δ σ ρ A->RpA K C H d v B->(∀a∈B,Hb a≠none)->
 Zz (b d ρ) (fun ρ'=>∀σ' A',σ'[0]?=σ[0]?->Zq K C H0 Hb H Γ Δ σ' ρ' A'->Rr σ' H) (fun _ _=>False)->g v σ H Rr
theorem Zyp (h0:i≠0:=by decide)(h1:i∉Γ:=by decide)(h2:i∉Δ:=by decide):BOk0 K C Γ Δ (Zac i) (Dl.Zr i):=fun H0 Hb H σ ρ A d v B Rr I r hB p=>by obtain ⟨A',I',_⟩:=I.put (Γ':=Γ) (Δ':=Δ) (i:=i) r (fun j hj e=>⟨hj,fun a l e' ha=>hB a ha (I.top j hj a l e').1⟩) (fun hj=>absurd hj h1) (fun j hj e=>⟨hj,fun a ha hb=>hB a hb ((I.deep j hj).2.2 a ha)⟩) (fun hj=>absurd hj h2);exact p _ A' (Bc h0) I'
theorem Xgu:Znc K C E Γ Δ Γ Δ Zll Dl.sNx:=fun H0 Hb H σ ρ A D I p=>p σ H A rfl I
theorem Xci (h1:Znc K C E Γ Δ Γ1 Δ1 t f)(h2:Znc K C E Γ1 Δ1 Γ' Δ' u g):Znc K C E Γ Δ Γ' Δ' (Xfd t u) (Dl.Xm f g):=fun H0 Hb H σ ρ A D I p =>
  h1 H0 Hb H σ ρ A _ I (Zz.imp (Zz.bind p) (fun fl q=>by
    cases fl with
    | nx ρ1=>exact fun σ1 H1 A1 e1 I1=>h2 H0 Hb H1 σ1 ρ1 A1 D I1 (Zz.imp q (fun fl q=>by
        cases fl with
        | nx ρ2=>exact fun σ2 H2 A2 e2 I2=>q σ2 H2 A2 (e2.trans e1) I2
        | _=>exact q) fun _ _ z=>z)
    | _=>exact q) fun _ _ z=>z)
theorem Zyk (h:Znc K C E Γ Δ Γ1 Δ1 t f)(h1:∀i∈Γ',i∈Γ1)(h2:∀i∈Δ',i∈Δ1):Znc K C E Γ Δ Γ' Δ' t f:=fun H0 Hb H σ ρ A D I p =>
  h H0 Hb H σ ρ A D I (Zz.imp p (fun fl q=>by
    cases fl with
    | nx ρ1=>exact fun σ1 H1 A1 e1 I1=>q σ1 H1 A1 e1 (I1.weak h1 h2)
    | _=>exact q) fun _ _ z=>z)
theorem Zzp {g:TG}{tb:TS}{fs:FS}(hi:IOk K C E Γ Δ S wi fi)(hb:BOk0 K C Γl Δl g fb)(hs:Znc K C E Γl Δl Γl Δl tb fs)
    (h1:∀i∈Γl,i∈Γ:=by decide) (h2:∀i∈Δl,i∈Δ:=by decide) (h3:∀p∈S,p.1∉Γl/\p.1∉Δl:=by decide):Znc K C E Γ Δ Γl Δl (Xey wi g tb) (Dl.Zhu fi fb (Dl.Zno fs)):=fun H0 Hb H σ ρ A D I p=>by
  refine hi H0 Hb H σ ρ A _ I (Zz.imp (Zz.bind p) (fun ds q J H1 W g1 hW hlen hJ=>?_) fun c x q H' g'=>q H' (Xk.from0 I g'));have I1:=(I.mono g1).weak h1 h2;have hlst:∀a∈ownAt A Γl Δl,∃o,H1 a=some o/\IsM o:=fun a ha=>by rcases Zdp ha with ⟨i,_,l,e⟩ | ⟨i,_,e⟩;exact I1.is (j:=i) (by rw [e];exact .head _);exact I1.is e
  have hbn:∀a∈ownAt A Γl Δl,Hb a=none:=fun a ha=>by rcases Zdp ha with ⟨i,hi,l,e⟩ | ⟨i,hi,e⟩;exact (I1.top i hi a l e).1;exact (I1.deep i hi).2.2 a e
  have hout:∀a∈W,a∉ownAt A Γl Δl:=fun a ha ho=>by rcases (hW a ha).2 with z | z;rcases Zdp ho with ⟨i,hi,l,e⟩ | ⟨i,hi,e⟩;exact I.ne (j:=i) (by rw [e];exact .head _) z;exact I.ne e z;rcases Zdp ho with ⟨i,hi,l,e⟩ | ⟨i,hi,e⟩;exact I1.top_out hi (fun h=>(h3 _ h).1 hi) e z;exact I1.deep_out hi (fun p hp e'=>(h3 p hp).2 (by rw [e'];exact hi)) e z
  let Hc:Hp:=fun b=>if b∈ownAt A Γl Δl then none else H1 b
  have c1:Xk Hc H1:=fun b o h=>by show H1 b=some o;have h:(if b∈ownAt A Γl Δl then none else H1 b)=some o:=h;split at h;cases h;exact h
  have c2:Xk Hb Hc:=fun b o h=>by show (if b∈ownAt A Γl Δl then none else H1 b)=some o;rw [if_neg fun ho=>by rw [hbn b ho] at h;cases h];exact I1.same b o h
  have c3:∀a,a∉ownAt A Γl Δl->Hc a=H1 a:=fun a ha=>if_neg ha;have c4:∀a∈ownAt A Γl Δl,Hc a=none:=fun a ha=>if_pos ha;have I2:Zq K C H0 Hc H1 Γl Δl σ ρ A:=⟨I1.s0.trans c2,c1,I1.len,I1.rep,I1.nil,I1.loc,fun i hi a l e=>⟨c4 a (Zwg hi e),(I1.top i hi a l e).2⟩,fun i hi=>⟨(I1.deep i hi).1,(I1.deep i hi).2.1,fun a ha=>c4 a (Zsf hi ha)⟩⟩;have back:∀{σ':St} {ρ':Yb} {H':Hp} {A':Nat->List Addr},Zq K C H0 Hc H' Γl Δl σ' ρ' A'->Zq K C H0 Hb H' Γl Δl σ' ρ' A':=fun I' =>
    ⟨I1.s0,c2.trans I'.same,I'.len,I'.rep,I'.nil,I'.loc,fun i hi a l e=>⟨c2.free (I'.top i hi a l e).1,(I'.top i hi a l e).2⟩,fun i hi=>⟨(I'.deep i hi).1,(I'.deep i hi).2.1,fun a ha=>c2.free ((I'.deep i hi).2.2 a ha)⟩⟩
  have go:Goes K C J ds Hc:=hJ Hc ⟨fun a ha=>c3 a (hout a ha),fun b o h hn=>(c3 b fun ho=>by
    obtain ⟨xs,e,hm⟩:=hlst b ho;rw [e] at h;cases h;exact hn hm).trans h⟩
  refine Zqd go (fun k σ' H'=>σ'[0]?=σ[0]?/\∃ρ' A',Zq K C H0 Hc H' Γl Δl σ' ρ' A'/\Zz (Dl.Zbx fb (Dl.Zno fs) (ds.drop k) ρ') (fun fl=>match fl with
    | .nx ρ'=>∀σ' H' A',σ'[0]?=σ[0]?->Zq K C H0 Hb H' Γl Δl σ' ρ' A'->D.nx σ' H'
    | _=>False) (fun c x=>∀H',Xk H0 H'->EC C E c x H')) ⟨rfl,ρ,A,I2,q⟩ (fun _ _ _ ⟨_,_,_,I',_⟩=>I'.same) ?_ ?_
  rintro k d x Bx σ' Ha H' hd ⟨e0,ρ',A',Ia,pq⟩ ga rx hBx;have I':=Ia.mono ga;rw [Zge _ _ _ hd] at pq;have pq':=Zbr (Zz.bind pq);refine hb H0 Hc H' σ' ρ' A' d x Bx _ I' rx hBx (Zz.imp pq' (fun ρ1 pq σ1 A1 e1 I1'=>?_) fun _ _ z=>z);refine hs H0 Hc H' σ1 ρ1 A1 _ I1' (Zz.imp (Zz.bind (Zz.bind pq)) (fun fl pq=>?_) fun _ _ z=>z);cases fl with
  | nx ρ2=>exact fun σ2 H2 A2 e2 I2'=>⟨e2.trans (e1.trans e0),ρ2,A2,I2',pq⟩
  | _=>exact pq
  rintro σ' H' ⟨e0,ρ',A',I',pq⟩;rw [Dz] at pq;exact pq σ' H' A' e0 (back I')
end
structure JPs (X:Cx)(C:String->Addr)(E:XK)(Γ Δ Γ' Δ':List Nat)(s:List Stmt)(t:TS)(f:FS):Prop where
 q:QSs X s t
 o:Znc X.K C E Γ Δ Γ' Δ' t f
structure JG0 (X:Cx)(C:String->Addr)(Γ Δ:List Nat)(e:Expr)(t:TG)(b:FB):Prop where
 q:QG X e t
 o:BOk0 X.K C Γ Δ t b
structure JGs0 (X:Cx)(C:String->Addr)(Γ Δ:List Nat)(es:List Expr)(n:Nat)(t:TGs)(f:List D->Yb->R Yb):Prop where
 q:QGs X es t
 o:BsOk0 X.K C Γ Δ t f
 n:∀ds ρ ρ',f ds ρ=.ok ρ'->ds.length=n
section
variable {E:XK}{k:Nat}{S:List (Nat×Bool)}{c iter:Expr}{t:TA}{fa:FA}{tm:TE}{fm:FM}{p1 q3:Pos}{v:TS}{h:FS}
theorem Zuv:JPs X C E Γ Δ Γ Δ [] Zll Dl.sNx:=⟨Zpj,Xgu⟩
theorem Zou (h1:JP X C E Γ Δ Γ' Δ' s1 u g):JPs X C E Γ Δ Γ' Δ' [s1] u g:=⟨Zkq h1.q,h1.o⟩
theorem Zhr (Γ1 Δ1:List Nat)(h1:JP X C E Γ Δ Γ1 Δ1 s1 u g)(h2:JPs X C E Γ1 Δ1 Γ' Δ' ss v h):JPs X C E Γ Δ Γ' Δ' (s1::ss) (Xfd u v) (Dl.Xm g h):=⟨Zlb h1.q h2.q,Xci h1.o h2.o⟩
theorem Xcn (Γ1 Δ1:List Nat)(h:JPs X C E Γ Δ Γ1 Δ1 ss u g)(h1:∀i∈Γ',i∈Γ1:=by decide)(h2:∀i∈Δ',i∈Δ1:=by decide):JPs X C E Γ Δ Γ' Δ' ss u g:=⟨h.q,Zyk h.o h1 h2⟩
theorem Xdp (h0:i≠0:=by decide)(h1:i∉Γ:=by decide)(h2:i∉Δ:=by decide)(hN:X.N.Nodup)(hi:X.N[i]?=some x)(hx:Loc X.env.scope x)(hf:autoParam (X.fn x=true\/X.env.scope.names.lookup x=some .local) aT0._auto_1):JG0 X C Γ Δ (.Name x pos) (Zac i) (Dl.Zr i):=⟨Zfx hN hi hx hf,Zyp h0 h1 h2⟩
theorem Xpr {tA:TT}{fA:FT}(hc:JT X C E Γ Δ c tA fA)(ha:JPs X C E Γ Δ Γ' Δ' body u g)(hb:JPs X C E Γ Δ Γ' Δ' other v h):JP X C E Γ Δ Γ' Δ' (.If c body other pos) (Xar tA u v) (Dl.sIf fA g h):=⟨Xii hc.q ha.q hb.q,Xjq hc.o ha.o hb.o⟩
theorem Xpk {tt:TG}(Γl Δl:List Nat)(hp:EL (AA X.prog X.w) X.A X.env X.xe)(hc:X.calm=true)(hi:JI X C E Γ Δ S tg iter wi fi)(hg:JG0 X C Γl Δl tg tt fb)(hb:JPs X C E Γl Δl Γl Δl body u g)(hs:∀x,AQ iter X.env x=pure x:=by intro _;rfl)
  (h1:∀i∈Γl,i∈Γ:=by decide) (h2:∀i∈Δl,i∈Δ:=by decide) (h3:∀p∈S,p.1∉Γl/\p.1∉Δl:=by decide):JP X C E Γ Δ Γl Δl (.For tg iter body [] pos) (Xey wi tt u) (Dl.Zhu fi fb (Dl.Zno g)):=⟨Zwf hp hc hi.q hg.q hb.q hs,Zzp hi.o hg.o hb.o h1 h2 h3⟩
variable {fb:FE}{R:Fd->Ac->Prop}{St:Nat->AZ->Prop}
variable {td:TE}{kp:Pos}
end
end L2
namespace L2
open PySem PySem.SeqAt PyProof.Rows
open Dl (ilt Xim)
variable {A:AR}{s:Ac}{prog:Aw}{w:AS}{E:Value->Ac->Prop}
end L2
namespace L2
open PySem PySem.Spec PyProof.Rows
open Dl (D R FE FT FA FO FS FI FB Fl Xim)
variable {X:Cx}{K:AE}{C:String->Addr}{E:XK}{Γ Δ Γ' Δ':List Nat}{m m1 m2 ep x1:Nat}{S1 S2 S3:List (Nat×Bool)}{H:Hp}{e a b tg:Expr}{te ta tb:TE}{fe fa fb:FE}{pos p tpos:Pos}{prog:Aw}{w:AS}{A:AR}{od:Obj}{es:Array DictEntry}{s:Ac}{elts:List Expr}
section
variable {Γl Δl:List Nat}{m3 mr:Nat}{S:List (Nat×Bool)}
variable {a it:Addr}
variable {E:Value->Ac->Prop}
end
end L2
namespace L2
open PySem PyProof.Rows
variable {prog:Aw}{w:AS}{A:AR}{E:Value->Ac->Prop}{s:Ac}{κ:D5}{P:AK->Prop}{st:Fc}
section
variable {r:AK->AK->Bool}
end
end L2
namespace L2
open PySem PySem.SeqAt PyProof.Rows
open Dl (ilt Xim)
variable {prog:Aw}{w:AS}{A:AR}{E:Value->Ac->Prop}{s:Ac}
end L2
namespace L2
open PySem PySem.Spec PyProof.Rows
open Dl (D R FE FT FA FO FS FI FB Fl Xim)
variable {X:Cx}{K:AE}{C:String->Addr}{E:XK}{Γ Δ:List Nat}{m m1 m2:Nat}{S1 S2 S3:List (Nat×Bool)}{e:Expr}{T:List Addr}{c:Addr}
section
variable {Γl Δl:List Nat}{m3 mr:Nat}{S:List (Nat×Bool)}{H:Hp}
end
section
variable {Γ' Δ':List Nat}{S:List (Nat×Bool)}{te:TE}{fe:FE}{pos p:Pos}
end
end L2
namespace L2
open PySem PySem.SeqAt PyProof.Rows
open Dl (ilt Xim)
variable {prog:Aw}{w:AS}{A:AR}{E:Value->Ac->Prop}{s:Ac}
end L2
namespace L2
open PySem PySem.Spec PyProof.Rows
open Dl (D R FE FT FA FO FS FI FB Fl Xim)
variable {X:Cx}{K:AE}{C:String->Addr}{H H0:Hp}{E:XK}{Γ Δ Γl Δl Γ' Δ' Γ1 Δ1:List Nat}{m m1 m2 mr i n b m3 m4 a j nn n2:Nat}{S1 S2 S3 S4:List (Nat×Bool)}{te tk tk1 tk2 tl1 tl2:TE}{fe fk fk1 fk2 fl1 fl2:FE}{e kx tg iter:Expr}{pos p p2 apos cpos:Pos}{x qual:Str}{P:Aw}{w:AS}{mg:Str->Option Value}{st:Stmt}{f:Yb->R (D×D)}{fd:B3}{N ps N':List Str}{ts:List (Addr×Pos×Str)}{es:List Expr}{t:TA}{CX:CXT}{α β:Type}{pins:List (Addr×Obj)}{σ:St}{s:Ac}{G:List D->R (D×D)}{fa:FA}{ρ:Yb}{A:Nat->List Addr}{v:V}{B:List Addr}{xs ds:List D}{wi:TI}{fi:FI}{sc:Scope}{vs:List V}
section
variable {S:List (Nat×Bool)}
theorem Xbf (hi:i∈Γ:=by decide)(he:EOk K C E Γ Δ 2 [] te fe)(hk:EOk K C E Γ Δ m2 S2 tk fk):SOk K C E mr Γl Δl Γ Δ Γ Δ (Zfs te (Zbg (Zcr i) tk Zfe)) (Dl.Zsm i fk fe):=fun H0 Hb H σ ρ A D I p=>by
  refine he H0 Hb H σ ρ A _ I (Zz.imp (Zz.bind p) (fun d q v H1 g1 r=>?_) fun c x q H' g'=>q H' (Xk.from0 I g'));have I1:=I.mono g1;split at q
  · rename_i ds e;obtain ⟨a,xs,l,s1,h1,r1,hA,hl⟩:=Zbv I e;refine ⟨.ref a,s1,hk H0 Hb H1 σ ρ A _ I1 (Zz.imp (Zz.bind q) (fun z q w H2 g2 rz=>?_) fun c x q H' g'=>q H' (Xk.from0 I1 g'))⟩;obtain ⟨Bz,rz,_⟩:=rz;obtain ⟨B,rd,rB,_,nd⟩:=r;have hn:∀b∈B,H b=none:=fun b hb=>(rB b hb).elim id fun z=>z.none.elim;cases z with
    | int n =>
      obtain ⟨rfl,_⟩:=rz;simp only at q;split at q
      · rename_i j ej;have g12:=g1.trans g2;have jl:j<ds.length:=by unfold Dl.ixD at ej;split at ej;split at ej;cases ej;omega;cases ej;split at ej;cases ej;omega;cases ej
        obtain ⟨B1,Bj,B2,eB,rs⟩:=RpA.setV (j:=j) (r1.same g12) jl (rd.same g2);obtain ⟨A',I'⟩:=I.rewrite g12 hi hA hl s1 rs (fun b hb=>by
          rw [eB];rcases Ad.mp hb with z | z;exact .inl (As _ z)
          · rcases Ad.mp z with z | z;exact .inr (hn b z)
            · exact .inl (Ai _ (Ai _ z))) fun hd=>by
          have dl:=(I.deep i hd).1;rw [hA,eB] at dl;refine Zue (Ap.mp dl).2 (nd rfl) fun b hb=>⟨fun z=>I.ne (j:=i) (by rw [hA,eB];exact .tail _ (As _ z)) (hn b hb),fun z=>I.ne (j:=i) (by rw [hA,eB];exact .tail _ (Ai _ (Ai _ z))) (hn b hb)⟩
        exact ⟨a,xs,n,j,rfl,rfl,g12 _ _ h1,by rw [r1.len];exact ej,q _ _ A' I'⟩
      exact q.elim
    | _=>exact q.elim
  exact q.elim
theorem Xgp (hi:i∈Γ:=by decide)(hN:X.N[i]?=some x:=by rfl)(hv:autoParam (Vis X.env.scope x) aT3._auto_1)(hd:(x==("__debug__":Str))=false:=by decide)(hcd:(x==("__classdict__":Str))=false:=by decide)
    (he:JE X C E Γ Δ 2 [] e te fe) (hk:JE X C E Γ Δ m2 S2 kx tk fk) (hs:B7 [.Subscript (.Name x p) kx p2] e pos.line X.env=pure false:=by rfl) (hw:B8 [.Subscript (.Name x p) kx p2] e X.env=pure none:=by rfl) (h1:(Aq [.Subscript (.Name x p) kx p2] X.env).map (·.2)=[Bu (.Subscript (.Name x p) kx p2) X.env]:=by rfl)
    (hq:∀v,Bu (.Subscript (.Name x p) kx p2) X.env v=(do
      let ov <- A5 [v] (AF (.Name x p) X.env)
      let iv <- A5 [v,ov] (AF kx X.env)
      CI p2
      A5 [v,ov,iv] (CV ov iv v)
      Dy [v,ov,iv] []):=by intro _;rfl) :
    JS X C E mr Γl Δl Γ Δ Γ Δ (.Assign [.Subscript (.Name x p) kx p2] e pos) (Zfs te (Zbg (Zcr i) tk Zfe)) (Dl.Zsm i fk fe):=⟨Zjl he.q (Zgq (qv i hN hv hd hcd) hk.q set_list hq) hs hw h1,Xbf hi he.o hk.o⟩
variable {base:AZ}{f c:Addr}{k:Nat}{g:FS}
end
section
variable {k:Nat}{S:List (Nat×Bool)}
end
open Dl (FM)
def rot {α:Type}(n:Nat)(l:List α):List α:=(l.drop n).take 1++(l.take n++l.drop (n+1))
def Zjv {α:Type}(n:Nat)(l:List α):List α:=(l.drop 1).take n++(l.take 1++l.drop (n+1))
theorem Zlo {l:List α}(h:n<l.length):l.drop n=l[n]::l.drop (n+1):=B0 h
theorem Xet {l:List α}(h:n<l.length):rot n l=l[n]::(l.take n++l.drop (n+1)):=by unfold rot;rw [Zlo h];rfl
theorem Zfj {l:List α}(h:n<l.length):(rot n l).Perm l:=by
 rw [Xet h]
 conv=>rhs;rw [<- DF n l,Zlo h]
 exact Gp.symm
theorem Zkf {l:List α}(h:n<l.length):(Zjv n l).Perm l:=by
 match l,h with
 | x::l,h =>
  unfold Zjv;show (l.take n++([x]++l.drop n)).Perm (x::l)
  conv=>rhs;rw [<- DF n l]
  exact Gp
theorem Xja {a:List α}{b:List β}(h:a.length=b.length):(rot n a).zip (rot n b)=rot n (a.zip b):=by unfold rot Ij;rw [CP (by simp [h]),CP (by simp [h]),DP,DM,DM,DP]
theorem Zyv {a:List α}{b:List β}(h:a.length=b.length):(Zjv n a).zip (Zjv n b)=Zjv n (a.zip b):=by unfold Zjv Ij;rw [CP (by simp [h]),CP (by simp [h]),DP,DM,DM,DP]
theorem Zxz {l:List α}(h:n<l.length):Zjv n (rot n l)=l:=by
 rw [Xet h];unfold Zjv;show (l.take n++l.drop (n+1)).take n++([l[n]]++(l.take n++l.drop (n+1)).drop n)=l;have e:(l.take n).length=n:=by rw [Bb];omega
 rw [List.take_append_of_le_length (by omega),List.drop_append_of_le_length (by omega),B5 (by omega),E4 (by omega)];show l.take n++l[n]::l.drop (n+1)=l;rw [<- Zlo h,DF]
theorem Xli (a:List α)(x:α)(r:List α):rot a.length (a++x::r)=x::(a++r):=by
 have h1:(a++x::r).drop a.length=x::r:=List.drop_left ..;have h2:(a++x::r).take a.length=a:=List.take_left ..;have h3:(a++x::r).drop (a.length+1)=r:=by rw [<- List.drop_drop,h1];rfl
 unfold rot;rw [h1,h2,h3];rfl
theorem Zgy (hn:n<N.length)(h:N.Nodup):(rot n N).Nodup:=(Zfj hn).nodup_iff.mpr h
theorem Inv.perm {σ':St}(I:Inv X pins σ H s)(hl:σ'.length=N'.length)(hz:∀p∈N'.zip σ',p∈X.N.zip σ):Inv {X with N:=N'} pins σ' H s:=by obtain ⟨m,hm,hl'⟩:=I.loc;refine ⟨⟨I.ok.mod,I.ok.kind,I.ok.glob,I.ok.blt,I.ok.above,I.ok.inj,I.ok.has,I.ok.cab,I.ok.hd,I.ok.frames,I.ok.stk,I.ok.exf,I.ok.bs,I.ok.bsz,I.ok.noex,I.ok.exfs,I.ok.funs,I.ok.frf⟩,I.os,I.bare,I.base,⟨m,hm,fun i x v h1 h2 h3=>?_⟩,I.cell,I.free,I.freeC,I.pin,I.hok,hl⟩;have h1:N'[i]?=some x:=h1;have hp:=hz (x,some v) (AU (Dh.mpr ⟨h1,h2⟩));obtain ⟨j,hj⟩:=CB.mp hp;obtain ⟨q1,q2⟩:=Dh.mp hj;exact hl' j x v q1 q2 h3
def Xha (D:Ends):Prop:=(∀σ1 σ2 H,D.nx σ1 H->D.nx σ2 H)/\(∀σ1 σ2 H,D.bk σ1 H->D.bk σ2 H)/\∀σ1 σ2 H,D.ct σ1 H->D.ct σ2 H
theorem PSs.rot {X:Cx}{n:Nat}{st:List Stmt}{t:TS}(hn:n<X.N.length)(h:PSs {X with N:=rot n X.N} st t):PSs X st fun D σ H=>Xha D/\t D (L2.rot n σ) H:=fun pins s σ H D I ⟨⟨e1,e2,e3⟩,ht⟩=>by
 have hσ:=I.len;have I':Inv {X with N:=L2.rot n X.N} pins (L2.rot n σ) H s:=I.perm (by rw [(Zfj (by omega)).length_eq,(Zfj hn).length_eq,hσ]) fun p hp=>by rw [Xja hσ.symm] at hp;exact (Zfj (by rw [CL];omega)).mem_iff.mp hp
 have back:∀{σ':St} {H':Hp} {s':Ac},Inv {X with N:=L2.rot n X.N} pins σ' H' s'->Inv X pins (Zjv n σ') H' s':=fun {σ' H' s'} J=>by
  have hj:σ'.length=(L2.rot n X.N).length:=J.len;have hr:=(Zfj hn).length_eq;have hj2:σ'.length=X.N.length:=hj.trans hr;have J2:=J.perm (N':=X.N) (σ':=Zjv n σ') (by rw [(Zkf (by rw [hj2];exact hn)).length_eq];exact hj2) fun p hp=>by rw [<- Zxz hn,Zyv hj.symm] at hp;exact (Zkf (by rw [CL,<- hj,Fg,hj2];exact hn)).mem_iff.mp hp
  exact J2
 refine thn (h pins s (L2.rot n σ) H D I' ht) fun fl s' q=>?_;cases fl with
 | next=>obtain ⟨σ',H',J,q⟩:=q;exact ⟨_,H',back J,e1 _ _ _ q⟩
 | brk=>obtain ⟨σ',H',J,q⟩:=q;exact ⟨_,H',back J,e2 _ _ _ q⟩
 | cont=>obtain ⟨σ',H',J,q⟩:=q;exact ⟨_,H',back J,e3 _ _ _ q⟩
 | ret u=>obtain ⟨v,σ',H',J,r,q⟩:=q;exact ⟨v,_,H',back J,r,q⟩
def Xgv (K:AE)(C:String->Addr)(n:Nat)(G:List D->R (D×D)):Sp:=fun vs H Q E=>∃v0 vs',vs=vs'++[v0]/\spM K C n G (v0::vs') H Q E
theorem Fun.okML {base:AZ}{f:Addr}{k:Nat}{G:FM}(F:Fun K x qual st f fd)(S:Xd N ps (Zl st))(hn:ps.length=n+1)(hN:n<N.length)
    (hbody:∀(cdv:Value) (A:AR) (outer:List Env) (s:Ac) (H:Hp) (E:XK),Zgb k (A.deeper (CN qual (Zl st) s.heap.objs.size f cdv))->
      ∃t,JMB {(Zol CX0 P w K mg base N qual (Zl st) f cdv A outer s H E).nox with N:=rot n N} C E0 [0] [0] (Js st) t G):Zbd P w K mg base CX0 (k+1) f fd ps (Xgv K C n fun ds=>(Dl.Xqe N.length G ds).calm):=
  F.okQ S (fun vs H Q E h=>by
    obtain ⟨v0,vs1,rfl,d0,ds,v0',vs',A0,B,e,h1,_,_,h2,_⟩:=h;cases e;rw [Ao,h2.len,h1,hn];rfl) fun cdv A outer s H vs Q E hr h=>by
    obtain ⟨v0,vs1,rfl,d0,ds,v0',vs',A0,B,e,h1,r0,nd,r,hd,p⟩:=h;cases e;obtain ⟨t,ht⟩:=hbody cdv A outer s H E hr;have hl:vs1.length=n:=by rw [r.len,h1]
    have es:rot n (start N (vs1++[v0]))=(v0::vs1).map some++Aa (N.length - (v0::vs1).length) none:=by
      have e1:(vs1.map (some:V->Option V)).length=n:=by rw [Ae,hl]
      have e2:start N (vs1++[v0])=vs1.map some++some v0::Aa (N.length - (v0::vs1).length) none:=by unfold start;rw [Bv,CK,Ao];rfl
      rw [e2,<- e1,Xli];rfl
    refine ⟨_,⟨PSs.rot (X:=(Zol CX0 P w K mg base N qual (Zl st) f cdv A outer s H E).nox) hN ht.q.out⟩,⟨fun _ _ _ h=>h,fun _ _ _ h=>h,fun _ _ _ h=>h⟩,?_⟩;rw [es];exact Zxf (K:=K) (E':=E) ht.o r0 nd r hd (Zz.imp (Zbr p) (fun _ q=>q) fun _ _ z=>z.elim)
section
variable {w:Nat}{S:List (Nat×Bool)}
theorem Zwm (hi:i∈Γ:=by decide)(he:EOk K C E Γ Δ 2 [] te fe):Znc K C E Γ Δ Γ Δ (Zie (tBM K "list" Zdw (Zcr i) (Ja te Zhg))) (Dl.Zjr i fe):=fun H0 Hb H σ ρ A D I p=>by
  unfold Dl.Zjr at p;split at p
  · rename_i ds e;obtain ⟨a,xs,l,s1,h1,r1,hA,hl⟩:=Zbv I e;refine ⟨.ref a,s1,.inl ⟨rfl,xs,SqL.of h1⟩,he H0 Hb H σ ρ A _ I (Zz.imp (Zz.bind p) (fun d q v H1 g1 r=>?_) fun c x q H' g'=>q H' (Xk.from0 I g'))⟩;split at q
    · rename_i hz;obtain ⟨B,r2,r3,_,r4⟩:=r;have hn:∀a∈B,H a=none:=fun a ha=>(r3 a ha).elim id fun z=>z.none.elim;have h1':=g1 _ _ h1;show Zdw (.ref a) [v] H1 fun _ H3=>D.nx σ H3;refine Xfg h1' (by rw [r1.len];exact Zdd hz) ?_;obtain ⟨tb,ta,tt⟩:=I.top i hi a l hA;have I1:=I.mono g1;have haB:a∉B:=fun z=>by have:=hn a z;rw [h1] at this;cases this
      have w1:∀b∈l++B,H0 b=none:=fun b hb=>by rcases Ad.mp hb with z | z;exact I.loc i hi b (by rw [hA];exact .tail _ z);exact I.s0.free (I.same.free (hn b z))
      have w2:∀j∈Γ,j≠i->j∈Γ/\∀b l',A j=b::l'->b∉l++B:=fun j hj e=>⟨hj,fun b l' e' z=>by
        rcases Ad.mp z with z | z;exact (I.top j hj b l' e').2.2 i (fun w=>e w.symm) (by rw [hA];exact .tail _ z)
        · exact I.ne (j:=j) (by rw [e'];exact .head _) (hn b z)⟩
      have w3:∀j∈Δ,j≠i->j∈Δ/\∀b∈A j,b∉l++B:=fun j hj e=>⟨hj,fun b hb z=>by
        rcases Ad.mp z with z | z;exact (I.deep j hj).2.1 i (fun w=>e w.symm) b hb (by rw [hA];exact .tail _ z)
        · exact I.ne hb (hn b z)⟩
      have w4:i∈Δ->(l++B).Nodup/\(∀j,j≠i->∀b∈l++B,b∉A j)/\∀b∈l++B,Hb b=none:=fun hd=>by obtain ⟨d1,d2,d3⟩:=I.deep i hd;rw [hA] at d1 d2 d3;refine ⟨AO.mpr ⟨(Ap.mp d1).2,r4 rfl,fun x hx y hy e=>?_⟩,fun j hj b hb=>?_,fun b hb=>?_⟩;subst e;exact I.ne (j:=i) (by rw [hA];exact .tail _ hx) (hn x hy);rcases Ad.mp hb with z | z;exact d2 j hj b (.tail _ z);exact fun w=>I.ne w (hn b z);rcases Ad.mp hb with z | z;exact d3 b (.tail _ z);exact I.same.free (hn b z)
      obtain ⟨A',I'⟩:=I1.write (Γ':=Γ) (Δ':=Δ) hi hA hl s1 ((r1.same g1).app (RpA.one r2)) w1 (fun z=>(Ad.mp z).elim ta haB) w2 w3 w4;exact q _ _ A' rfl I'
    exact q.elim
  exact p.elim
theorem Zwo (hi:i∈Γ:=by decide)(he:EOk K C E Γ Δ m1 S1 te fe)(hk:EOk K C E Γ Δ m2 S2 tk fk):Znc K C E Γ Δ Γ Δ (Zfs te (Zbg (Zcr i) tk Zwy)) (Dl.Zis i fk fe):=fun H0 Hb H σ ρ A D I p=>by
 refine he H0 Hb H σ ρ A _ I (Zz.imp (Zz.bind p) (fun d q v H1 g1 r=>?_) fun c x q H' g'=>q H' (Xk.from0 I g'));have I1:=I.mono g1;split at q;rename_i ks ds e;obtain ⟨a,xs,l,s1,h1,h2,r1,hA,hl⟩:=Zrq I1 e;refine ⟨.ref a,s1,hk H0 Hb H1 σ ρ A _ I1 (Zz.imp (Zz.bind q) (fun z q w H2 g2 rz=>?_) fun c x q H' g'=>q H' (Xk.from0 I1 g'))⟩;obtain ⟨Bz,rz,_⟩:=rz;obtain ⟨B,rd,_⟩:=r;split at q;rename_i k hk;split at q;rename_i hf;have hv:=Zgc hk rz;subst hv;have zB:=rd.flat hf.1;subst zB;have hx:ks.length=xs.length:=by rw [h2,r1.len]
 have r2:=(r1.same g2).flat' hf.2.1;have rd2:=rd.same g2;have I2:=I1.mono g2;refine ⟨a,_,rfl,Xid.k (g2 _ _ h1) (Gh (by rw [CL];exact GK _ _) (Zdd hf.2.2)),?_⟩;unfold Dl.Xgw at q;unfold putK;rw [Zkz hx];split at q;rename_i hh;rw [if_pos hh,Zli hx];obtain ⟨A',I'⟩:=I2.writeO (Γ':=Γ) (Δ':=Δ) (o':=.dK (ks.zip (BD (fun j x=>if j=k then v else x) ks xs))) (d':=.dct ks (BD (fun j x=>if j=k then d else x) ks ds)) hi hA hl s1 (fun H' q1 q2=>⟨a,_,_,rfl,q1,by rw [DU,h2,Fg],q2,rfl⟩) (RpA.repl rd2 r2 hf.2.1) (fun _ z=>nomatch z) (fun z=>nomatch z) (fun j hj _=>⟨hj,fun _ _ _ z=>nomatch z⟩) (fun j hj _=>⟨hj,fun _ _ z=>nomatch z⟩) (fun _=>⟨BI,(fun _ _ _ z=>nomatch z),(fun _ z=>nomatch z)⟩);exact q _ _ A' rfl I';rename_i hh;rw [if_neg hh,show ks.zip xs++[(k,v)]=(ks++[k]).zip (xs++[v]) by rw [GA hx];rfl];obtain ⟨A',I'⟩:=I2.writeO (Γ':=Γ) (Δ':=Δ) (o':=.dK ((ks++[k]).zip (xs++[v]))) (d':=.dct (ks++[k]) (ds++[d])) hi hA hl s1 (fun H' q1 q2=>⟨a,_,_,rfl,q1,by simp [h2],q2,rfl⟩) (RpA.snoc0 rd2 r2) (fun _ z=>nomatch z) (fun z=>nomatch z) (fun j hj _=>⟨hj,fun _ _ _ z=>nomatch z⟩) (fun j hj _=>⟨hj,fun _ _ z=>nomatch z⟩) (fun _=>⟨BI,(fun _ _ _ z=>nomatch z),(fun _ z=>nomatch z)⟩);exact q _ _ A' rfl I';exact q.elim;exact q.elim;exact q.elim
@[reducible] def tSn (t:TA)(i:Nat):TA:=fun σ H Q=>t σ H fun vs H1=>∃v,σ[i]?=some (some v)/\Q (vs++[v]) H1
def MS (K:AE)(C:String->Addr)(w:Nat)(t:TE)(f:Yb->R (D×D)):Prop:=∀(H0 Hb H:Hp) (σ:St) (ρ:Yb) (A:Nat->List Addr) (Q:VK),Zq K C H0 Hb H [w] [w] σ ρ A->
 Zz (f ρ) (fun p=>∀v0 v H' A1 B,σ[w]?=some (some v0)->(∀b o,b∉A w->H b=some o->H' b=some o)->Rp K C H' p.2 v0 A1->A1.Nodup->(∀a∈A1,a∈A w\/H a=none)->Rp K C H' p.1 v B->B.Nodup->(∀a∈B,(a∈A w\/H a=none)/\a∉A1)->Q v H') (fun _ _=>False)->t σ H Q
theorem Xap (ha:AOk K C E0 [w] [w] m S t fa)(hn:∀ρ ds,fa ρ=.ok ds->ds.length=n)(hS:∀p∈S,p.1≠w) :
  MS K C w (Zmv (Xgv K C n G) [] E0 (tSn t w)) (Dl.Zgn w G fa):=fun H0 Hb H σ ρ A Q I p=>by
 unfold Dl.Zgn at p;split at p;rename_i d0 e0;obtain ⟨v0,hs,r0⟩:=I.rep w _ e0;refine Zxr (ha H0 Hb H σ ρ A _ I ?_);cases e:fa ρ with
 | bad=>rw [e] at p;exact p
 | err c x=>rw [e] at p;exact p.elim
 | ok ys =>rw [e] at p;intro vs H1 g1 r2;obtain ⟨B2,r2,rB,_⟩:=r2;obtain ⟨d1,d2,d3⟩:=I.deep w (.head _);refine ⟨v0,hs,v0,vs,rfl,d0,ys,v0,vs,A w,B2,rfl,hn ρ ys e,r0.same g1,d1,r2,fun b hb hz=>(rB b hb).elim (fun z=>I.ne hz z) (I.deep_out (.head _) hS hz),Zz.imp (show Zz (G (d0::ys)) _ _ from p) (fun q pq v H' A1 Br hk r1 nd1 hA1 rr ndr hBr=>?_) fun c x q=>q.elim⟩;exact pq v0 v H' A1 Br hs (fun b o hb h=>hk b o hb (g1 b o h)) r1 nd1 (fun a ha=>(hA1 a ha).imp id fun z=>g1.free z) rr ndr fun a ha=>⟨(hBr a ha).1.imp id fun z=>g1.free z,(hBr a ha).2⟩
 exact p.elim
theorem Zwl {Hb:Hp}{b:Addr}{xs ys:List V}(I:Zq K C H0 Hb H Γ Δ σ ρ A)(hb:Hb b=none)(hx:H b=some (.lst xs))(hA:∀j,b∉A j):Zq K C H0 Hb (upd H b (.lst ys)) Γ Δ σ ρ A:=by
 have ext:Ext (fun a=>a=b) H (upd H b (.lst ys)):=fun c o h=>by by_cases e:c=b;subst e;rw [hx] at h;cases h;exact .inr ⟨rfl,.lst⟩;rw [Xs e];exact .inl h
 refine ⟨I.s0,fun c o h=>?_,I.len,fun j d e=>?_,I.nil,I.loc,I.top,I.deep⟩;rw [Xs (Xq h hb)];exact I.same c o h;obtain ⟨v,q1,q2⟩:=I.rep j d e;exact ⟨v,q1,q2.ext ext fun a ha h=>hA j (by rw [<- h];exact ha)⟩
theorem Xaf {Hc:Hp}{d:D}(I:Zq K C H0 Hc H [w] [w] σ ρ A)(hw:w<ρ.length)(r:Rp K C H d v B)(hB:∀a∈B,Hc a≠none):∃A3,Zq K C H0 Hc H [w] [w] (σ++[some v]) (ρ++[some d]) A3/\A3 w=A w:=by
 refine ⟨fun j=>if j=ρ.length then B else A j,⟨I.s0,I.same,by rw [Ao,Ao,I.len];rfl,fun j e h=>?_,fun j h=>?_,fun j hj=>?_,fun j hj=>?_,fun j hj=>?_⟩,if_neg (by omega)⟩;by_cases q:j<ρ.length;rw [Au q] at h;obtain ⟨x,q1,q2⟩:=I.rep j e h;exact ⟨x,by rw [Au (by rw [I.len];exact q)];exact q1,by rw [if_neg (by omega)];exact q2⟩;rw [Bp (by omega)] at h;have:j=ρ.length:=by have:=(Ah.mp h).1;rw [DG] at this;omega
 subst this;rw [DZ] at h;cases h;exact ⟨v,by rw [<- I.len,ED],by rw [if_pos rfl];exact r⟩;by_cases q:j=ρ.length;subst q;exact absurd (by rw [ED]) (h d);rw [if_neg q];refine I.nil j fun e he=>h e ?_;rw [Au (Ah.mp he).1];exact he;obtain rfl:=An.mp hj;rw [if_neg (by omega)];exact I.loc j hj;obtain rfl:=An.mp hj;intro a l e;rw [if_neg (by omega)] at e;obtain ⟨t1,t2,t3⟩:=I.top j hj a l e;refine ⟨t1,t2,fun i hi=>?_⟩;by_cases q:i=ρ.length;rw [if_pos q];exact fun z=>hB a z t1;rw [if_neg q];exact t3 i hi;obtain rfl:=An.mp hj;rw [if_neg (by omega)];obtain ⟨t1,t2,t3⟩:=I.deep j hj;refine ⟨t1,fun i hi a ha=>?_,t3⟩;by_cases q:i=ρ.length;rw [if_pos q];exact fun z=>hB a z (t3 a ha);rw [if_neg q];exact t2 i hi a ha
theorem Zxu {x:D}(h:xs[i]?=some x):Dl.goW w f ρ (xs.drop i)=(f (ρ++[some x])).calm.bind fun p=>(Dl.goW w f (ρ.set w (some p.2)) (xs.drop (i+1))).bind fun q=>.ok (p.1::q.1,q.2):=by obtain ⟨hi,rfl⟩:=Ah.mp h;rw [B0 hi];rfl
theorem Xhp (hi:i∈Δ:=by decide)(h0:i≠0:=by decide)(h1:∀i∈[0],i∈Γ:=by decide)(h2:∀i∈[0],i∈Δ:=by decide):Xow K C E Γ Δ (Xez (Zcr i)) (Dl.Zrw i):=fun H0 Hb H σ ρ A D Q I e1 e2 p=>by subst e1;unfold Dl.Zrw at p;split at p;rename_i d e;obtain ⟨v,q1,q2⟩:=I.rep i d e;obtain ⟨d1,d2,d3⟩:=I.deep i hi;refine ⟨v,q1,p v H σ (fun j=>if j=i then [] else A j) (A i) rfl ⟨I.s0,I.same,by rw [Bw];exact I.len,fun j x h=>?_,fun j h=>?_,fun j hj=>?_,fun j hj=>?_,fun j hj=>?_⟩ q2 d1 fun a ha=>⟨d3 a ha,fun j z=>?_⟩⟩;by_cases q:j=i;subst q;rw [BV (Ah.mp e).1] at h;cases h;rw [Bc (fun z=>q z.symm)] at h;rw [if_neg q];exact I.rep j x h;by_cases q:j=i;rw [if_pos q];rw [if_neg q];exact I.nil j fun x hx=>h x (by rw [Bc (fun z=>q z.symm)];exact hx);obtain rfl:=An.mp hj;rw [if_neg fun z=>h0 z.symm];exact I.loc 0 (h1 0 (.head _));obtain rfl:=An.mp hj;intro a l e;rw [if_neg fun z=>h0 z.symm] at e;obtain ⟨t1,t2,t3⟩:=I.top 0 (h1 0 (.head _)) a l e;refine ⟨t1,t2,fun j hj=>?_⟩;split;exact fun z=>nomatch z;exact t3 j hj;obtain rfl:=An.mp hj;rw [if_neg fun z=>h0 z.symm];obtain ⟨t1,t2,t3⟩:=I.deep 0 (h2 0 (.head _));refine ⟨t1,fun j hj a ha=>?_,t3⟩;split;exact fun z=>nomatch z;exact t2 j hj a ha;split at z;cases z;rename_i q;exact d2 j q a ha z;exact p.elim
theorem Zvx (hwn:w<n)(hi:IOk K C E [w] [w] [] wi fi)(he:MS K C w te f):MOk K C E [w] [w] (Zdx 1 (Zac n) wi Xjg te) (Dl.Zkg n w fi f):=fun H0 Hb H σ ρ A Q I p=>by
  unfold Dl.Zkg at p;split at p
  · rename_i hn;refine hi H0 Hb H σ ρ A _ I (Zz.imp (Zz.bind p) (fun ds q J H1 W g1 hW hlen hJ Dd hD=>?_) fun c x q H' g'=>q H' (Xk.from0 I g'));have I1:=I.mono g1;have hσl:σ.length=n:=by rw [I.len,hn]
    obtain ⟨d1,d2,d3⟩:=I1.deep w (.head _)
    let Hc:Hp:=fun b=>if b∈A w then none else H1 b
    have c4:∀a∈A w,Hc a=none:=fun a ha=>if_pos ha;have c3:∀a,a∉A w->Hc a=H1 a:=fun a ha=>if_neg ha;have c1:Xk Hc H1:=fun b o h=>by have h:(if b∈A w then none else H1 b)=some o:=h;split at h;cases h;exact h
    have c2:Xk Hb Hc:=fun b o h=>by show (if b∈A w then none else H1 b)=some o;rw [if_neg fun ho=>by rw [d3 b ho] at h;cases h];exact I1.same b o h
    have own:∀{i:Nat},i∈[w]->i=w:=fun h=>An.mp h;have I2:Zq K C H0 Hc H1 [w] [w] σ ρ A:=⟨I1.s0.trans c2,c1,I1.len,I1.rep,I1.nil,I1.loc,fun i hi a l e=>⟨c4 a (by rw [<- own hi,e];exact .head _),(I1.top i hi a l e).2⟩,fun i hi=>⟨(I1.deep i hi).1,(I1.deep i hi).2.1,fun a ha=>c4 a (by rw [<- own hi];exact ha)⟩⟩;have back:∀{σ':St} {ρ':Yb} {H':Hp} {A':Nat->List Addr},Zq K C H0 Hc H' [w] [w] σ' ρ' A'->Zq K C H0 Hb H' [w] [w] σ' ρ' A':=fun I' =>
      ⟨I1.s0,c2.trans I'.same,I'.len,I'.rep,I'.nil,I'.loc,fun i hi a l e=>⟨c2.free (I'.top i hi a l e).1,(I'.top i hi a l e).2⟩,fun i hi=>⟨(I'.deep i hi).1,(I'.deep i hi).2.1,fun a ha=>c2.free ((I'.deep i hi).2.2 a ha)⟩⟩
    have hout:∀a∈W,a∉A w:=fun a ha ho=>(hW a ha).2.elim (fun z=>I.ne ho z) fun z=>z.none.elim;have go:Goes K C J ds Hc:=hJ Hc ⟨fun a ha=>c3 a (hout a ha),fun b o h hn=>(c3 b fun ho=>by
      obtain ⟨xs,e,hm⟩:=I1.is ho;rw [e] at h;cases h;exact hn hm).trans h⟩
    have hDA:∀j,Dd∉A j:=fun j hj=>I1.ne hj hD;refine Zrx go (fun i H2=>∃(ρ':Yb) (A':Nat->List Addr) (us:List D) (ys:List V) (B':List Addr),Zq K C H0 Hc H2 [w] [w] σ ρ' A'/\H2 Dd=some (.lst ys)/\us.length<=i/\RpA K C H2 us ys B'/\(Dd::B').Nodup/\(∀a∈Dd::B',Hc a=none/\∀j,a∉A' j)/\
      Zz (Dl.goW w f ρ' (ds.drop i)) (fun p=>∀v H' A'' B,Zq K C H0 Hb H' [w] [w] σ p.2 A''->Rp K C H' (.lst (us++p.1)) v B->B.Nodup->(∀a∈B,Hb a=none/\∀j,a∉A'' j)->Q v H') (fun _ _=>False))
      ⟨ρ,A,[],[],[],I2.mono (sameNew hD _),Ye,AI _,RpA.nil,Ap.mpr ⟨(fun z=>nomatch z),BI⟩,fun a ha=>by rw [An.mp ha];exact ⟨c1.free hD,hDA⟩,Zbr (Zz.bind q)⟩ (fun _ _ ⟨_,_,_,_,_,I',_⟩=>I'.same) ?_ ?_
    · rintro i d x Bx H2a H2 hx ⟨ρ',A',us,ys,B',I',hD2,hul,ru,nd,hnew,pq⟩ g2b rx hBx os hos;obtain ⟨o,rfl⟩:=List.length_eq_one_iff.mp hos;have hil:=(Ah.mp hx).1;have I'':=I'.mono g2b;have hρl:ρ'.length=n:=by rw [<- I'.len,hσl]
      have es:(σ++[o]).set n (some x)=σ++[some x]:=by rw [Ca _ _ (by omega),hσl,DZ];rfl
      unfold Zac;rw [es];refine ⟨⟨[some x],rfl,rfl⟩,?_⟩;unfold Xjg;simp only [if_true];obtain ⟨A3,I3,hA3⟩:=Xaf I'' (by omega) rx hBx;rw [Zxu hx] at pq;refine he H0 Hc H2 (σ++[some x]) (ρ'++[some d]) A3 _ I3 (Zz.imp (Zbr (Zz.bind pq)) (fun p pq v0 v H4 A1 By hs hk r1 nd1 hA1 ry ndy hBy=>?_) fun _ _ z=>z);rw [hA3] at hk hA1 hBy;rw [Au (by omega)] at hs;have hD2':=g2b _ _ hD2;have hDw:Dd∉A' w:=(hnew Dd (.head _)).2 w;have hD4:H4 Dd=some (.lst ys):=hk Dd _ hDw hD2';have I4:=I''.deepTo (.head _) (by omega) hs hk r1 nd1 fun a ha=>(hA1 a ha).imp id fun z=>⟨I''.same.free z,fun j hj=>I''.ne hj z⟩;have ru':=ru.same g2b;have inB:∀a∈B',H2 a≠none:=fun a ha z=>by obtain ⟨_,e,_⟩:=ru'.isl a ha;rw [e] at z;cases z
      have hD4A:∀j,Dd∉(if j=w then A1 else A' j):=fun j=>by
        split;exact fun z=>(hA1 Dd z).elim hDw fun z=>by rw [hD2'] at z;cases z
        exact (hnew Dd (.head _)).2 j
      have ext1:Ext (fun c=>c∈A' w) H2 H4:=fun c o h=>by by_cases e:c∈A' w;obtain ⟨o',ho,hm⟩:=I''.is e;rw [ho] at h;cases h;exact .inr ⟨e,hm⟩;exact .inl (hk c o e h)
      have ext2:Ext (fun a=>a=Dd) H4 (upd H4 Dd (.lst (ys++[v]))):=fun b o h=>by by_cases e:b=Dd;subst e;rw [hD4] at h;cases h;exact .inr ⟨rfl,.lst⟩;rw [Xs e];exact .inl h
      have hDB:=(Ap.mp nd).1;have hDy:Dd∉By:=fun z=>(hBy Dd z).1.elim hDw fun z=>by rw [hD2'] at z;cases z
      have hDB':Dd∉B'++By:=fun h=>(Ad.mp h).elim hDB hDy;refine ⟨ys,hD4,by rw [ru.len];exact Zdd (by omega),_,_,us++[p.1],ys++[v],B'++By,Zwl I4 (hnew Dd (.head _)).1 hD4 hD4A,Ye,by rw [Ao];simp;omega,?_,?_,?_,?_⟩;exact ((ru'.ext ext1 fun a ha h=>(hnew a (.tail _ ha)).2 w h).app (RpA.one ry)).ext ext2 fun a ha h=>hDB' (by rw [h] at ha;exact ha);refine Ap.mpr ⟨hDB',AO.mpr ⟨(Ap.mp nd).2,ndy,fun a ha b hb e=>?_⟩⟩;subst e;exact (hBy a hb).1.elim (fun z=>(hnew a (.tail _ ha)).2 w z) fun z=>inB a ha z;intro a ha;rcases Aj.mp ha with rfl | ha;exact ⟨(hnew a (.head _)).1,hD4A⟩;rcases Ad.mp ha with ha | ha;refine ⟨(hnew a (.tail _ ha)).1,fun j=>?_⟩;show a∉(if j=w then A1 else A' j);split;exact fun z=>(hA1 a z).elim (fun z=>(hnew a (.tail _ ha)).2 w z) fun z=>inB a ha z;exact (hnew a (.tail _ ha)).2 j;obtain ⟨e1,e2,e3⟩:=I''.deep w (.head _);refine ⟨(hBy a ha).1.elim (fun z=>e3 a z) fun z=>I''.same.free z,fun j=>?_⟩;show a∉(if j=w then A1 else A' j);split;exact (hBy a ha).2;rename_i hj;exact fun z=>(hBy a ha).1.elim (fun y=>e2 j hj a y z) fun y=>I''.ne z y
      · exact Zz.imp (Zz.bind pq) (fun q pq v H' A'' B I r nd hB=>by
          rw [CK] at r;exact pq v H' A'' B I r nd hB) fun _ _ z=>z
    rintro H2 ⟨ρ',A',us,ys,B',I',hD2,hul,ru,nd,hnew,pq⟩;rw [Dz] at pq;have pq:∀v H' A'' B,Zq K C H0 Hb H' [w] [w] σ ρ' A''->Rp K C H' (.lst (us++[])) v B->B.Nodup->(∀a∈B,Hb a=none/\∀j,a∉A'' j)->Q v H':=pq;rw [Dt] at pq;exact pq _ H2 A' (Dd::B') (back I') ⟨Dd,ys,B',rfl,hD2,ru,rfl⟩ nd fun a ha=>⟨c2.free (hnew a ha).1,(hnew a ha).2⟩
  exact p.elim
end
structure JMS (X:Cx)(C:String->Addr)(w:Nat)(e:Expr)(t:TE)(f:Yb->R (D×D)):Prop where
 q:QE X e t
 o:MS X.K C w t f
section
variable {k w:Nat}{S:List (Nat×Bool)}{a b c elt:Expr}{p1:Pos}{y:Str}
theorem Xjj (hi:i∈Δ:=by decide)(h0:i≠0:=by decide)(hN:X.N[i]?=some x:=by rfl)(hv:autoParam (Vis X.env.scope x) aT3._auto_1)(hd:(x==("__debug__":Str))=false:=by decide)(hcd:(x==("__classdict__":Str))=false:=by decide)(h1:∀i∈[0],i∈Γ:=by decide)(h2:∀i∈[0],i∈Δ:=by decide):JMB X C E Γ Δ [.Return (some (.Name x p)) pos] (Xez (Zcr i)) (Dl.Zrw i):=⟨Zkq (Zuu (qv i hN hv hd hcd)),Xhp hi h0 h1 h2⟩
theorem Xhj (hi:i∈Γ:=by decide)(hN:X.N[i]?=some x:=by rfl)(hv:autoParam (Vis X.env.scope x) aT3._auto_1)(hd:(x==("__debug__":Str))=false:=by decide)(hcd:(x==("__classdict__":Str))=false:=by decide)
    (he:JE X C E Γ Δ m1 S1 e te fe) (hk:JE X C E Γ Δ m2 S2 kx tk fk) (hs:B7 [.Subscript (.Name x p) kx p2] e pos.line X.env=pure false:=by rfl) (hw:B8 [.Subscript (.Name x p) kx p2] e X.env=pure none:=by rfl) (h1:(Aq [.Subscript (.Name x p) kx p2] X.env).map (·.2)=[Bu (.Subscript (.Name x p) kx p2) X.env]:=by rfl)
    (hq:∀v,Bu (.Subscript (.Name x p) kx p2) X.env v=(do
      let ov <- A5 [v] (AF (.Name x p) X.env)
      let iv <- A5 [v,ov] (AF kx X.env)
      CI p2
      A5 [v,ov,iv] (CV ov iv v)
      Dy [v,ov,iv] []):=by intro _;rfl) (hu:X.A.units+64<Bi) :
    JP X C E Γ Δ Γ Δ (.Assign [.Subscript (.Name x p) kx p2] e pos) (Zfs te (Zbg (Zcr i) tk Zwy)) (Dl.Zis i fk fe):=⟨Zjl he.q (Zgq (qv i hN hv hd hcd) hk.q (set_dict hu) hq) hs hw h1,Zwo hi he.o hk.o⟩
theorem Xqc (hi:i∈Γ:=by decide)(hN:X.N[i]?=some x:=by rfl)(hv:autoParam (Vis X.env.scope x) aT3._auto_1)(hd:(x==("__debug__":Str))=false:=by decide)(hcd:(x==("__classdict__":Str))=false:=by decide)
  (he:JE X C E Γ Δ 2 [] e te fe) (hse:Ab [e] X.env=(false,AF e X.env)::Ab [] X.env)
  (hbase:Bt (.Name x p) "append" X.env (AF (.Name x p) X.env)=AF (.Name x p) X.env:=by rfl)
  (hfew:((AW cpos (Ab [e] X.env)).all (fun x=>!x.1)&&(Cq cpos (BO [] X.env)).all (fun x=>x.1.isSome)&&decide (([e]:List Expr).length+([]:List Bo).length+(if ([]:List Bo).isEmpty then 0 else 1)<30))=true:=by rfl)
  (hline:(apos.endLine==cpos.line)=true:=by rfl) (hplain:(AW cpos (Ab ([]:List Expr) X.env)).any (·.1)=false:=by rfl) (hsw:BS (.Call (.Attribute (.Name x p) "append" apos) [e] [] cpos) none pos.line X.env=pure false:=by rfl) :
  JP X C E Γ Δ Γ Δ (.Expr (.Call (.Attribute (.Name x p) "append" apos) [e] [] cpos) pos) (Zie (tBM X.K "list" Zdw (Zcr i) (Ja te Zhg))) (Dl.Zjr i fe):=
 ⟨Zkr (Zsr PySem.F.plainAttrs_list PySem.F.slot_list_append PySem.F.type_list_append Zhv (qv i hN hv hd hcd) (Yy he.q Zes hse) hbase hfew hline hse hplain) hsw,Zwm hi he.o⟩
theorem Xdo (Df:Def X.prog X.w X.K X.mg X.base CX0 k x ps (Xgv K C n G))(hr:Zgb k X.A)(hg:Gl X x)(hx:Zfr CX0 X E0)(ha:JA X C E0 [w] [w] m S (a::es) n t fa)(hq:QA X (a::(es++[.Name y p2])) (tSn t w))(hS:∀p∈S,p.1≠w:=by decide)(hdb:(x==("__debug__":Str))=false:=by decide)
  (he:Ab (a::(es++[.Name y p2])) X.env=(false,AF a X.env)::Ab (es++[.Name y p2]) X.env:=by rfl) (hpl:(AW pos (Ab (es++[.Name y p2]) X.env)).any (·.1)=false:=by rfl) (hK:X.K=K:=by rfl) :
  JMS X C w (.Call (.Name x p) (a::(es++[.Name y p2])) [] pos) (Zmv (Xgv K C n G) [] E0 (tSn t w)) (Dl.Zgn w G fa):=by
 subst hK;exact ⟨Zrj Df hr hg hx hq hdb he hpl,Xap ha.o ha.n hS⟩
theorem Xbj {py spos:Pos}(w:Nat)(esc:Scope)(N N2:List Str)(tn:Str)(B:Zur sc esc [tn] N N2)(hy:N[i]?=some y)(hl:esc.names.lookup y=some .local)(hi:JI X C E [w] [w] [] (.Name tn p) iter wi fi)(hg:∀cl C' s0 H0 fp,QG (X.blkN N2 [tn] sc cl C' s0 H0 fp) (.Name tn p) (Zac n))(he:∀cl C' s0 H0 fp,JMS (X.blkN N2 [tn] sc cl C' s0 H0 fp) C w elt te f)
  (hwn:w<n:=by decide) (hwG:w∈Γ:=by decide) (hwD:w∈Δ:=by decide) (hesc:X.env.scope=esc:=by rfl) (hN:X.N=N:=by rfl) (hc:X.calm=true:=by rfl) (hsw:BS (.ListComp elt [⟨.Name tn p,iter,[],0⟩] sc pos) (some (.Name y py)) spos.line X.env=pure true:=by rfl) (hs:∀v,AQ iter X.env v=pure v:=by intro _;rfl)
  (h1:∀j∈Γ',j=i\/j∈[w]:=by decide) (h2:∀j∈Δ',j=i\/j∈[w]:=by decide):JS X C E mr Γl Δl Γ Δ Γ' Δ' (.Assign [.Name y py] (.ListComp elt [⟨.Name tn p,iter,[],0⟩] sc pos) spos) (Zfs (Zdx 1 (Zac n) wi Xjg te) (Zac i)) (Dl.Zuy i (Dl.Zkg n w fi f)):=
 ⟨Zsi esc N N2 [tn] B hy hl hi.q hg (fun _ _ _ _ _=>Zvc) (fun cl C' s0 H0 fp=>(he cl C' s0 H0 fp).q) hesc hN hc hsw hs,fun H0 Hb H σ ρ A D I p=>Xbz (Zvx hwn hi.o (he [] 0 X.s₀ X.H₀ []).o) h1 h2 H0 Hb H σ ρ A D (I.weak (fun j hj=>by rw [An.mp hj];exact hwG) fun j hj=>by rw [An.mp hj];exact hwD) p⟩
end
section
variable {S:List (Nat×Bool)}
theorem RpA.parts:∀{ds:List D} {vs:List V} {B:List Addr},RpA K C H ds vs B->∃Bs:List (List Addr),B=Bs.flatten/\Bs.length=ds.length/\vs.length=ds.length/\∀(i:Nat) d v b,ds[i]?=some d->vs[i]?=some v->Bs[i]?=some b->Rp K C H d v b
 | [],_,_,r=>⟨[],by rw [r.2];rfl,rfl,by rw [r.1];rfl,fun i d v b h=>by simp at h⟩
 | d::ds,_,_,r=>by
  obtain ⟨x,l,B1,B2,rfl,e2,e3,rfl⟩:=r;obtain ⟨Bs,q1,q2,q3,q4⟩:=RpA.parts e3;refine ⟨B1::Bs,by rw [q1];rfl,by simp [q2],by simp [q3],fun i d' v' b' h1 h2 h3=>?_⟩;cases i with
  | zero=>cases h1;cases h2;cases h3;exact e2
  | succ i=>exact q4 i d' v' b' h1 h2 h3
theorem RpA.ofParts:∀{ds:List D} {vs:List V} {Bs:List (List Addr)},Bs.length=ds.length->vs.length=ds.length->(∀(i:Nat) d v b,ds[i]?=some d->vs[i]?=some v->Bs[i]?=some b->Rp K C H d v b)->RpA K C H ds vs Bs.flatten
 | [],[],[],_,_,_=>RpA.nil
 | d::ds,v::vs,b::Bs,h1,h2,h=>by refine ⟨v,vs,b,Bs.flatten,rfl,h 0 d v b rfl rfl rfl,RpA.ofParts (by simpa using h1) (by simpa using h2) fun i d' v' b' e1 e2 e3=>h (i+1) d' v' b' e1 e2 e3,rfl⟩
 | [],_::_,_,_,h2,_=>by simp at h2
 | [],[],_::_,h1,_,_=>by simp at h1
 | _::_,[],_,_,h2,_=>by simp at h2
 | _::_,_::_,[],h1,_,_=>by simp at h1
def swp {α:Type}(l:List α)(a b:Nat)(z:α):List α:=(l.set b (l.getD a z)).set a (l.getD b z)
theorem Zev {l:List α}{z:α}:(swp l a b z).length=l.length:=by simp [swp]
theorem Zfy {l:List α}{z:α}(ha:a<l.length)(hb:b<l.length)(i:Nat):(swp l a b z)[i]?=l[if i=a then b else if i=b then a else i]?:=by
 unfold swp;have e1:l.getD a z=l[a]:=by simp [A4,ha]
 have e2:l.getD b z=l[b]:=by simp [A4,hb]
 rw [e1,e2,Ec];by_cases h:a=i;subst h;rw [if_pos rfl,if_pos rfl,if_pos (by rw [Bw];exact ha),Al hb];rw [if_neg h,if_neg fun z=>h z.symm,Ec];by_cases h':b=i;subst h';rw [if_pos rfl,if_pos rfl,if_pos hb,Al ha];rw [if_neg h',if_neg fun z=>h' z.symm]
theorem RpA.swp {ds:List D}{vs:List V}{B:List Addr}{a b:Nat}{zd:D}{zv:V}(r:RpA K C H ds vs B)(ha:a<ds.length)(hb:b<ds.length):∃B',RpA K C H (swp ds a b zd) (swp vs a b zv) B'/\(∀x∈B',x∈B)/\(B.Nodup->B'.Nodup):=by
 obtain ⟨Bs,rfl,q2,q3,q4⟩:=r.parts;refine ⟨(L2.swp Bs a b []).flatten,RpA.ofParts (by rw [Zev,Zev,q2]) (by rw [Zev,Zev,q3]) fun i d v c h1 h2 h3=>?_,fun x hx=>?_,fun nd=>?_⟩;rw [Zfy ha hb] at h1;rw [Zfy (by omega) (by omega)] at h2 h3;exact q4 _ d v c h1 h2 h3;obtain ⟨c,hc,hx⟩:=CD.mp hx;obtain ⟨i,hi⟩:=CB.mp hc;rw [Zfy (by omega) (by omega)] at hi;exact CD.mpr ⟨c,AU hi,hx⟩;unfold Bf at nd ⊢;rw [List.pairwise_flatten] at nd ⊢;obtain ⟨n1,n2⟩:=nd;refine ⟨fun c hc=>?_,?_⟩;obtain ⟨i,hi⟩:=CB.mp hc;rw [Zfy (by omega) (by omega)] at hi;exact n1 c (AU hi);rw [List.pairwise_iff_getElem] at n2 ⊢;intro i j hi hj hij x hx y hy;rw [Zev] at hi hj;have g1:=Zfy (l:=Bs) (z:=[]) (a:=a) (b:=b) (by omega) (by omega) i;have g2:=Zfy (l:=Bs) (z:=[]) (a:=a) (b:=b) (by omega) (by omega) j;rw [Al (by rw [Zev];exact hi)] at g1;rw [Al (by rw [Zev];exact hj)] at g2;generalize hp:(if i=a then b else if i=b then a else i)=p at g1;generalize hq:(if j=a then b else if j=b then a else j)=q at g2;have hpl:p<Bs.length:=(Ah.mp g1.symm).1;have hql:q<Bs.length:=(Ah.mp g2.symm).1;rw [Al hpl] at g1;rw [Al hql] at g2;have hne:p≠q:=by subst hp hq;split<;>split<;>(try split)<;>(try split)<;>omega
 rw [AV g1] at hx;rw [AV g2] at hy;rcases Nat.lt_or_gt_of_ne hne with z | z;exact n2 p q hpl hql z x hx y hy;exact (n2 q p hql hpl z y hy x hx).symm
theorem RpA.putAt {zd:D}{zv:V}(r:RpA K C H ds vs B)(ha:a<ds.length)(hb:b<ds.length):∃B',RpA K C H (ds.set b (ds.getD a zd)) (vs.set b (vs.getD a zv)) B'/\∀x∈B',x∈B:=by
 obtain ⟨Bs,rfl,q2,q3,q4⟩:=r.parts;have get:∀{α:Type} {l:List α} {z:α} (_:a<l.length) (_:b<l.length) (i:Nat),(l.set b (l.getD a z))[i]?=l[if i=b then a else i]?:=fun {α l z} h1 h2 i=>by
  have e1:l.getD a z=l[a]:=by simp [A4,h1]
  rw [e1,Ec];by_cases h:b=i;subst h;rw [if_pos rfl,if_pos rfl,if_pos h2,Al h1];rw [if_neg h,if_neg fun z=>h z.symm]
 refine ⟨(Bs.set b (Bs.getD a [])).flatten,RpA.ofParts (by simp [q2]) (by simp [q3]) fun i d v c h1 h2 h3=>?_,fun x hx=>?_⟩;rw [get ha hb] at h1;rw [get (by omega) (by omega)] at h2 h3;exact q4 _ d v c h1 h2 h3;obtain ⟨c,hc,hx⟩:=CD.mp hx;obtain ⟨i,hi⟩:=CB.mp hc;rw [get (by omega) (by omega)] at hi;exact CD.mpr ⟨c,AU hi,hx⟩
theorem Zlp {z:D}(h:Dl.Zya n z=some j)(r:Rp K C H z v B):∃k:Int,v=.int k/\ixN n k=some j/\j<n:=by
 cases z with
 | int k =>obtain ⟨rfl,_⟩:=r;exact ⟨k,rfl,h,(Zky h).2.1⟩
 | _=>cases h
theorem Zzo (hi:i∈Γ:=by decide)(hk1:EOk K C E Γ Δ m1 S1 tk1 fk1)(hk2:EOk K C E [] [] m2 S2 tk2 fk2)(hl1:EOk K C E Γ Δ m3 S3 tl1 fl1)(hl2:EOk K C E Γ Δ m4 S4 tl2 fl2) :
    SOk K C E mr Γl Δl Γ Δ Γ Δ (Zfs (Xfl (Ja (tOp (rIx K) (Zcr i) tl1) (Ja (tOp (rIx K) (Zcr i) tl2) Zhg))) (Zcf K 2 (Zem (Zbg (Zcr i) tk1 Zfe) (Zem (Zbg (Zcr i) tk2 Zfe) Zuj)))) (Dl.Zoq i fk1 fk2 fl1 fl2):=fun H0 Hb H σ ρ A D I p=>by
  unfold Dl.Zoq at p;split at p
  · rename_i ds e;obtain ⟨a,xs,l,s1,h1,r1,hA,hl⟩:=Zbv I e;have hlen:=r1.len;have at_ok:∀{k:Int} {j:Nat},ixN ds.length k=some j->j<ds.length->atI xs k=some (xs.getD j .non):=fun {k j} h hj=>by unfold atI;rw [hlen,h];show xs[j]?=_;rw [Al (by omega)];simp [A4,show j<xs.length by omega]
    refine ⟨.ref a,s1,hl1 H0 Hb H σ ρ A _ I (Zz.imp (Zz.bind p) (fun z1 p u1 H1 g1 rz1=>?_) fun c x q H' g'=>q H' (Xk.from0 I g'))⟩;obtain ⟨_,rz1,_⟩:=rz1;split at p
    · rename_i j1 ej1;obtain ⟨n1,rfl,n1i,n1l⟩:=Zlp ej1 rz1;have I1:=I.mono g1;refine .inl ⟨a,xs,n1,_,rfl,rfl,SqL.of (g1 _ _ h1),at_ok n1i n1l,.ref a,s1,hl2 H0 Hb H1 σ ρ A _ I1 (Zz.imp (Zz.bind p) (fun z2 p u2 H2 g2 rz2=>?_) fun c x q H' g'=>q H' (Xk.from0 I1 g'))⟩;obtain ⟨_,rz2,_⟩:=rz2;split at p
      · rename_i j2 ej2;obtain ⟨n2,rfl,n2i,n2l⟩:=Zlp ej2 rz2;have I2:=I1.mono g2;refine .inl ⟨a,xs,n2,_,rfl,rfl,SqL.of (g2 _ _ (g1 _ _ h1)),at_ok n2i n2l,(show 2<=Ak by decide),fun tp htp=>?_⟩;have g3:=sameNew htp (.tup [xs.getD j1 .non,xs.getD j2 .non]);have I3:=I2.mono g3;have h3:=g3 _ _ (g2 _ _ (g1 _ _ h1));refine ⟨tp,_,rfl,SqT.of Ye,rfl,_,_,rfl,.ref a,s1,hk1 H0 Hb _ σ ρ A _ I3 (Zz.imp (Zz.bind p) (fun w1 p v1 H4 g4 rw1=>?_) fun c x q H' g'=>q H' (Xk.from0 I3 g'))⟩;obtain ⟨_,rw1,_⟩:=rw1;split at p
        · rename_i ew1;obtain ⟨k1,rfl,k1i,_⟩:=Zlp ew1 rw1;have h4:=g4 _ _ h3;refine ⟨a,xs,k1,j2,rfl,rfl,h4,by rw [hlen];exact k1i,_,_,rfl,.ref a,s1,?_⟩;have g04:Xk H H4:=g1.trans (g2.trans (g3.trans g4));obtain ⟨Bm,rm,hm1⟩:=RpA.putAt (r1.same g04) n1l n2l;obtain ⟨Am,Im⟩:=(I.weak (Γ':=[i]) (Δ':=[]) (fun j hj=>by rw [An.mp hj];exact hi) (fun _ z=>nomatch z)).rewrite g04 (.head _) hA hl s1 rm (fun b hb=>.inl (hm1 b hb)) (fun z=>nomatch z);have Im':=Im.weak (Γ':=[]) (Δ':=[]) (fun _ z=>nomatch z) (fun _ z=>nomatch z);refine hk2 H0 Hb _ σ _ Am _ Im' (Zz.imp (Zz.bind p) (fun w2 p v2 H6 g6 rw2=>?_) fun c x q H' g'=>q H' (Xk.from0 Im' g'));obtain ⟨_,rw2,_⟩:=rw2;split at p
          · rename_i ew2;obtain ⟨k2,rfl,k2i,_⟩:=Zlp ew2 rw2;refine ⟨a,xs.set j2 (xs.getD j1 .non),k2,j1,rfl,rfl,g6 _ _ Ye,by rw [Bw,hlen];exact k2i,rfl,?_⟩;have g06:Xk H (upd H6 a (.lst xs)):=fun b o hb=>by by_cases q:b=a;subst q;rw [h1] at hb;cases hb;exact Ye;rw [Xs q];exact g6 b o (by rw [Xs q];exact g04 b o hb)
            obtain ⟨B',r',b1,b2⟩:=RpA.swp (zd:=.non) (zv:=.non) (r1.same g06) n1l n2l;obtain ⟨A',I'⟩:=I.rewrite g06 hi hA hl s1 r' (fun b hb=>.inl (b1 b hb)) fun hd=>b2 (by
              have:=(I.deep i hd).1;rw [hA] at this;exact (Ap.mp this).2)
            rw [Xla] at I';exact p _ _ A' I'
          exact p.elim
        exact p.elim
      exact p.elim
    exact p.elim
  exact p.elim
end
section
variable {Γk Δk:List Nat}{m5:Nat}{S S5:List (Nat×Bool)}{a b c st o:Expr}{rest:List Expr}{ta tb tc ts:TE}{fa fb fc fs:FE}{pos':Pos}
theorem Xjt {k1 k2 l1 l2:Expr}{q1 q2 q3 q4 q5 q6 q7 q8 q9:Pos}(hi:i∈Γ:=by decide)(hN:X.N[i]?=some x:=by rfl)(hv:autoParam (Vis X.env.scope x) aT3._auto_1)(hd:(x==("__debug__":Str))=false:=by decide)(hcd:(x==("__classdict__":Str))=false:=by decide)
    (hc:X.calm=true:=by rfl) (he:JE X C E Γ Δ m1 S1 (.Tuple [.Subscript (.Name x q5) l1 q6,.Subscript (.Name x q7) l2 q8] n2 q9) (Xfl (Ja (tOp (rIx X.K) (Zcr i) tl1) (Ja (tOp (rIx X.K) (Zcr i) tl2) Zhg))) fe) (hl1:JE X C E Γ Δ m3 S3 l1 tl1 fl1) (hl2:JE X C E Γ Δ m4 S4 l2 tl2 fl2) (hk1:JE X C E Γ Δ m2 S2 k1 tk1 fk1) (hk2:JE X C E [] [] m5 S5 k2 tk2 fk2)
    (hn:(Aq [.Subscript (.Name x q1) k1 q2,.Subscript (.Name x q3) k2 q4] X.env).length=2:=by rfl) (hst:(Aq [.Subscript (.Name x q1) k1 q2,.Subscript (.Name x q3) k2 q4] X.env).findIdx? (·.1)=none:=by rfl)
    (hs:B7 [.Tuple [.Subscript (.Name x q1) k1 q2,.Subscript (.Name x q3) k2 q4] nn p] (.Tuple [.Subscript (.Name x q5) l1 q6,.Subscript (.Name x q7) l2 q8] n2 q9) pos.line X.env=pure false:=by rfl) (hw:B8 [.Tuple [.Subscript (.Name x q1) k1 q2,.Subscript (.Name x q3) k2 q4] nn p] (.Tuple [.Subscript (.Name x q5) l1 q6,.Subscript (.Name x q7) l2 q8] n2 q9) X.env=pure none:=by rfl)
    (h1:(Aq [.Tuple [.Subscript (.Name x q1) k1 q2,.Subscript (.Name x q3) k2 q4] nn p] X.env).map (·.2)=[Bu (.Tuple [.Subscript (.Name x q1) k1 q2,.Subscript (.Name x q3) k2 q4] nn p) X.env]:=by rfl)
    (ha1:∀v,Bu (.Subscript (.Name x q1) k1 q2) X.env v=(do
      let ov <- A5 [v] (AF (.Name x q1) X.env)
      let iv <- A5 [v,ov] (AF k1 X.env)
      CI q2
      A5 [v,ov,iv] (CV ov iv v)
      Dy [v,ov,iv] []):=by intro _;rfl)
    (ha2:∀v,Bu (.Subscript (.Name x q3) k2 q4) X.env v=(do
      let ov <- A5 [v] (AF (.Name x q3) X.env)
      let iv <- A5 [v,ov] (AF k2 X.env)
      CI q4
      A5 [v,ov,iv] (CV ov iv v)
      Dy [v,ov,iv] []):=by intro _;rfl)
    (hc1:(Aq [.Subscript (.Name x q1) k1 q2,.Subscript (.Name x q3) k2 q4] X.env).map (·.2)=Bu (.Subscript (.Name x q1) k1 q2) X.env::(Aq [.Subscript (.Name x q3) k2 q4] X.env).map (·.2):=by rfl)
    (hc2:(Aq [.Subscript (.Name x q3) k2 q4] X.env).map (·.2)=Bu (.Subscript (.Name x q3) k2 q4) X.env::(Aq ([]:List Expr) X.env).map (·.2):=by rfl) :
    JS X C E mr Γl Δl Γ Δ Γ Δ (.Assign [.Tuple [.Subscript (.Name x q1) k1 q2,.Subscript (.Name x q3) k2 q4] nn p] (.Tuple [.Subscript (.Name x q5) l1 q6,.Subscript (.Name x q7) l2 q8] n2 q9) pos) (Zfs (Xfl (Ja (tOp (rIx X.K) (Zcr i) tl1) (Ja (tOp (rIx X.K) (Zcr i) tl2) Zhg))) (Zcf X.K 2 (Zem (Zbg (Zcr i) tk1 Zfe) (Zem (Zbg (Zcr i) tk2 Zfe) Zuj)))) (Dl.Zoq i fk1 fk2 fl1 fl2):=
  ⟨Zjl he.q (Znt hc (Zcy (Zgq (qv i hN hv hd hcd) hk1.q set_list ha1) (Zcy (Zgq (qv i hN hv hd hcd) hk2.q set_list ha2) Zji hc2) hc1) hn hst) hs hw h1,Zzo hi hk1.o hk2.o hl1.o hl2.o⟩
end
end L2
namespace PySem
open Sem (wp)
variable {prog:Aw}{w:AS}{A:AR}{E:Value->Ac->Prop}{h:AZ}{g:Array Du}{d:GH}{t:Nat}{os:Gg}{a:Addr}{xs:Array Value}{sl:Array (Option Value)}{tk:Tok}{Q:Option Value->Ac->Prop}
theorem Znh:GN (.type "list") "keys"=pure none:=by rw [typeLookup_type,builtinLookup_eq_fast];kernel_rfl
section
variable {k:Nat}
theorem Zsp {Q:Fin->Ac->Prop}(hx:h.get? a=some {cls:=.type "list",dict:=none,data:=.seq xs k,slots:=sl})(hA:A.handled=none)
  (hq:∀h' tk' e,GG h h' e (.ref a) "keys"->E (.ref e) ⟨h',g,d,tk',os⟩):Az (AA prog w) A (Hi.«object.__getattribute__» ⟨[.ref a,.str "keys" tk],[]⟩) Q E ⟨h,g,d,t,os⟩:=by
 have hT:(⟨h,g,d,t,os⟩:Ac).TypeIs (.ref a) "list":=⟨_,hx,rfl⟩;have f4:=Znh
 repeat (any_goals (first | assumption | wp_step))
 exact wpAny_raiseAttrError hA hq (attrMsg_fits (by decide +kernel) (by size_fits))
theorem Zyl {R:Fd->Ac->Prop}(hx:h.get? a=some {cls:=.type "list",dict:=none,data:=.seq xs k,slots:=sl})(hA:A.handled=none)
  (hq:∀h' tk' e,GG h h' e (.ref a) "keys"->R (.error (.ref e)) ⟨h',g,d,tk',os⟩) :
  Dj (AA prog w) A (.call (.builtin "list.__getattribute__") ⟨[.ref a,.str "keys" tk],[]⟩) R ⟨h,g,d,t,os⟩:=
 codeAny_call_builtin Cy.plain F.entry_list_ga (Cy.check _ _ _ _ _ _ _ _ (show (⟨h,g,d,t,os⟩:Ac).TypeIs (.ref a) "list" from ⟨_,hx,rfl⟩) (F.args_list_getattribute_2 _ _) (Zsp hx (by simp [hA]) hq))
theorem Zyz (hx:h.get? a=some {cls:=.type "list",dict:=none,data:=.seq xs k,slots:=sl})(hA:A.handled=none)
  (hq:∀h' tk',(∀b ob,h.get? b=some ob->h'.get? b=some ob)->Q none ⟨h',g,d,tk',os⟩):Az (AA prog w) A (getAttr? (.ref a) "keys") Q E ⟨h,g,d,t,os⟩:=by
 have hT:∀tk',(⟨h,g,d,tk',os⟩:Ac).TypeIs (.ref a) "list":=fun _=>⟨_,hx,rfl⟩;have f1:=sub_AttributeError;have f3:=Cy.lookup;have f4:=Cy.bind (.ref a);have f5:=am_list_getattr_none;unfold getAttr? getAttrBy? getAttrBy
 repeat (any_goals (first | assumption | exact hT _ | wp_step))
 refine Zyl hx hA fun h' tk' e hx'=>?_;obtain ⟨t',u',he⟩:=hx'.there;show Az _ _ (GS _ _ _ _ _ _ _) _ _ _;unfold GS
 repeat (any_goals (first | assumption | wp_step))
 exact hq _ _ hx'.keeps
end
end PySem
namespace PyProof.Rows
open PySem PySem.Spec
namespace F
theorem entry_dict_update_loop:entryFor table "dict.update.loop"=some Hi.«dict.update.loop»:=entryFor_of_tree (by kernel_rfl)
theorem plain_dict_update_loop:plainId "dict.update.loop"=true:=by decide +kernel
end F
section
variable {prog:Aw}{w:AS}{A:AR}{R:Fd->Ac->Prop}{I:Addr}{fp wr:List Addr}{G:Array Du->Array Du->Prop}{n:Nat}{P:Nat->Value->Prop}{St:Nat->Ac->Prop}{K:Type}[DecidableEq K]{knd:PySem.KeyKind prog w K}
theorem Zox (kv:Nat->K×Value)(i:Nat):E9 [] ((AJ (i+1)).map kv)=stored (E9 [] ((AJ i).map kv)) (kv i).1 (kv i).2:=by rw [Ep,Bv];unfold E9;rw [List.foldl_append];rfl
theorem Zwr (W:WalksS prog w A.in1 I fp wr G n P St)(S:Addr)(hSf:S∉fp)(kv:Nat->K×Value)(key:Nat->Value)(tp:Nat->Addr)(hval:∀i v,P i v->v=.ref (tp i))(htp:∀i,i<n->tp i∉S::wr)(hkey:∀i,i<n->knd.is (kv i).1 (key i)=true)(hb:n<=Ak) :
    ∀(k i:Nat) (s:Ac),n - i=k->i<=n->St i s->
      s.heap.DictOf knd S (E9 [] ((AJ i).map kv))->(∀j,j<n->∃o m,s.heap.get? (tp j)=some o/\o.cls=.type "tuple"/\o.data=.seq #[key j,(kv j).2] m)->
      (∀s',Moved (S::wr) G s s'->s'.heap.DictOf knd S (E9 [] ((AJ n).map kv))->R (.ok (.ret .none)) s')->
      Dj (AA prog w) A (.builtin "dict.update.loop" ⟨[.ref S,.ref I,.int i 0,.none],[]⟩) R s:=by
  have hSw:S∉wr:=fun h=>hSf (W.sub _ h);have hsub:∀b∈wr,b∈S::wr:=fun b hb=>BG _ hb;intro k
  induction k with
  | zero =>
    intro i s hk hi hst hS hT hR;have hin:i=n:=by omega
    subst hin;refine HC F.entry_dict_update_loop ?_;rw [E8 F.plain_dict_update_loop _];show Az _ A.in1 (GQ (.ref I) >>= _) _ _ s;refine Av (W.done s _ _ hst fun s' hm=>?_);show Az _ A.in1 (HR S [] >>= _) _ _ s';refine Av (A6 (A6 (hR s' (hm.mono hsub) (by
      obtain ⟨o,es,ep,ho,rest⟩:=hS;exact ⟨o,es,ep,hm.heap S _ hSw ho,rest⟩))))
  | succ k ih =>
    intro i s hk hi hst hS hT hR;have hlt:i<n:=by omega
    refine HC F.entry_dict_update_loop ?_;rw [E8 F.plain_dict_update_loop _];show Az _ A.in1 (GQ (.ref I) >>= _) _ _ s;refine Av (W.item i s _ _ hlt hst fun v s' hP hst' hm=>?_);obtain rfl:=hval i v hP;have hS':s'.heap.DictOf knd S (E9 [] ((AJ i).map kv)):=by obtain ⟨o,es,ep,ho,rest⟩:=hS;exact ⟨o,es,ep,hm.heap S _ hSw ho,rest⟩
    have hT':∀j,j<n->∃o m,s'.heap.get? (tp j)=some o/\o.cls=.type "tuple"/\o.data=.seq #[key j,(kv j).2] m:=fun j hj=>by obtain ⟨o,m,h1,h2⟩:=hT j hj;exact ⟨o,m,hm.heap _ _ (fun z=>htp j hj (hsub _ z)) h1,h2⟩
    obtain ⟨o,m,h1,h2,h3⟩:=hT' i hlt;obtain ⟨cls,dct,dat,sl⟩:=o;simp only at h2 h3;subst h2 h3;have hTt:s'.TypeIs (.ref (tp i)) "tuple":=⟨_,h1,rfl⟩;refine Av (DC (Av (wpAny_tryCatch ?_)));unfold HQ;refine Av (wpAny_typeOf hTt ?_);rw [if_pos (by decide)];refine Av (wpAny_seqItems h1 rfl (A6 ?_));show Az _ A.in1 (A5 [key i,(kv i).2] (dictSet S (key i) (kv i).2)) _ _ s';refine DC (wpAny_dictSet_pairs (hkey i hlt) hS' (fun h' hd' hsb=>?_) (hsz:=?_));refine A6 ⟨HZ F.plain_dict_update_loop _,?_⟩;have:=ih (i+1) {s' with heap:=h',toks:=s'.toks+1} (by omega) hlt (W.frame _ s' _ _ hst' (HL _) fun b hb o e=>?_) (by rw [Zox];exact hd') (fun j hj=>?_) fun s'' hm'' hS''=>?_;exact this;rw [hsb.2 b (fun h:b=S=>hSf (by rw [<- h];exact hb))];exact e;obtain ⟨o,m,q1,q2⟩:=hT' j hj;exact ⟨o,m,by rw [show (h':AZ).get? (tp j)=_ from hsb.2 (tp j) (fun z=>htp j hj (by rw [z];exact BX))];exact q1,q2⟩;refine hR s'' (Moved.trans W.gtrans ((hm.mono hsub).then_heap (HL _) fun b o hb e=>?_) hm'') hS'';rw [hsb.2 b (fun h:b=S=>hb (by rw [h];exact BX))];exact e;have:=merged_length_le ([]:List (K×Value)) ((AJ i).map kv);rw [Ae,Cu] at this;exact AT this (by rw [GD];omega)
end
section
variable {prog:Aw}{w:AS}{A:AR}{E:Value->Ac->Prop}{s:Ac}{K:Type}[DecidableEq K]{knd:PySem.KeyKind prog w K}
theorem Ziq {l:Addr}{items:Array Value}{e:Nat}{Q:Value->Ac->Prop}(hh:A.handled=none)(hl:s.heap.get? l=some (seqObj "list" items e))(kv:Nat->K×Value)(key:Nat->Value)(tp:Nat->Addr)(hit:∀(i:Nat) (v:Value),items[i]?=some v->v=A7 (tp i))
  (hkey:∀i,i<items.size->knd.is (kv i).1 (key i)=true) (htu:∀j,j<items.size->∃o m,s.heap.get? (tp j)=some o/\o.cls=.type "tuple"/\o.data=.seq #[key j,(kv j).2] m) (hb:items.size<=Ak)
  (h:∀(h':AZ) (tk:Nat),h'.DictOf knd s.heap.objs.size (E9 [] ((AJ items.size).map kv))->(∀b o,s.heap.get? b=some o->h'.get? b=some o)->Q (.ref s.heap.objs.size) {s with heap:=h',toks:=tk}) :
  Az (AA prog w) A (call (.type "dict") [.ref l]) Q E s:=by
 refine callType_codes (Q₁:=fun obj s₁=>obj=.ref s.heap.objs.size/\s₁={s with heap:=s.heap.push {cls:=.type "dict",data:=.dict #[]}}) PySem.F.kt_called_dict (PySem.F.kt_typeCall_dict_1 _) PySem.F.entry_dict_init (kt_code_dict_new _ ⟨rfl,rfl⟩) ?_;rintro obj s₁ ⟨rfl,rfl⟩;have hnew:(s.heap.push {cls:=.type "dict",data:=.dict #[]}).DictOf knd s.heap.objs.size []:=E7 s.heap;have hl1:(s.heap.push {cls:=.type "dict",data:=.dict #[]}).get? l=some {cls:=.type "list",dict:=none,data:=.seq items e,slots:=#[]}:=AD _ hl;have hlS:l<s.heap.objs.size:=AN hl;refine ⟨hnew.typeIs,PySem.F.args_dict_init_2 _ _,?_⟩;unfold Hi.«dict.__init__»;refine Av ?_;unfold HP;refine Av (wpAny_notOrdered_dict hnew.typeIs ?_);show Az _ _ (pure (s.heap.objs.size,[A7 l])) _ _ _;refine A6 ?_;show Az _ _ (El "dict.__init__" s.heap.objs.size (.ref l) [] .none) _ _ _;unfold El;refine Av (wpAny_typeOf (show Shared.TypeIs {s with heap:=s.heap.push {cls:=.type "dict",data:=.dict #[]}} (.ref l) "list" from ⟨_,hl1,rfl⟩) ?_);rw [if_pos (by decide)];refine Av (Zyz (k:=e) (sl:=#[]) hl1 (by simp [hh]) fun h1 tk1 k1=>?_);simp only [Option.isNone_none,if_true];have hl2:h1.get? l=some (seqObj "list" items e):=k1 _ _ hl1;have hS2:h1.DictOf knd s.heap.objs.size []:=by obtain ⟨o,es,ep,ho,rest⟩:=hnew;exact ⟨o,es,ep,k1 _ _ ho,rest⟩
 have hSlt:s.heap.objs.size<h1.objs.size:=by obtain ⟨o,es,ep,ho,rest⟩:=hS2;exact AN ho
 have hL2:h1.IsList l items:=⟨_,hl2,rfl,e,rfl⟩;refine Av (wpAny_rule (Av (Dw (s:={s with heap:=h1,toks:=tk1}) hL2 (A6 ⟨HZ F.plain_dict_update_loop _,?_⟩))));have hne:l≠h1.objs.size:=A8 (D2 hlS hSlt);have hSf:s.heap.objs.size∉[h1.objs.size,l]:=by simp only [Aj,BA,or_false,not_or];exact ⟨A8 hSlt,Ff hlS⟩
 refine Zwr ((Ft (A:=A.in1.in1) (by simp [hh]) h1.objs.size l hne items).toS) s.heap.objs.size hSf kv key tp hit (fun i hi=>?_) hkey hb (items.size - 0) 0 _ (by omega) (D9 _) ⟨⟨_,BP _ rfl,rfl,rfl⟩,hL2.push _⟩ (hS2.push _) (fun j hj=>?_) fun s' hm hS'=>?_;obtain ⟨o,m,q1,_⟩:=htu i hi;have:=AN q1;simp only [Aj,BA,or_false,not_or];exact ⟨A8 this,A8 (D2 this hSlt)⟩;obtain ⟨o,m,q1,q2⟩:=htu j hj;exact ⟨o,m,AD _ (k1 _ _ (AD _ q1)),q2⟩;obtain ⟨hp,g,d,tk,os⟩:=s';have e1:=hm.drawn;have e2:=hm.os;have e3:=hm.gens;simp only at e1 e2 e3;subst e1 e2 e3;refine ⟨rfl,h hp tk hS' (fun b o q=>?_)⟩;have hb:=AN q;refine hm.heap b o ?_ (AD _ (k1 _ _ (AD _ q)));simp only [Aj,BA,or_false,not_or];exact ⟨A8 hb,A8 (D2 hb hSlt)⟩
end
end PyProof.Rows
namespace L2
open PySem PySem.Spec PyProof.Rows
open Dl (D R FE FT FA FO FS FI FB Fl)
variable {L:List (Addr×Key×V)}{ys:List (Key×Value)}{X:Cx}{K:AE}{C:String->Addr}{E:XK}{Γ Δ:List Nat}{m m1 m2:Nat}{S1 S2 S3:List (Nat×Bool)}{ta tb:TE}{fa fb:FE}{es:List Expr}
theorem Zgj {α β:Type}{F:α->β->Prop}:∀(l:List α) (g:Nat->β),(∀(i:Nat) x,l[i]?=some x->F x (g i))->Paired F l ((AJ l.length).map g)
 | [],g,_=>.nil
 | x::l,g,h=>by rw [BB,E3,AH,BU];exact .cons (h 0 x rfl) (Zgj l (g∘Il) fun i y hy=>h (i+1) y hy)
theorem kv_of (p:Paired (fun (x:Addr×Key×V) (y:Key×Value)=>x.2.1=y.1/\RelV x.2.2 y.2) L ys):KV (L.map (·.2)) ys/\ys.map (·.1)=L.map (·.2.1):=by
 induction p with
 | nil=>exact ⟨.nil,rfl⟩
 | cons h _ ih=>exact ⟨.cons h ih.1,by rw [AH,AH,ih.2,h.1]⟩
def Zrf:List V->Hp->VK->Prop:=fun vs H Q=>∃(a:Addr) (L:List (Addr×Key×V)),vs=[.ref a]/\H a=some (.lst (L.map fun x=>V.ref x.1))/\(∀x∈L,H x.1=some (.tup [kV x.2.1,x.2.2]))/\L.length<=1000/\(L.map (·.2.1)).Nodup/\∀r,H r=none->Q (.ref r) (upd H r (.dK (L.map (·.2))))
section
theorem Zkl (hc:X.calm=true):Zar X (.type "dict") Zrf:=by
 intro pins s σ H xs us Q I r h;obtain ⟨a,L,rfl,hq,hL,hl,hnd,q⟩:=h;obtain ⟨u,rfl,rx⟩:=vals1 r;cases rx;obtain ⟨hz,its,e,rv,hg⟩:=(show Jt X.prog X.w H s.heap a (.lst (L.map fun x=>V.ref x.1)) from I.hok a _ hq);have rv':Yw ((L.map (·.1)).map V.ref) its:=by rw [BU];exact rv
 have ei:=Zmp rv';have tu:∀(i:Nat),∃p:Value×Value,∀x,L[i]?=some x->RelV (kV x.2.1) p.1/\RelV x.2.2 p.2/\∃o m,s.heap.get? x.1=some o/\o.cls=.type "tuple"/\o.data=.seq #[p.1,p.2] m:=fun i=>by
  cases hx:L[i]? with
  | none=>exact ⟨(.none,.none),fun x z=>nomatch z⟩
  | some x =>obtain ⟨_,its',r',o,h1,h2,n,h3⟩:=(show Jt X.prog X.w H s.heap x.1 (.tup [kV x.2.1,x.2.2]) from I.hok x.1 _ (hL x (AU hx)));obtain ⟨u1,u2,rfl,r1,r2⟩:=vals2 r';refine ⟨(u1,u2),fun y hy=>?_⟩;cases hy;exact ⟨r1,r2,o,n,h1,h2,h3⟩
 obtain ⟨f,hf⟩:=Iq.mp tu;have hsz:its.toArray.size=L.length:=by rw [Ay,ei,Ae,Ae]
 have at_:∀i,i<its.toArray.size->∃x,L[i]?=some x:=fun i hi=>⟨_,Al (by omega)⟩;have pr:Paired (fun (x:Addr×Key×V) (y:Key×Value)=>x.2.1=y.1/\RelV x.2.2 y.2) L ((AJ L.length).map fun i=>(((L[i]?).map (·.2.1)).getD (.inl 0),(f i).2)):=Zgj L _ fun i x hx=>⟨by rw [hx];rfl,(hf i x hx).2.1⟩;obtain ⟨rel,ek⟩:=kv_of pr;refine Ziq (knd:=Je X.prog X.w) (I.ok.hd hc) hg (fun i=>(((L[i]?).map (·.2.1)).getD (.inl 0),(f i).2)) (fun i=>(f i).1) (fun i=>((L[i]?).map (·.1)).getD 0) (fun i v hv=>?_) (fun i hi=>?_) (fun i hi=>?_) (by rw [hsz,Dx];omega) fun h' tk hd hk=>?_;have hv:its[i]?=some v:=by rw [<- List.getElem?_toArray];exact hv
 rw [ei,BU,Bh] at hv;obtain ⟨x,hx,rfl⟩:=AB.mp hv;rw [hx];rfl;obtain ⟨x,hx⟩:=at_ i hi;show (Je X.prog X.w).is (((L[i]?).map (·.2.1)).getD (.inl 0)) (f i).1=true;rw [hx];exact Zsq (hf i x hx).1;obtain ⟨x,hx⟩:=at_ i hi;obtain ⟨-,-,o,m,q1,q2,q3⟩:=hf i x hx;exact ⟨o,m,by rw [hx];exact q1,q2,q3⟩;have hn:H s.heap.objs.size=none:=I.hok.fresh (AI _);rw [hsz,merged_nil_of_nodup _ (by rw [ek];exact hnd)] at hd;exact ⟨.ref s.heap.objs.size,_,I.laid (t':=tk) (o:=.dK (L.map (·.2))) hk (AI _) (Xfc (by rw [Ae,Dx];omega) (beq_eq_false_iff_ne.mpr (Ne.symm (A8 I.big))) rel hd),rfl,q _ hn⟩
def Zyo (K:AE):V->List V->Hp->VK->Prop:=fun x vs H Q=>∃(a:Addr) (ts:List Str) (t:Str),x=.ref a/\vs=[.str t]/\SqL K H a (ts.map V.str)/\Q (.int (ts.count t:Nat)) H
theorem Zqp (t:Str):∀ts:List Str,countIn (.str t) (ts.map PyData.str)=(ts.count t:Nat)
 | []=>rfl
 | s::ts=>by rw [AH,countIn,Zqp t ts,List.count_cons];show (if (s==t)=true then (1:Int) else 0)+_=_;split<;>push_cast<;>omega
theorem Zkh:∀{ts:List Str} {its:List Value},Yw (ts.map V.str) its->StrsAre its ts
 | [],its,r=>by cases r;exact .nil
 | t::ts,its,r=>by
  cases r with
  | cons r1 r2 =>obtain ⟨u,rfl⟩:=r1;exact .cons t u (Zkh r2)
theorem Xds:MtR X "list.count" (Zyo X.K):=by intro pins s σ H x vs v us Q I rx rv h;obtain ⟨a,ts,t,rfl,rfl,hq,q⟩:=h;cases rx;obtain ⟨u,rfl,ru⟩:=vals1 rv;obtain ⟨tk,rfl⟩:=ru;obtain ⟨its,rv2,pl,hz⟩:=I.list hq;refine count_list_strs pl.isList (Zkh rv2) ?_;rw [Zqp];exact ⟨.int (ts.count t:Nat),H,I.tok _,⟨_,rfl⟩,q⟩
variable {S:List (Nat×Bool)}{H:Hp}
theorem Zod:∀{ds:List D} {ps:List (Key×D)} {ys:List V} {B:List Addr},Dl.Zgm ds=some ps->RpA K C H ds ys B->∃L:List (Addr×Key×V),ys=L.map (fun x=>V.ref x.1)/\ps.map (·.1)=L.map (·.2.1)/\(∀x∈L,H x.1=some (.tup [kV x.2.1,x.2.2]))/\RpA K C H (ps.map (·.2)) (L.map (·.2.2)) []
 | [],ps,ys,B,e,r=>by cases e;exact ⟨[],r.1,rfl,(fun _ h=>nomatch h),RpA.nil⟩
 | d::ds,ps,ys,B,e,r=>by obtain ⟨x,l,B1,B2,rfl,h1,h2,_⟩:=r;unfold Dl.Zgm at e;split at e;rename_i hq;cases hq;rename_i k d' r' he;cases he;split at e;rename_i q hk;split at e;rename_i hf;obtain ⟨ps',e2,rfl⟩:=AB.mp e;obtain ⟨L,rfl,e3,hL,rL⟩:=Zod e2 h2;obtain ⟨b,vs,rfl,t1,t2⟩:=h1;obtain ⟨x1,l1,C1,C2,rfl,s1,s2,_⟩:=t2;obtain ⟨x2,l2,C3,C4,rfl,s3,s4,_⟩:=s2;obtain ⟨rfl,_⟩:=s4;have hx1:=Zgc hk s1;subst hx1;have z:=s3.flat hf;subst z;exact ⟨(b,q,x2)::L,rfl,by rw [AH,AH,e3],AM.mpr ⟨t1,hL⟩,⟨x2,_,[],[],rfl,s3,rL,rfl⟩⟩;cases e;cases e;cases e
theorem Zog:GAk K C Zrf Dl.Zjo:=by
 intro H xs d vs Bx Q r e q
 match xs,e with
 | [.lst ds],e =>
  obtain ⟨ps,h1,h2⟩:=Bq.mp (show ((Dl.Zgm ds).bind fun ps=>if ps.length<=1000/\(ps.map (·.1)).Nodup then some (D.dct (ps.map (·.1)) (ps.map (·.2))) else none)=some d from e);split at h2;rename_i hh;cases h2;obtain ⟨v,l,B1,B2,rfl,r1,r2,_⟩:=r;obtain ⟨rfl,_⟩:=r2;obtain ⟨a,ys,B',rfl,e2,e3,_⟩:=r1;obtain ⟨L,rfl,e4,hL,rL⟩:=Zod h1 e3;have hl:ps.length=L.length:=by have:=congrArg Ht e4;rwa [Ae,Ae] at this
  refine ⟨a,L,rfl,e2,hL,by omega,by rw [<- e4];exact hh.2,fun r hr=>?_⟩;have g2:=sameNew hr (.dK (L.map (·.2)));have ez:(ps.map (·.1)).zip (L.map (·.2.2))=L.map (·.2):=by rw [e4,List.zip_map',show (fun x:Addr×Key×V=>(x.2.1,x.2.2))=(·.2) from rfl]
  refine q _ _ [r] g2 ⟨r,L.map (·.2.2),[],rfl,by rw [ez];exact Ye,by rw [Ae,Ae],rL.same g2,rfl⟩ (Ap.mpr ⟨(fun z=>nomatch z),BI⟩) fun a ha=>?_;rw [An.mp ha];exact hr;cases h2
theorem Zxv (ha:EOk K C E Γ Δ m1 S1 ta fa)(hb:EOk K C E Γ Δ m2 S2 tb fb):EOk K C E Γ Δ 2 [] (tBM K "list" (Zyo K) ta (Ja tb Zhg)) (Dl.Znv fa fb):=
  fun H0 Hb H σ ρ A Q I p=>ha H0 Hb H σ ρ A _ I (p.bind.imp (fun x q vx H1 g1 r1=>by
    obtain ⟨Bx,r1,_⟩:=r1;cases x with
    | lst ds =>
      obtain ⟨a,xs,B,rfl,e2,e3,_⟩:=r1;refine ⟨.inl ⟨rfl,xs,SqL.of e2⟩,hb H0 Hb H1 σ ρ A _ (I.mono g1) (q.bind.imp (fun y q vy H2 g2 r2=>?_) fun c x q H' g'=>q H' (g1.trans g'))⟩;obtain ⟨By,r2,_⟩:=r2;cases y with
      | str t =>obtain ⟨d,e,q⟩:=Zfc q;obtain ⟨rfl,_⟩:=r2;obtain ⟨ts,h1,rfl⟩:=AB.mp e;obtain ⟨z,_⟩:=RpA.ofStrs e3 h1;subst z;exact ⟨a,ts,t,rfl,rfl,SqL.of (g2 _ _ e2),q _ _ (g1.trans g2) (Res.flat rpI)⟩
      | _=>exact q.elim
    | _=>exact q.elim) fun c x q H' g'=>q H' g')
variable {Γ' Δ' Γ1 Δ1 Γl Δl Γk Δk:List Nat}{m3 mr:Nat}{S:List (Nat×Bool)}{a b c e st o tg iter:Expr}{rest:List Expr}{tc te ts:TE}{fc fe fs:FE}{pos p p2 apos cpos pos' cp kp:Pos}{k:Nat}
theorem Zzt (K:AE)(ho:JE X C E Γ Δ m1 S1 o ta fa)(he:JE X C E Γ Δ m2 S2 e tb fb)(hse:Ab [e] X.env=(false,AF e X.env)::Ab [] X.env)(hbase:Bt o "count" X.env (AF o X.env)=AF o X.env:=by rfl)
  (hfew:((AW cpos (Ab [e] X.env)).all (fun x=>!x.1)&&(Cq cpos (BO [] X.env)).all (fun x=>x.1.isSome)&&decide (([e]:List Expr).length+([]:List Bo).length+(if ([]:List Bo).isEmpty then 0 else 1)<30))=true:=by rfl)
  (hline:(apos.endLine==cpos.line)=true:=by rfl) (hplain:(AW cpos (Ab ([]:List Expr) X.env)).any (·.1)=false:=by rfl) (hK:X.K=K:=by rfl):JE X C E Γ Δ 2 [] (.Call (.Attribute o "count" apos) [e] [] cpos) (tBM K "list" (Zyo K) ta (Ja tb Zhg)) (Dl.Znv fa fb):=by
 subst hK;exact ⟨Zsr PySem.F.plainAttrs_list PySem.F.slot_list_count PySem.F.type_list_count Xds ho.q (Yy he.q Zes hse) hbase hfew hline hse hplain,Zxv ho.o he.o⟩
end
end L2
namespace Dl
open PySem
variable {i j lo v m fl:Int}{α β:Type}{xs ds T:List D}{x d z:D}{ns ms os ws ys:List Int}{a e:FE}{b:FB}{s:FS}{P:Int->Prop}{Rr:R Fl->Prop}{ρ ρ':Env}{n N:Nat}{c:FT}{g:D->Option Int->Option Int->Option D}{F:List D->R D}{it:FI}{p:Prop}{hi:Option Int}{nm:Str}
def Zrs:FS:=
  (Xm (sIf (cOr (cE (f2 gLt (fV 1) (fC (.int 0)))) (cOr (cE (f2 gGt (fV 2) (fA Zbc (Zb (fV 0) Zu)))) (cE (f2 gGt (fV 1) (fV 2))))) Zqs sNx)
    (Jx (fA Xpu (Zb (fSl gSl (fV 0) (Zdk (fV 1)) (Zdk (fV 2))) Zu))))
def Zed (ds:List D):R D:=(run 3 Zrs ds).calm
def Zfk:FS:=
 (Ya 2 (f2 Zel (f2 Ym (f2 Ym (f2 Zat (fV 2) (fC (.int 48271))) (f2 Zel (fV 3) (fC (.int 1000003)))) (fC (.int 1))) (fC (.int 2147483647))))
def Zqf:FS:=
  (Xm (sIf (cE (f2 gLt (fV 1) (fA Zbc (Zb (fV 0) Zu)))) (Jx (f1 Xi (f2 gIx (fV 0) (fV 1)))) sNx)
    (Xm (Ya 2 (fC (.int 5)))
    (Xm (Zhu (Zad (fSl gSl (fV 0) Zfi (Zdk (fC (.int 63))))) (Zr 3) Zfk)
    (Jx (f2 Zel (f2 Ym (fV 2) (f2 Zat (fC (.int 7919)) (fV 1))) (fC (.int 1000003)))))))
def Zan (ds:List D):R D:=(run 4 Zqf ds).calm
def Ztj:FS:=
  (Xm (Ya 2 (f2 Zel (f2 Zgf (f2 Ym (f2 Ym (f2 Zel (fV 0) (fC (.int 2147483629))) (f2 Zat (fC (.int 1013)) (fV 1))) (fC (.int 7919))) (fC (.int 3))) (fC (.int 2147483647))))
    (Xm (Ya 3 (f2 Zel (f2 Ym (f2 Ym (f2 Zat (fV 2) (fC (.int 40699))) (f2 Zat (f2 Zat (fC (.int 3793)) (fV 1)) (fV 1))) (fC (.int 11))) (fC (.int 2147483399))))
    (Jx (f2 Xlt (fV 3) (fC (.int 101))))))
def Zbh (ds:List D):R D:=(run 4 Ztj ds).calm
def Zeb:FS:=
 (Jx (Xlq (f1 (Zkm "int") (fV 0)) (f1 gNot (f1 (Zkm "bool") (fV 0)))))
def Xz (ds:List D):R D:=(run 1 Zeb ds).calm
def Zyi:FS:=
 (Jx (Zaa 1 1 (Zad (fV 0)) (Zr 1) Zec (f1 Xi (f2 gIx (fV 1) (fC (.int 0))))))
def Zex (ds:List D):R D:=(run 1 Zyi ds).calm
def Zcv:FS:=
 (Zjr 1 (f2 Ym (f2 gIx (fV 1) (f1 Zzi (fC (.int 1)))) (fV 2)))
def Zin:FS:=
  (Xm (Ya 1 (fA Jq (Zb (fC (.int 0)) Zu)))
    (Xm (Zhu (Zad (fV 0)) (Zr 2) Zcv)
    (Jx (fV 1))))
def Jg (ds:List D):R D:=(run 3 Zin ds).calm
def Zpp:FS:=
  (Xm (Ya 3 (f2 Ym (fV 2) (f2 gIx (fV 1) (fC (.int 1)))))
    (Xm (sIf (cOr (cE (f2 gLt (fV 2) (fC (.int 0)))) (cE (f2 gGe (fV 3) (fA Zbc (Zb (fV 0) Zu))))) (Jx (fC (.bl false))) sNx)
    (Jx (f2 gLe (f2 Zbg (f2 gIx (fV 0) (fV 3)) (f2 gIx (fV 0) (fV 2))) (f2 gIx (fV 1) (fC (.int 3)))))))
def Ys (ds:List D):R D:=(run 4 Zpp ds).calm
def Zkp:FS:=
 (Jx (fA Jq (Zb (Zaa 3 1 (Zad (fV 0)) (Zr 3) Zec (fA Zdm (Zb (fV 3) Zu))) (Zb (fA Zdm (Zb (fV 1) Zu)) (Zb (fA Zdm (Zb (fV 2) Zu)) Zu)))))
def Zae (ds:List D):R D:=(run 3 Zkp ds).calm
def Xql:FS:=
  (Xm (Ya 3 (f2 Ym (fV 2) (f2 gIx (fV 1) (fC (.int 1)))))
    (Xm (sIf (cOr (cE (f2 gLt (fV 2) (fC (.int 0)))) (cE (f2 gGt (fV 3) (fA Zbc (Zb (fV 0) Zu))))) (Jx (fC (.bl false))) sNx)
    (Jx (f2 gLe (Xy Zed (Zb (fV 0) (Zb (fV 2) (Zb (fV 3) Zu)))) (f2 gIx (fV 1) (fC (.int 3)))))))
def Znx (ds:List D):R D:=(run 4 Xql ds).calm
def Zgt:FS:=
  (sIf (cE (f2 gLt (fV 3) (f2 Zgf (fC (.int 10)) (fC (.int 18))))) (Zjr 5 (f2 Zel (Xy Zbh (Zb (fV 3) (Zb (fV 6) Zu))) (f2 gIx (fV 2) (fV 6)))) (sIf (cE (f2 gGt (fV 4) (fC (.int 0)))) (Xm (Zjr 5 (f2 Zel (fV 4) (f2 gIx (fV 2) (fV 6))))
    (Ya 4 (f2 Xlt (fV 4) (f2 gIx (fV 2) (fV 6))))) (Xm (Ya 7 (Xy Zan (Zb (fV 0) (Zb (f2 Zel (f2 Ym (f2 Ym (fV 1) (fC (.int 1))) (fV 6)) (fC (.int 63))) Zu))))
    (Zjr 5 (f2 Zel (Xy Zbh (Zb (fV 7) (Zb (fV 6) Zu))) (f2 gIx (fV 2) (fV 6)))))))
def Ztc:FS:=
  (Xm (Ya 3 (Xy Zan (Zb (fV 0) (Zb (fV 1) Zu))))
    (Xm (Ya 4 (f1 Xi (fV 3)))
    (Xm (Ya 5 (fA Jq Zu))
    (Xm (Zhu (Zek (Zb (fA Zbc (Zb (fV 2) Zu)) Zu)) (Zr 6) Zgt)
    (Jx (fV 5))))))
def Xg (ds:List D):R D:=(run 8 Ztc ds).calm
def Ju:FS:=
  (Xm (sIf (cOr (Zma (cE (f1 (Zkm "tuple") (fV 1)))) (cE (f2 gNe (fA Zbc (Zb (fV 1) Zu)) (fC (.int 2))))) (Jx (fC (.bl false))) sNx)
    (sIf (cOr (Zma (cE (Xy Xz (Zb (f2 gIx (fV 1) (fC (.int 0))) Zu)))) (Zma (cE (f1 (Zkm "str") (f2 gIx (fV 1) (fC (.int 1))))))) (Jx (fC (.bl false))) sNx))
def Zcq:FS:=
  (Xm (sIf (Zma (cE (f1 (Zkm "list") (fV 0)))) (Jx (fC (.bl false))) sNx)
    (Xm (Zhu (Zad (fV 0)) (Zr 1) Ju)
    (Jx (fC (.bl true)))))
def Xv (ds:List D):R D:=(run 2 Zcq ds).calm
def Yo:FS:=
  (Xm (Ya 8 (Zaa 9 1 (Zad (fV 1)) (Zr 9) (cE (f2 gEq (f2 gIx (fV 9) (fC (.int 0))) (fV 7))) (f1 Xi (fV 9))))
    (Xm (sIf (cOr (cE (f2 gEq (fA Zbc (Zb (fV 8) Zu)) (fC (.int 0)))) (cOr (cE (f2 gLt (fV 6) (fV 5))) (Zma (cE (Xy Ys (Zb (fV 3) (Zb (f2 gIx (fV 8) (fC (.int 0))) (Zb (fV 6) Zu)))))))) (Jx (fC .non)) sNx)
    (Xm (Ya 4 (f2 Ym (fV 4) (f2 gIx (f2 gIx (fV 8) (fC (.int 0))) (fC (.int 2)))))
    (Ya 5 (f2 Ym (fV 6) (f2 gIx (f2 gIx (fV 8) (fC (.int 0))) (fC (.int 1))))))))
def Zcz:FS:=
  (Xm (Ya 3 (Xy Jg (Zb (fV 0) Zu)))
    (Xm (Ya 4 (fC (.int 0)))
    (Xm (Ya 5 (fC (.int 0)))
    (Xm (Zhu (Zad (fV 2)) (Zeo (Xr (Zr 6) (Xr (Zr 7) Zej))) Yo)
    (Jx (fV 4))))))
def Yl (ds:List D):R D:=(run 9 Zcz ds).calm
def Zcj:FS:=
  (Xm (Ya 9 (f2 Ym (f2 Zat (fC (.int 3)) (fV 8)) (fC (.int 6))))
    (Xm (Ya 10 (f1 Xi (f2 gIx (fA Jq (Zb (fC (.int 1)) (Zb (fC (.int 2)) (Zb (fC (.int 3)) (Zb (fC (.int 4)) (Zb (fC (.int 5)) (Zb (fC (.int 6)) (Zb (fC (.int 2)) (Zb (fC (.int 3)) (Zb (fC (.int 11)) (Zb (fC (.int 40)) (Zb (f2 gIx (fA Jq (Zb (fC (.int 150)) (Zb (fC (.int 200)) Zu))) (f2 Zel (fV 8) (fC (.int 2)))) Zu)))))))))))) (f2 gIx (fV 4) (fV 9)))))
    (Xm (Ya 11 (f2 Ym (fC (.int 1)) (f2 gIx (fV 4) (f2 Ym (fV 9) (fC (.int 1))))))
    (Xm (sIf (cE (f2 gEq (f2 gIx (fV 4) (fC (.int 3))) (fC (.int 1)))) (Ya 11 (f2 Ym (f2 Zat (fC (.int 3)) (fV 10)) (f2 Zel (f2 gIx (fV 4) (f2 Ym (fV 9) (fC (.int 1)))) (fC (.int 4))))) sNx)
    (Xm (sIf (cE (f2 gEq (f2 gIx (fV 4) (fC (.int 3))) (fC (.int 2)))) (Ya 11 (f2 Ym (fC (.int 1)) (f2 Zel (f2 gIx (fV 4) (f2 Ym (fV 9) (fC (.int 1)))) (fC (.int 3))))) sNx)
    (Xm (sIf (cE (f2 gEq (f2 gIx (fV 4) (fC (.int 3))) (fC (.int 3)))) (Ya 11 (f1 Xi (fV 10))) sNx)
    (Xm (Ya 12 (fA Xll (Zb (f2 Zat (f2 gIx (fA Jq (Zb (fC (.int 0)) (Zb (fC (.int 0)) (Zb (fC (.int 1)) (Zb (fC (.int 2)) (Zb (fC (.int 3)) (Zb (fC (.int 12)) Zu))))))) (f2 gIx (fV 4) (f2 Ym (fV 9) (fC (.int 2))))) (fV 5)) (Zb (f2 Zbg (f2 Zgf (fC (.int 10)) (fC (.int 18))) (fC (.int 1))) Zu))))
    (Xm (Ya 13 (f1 Xi (f2 gIx (fV 3) (f2 Zel (f2 Ym (f2 gIx (fV 4) (fC (.int 4))) (f2 Zat (f2 Ym (f2 Zat (fC (.int 2)) (f2 gIx (fV 4) (fC (.int 5)))) (fC (.int 1))) (fV 8))) (fC (.int 16))))))
    (Zjr 7 (fA Zcf (Zb (f1 Xi (fV 13)) (Zb (f1 Xi (fV 10)) (Zb (fA Xll (Zb (f2 Zat (fV 11) (fV 6)) (Zb (f2 Zgf (fC (.int 10)) (fC (.int 18))) Zu))) (Zb (f1 Xi (fV 12)) Zu))))))))))))))
def Znj:FS:=
  (Xm (Ya 3 (fA Jq (Zb (fC (.str ("a":Str))) (Zb (fC (.str ("ab":Str))) (Zb (fC (.str ("abc":Str))) (Zb (fC (.str ("b":Str))) (Zb (fC (.str ("ba":Str))) (Zb (fC (.str ("z":Str))) (Zb (fC (.str ("zzzzzzzz":Str))) (Zb (fC (.str ("roll":Str))) (Zb (fC (.str ("cut":Str))) (Zb (fC (.str ("by":Str))) Zu))))))))))))
    (Xm (Ya 3 (f2 Ym (fV 3) (fA Jq (Zb (fC (.str ("aab":Str))) (Zb (fC (.str ("zz":Str))) (Zb (fC (.str ("kind":Str))) (Zb (fC (.str ("qsvw":Str))) (Zb (fC (.str ("fghjmp":Str))) (Zb (fC (.str ("x":Str))) Zu)))))))))
    (Xm (Ya 4 (Xy Xg (Zb (fV 0) (Zb (fV 1) (Zb (f2 Ym (fA Jq (Zb (f2 Ym (fV 2) (fC (.int 1))) (Zb (fC (.int 4)) (Zb (fC (.int 4)) (Zb (fC (.int 4)) (Zb (fC (.int 16)) (Zb (fC (.int 4)) Zu))))))) (f2 Zat (fA Jq (Zb (fC (.int 11)) (Zb (fC (.int 40)) (Zb (fC (.int 6)) Zu)))) (fV 2))) Zu)))))
    (Xm (Ya 5 (f1 Xi (f2 gIx (fA Jq (Zb (fC (.int 1)) (Zb (fC (.int 1)) (Zb (fC (.int 7)) (Zb (f2 Zgf (fC (.int 10)) (fC (.int 17))) Zu))))) (f2 gIx (fV 4) (fC (.int 1))))))
    (Xm (Ya 6 (f1 Xi (f2 gIx (fA Jq (Zb (fC (.int 1)) (Zb (fC (.int 1)) (Zb (f2 Zgf (fC (.int 10)) (fC (.int 6))) (Zb (f2 Zat (fC (.int 25)) (f2 Zgf (fC (.int 10)) (fC (.int 15)))) Zu))))) (f2 gIx (fV 4) (fC (.int 2))))))
    (Xm (Ya 7 (fA Jq Zu))
    (Xm (Zhu (Zek (Zb (f2 gIx (fV 4) (fC (.int 0))) Zu)) (Zr 8) Zcj)
    (Jx (fV 7)))))))))
def Zas (ds:List D):R D:=(run 14 Znj ds).calm
def Zpa:FS:=
 (Jx (f1 Xi (f2 gIx (fA Jq (Zb (fC (.int 1)) (Zb (fC (.int 1)) (Zb (fC (.int 7)) (Zb (f2 Zgf (fC (.int 10)) (fC (.int 17))) Zu))))) (f2 gIx (Xy Xg (Zb (fV 0) (Zb (fV 1) (Zb (fA Jq (Zb (f2 Ym (fV 2) (fC (.int 1))) (Zb (fC (.int 4)) Zu))) Zu)))) (fC (.int 1))))))
def Zbn (ds:List D):R D:=(run 3 Zpa ds).calm
def Zfh:FS:=
  (Xm (Ya 8 (f2 Ym (f2 Zat (fC (.int 2)) (fV 7)) (fC (.int 3))))
    (Xm (Ya 9 (fC (.int 0)))
    (Xm (sIf (cE (f2 gLt (f2 gIx (fV 4) (fV 8)) (f2 gIx (fA Jq (Zb (fC (.int 0)) (Zb (fC (.int 1)) (Zb (fC (.int 3)) (Zb (fC (.int 6)) Zu))))) (f2 gIx (fV 4) (fC (.int 1)))))) (Ya 9 (f1 Xi (f2 gIx (fA Jq (Zb (fV 3) (Zb (fV 3) (Zb (f2 Zat (fC (.int 2)) (fV 3)) (Zb (f2 Zat (fC (.int 3)) (fV 3)) (Zb (fV 5) Zu)))))) (f2 gIx (fV 4) (f2 Ym (fV 8) (fC (.int 1))))))) sNx)
    (Zjr 6 (f1 Xi (fV 9))))))
def Zph:FS:=
  (Xm (Ya 4 (Xy Xg (Zb (fV 0) (Zb (fV 1) (Zb (f2 Ym (fA Jq (Zb (f2 Ym (fV 2) (fC (.int 1))) (Zb (fC (.int 4)) (Zb (fC (.int 3)) Zu)))) (f2 Zat (fA Jq (Zb (fC (.int 8)) (Zb (fC (.int 5)) Zu))) (fV 2))) Zu)))))
    (Xm (Ya 5 (f2 Zat (fC (.int 9)) (fV 3)))
    (Xm (sIf (cE (f2 gEq (f2 gIx (fV 4) (fC (.int 2))) (fC (.int 0)))) (Ya 5 (f2 Zgf (fC (.int 10)) (fC (.int 18)))) sNx)
    (Xm (Ya 6 (fA Jq Zu))
    (Xm (Zhu (Zek (Zb (f2 gIx (fV 4) (fC (.int 0))) Zu)) (Zr 7) Zfh)
    (Jx (fV 6)))))))
def Zak (ds:List D):R D:=(run 10 Zph ds).calm
def Zdz:FS:=
  (Xm (Ya 2 (fC (.str (" !\"#$&'()*+,-./0123456789:;<=>?@ABCDEFGHIJKLMNOPQRSTUVWXYZ":Str))))
    (Xm (Ya 2 (f2 Ym (fV 2) (fC (.str ("[\\]^_`abcdefghijklmnopqrstuvwxyz{|}~":Str)))))
    (Xm (Ya 3 (Xy Xg (Zb (fV 0) (Zb (fV 1) (Zb (f2 Ym (fA Jq (Zb (fC (.int 9)) Zu)) (f2 Zat (fA Jq (Zb (fC (.int 94)) Zu)) (fC (.int 9)))) Zu)))))
    (Jx (Xbu (fC (.str ("":Str))) (Zaa 4 1 (Zad (fSl gSl (fV 3) (Zdk (fC (.int 1))) (Zdk (f2 Ym (fC (.int 2)) (f2 gIx (fV 3) (fC (.int 0))))))) (Zr 4) Zec (f1 Xi (f2 gIx (fV 2) (fV 4)))))))))
def Yg (ds:List D):R D:=(run 4 Zdz ds).calm
@[simp] theorem ev_fC (d:D)(ρ:Env):fC d ρ=.ok d:=(rfl)
@[simp] theorem ev_f1 (g:D->Option D)(a:FE)(ρ:Env):f1 g a ρ=(a ρ).bind fun x=>oR (g x):=(rfl)
@[simp] theorem ev_f2 (g:D->D->Option D)(a b:FE)(ρ:Env):f2 g a b ρ=(a ρ).bind fun x=>(b ρ).bind fun y=>oR (g x y):=(rfl)
@[simp] theorem ev_aNil (ρ:Env):Zu ρ=.ok []:=(rfl)
@[simp] theorem Xag (a:FE)(r:FA)(ρ:Env):Zb a r ρ=(a ρ).bind fun x=>(r ρ).bind fun xs=>.ok (x::xs):=(rfl)
@[simp] theorem ev_fA (g:List D->Option D)(a:FA)(ρ:Env):fA g a ρ=(a ρ).bind fun xs=>oR (g xs):=(rfl)
@[simp] theorem Xdq (F:List D->R D)(a:FA)(ρ:Env):Xy F a ρ=(a ρ).bind F:=(rfl)
@[simp] theorem ev_fV0 (d:D)(ρ:Env):fV 0 (some d::ρ)=.ok d:=(rfl)
@[simp] theorem ev_fVs (i:Nat)(o:Option D)(ρ:Env):fV (i+1) (o::ρ)=fV i ρ:=by simp [fV]
@[simp] theorem ev_cE (a:FE)(ρ:Env):cE a ρ=(a ρ).bind fun d=>match d with | .bl b=>.ok b | _=>.bad:=(rfl)
@[simp] theorem Xgz (a:FT)(ρ:Env):Zma a ρ=(a ρ).bind fun b=>.ok (!b):=(rfl)
@[simp] theorem Zxe (a b:FT)(ρ:Env):Zot a b ρ=(a ρ).bind fun x=>if x then b ρ else .ok false:=(rfl)
@[simp] theorem Xfa (a b:FT)(ρ:Env):cOr a b ρ=(a ρ).bind fun x=>if x then .ok true else b ρ:=(rfl)
@[simp] theorem ev_cYes (ρ:Env):Zec ρ=.ok true:=(rfl)
@[simp] theorem Xjm (a b:FE)(ρ:Env):Xlq a b ρ=(a ρ).bind fun x=>match x with | .bl true=>b ρ | .bl false=>.ok (.bl false) | _=>.bad:=(rfl)
@[simp] theorem ev_fOr (a b:FE)(ρ:Env):fOr a b ρ=(a ρ).bind fun x=>match x with | .bl true=>.ok (.bl true) | .bl false=>b ρ | _=>.bad:=(rfl)
@[simp] theorem ev_fIf (c:FT)(a b:FE)(ρ:Env):fIf c a b ρ=(c ρ).bind fun x=>if x then a ρ else b ρ:=(rfl)
@[simp] theorem Xqs (g g':D->D->Option D)(a b c:FE)(ρ:Env):Xne g g' a b c ρ=(a ρ).bind fun x=>(b ρ).bind fun y=>(oR (g x y)).bind fun z=>match z with | .bl true=>(c ρ).bind fun w=>oR (g' y w) | .bl false=>.ok (.bl false) | _=>.bad:=(rfl)
@[simp] theorem Xqv (g:D->Option Int->Option Int->Option D)(a:FE)(l h:FO)(ρ:Env):fSl g a l h ρ=(a ρ).bind fun x=>(l ρ).bind fun lo=>(h ρ).bind fun hi=>oR (g x lo hi):=(rfl)
@[simp] theorem ev_oNone (ρ:Env):Zfi ρ=.ok none:=(rfl)
@[simp] theorem ev_oSome (a:FE)(ρ:Env):Zdk a ρ=(a ρ).bind fun d=>match d with | .int i=>.ok (some i) | _=>.bad:=(rfl)
@[simp] theorem Xab (a:FE)(ρ:Env):Zad a ρ=(a ρ).bind fun d=>match d with | .lst xs=>if xs.length<=lim then .ok xs else .bad | .scr ns=>if ns.length<=lim then .ok (ns.map D.int) else .bad | _=>.bad:=(rfl)
@[simp] theorem ev_jTup (a:FE)(ρ:Env):jTup a ρ=(a ρ).bind fun d=>match d with | .tup xs=>if xs.length<=lim then .ok xs else .bad | _=>.bad:=(rfl)
@[simp] theorem Xan (a:FA)(ρ:Env):Zek a ρ=(a ρ).bind fun ds=>match ds with | [.int j]=>if -1000000000<=j/\j<=1000000 then .ok (Zhb 0 j.toNat) else .bad | _=>.bad:=(rfl)
def Xpd (ds:List D):R (List D):=match ds with
 | [.int i,.int j]=>if -1000000000<=i/\i<=1000000000/\-1000000000<=j/\j<=1000000000/\(j - i).toNat<=lim then .ok (Zhb i (j - i).toNat) else .bad
 | _=>.bad
@[simp] theorem ev_jRng2 (a:FA)(ρ:Env):jRng2 a ρ=(a ρ).bind Xpd:=(rfl)
@[simp] theorem Xcs (n k:Nat)(it:FI)(b:FB)(c:FT)(e:FE)(ρ:Env):Zaa n k it b c e ρ=if ρ.length=n then (it ρ).bind fun xs=>(Zci k b c e ρ xs).calm.bind fun ys=>.ok (.lst ys) else .bad:=(rfl)
@[simp] theorem ev_sNx (ρ:Env):sNx ρ=.ok (.nx ρ):=(rfl)
@[simp] theorem Xnx (ρ:Env):Zqs ρ=.bad:=(rfl)
@[simp] theorem Zvd (a b:FS)(ρ:Env):Xm a b ρ=(a ρ).bind fun fl=>match fl with | .nx ρ'=>b ρ' | fl=>.ok fl:=(rfl)
@[simp] theorem Xkj (i:Nat)(e:FE)(ρ:Env):Ya i e ρ=(e ρ).bind fun d=>.ok (.nx (ρ.set i (some d))):=(rfl)
@[simp] theorem Xft (e:FE)(ρ:Env):Jx e ρ=(e ρ).bind fun d=>.ok (.ret d):=(rfl)
@[simp] theorem Xef (c:FT)(a b:FS)(ρ:Env):sIf c a b ρ=(c ρ).bind fun x=>if x then a ρ else b ρ:=(rfl)
@[simp] theorem Xgg (i:Nat)(e:FE)(ρ:Env):Zjr i e ρ=(fV i ρ).bind fun v=>match v with | .lst xs=>(e ρ).bind fun d=>if xs.length<lim then .ok (.nx (ρ.set i (some (.lst (xs++[d]))))) else .bad | _=>.bad:=by unfold Zjr fV;split;rename_i xs e;simp [e];rename_i h;split;rename_i d e;cases d<;>simp;rename_i xs;exact absurd e (h xs);rfl
@[simp] theorem Xpx (c:String)(f:FA)(ρ:Env):Zrg c f ρ=(f ρ).bind fun _=>.err c none:=(rfl)
@[simp] theorem ev_sAug (i:Nat)(g:D->D->Option D)(e:FE)(ρ:Env):Xln i g e ρ=(fV i ρ).bind fun x=>(e ρ).bind fun y=>(oR (g x y)).bind fun z=>.ok (.nx (ρ.set i (some z))):=by unfold Xln fV;split;rename_i x e;simp;rfl
@[simp] theorem Xka (it:FI)(b:FB)(s:FS)(ρ:Env):Zhu it b s ρ=(it ρ).bind fun xs=>Zbx b s xs ρ:=(rfl)
@[simp] theorem Xpj (n:Nat)(c:FT)(s:FS)(ρ:Env):Xop n c s ρ=Zrk c s n ρ:=(rfl)
@[simp] theorem ev_sAsg (e:FE)(b:FB)(ρ:Env):Xdz e b ρ=(e ρ).bind fun d=>(b d ρ).calm.bind fun ρ'=>.ok (.nx ρ'):=(rfl)
@[simp] theorem ev_bName (i:Nat)(d:D)(ρ:Env):Zr i d ρ=.ok (ρ.set i (some d)):=(rfl)
@[simp] theorem ev_bNil (ρ:Env):Zej [] ρ=.ok ρ:=(rfl)
@[simp] theorem ev_bCons (b:FB)(r:List D->Env->R Env)(d:D)(ds:List D)(ρ:Env):Xr b r (d::ds) ρ=(b d ρ).bind fun ρ'=>r ds ρ':=(rfl)
@[simp] theorem ev_bTup (r:List D->Env->R Env)(ds:List D)(ρ:Env):Zeo r (.tup ds) ρ=r ds ρ:=(rfl)
@[simp] theorem ev_run (N:Nat)(b:FS)(ds:List D):run N b ds=(b (ds.map some++Aa (N - ds.length) none)).bind fun fl=>match fl with | .nx _=>.ok .non | .ret d=>.ok d | _=>.bad:=(rfl)
@[simp] theorem forD_nil (b:FB)(s:FS)(ρ:Env):Zbx b s [] ρ=.ok (.nx ρ):=(rfl)
theorem Zij (b:FB)(s:FS)(x:D)(xs:List D)(ρ:Env):Zbx b s (x::xs) ρ=(b x ρ).calm.bind fun ρ1=>(s ρ1).bind fun fl=>match fl with | .nx ρ2=>Zbx b s xs ρ2 | .cnt ρ2=>Zbx b s xs ρ2 | .brk ρ2=>.ok (.nx ρ2) | .ret d=>.ok (.ret d):=rfl
@[simp] theorem add_ii (i j:Int):Ym (.int i) (.int j)=some (.int (i+j)):=rfl
@[simp] theorem addI_ii (i j:Int):Xdg (.int i) (.int j)=some (.int (i+j)):=rfl
@[simp] theorem sub_ii (i j:Int):Zbg (.int i) (.int j)=some (.int (i - j)):=rfl
@[simp] theorem lt_ii (i j:Int):gLt (.int i) (.int j)=some (.bl (decide (i<j))):=rfl
@[simp] theorem le_ii (i j:Int):gLe (.int i) (.int j)=some (.bl (decide (i<=j))):=rfl
@[simp] theorem gt_ii (i j:Int):gGt (.int i) (.int j)=some (.bl (decide (j<i))):=rfl
@[simp] theorem ge_ii (i j:Int):gGe (.int i) (.int j)=some (.bl (decide (j<=i))):=rfl
@[simp] theorem neg_i (i:Int):Zzi (.int i)=some (.int (-i)):=rfl
@[simp] theorem not_b (b:Bool):gNot (.bl b)=some (.bl (!b)):=rfl
@[simp] theorem Zdl (i j:Int):gEq (.int i) (.int j)=some (.bl (decide (i=j))):=show some (D.bl (i==j))=_ from congrArg (fun b=>some (D.bl b)) (by by_cases h:i=j<;>simp [h])
@[simp] theorem ne_ii (i j:Int):gNe (.int i) (.int j)=some (.bl (!decide (i=j))):=show some (D.bl (!(i==j)))=_ from congrArg (fun b=>some (D.bl (!b))) (by by_cases h:i=j<;>simp [h])
@[simp] theorem eq_bb (i j:Bool):gEq (.bl i) (.bl j)=some (.bl (i==j)):=rfl
@[simp] theorem ne_bb (i j:Bool):gNe (.bl i) (.bl j)=some (.bl (!(i==j))):=rfl
@[simp] theorem eq_ss (i j:Str):gEq (.str i) (.str j)=some (.bl (decide (i=j))):=show some (D.bl (i==j))=_ from congrArg (fun b=>some (D.bl b)) (by by_cases h:i=j<;>simp [h])
@[simp] theorem is_n (x:D):gIs x .non=some (.bl (Zjt x)):=rfl
@[simp] theorem isNot_n (x:D):Zfg x .non=some (.bl (!Zjt x)):=rfl
@[simp] theorem is_b (b c:Bool):gIs (.bl b) (.bl c)=some (.bl (b==c)):=rfl
@[simp] theorem isNot_b (b c:Bool):Zfg (.bl b) (.bl c)=some (.bl (!(b==c))):=rfl
@[simp] theorem Xpi:Zjt .non=true:=rfl
@[simp] theorem isNon_i (i:Int):Zjt (.int i)=false:=rfl
@[simp] theorem isNon_b (i:Bool):Zjt (.bl i)=false:=rfl
@[simp] theorem isNon_l (i:List D):Zjt (.lst i)=false:=rfl
@[simp] theorem isNon_t (i:List D):Zjt (.tup i)=false:=rfl
theorem Zqt (h:(-(2 ^ 64)<i/\i<2 ^ 64)\/(-(2 ^ 64)<j/\j<2 ^ 64)):Zat (.int i) (.int j)=some (.int (i*j)):=by
 have:(short i||short j)=true:=by simp [short];exact h
 simp [Zat,this]
theorem Zbm (h:0<j):Zel (.int i) (.int j)=some (.int (i % j)):=by simp [Zel,h]
theorem div_ii (h:0<j)(h2:j<2 ^ 200):Xlt (.int i) (.int j)=some (.int (i / j)):=by simp only [Xlt];rw [if_pos ⟨h,h2⟩]
theorem Znq (h:0<=j)(h2:j<=1000000)(h3:i.natAbs<2 ^ 64):Zgf (.int i) (.int j)=some (.int (i ^ j.toNat)):=by simp only [Zgf];rw [if_pos ⟨h,h2,h3⟩]
@[simp] theorem pow10_6:Zgf (.int 10) (.int 6)=some (.int 1000000):=by rw [Znq (by omega) (by omega) (by decide)];rfl
@[simp] theorem Zzr:Zgf (.int 10) (.int 15)=some (.int 1000000000000000):=by rw [Znq (by omega) (by omega) (by decide)];rfl
@[simp] theorem Zqk:Zgf (.int 10) (.int 17)=some (.int 100000000000000000):=by rw [Znq (by omega) (by omega) (by decide)];rfl
@[simp] theorem Zhn:Zgf (.int 10) (.int 18)=some (.int 1000000000000000000):=by rw [Znq (by omega) (by omega) (by decide)];rfl
@[simp] theorem flat_i (i:Int):flat (.int i)=true:=rfl
@[simp] theorem flat_b (i:Bool):flat (.bl i)=true:=rfl
@[simp] theorem flat_s (i:Str):flat (.str i)=true:=rfl
@[simp] theorem flat_n:flat .non=true:=rfl
@[simp] theorem flat_t (xs:List D):flat (.tup xs)=Xn xs:=rfl
@[simp] theorem flatA_n:Xn []=true:=rfl
@[simp] theorem flatA_c (x:D)(xs:List D):Xn (x::xs)=(flat x&&Xn xs):=rfl
theorem Zfq {α:Type}{f:α->D}(h:∀a,flat (f a)=true):∀xs:List α,Xn (xs.map f)=true
 | []=>rfl
 | x::xs=>by simp [h x,Zfq h xs]
@[simp] theorem Zgi (ns:List Int):Xn (ns.map D.int)=true:=Zfq (fun _=>rfl) ns
@[simp] theorem gFlat_i (i:Int):Xi (.int i)=some (.int i):=rfl
@[simp] theorem gFlat_b (i:Bool):Xi (.bl i)=some (.bl i):=rfl
@[simp] theorem gFlat_s (i:Str):Xi (.str i)=some (.str i):=rfl
@[simp] theorem gFlat_n:Xi .non=some .non:=rfl
@[simp] theorem ints_map (ns:List Int):intsOf (ns.map D.int)=some ns:=by
 induction ns with
 | nil=>rfl
 | cons n ns ih=>simp [intsOf,ih]
@[simp] theorem Xmu (ns:List Bool):bools (ns.map D.bl)=some ns:=by
 induction ns with
 | nil=>rfl
 | cons n ns ih=>simp [bools,ih]
@[simp] theorem len_l (xs:List D):Zbc [.lst xs]=some (.int xs.length):=(rfl)
@[simp] theorem len_t (xs:List D):Zbc [.tup xs]=some (.int xs.length):=(rfl)
@[simp] theorem len_scr (xs:List Int):Zbc [.scr xs]=some (.int xs.length):=(rfl)
@[simp] theorem sum_ints (ns:List Int):Xpu [.lst (ns.map D.int)]=some (.int ns.sum):=by simp [Xpu]
@[simp] theorem Xei (i j:Int):Xll [.int i,.int j]=some (.int (min i j)):=by simp only [Xll];congr 2;by_cases h:j<i;rw [if_pos h];omega;rw [if_neg h];omega
@[simp] theorem any_bools (ns:List Bool):Xlv [.lst (ns.map D.bl)]=some (.bl (ns.any id)):=by simp [Xlv]
@[simp] theorem all_bools (ns:List Bool):Xlr [.lst (ns.map D.bl)]=some (.bl (ns.all id)):=by simp [Xlr]
@[simp] theorem isI_i (c:String)(i:Int):Zkm c (.int i)=some (.bl (c=="int")):=rfl
@[simp] theorem isI_b (c:String)(i:Bool):Zkm c (.bl i)=some (.bl (c=="bool"||c=="int")):=rfl
@[simp] theorem isI_l (c:String)(i:List D):Zkm c (.lst i)=some (.bl (c=="list")):=rfl
@[simp] theorem isI_t (c:String)(i:List D):Zkm c (.tup i)=some (.bl (c=="tuple")):=rfl
@[simp] theorem isI_s (c:String)(i:Str):Zkm c (.str i)=some (.bl (c=="str")):=rfl
@[simp] theorem isI_n (c:String):Zkm c .non=some (.bl false):=rfl
theorem Zlj {xs:List α}{k:Nat}{x:α}(e:i=(k:Int))(h:xs[k]?=some x):atD xs i=some x:=by subst e;have hk:=(Ah.mp h).1;unfold atD ixD;rw [if_pos (by omega),if_pos (by omega)];simpa using h
theorem Xdc (xs:List α)(x:α):atD (xs++[x]) (-1)=some x:=by
 unfold atD ixD;rw [if_neg (by omega),if_pos (by simp;omega)];simp only [FL];have:(-1+(((xs++[x]).length:Nat):Int)).toNat=xs.length:=by simp;omega
 rw [this];simp
theorem ix_l {k:Nat}(e:i=(k:Int))(h:xs[k]?=some x):gIx (.lst xs) (.int i)=some x:=Zlj e h
theorem Xlp {k:Nat}(e:i=(k:Int))(h:xs[k]?=some x):gIx (.tup xs) (.int i)=some x:=Zlj e h
@[simp] theorem ixL_l (xs:List D)(y:D):gIxL (.lst xs) y=gIx (.lst xs) y:=(rfl)
@[simp] theorem listV_l (xs:List D):Xqy [.lst xs]=some (.lst xs):=(rfl)
@[simp] theorem ix_last (xs:List D)(x:D):gIx (.lst (xs++[x])) (.int (-1))=some x:=Xdc xs x
theorem Zbo {k:Nat}(e:i=(k:Int))(h:k<ns.length):gIx (.lst (ns.map D.int)) (.int i)=some (.int (ns.getD k 0)):=ix_l e (by simp [h,A4])
@[simp] theorem ix_t0 (a:D)(r:List D):gIx (.tup (a::r)) (.int 0)=some a:=Xlp (k:=0) rfl rfl
@[simp] theorem ix_t1 (a b:D)(r:List D):gIx (.tup (a::b::r)) (.int 1)=some b:=Xlp (k:=1) rfl rfl
@[simp] theorem ix_l0 (a:D)(r:List D):gIx (.lst (a::r)) (.int 0)=some a:=ix_l (k:=0) rfl rfl
theorem Xkp (f:α->β)(xs:List α)(lo hi:Option Int):cut (xs.map f) lo hi=(cut xs lo hi).map f:=by unfold cut;rw [Ae,D1,Ez]
theorem Xoj {xs:List α}{a b:Int}(h0:0<=a)(h1:a<=b)(h2:b<=xs.length):cut xs (some a) (some b)=(xs.drop a.toNat).take (b.toNat - a.toNat):=by unfold cut Zzj;simp only [];rw [if_neg (by omega),if_neg (by omega),DE (by omega),DE (by omega)]
theorem Xoi {xs:List α}{b:Int}(h0:0<=b):cut xs none (some b)=xs.take b.toNat:=by unfold cut Zzj;simp only [];rw [if_neg (by omega),GL,Hr];by_cases h:b.toNat<=xs.length;rw [DE h];rw [Gz (by omega),B5 (AI _),B5 (by omega)]
@[simp] theorem Xgn (ns:List Int)(lo hi:Option Int):gSl (.lst (ns.map D.int)) lo hi=some (.lst ((cut ns lo hi).map D.int)):=by simp [gSl,Xkp]
@[simp] theorem sl_scr (ns:List Int)(lo hi:Option Int):gSl (.scr ns) lo hi=some (.lst ((cut ns lo hi).map D.int)):=(rfl)
@[simp] theorem gLst_0:Jq []=some (.lst []):=rfl
@[simp] theorem gLst_1 (a:D):Jq [a]=some (.lst [a]):=rfl
@[simp] theorem gLst_2 (a b:D):Jq [a,b]=some (.lst [a,b]):=rfl
@[simp] theorem gLst_3 (a b c:D):Jq [a,b,c]=some (.lst [a,b,c]):=rfl
@[simp] theorem gLst_4 (a0 a1 a2 a3:D):Jq [a0,a1,a2,a3]=some (.lst [a0,a1,a2,a3]):=rfl
@[simp] theorem gLst_5 (a0 a1 a2 a3 a4:D):Jq [a0,a1,a2,a3,a4]=some (.lst [a0,a1,a2,a3,a4]):=rfl
@[simp] theorem gLst_6 (a0 a1 a2 a3 a4 a5:D):Jq [a0,a1,a2,a3,a4,a5]=some (.lst [a0,a1,a2,a3,a4,a5]):=rfl
@[simp] theorem gLst_10 (a0 a1 a2 a3 a4 a5 a6 a7 a8 a9:D):Jq [a0,a1,a2,a3,a4,a5,a6,a7,a8,a9]=some (.lst [a0,a1,a2,a3,a4,a5,a6,a7,a8,a9]):=rfl
@[simp] theorem gLst_11 (a0 a1 a2 a3 a4 a5 a6 a7 a8 a9 a10:D):Jq [a0,a1,a2,a3,a4,a5,a6,a7,a8,a9,a10]=some (.lst [a0,a1,a2,a3,a4,a5,a6,a7,a8,a9,a10]):=rfl
@[simp] theorem gTup_2 (a b:D):Zcf [a,b]=some (.tup [a,b]):=rfl
@[simp] theorem gTup_3 (a b c:D):Zcf [a,b,c]=some (.tup [a,b,c]):=rfl
@[simp] theorem gTup_4 (a b c d:D):Zcf [a,b,c,d]=some (.tup [a,b,c,d]):=rfl
@[simp] theorem Zea (a:α)(f:α->R β):((R.ok a).calm).bind f=f a:=(rfl)
theorem Zei {P:Nat->Env->Prop}(h0:P 0 ρ)
  (hs:∀i x ρ,xs[i]?=some x->P i ρ->∃ρ1,b x ρ=.ok ρ1/\((∃ρ2,(s ρ1=.ok (.nx ρ2)\/s ρ1=.ok (.cnt ρ2))/\P (i+1) ρ2)\/(∃d,s ρ1=.ok (.ret d)/\Rr (.ok (.ret d)))\/∃ρ2,s ρ1=.ok (.brk ρ2)/\Rr (.ok (.nx ρ2))))
  (hd:∀ρ,P xs.length ρ->Rr (.ok (.nx ρ))):Rr (Zbx b s xs ρ):=by
 have key:∀n i ρ,n+i=xs.length->P i ρ->Rr (Zbx b s (xs.drop i) ρ):=by
  intro n
  induction n with
  | zero =>
   intro i ρ hn p;rw [E4 (by omega)];have e:i=xs.length:=by omega
   subst e;exact hd ρ p
  | succ n ih =>
   intro i ρ hn p;have hi:i<xs.length:=by omega
   rw [B0 hi,Zij];obtain ⟨ρ1,e1,h⟩:=hs i xs[i] ρ (Al hi) p;rw [e1,Zea];rcases h with ⟨ρ2,e2 | e2,p2⟩ | ⟨d,e2,p2⟩ | ⟨ρ2,e2,p2⟩;rw [e2];exact ih (i+1) ρ2 (by omega) p2;rw [e2];exact ih (i+1) ρ2 (by omega) p2;rw [e2];exact p2;rw [e2];exact p2
 have:=key xs.length 0 ρ (by omega) h0;simpa using this
theorem Xhd (st:Nat->Env)(h0:st 0=ρ)(hs:∀i x,xs[i]?=some x->∃ρ1,b x (st i)=.ok ρ1/\s ρ1=.ok (.nx (st (i+1)))):Zbx b s xs ρ=.ok (.nx (st xs.length)):=by refine Zei (P:=fun i ρ=>ρ=st i) (Rr:=fun r=>r=.ok (.nx (st xs.length))) h0.symm (fun i x ρ hx e=>?_) (fun ρ e=>by rw [e]);subst e;obtain ⟨ρ1,e1,e2⟩:=hs i x hx;exact ⟨ρ1,e1,.inl ⟨_,.inl e2,rfl⟩⟩
theorem Xav {i:Nat}(h:i<n):(Zhb lo n)[i]?=some (.int (lo+i)):=by simp [Zhb,h]
theorem Zpg {i:Nat}(h:(Zhb lo n)[i]?=some x):i<n/\x=.int (lo+i):=by
 have hi:=(Ah.mp h).1;have hn:i<n:=by simpa [Zhb] using hi
 rw [Xav hn] at h;exact ⟨hn,(AV h).symm⟩
@[simp] theorem Zcu (lo:Int)(n:Nat):(Zhb lo n).length=n:=by simp [Zhb]
theorem Zxt {k:Nat}{enc:α->D}{ρ1:α->Env}{p:α->Bool}{v:α->D}{xs:List α}(h:∀x∈xs,b (enc x) (ρ++Aa k none)=.ok (ρ1 x)/\c (ρ1 x)=.ok (p x)/\(p x=true->e (ρ1 x)=.ok (v x))):Zci k b c e ρ (xs.map enc)=.ok ((xs.filter p).map v):=by
 induction xs with
 | nil=>rfl
 | cons x xs ih =>
  obtain ⟨h0,h1,h2⟩:=h x (.head _);have ih:=ih fun y hy=>h y (.tail _ hy);rw [AH];unfold Zci;rw [h0,Zea,h1];cases hp:p x with
  | false=>simp [ih,hp]
  | true=>simp [ih,hp,h2 hp]
theorem Xnc {enc:α->D}{p:α->Bool}{v:α->D}{xs:List α}(hn:ρ.length=n)(h:∀x∈xs,c (ρ++[some (enc x)])=.ok (p x)/\(p x=true->e (ρ++[some (enc x)])=.ok (v x))):Zci 1 (Zr n) c e ρ (xs.map enc)=.ok ((xs.filter p).map v):=
  Zxt (ρ1:=fun x=>ρ++[some (enc x)]) fun x hx=>⟨by
    show R.ok ((ρ++[none]).set n (some (enc x)))=_;rw [<- hn,Ca _ _ (AI _),DZ];rfl,h x hx⟩
theorem Zeq {enc:α->D}{v:α->D}{xs:List α}(hn:ρ.length=n)(h:∀x∈xs,e (ρ++[some (enc x)])=.ok (v x)):Zci 1 (Zr n) Zec e ρ (xs.map enc)=.ok (xs.map v):=by have:=Xnc (p:=fun _=>true) (c:=Zec) hn (xs:=xs) (enc:=enc) (e:=e) (v:=v) fun x hx=>⟨rfl,fun _=>h x hx⟩;rw [this,Fx.mpr fun _ _=>rfl]
theorem comp2 {f g:α->D}{p:α->Bool}{v:α->D}{xs:List α}(hn:ρ.length=n)(h:∀x∈xs,c (ρ++[some (f x),some (g x)])=.ok (p x)/\(p x=true->e (ρ++[some (f x),some (g x)])=.ok (v x))) :
    Zci 2 (Zeo (Xr (Zr n) (Xr (Zr (n+1)) Zej))) c e ρ (xs.map fun x=>.tup [f x,g x])=.ok ((xs.filter p).map v):=
  Zxt (enc:=fun x=>D.tup [f x,g x]) (ρ1:=fun x=>ρ++[some (f x),some (g x)]) fun x hx=>⟨by
    show R.ok (((ρ++[none,none]).set n (some (f x))).set (n+1) (some (g x)))=_;rw [<- hn,Ca _ _ (AI _),DZ,Ca _ _ (by omega)];simp,h x hx⟩
theorem Zrh {f g:α->D}{v:α->D}{xs:List α}(hn:ρ.length=n)(h:∀x∈xs,e (ρ++[some (f x),some (g x)])=.ok (v x)) :
  Zci 2 (Zeo (Xr (Zr n) (Xr (Zr (n+1)) Zej))) Zec e ρ (xs.map fun x=>.tup [f x,g x])=.ok (xs.map v):=by
 have:=comp2 (p:=fun _=>true) (c:=Zec) hn (xs:=xs) (f:=f) (g:=g) (e:=e) (v:=v) fun x hx=>⟨rfl,fun _=>h x hx⟩;rw [this,Fx.mpr fun _ _=>rfl]
theorem Xe {i:Nat}(h:e ρ=.ok d):Ya i e ρ=.ok (.nx (ρ.set i (some d))):=by rw [Xkj,h];rfl
theorem Zo {a b:FS}{r:R Fl}(h:a ρ=.ok (.nx ρ'))(h2:b ρ'=r):Xm a b ρ=r:=by rw [Zvd,h];exact h2
theorem Zfn {g:D->Option D}(ha:a ρ=.ok x)(h:g x=some z):f1 g a ρ=.ok z:=by rw [ev_f1,ha];show oR (g x)=_;rw [h];rfl
theorem Zn {g:D->D->Option D}{b:FE}{y:D}(ha:a ρ=.ok x)(hb:b ρ=.ok y)(h:g x y=some z):f2 g a b ρ=.ok z:=by rw [ev_f2,ha,hb];show oR (g x y)=_;rw [h];rfl
theorem Jm {g:List D->Option D}{a:FA}(ha:a ρ=.ok xs)(h:g xs=some z):fA g a ρ=.ok z:=by rw [ev_fA,ha];show oR (g xs)=_;rw [h];rfl
theorem Ze {r:FA}(ha:a ρ=.ok x)(hr:r ρ=.ok xs):Zb a r ρ=.ok (x::xs):=by rw [Xag,ha,hr];rfl
theorem Yc {a:FA}(ha:a ρ=.ok xs)(h:F xs=.ok d):Xy F a ρ=.ok d:=by rw [Xdq,ha];exact h
theorem Yk {b:Bool}(h:a ρ=.ok (.bl b)):cE a ρ=.ok b:=by rw [ev_cE,h];rfl
theorem Jf {a b:FS}{r:R Fl}(hc:c ρ=.ok true)(h:a ρ=r):sIf c a b ρ=r:=by rw [Xef,hc];exact h
theorem Yh {a b:FS}{r:R Fl}(hc:c ρ=.ok false)(h:b ρ=r):sIf c a b ρ=r:=by rw [Xef,hc];exact h
theorem Zlt {i:Nat}(hv:fV i ρ=.ok (.lst xs))(h:e ρ=.ok d)(hl:xs.length<lim):Zjr i e ρ=.ok (.nx (ρ.set i (some (.lst (xs++[d]))))):=by rw [Xgg,hv,h];exact if_pos hl
theorem Jd (h:e ρ=.ok d):Jx e ρ=.ok (.ret d):=by rw [Xft,h];rfl
theorem Zlg {a:FA}(h:a ρ=.ok [.int j])(h1:-1000000000<=j/\j<=1000000):Zek a ρ=.ok (Zhb 0 j.toNat):=by rw [Xan,h];exact if_pos h1
theorem Zhc {r:R Fl}(h:it ρ=.ok xs)(h2:Zbx b s xs ρ=r):Zhu it b s ρ=r:=by rw [Xka,h];exact h2
theorem Zah {q:FS}(h:q (ds.map some++Aa (N - ds.length) none)=.ok (.ret d)):(run N q ds).calm=.ok d:=by unfold run;rw [h];rfl
theorem Zri {a b:Int}(h0:0<=a)(h1:a<=1000000):Zat (.int a) (.int b)=some (.int (a*b)):=Zqt (.inl ⟨by omega,by omega⟩)
theorem Zbq {a b:FS}(h:a ρ=.ok (.ret d)):Xm a b ρ=.ok (.ret d):=by rw [Zvd,h];rfl
theorem mulR {a b:Int}(h0:0<=b)(h1:b<=1000000):Zat (.int a) (.int b)=some (.int (a*b)):=Zqt (.inr ⟨by omega,by omega⟩)
theorem Zch (h:a ρ=.ok (.lst xs))(hl:xs.length<=lim):Zad a ρ=.ok xs:=by rw [Xab,h];exact if_pos hl
theorem Zdc {a b:FT}{r:R Bool}(h:a ρ=.ok true)(h2:b ρ=r):Zot a b ρ=r:=by rw [Zxe,h];exact h2
theorem Zft {a b:FT}(h:a ρ=.ok false):Zot a b ρ=.ok false:=by rw [Zxe,h];rfl
theorem Xhy {b:FE}{r:R D}(h:a ρ=.ok (.bl true))(h2:b ρ=r):Xlq a b ρ=r:=by rw [Xjm,h];exact h2
theorem Zja [Decidable p](h:p):some (D.bl (decide p))=some (D.bl true):=congrArg (fun b=>some (D.bl b)) (decide_eq_true h)
theorem Zjq [Decidable p](h:¬p):some (D.bl (decide p))=some (D.bl false):=congrArg (fun b=>some (D.bl b)) (decide_eq_false h)
theorem Zgo {a:FT}{b:Bool}(h:a ρ=.ok b):Zma a ρ=.ok (!b):=by rw [Xgz,h];rfl
theorem Zfp {a b:FT}{r:R Bool}(h:a ρ=.ok false)(h2:b ρ=r):cOr a b ρ=r:=by rw [Xfa,h];exact h2
theorem Xmw (h:e ρ=.ok d)(hb:b d ρ=.ok ρ'):Xdz e b ρ=.ok (.nx ρ'):=by unfold Xdz;rw [h];show (b d ρ).calm.bind _=_;rw [hb];rfl
theorem r_sl {l h:FO}{lo:Option Int}(ha:a ρ=.ok x)(hl:l ρ=.ok lo)(hh:h ρ=.ok hi)(hg:g x lo hi=some z):fSl g a l h ρ=.ok z:=by rw [Xqv,ha];show (l ρ).bind _=_;rw [hl];show (h ρ).bind _=_;rw [hh];show oR (g x lo hi)=_;rw [hg];rfl
theorem Zcn {k:Nat}{ys:List D}(hn:ρ.length=n)(h:it ρ=.ok xs)(h1:Zci k b c e ρ xs=.ok ys):Zaa n k it b c e ρ=.ok (.lst ys):=by rw [Xcs,if_pos hn,h];show (Zci k b c e ρ xs).calm.bind _=_;rw [h1];rfl
theorem Xeo {a b:FT}(h:a ρ=.ok true):cOr a b ρ=.ok true:=by rw [Xfa,h];rfl
set_option genInjectivity true in
structure Kd where
 name:Str
 w:Int
 wo:Int
 al:Int
def kD (k:Kd):D:=.tup [.str k.name,.int k.w,.int k.wo,.int k.al]
def iD (ns:List Int):D:=.lst (ns.map D.int)
def tD (ks:List Kd):D:=.lst (ks.map kD)
def pD (p:Int×Str):D:=.tup [.int p.1,.str p.2]
def psD (ps:List (Int×Str)):D:=.lst (ps.map pD)
@[simp] theorem flat_kD (k:Kd):flat (kD k)=true:=rfl
@[simp] theorem flat_pD (k:Int×Str):flat (pD k)=true:=rfl
@[simp] theorem gFlat_kD (k:Kd):Xi (kD k)=some (kD k):=rfl
@[simp] theorem gFlat_pD (k:Int×Str):Xi (pD k)=some (pD k):=rfl
@[simp] theorem flatA_kD (ks:List Kd):Xn (ks.map kD)=true:=Zfq (fun _=>rfl) ks
@[simp] theorem Zrz (ks:List (Int×Str)):Xn (ks.map pD)=true:=Zfq (fun _=>rfl) ks
@[simp] theorem kD_0 (k:Kd):gIx (kD k) (.int 0)=some (.str k.name):=Xlp (k:=0) rfl rfl
@[simp] theorem Xlk (k:Kd):gIx (kD k) (.int 1)=some (.int k.w):=Xlp (k:=1) rfl rfl
@[simp] theorem kD_2 (k:Kd):gIx (kD k) (.int 2)=some (.int k.wo):=Xlp (k:=2) rfl rfl
@[simp] theorem kD_3 (k:Kd):gIx (kD k) (.int 3)=some (.int k.al):=Xlp (k:=3) rfl rfl
def pre (ns:List Int)(i:Nat):Int:=(ns.take i).sum
theorem Xkk (ns:List Int)(a b:Nat)(h:a<=b):((ns.drop a).take (b - a)).sum=pre ns b - pre ns a:=by
 unfold pre;have e:ns.take b=ns.take a++(ns.drop a).take (b - a):=by have:=List.take_add (l:=ns) (i:=a) (j:=b - a);rw [show a+(b - a)=b by omega] at this;exact this
 rw [e,GB];omega
theorem Zzl {i:Nat}{x:Int}(h:ns[i]?=some x):pre ns (i+1)=pre ns i+x:=by unfold pre;rw [List.take_add_one,h,GB];simp
def good (ns:List Int)(k:Kd)(p:Int):Bool:=decide (0<=p/\p+k.w<=ns.length/\pre ns (p+k.w).toNat - pre ns p.toNat<=k.al)
theorem Zwn {b e:Int}(h0:0<=b)(h1:b<=e)(h2:e<=ns.length):Zed [iD ns,.int b,.int e]=.ok (.int (pre ns e.toNat - pre ns b.toNat)):=by
 have a1:¬b<0:=by omega
 have a2:¬(ns.length:Int)<e:=by omega
 have a3:¬e<b:=by omega
 simp [-D1,-Ez,Zed,Zrs,iD,a1,a2,a3,Xoj h0 h1 h2,Xkk _ _ _ (show b.toNat<=e.toNat by omega)]
theorem Xij (ns:List Int)(k:Kd)(p:Int)(hw:1<=k.w):Znx [iD ns,kD k,.int p]=.ok (.bl (good ns k p)):=by
 have l1:Zbc [iD ns]=some (.int ns.length):=by simp [iD]
 by_cases h0:p<0;have e:good ns k p=false:=decide_eq_false (by omega);rw [e];exact Zah (Zo (Xe (Zn rfl (Zn rfl rfl (Xlk k)) rfl)) (Zbq (Jf (Xeo (Yk (Zn rfl rfl (Zja h0)))) (Jd rfl))));by_cases h1:(ns.length:Int)<p+k.w;have e:good ns k p=false:=decide_eq_false (by omega);rw [e];exact Zah (Zo (Xe (Zn rfl (Zn rfl rfl (Xlk k)) rfl)) (Zbq (Jf (Zfp (Yk (Zn rfl rfl (Zjq h0))) (Yk (Zn rfl (Jm (Ze rfl rfl) l1) (Zja h1)))) (Jd rfl))));have hs:=Zwn (ns:=ns) (b:=p) (e:=p+k.w) (by omega) (by omega) (by omega);have e:good ns k p=decide (pre ns (p+k.w).toNat - pre ns p.toNat<=k.al):=by unfold good;apply decide_eq_decide.mpr;constructor;exact fun z=>z.2.2;exact fun z=>⟨by omega,by omega,z⟩
 rw [e];exact Zah (Zo (Xe (Zn rfl (Zn rfl rfl (Xlk k)) rfl)) (Zo (Yh (Zfp (Yk (Zn rfl rfl (Zjq h0))) (Yk (Zn rfl (Jm (Ze rfl rfl) l1) (Zjq h1)))) rfl) (Jd (Zn (Yc (Ze rfl (Ze rfl (Ze rfl rfl))) hs) (Zn rfl rfl (kD_3 k)) rfl))))
def Zab (ns:List Int):List Int:=(AJ (ns.length+1)).map (pre ns)
theorem Xbg (ns:List Int):(Zab ns).length=ns.length+1:=by simp [Zab]
theorem Xkg (ns:List Int){k:Nat}(h:k<=ns.length):(Zab ns).getD k 0=pre ns k:=by
 unfold Zab;have h':k<ns.length+1:=by omega
 simp [A4,h']
theorem Zws (ns:List Int)(h:ns.length<=1000):Jg [iD ns]=.ok (iD (Zab ns)):=by
  have hl:ns.length<=lim:=by show _<=1000000;omega
  have hf:=Xhd (b:=Zr 2) (s:=Zcv) (xs:=ns.map D.int) (ρ:=[some (iD ns),some (.lst [.int 0]),none])
    (fun i=>[some (iD ns),some (.lst (((AJ i).map (pre ns)).map D.int++[.int (pre ns i)])),match i with | 0=>none | i+1=>some (.int (ns.getD i 0))]) rfl (fun i x hx=>by
      rw [Bh] at hx;obtain ⟨y,hy,rfl⟩:=AB.mp hx;have hi:=(Ah.mp hy).1;refine ⟨_,rfl,?_⟩;have hlen:i+1<1000000:=by omega
      simp [-BU,Zcv,hlen,Zzl hy,Ep,hy])
  simp only [Ae] at hf;simp [Jg,Zin,iD,hl] at hf ⊢;simp [hf,Zab,Ep]
theorem Zvf (ns:List Int)(k:Kd)(p:Int)(hw:1<=k.w):Ys [iD (Zab ns),kD k,.int p]=.ok (.bl (good ns k p)):=by
 have hsl:=Xbg ns;have l1:Zbc [iD (Zab ns)]=some (.int (Zab ns).length):=by simp [iD]
 by_cases h0:p<0;have e:good ns k p=false:=decide_eq_false (by omega);rw [e];exact Zah (Zo (Xe (Zn rfl (Zn rfl rfl (Xlk k)) rfl)) (Zbq (Jf (Xeo (Yk (Zn rfl rfl (Zja h0)))) (Jd rfl))));by_cases h1:((Zab ns).length:Int)<=p+k.w;have e:good ns k p=false:=decide_eq_false (by omega);rw [e];exact Zah (Zo (Xe (Zn rfl (Zn rfl rfl (Xlk k)) rfl)) (Zbq (Jf (Zfp (Yk (Zn rfl rfl (Zjq h0))) (Yk (Zn rfl (Jm (Ze rfl rfl) l1) (Zja h1)))) (Jd rfl))));have e:good ns k p=decide (pre ns (p+k.w).toNat - pre ns p.toNat<=k.al):=by unfold good;apply decide_eq_decide.mpr;constructor;exact fun z=>z.2.2;exact fun z=>⟨by omega,by omega,z⟩
 have i1:=Zbo (ns:=Zab ns) (i:=p+k.w) (k:=(p+k.w).toNat) (by omega) (by omega);have i2:=Zbo (ns:=Zab ns) (i:=p) (k:=p.toNat) (by omega) (by omega);rw [Xkg ns (by omega)] at i1 i2;rw [e];exact Zah (Zo (Xe (Zn rfl (Zn rfl rfl (Xlk k)) rfl)) (Zo (Yh (Zfp (Yk (Zn rfl rfl (Zjq h0))) (Yk (Zn rfl (Jm (Ze rfl rfl) l1) (Zjq h1)))) rfl) (Jd (Zn (Zn (Zn rfl rfl i1) (Zn rfl rfl i2) rfl) (Zn rfl rfl (kD_3 k)) rfl))))
theorem Zqn (i:Int):Xz [.int i]=.ok (.bl true):=by simp [Xz,Zeb]
theorem Zxx (ns:List Int)(hn:ns.length<=63)(h0:0<=i)(h1:i<1000000):∃n:Int,Zan [.scr ns,.int i]=.ok (.int n):=by
 have c:(cE (f2 gLt (fV 1) (fA Zbc (Zb (fV 0) Zu)))) [some (.scr ns),some (.int i),none,none]=.ok (decide (i<ns.length)):=Yk (Zn rfl (Jm (Ze rfl rfl) rfl) rfl);by_cases h:i<ns.length;have hi:i.toNat<ns.length:=(C5 h0).mpr h;have e:gIx (.scr ns) (.int i)=some (.int (ns.getD i.toNat 0)):=congrArg (Option.map D.int) (Zlj (k:=i.toNat) (Cs h0).symm (by simp [A4,hi]));exact ⟨_,Zah (Zbq (Jf (c.trans (congrArg Dl.R.ok (decide_eq_true h))) (Jd (Zfn (Zn rfl rfl e) rfl))))⟩;have key:∃seed:Int,∃o,Zbx (Zr 3) Zfk ((ns.take 63).map D.int) [some (.scr ns),some (.int i),some (.int 5),none]=.ok (.nx [some (.scr ns),some (.int i),some (.int seed),o]):=by refine Zei (P:=fun _ ρ=>∃seed:Int,∃o,ρ=[some (.scr ns),some (.int i),some (.int seed),o]) (Rr:=fun r=>∃seed:Int,∃o,r=.ok (.nx [some (.scr ns),some (.int i),some (.int seed),o])) ⟨5,none,rfl⟩ ?_ ?_;rintro j x ρ hx ⟨seed,o,rfl⟩;rw [Bh] at hx;obtain ⟨y,hy,rfl⟩:=AB.mp hx;exact ⟨_,rfl,.inl ⟨_,.inl (Xe (Zn (Zn (Zn (Zn rfl rfl (mulR (by decide) (by decide))) (Zn rfl rfl (Zbm (by decide))) rfl) rfl rfl) rfl (Zbm (by decide)))),_,_,rfl⟩⟩;rintro ρ ⟨seed,o,rfl⟩;exact ⟨seed,o,rfl⟩
 obtain ⟨seed,o,e⟩:=key;have hc:cut ns none (some 63)=ns.take 63:=Xoi (by decide);have hl:(Zad (fSl gSl (fV 0) Zfi (Zdk (fC (.int 63))))) [some (.scr ns),some (.int i),some (.int 5),none]=.ok ((ns.take 63).map D.int):=by
  have hm:min 63 ns.length<=lim:=by show _<=1000000;omega
  simp [-D1,hc,hm]
 exact ⟨_,Zah (Zo (Yh (c.trans (congrArg Dl.R.ok (decide_eq_false h))) rfl) (Zo (Xe rfl) (Zo (Zhc hl e) (Jd (Zn (Zn rfl (Zn rfl rfl (Zri (by decide) (by decide))) rfl) rfl (Zbm (by decide)))))))⟩
theorem Xdy (c:Int){k:Int}(h0:0<=k)(h1:k<1000000):∃n:Int,Zbh [.int c,.int k]=.ok (.int n):=by have n0:0<=c % 2147483629+1013*k+7919:=EN (EN (BQ _ (by decide)) (DN (by decide) h0)) (by decide);have n1:c % 2147483629+1013*k+7919<2147483629+1013*1000000+7919:=Int.add_lt_add_right (Int.add_lt_add_of_lt_of_le (BF _ (by decide)) (BK (D3 h1) (by decide))) _;have b:(c % 2147483629+1013*k+7919).natAbs<2 ^ 64:=Fi.mp (by rw [Int.natAbs_of_nonneg n0];exact HA n1 (by decide));have e1:=Znq (i:=c % 2147483629+1013*k+7919) (j:=3) (by decide) (by decide) b;exact ⟨_,Zah (Zo (Xe (Zn (Zn (Zn (Zn (Zn rfl rfl (Zbm (by decide))) (Zn rfl rfl (Zri (by decide) (by decide))) rfl) rfl rfl) rfl e1) rfl (Zbm (by decide)))) (Zo (Xe (Zn (Zn (Zn (Zn rfl rfl (mulR (by decide) (by decide))) (Zn (Zn rfl rfl (Zri (by decide) (by decide))) rfl (mulR h0 (D3 h1))) rfl) rfl rfl) rfl (Zbm (by decide)))) (Jd (Zn rfl rfl (div_ii (by decide) (by decide))))))⟩
structure Row (ms os:List Int):Prop where
 len:os.length=ms.length
 at_:∀k,k<ms.length->0<=os.getD k 0/\os.getD k 0<ms.getD k 0
theorem Row.nil (ms:List Int):Row (ms.take 0) []:=⟨by simp,fun k hk=>by simp at hk⟩
theorem Row.all (h:Row (ms.take ms.length) os):Row ms os:=by rw [Gn] at h;exact h
theorem Row.push {k:Nat}(h:Row (ms.take k) os)(hk:k<ms.length)(h0:0<=v)(h1:v<ms.getD k 0):Row (ms.take (k+1)) (os++[v]):=by
 have hl:=h.len;rw [Bb] at hl;have hm:min k ms.length=k:=by omega
 have hm':min (k+1) ms.length=k+1:=by omega
 refine ⟨by rw [Ao,Bb,hm',DG];omega,fun j hj=>?_⟩;rw [Bb,hm'] at hj;by_cases e:j=k;subst e;have e1:(os++[v]).getD j 0=v:=by
  have:os.length=j:=by omega
  simp [A4,<- this]
 have e2:(ms.take (j+1)).getD j 0=ms.getD j 0:=by simp [A4,FP]
 rw [e1,e2];exact ⟨h0,h1⟩;have hj':j<k:=by omega
 have q:=h.at_ j (by rw [Bb];omega);have e1:(os++[v]).getD j 0=os.getD j 0:=by
  have:j<os.length:=by omega
  simp [A4,Au this]
 have e2:(ms.take (k+1)).getD j 0=(ms.take k).getD j 0:=by
  have h1:j<k+1:=by omega
  simp [A4,FP,hj',h1]
 rw [e1,e2];exact q
theorem Zbu {i:Nat}(h:∀w∈ws,P w)(hi:i<ws.length):P (ws.getD i 0):=by
 have e:ws.getD i 0=ws[i]:=by simp [A4,hi]
 rw [e];exact h _ (BC hi)
theorem Xgo (ns:List Int)(hn:ns.length<=63)(h0:0<=i)(h1:i<1000)(ms:List Int)(hm:ms.length<=2000)(hms:∀m∈ms,0<m/\m<2 ^ 200):∃os,Xg [.scr ns,.int i,iD ms]=.ok (iD os)/\Row ms os:=by
 obtain ⟨c,hc⟩:=Zxx ns hn h0 (show i<1000000 by omega);have key:=Zei (b:=Zr 6) (s:=Zgt) (xs:=Zhb 0 ms.length) (ρ:=[some (.scr ns),some (.int i),some (iD ms),some (.int c),some (.int c),some (.lst []),none,none])
  (P:=fun k ρ=>∃(l:Int) (os:List Int) (o6 o7:Option D),Row (ms.take k) os/\ρ=[some (.scr ns),some (.int i),some (iD ms),some (.int c),some (.int l),some (iD os),o6,o7])
  (Rr:=fun r=>∃(l:Int) (os:List Int) (o6 o7:Option D),Row ms os/\r=.ok (.nx [some (.scr ns),some (.int i),some (iD ms),some (.int c),some (.int l),some (iD os),o6,o7]))
  ⟨c,[],none,none,Row.nil ms,rfl⟩ ?_ ?_
 obtain ⟨l,os,o6,o7,hr,e⟩:=key;refine ⟨os,?_,hr⟩;have b1:-1000000000<=(ms.length:Int)/\(ms.length:Int)<=1000000:=by omega
 have gl:Zbc [iD ms]=some (.int ms.length):=by simp [iD]
 exact Zah (Zo (Xe (Yc (Ze rfl (Ze rfl rfl)) hc)) (Zo (Xe (Zfn rfl rfl)) (Zo (Xe rfl) (Zo (Zhc (Zlg (Ze (Jm (Ze rfl rfl) gl) rfl) b1) e) (Jd rfl)))));rintro k x ρ hx ⟨l,os,o6,o7,hr,rfl⟩;obtain ⟨hk,rfl⟩:=Zpg hx;rw [DH];have hol:os.length=k:=by have:=hr.len;rw [Bb] at this;omega
 have hlim:(os.map D.int).length<lim:=by rw [Ae];show _<1000000;omega
 have c1:∀o5:Option D,(cE (f2 gLt (fV 3) (f2 Zgf (fC (.int 10)) (fC (.int 18))))) [some (.scr ns),some (.int i),some (iD ms),some (.int c),some (.int l),o5,some (.int k),o7]=.ok (decide (c<1000000000000000000)):=fun _=>Yk (Zn rfl (Zn rfl rfl Zhn) rfl);have ap:∀v:Int,iD (os++[v])=.lst (os.map D.int++[.int v]):=fun v=>congrArg D.lst Bv;have hmk:=Zbu hms hk;have ix:=Zbo (ns:=ms) (i:=(k:Int)) (k:=k) rfl hk;have md:∀z:Int,Zel (.int z) (.int (ms.getD k 0))=some (.int (z % ms.getD k 0)):=fun z=>Zbm hmk.1;have nn:∀z:Int,0<=z % ms.getD k 0/\z % ms.getD k 0<ms.getD k 0:=fun z=>⟨BQ _ (Hy hmk.1),BF _ hmk.1⟩;have k0:0<=(k:Int)/\(k:Int)<1000000:=by omega
 obtain ⟨x1,hx1⟩:=Xdy c k0.1 k0.2;obtain ⟨c2,hc2⟩:=Zxx ns hn (i:=(i+1+k) % 63) (BQ _ (by decide)) (HA (BF _ (by decide)) (by decide));obtain ⟨x2,hx2⟩:=Xdy c2 k0.1 k0.2;refine ⟨_,rfl,.inl ?_⟩;by_cases a1:c<1000000000000000000;refine ⟨[some (.scr ns),some (.int i),some (iD ms),some (.int c),some (.int l),some (iD (os++[x1 % ms.getD k 0])),some (.int k),o7],.inl ?_,l,_,_,o7,hr.push hk (nn x1).1 (nn x1).2,rfl⟩;rw [ap];exact Jf ((c1 _).trans (congrArg Dl.R.ok (decide_eq_true a1))) (Zlt rfl (Zn (Yc (Ze rfl (Ze rfl rfl)) hx1) (Zn rfl rfl ix) (md x1)) hlim);by_cases a2:0<l;refine ⟨[some (.scr ns),some (.int i),some (iD ms),some (.int c),some (.int (l / ms.getD k 0)),some (iD (os++[l % ms.getD k 0])),some (.int k),o7],.inl ?_,_,_,_,o7,hr.push hk (nn l).1 (nn l).2,rfl⟩;rw [ap];exact Yh ((c1 _).trans (congrArg Dl.R.ok (decide_eq_false a1))) (Jf (Yk (Zn rfl rfl (congrArg (fun b=>some (D.bl b)) (decide_eq_true a2)))) (Zo (Zlt rfl (Zn rfl (Zn rfl rfl ix) (md l)) hlim) (Xe (Zn rfl (Zn rfl rfl ix) (div_ii hmk.1 hmk.2)))));refine ⟨[some (.scr ns),some (.int i),some (iD ms),some (.int c),some (.int l),some (iD (os++[x2 % ms.getD k 0])),some (.int k),some (.int c2)],.inl ?_,l,_,_,_,hr.push hk (nn x2).1 (nn x2).2,rfl⟩;rw [ap];exact Yh ((c1 _).trans (congrArg Dl.R.ok (decide_eq_false a1))) (Yh (Yk (Zn rfl rfl (congrArg (fun b=>some (D.bl b)) (decide_eq_false a2)))) (Zo (Xe (Yc (Ze rfl (Ze (Zn (Zn (Zn rfl rfl rfl) rfl rfl) rfl (Zbm (by decide))) rfl)) hc2)) (Zlt rfl (Zn (Yc (Ze rfl (Ze rfl rfl)) hx2) (Zn rfl rfl ix) (md x2)) hlim)));rintro ρ ⟨l,os,o6,o7,hr,rfl⟩;rw [Zcu] at hr;exact ⟨l,os,o6,o7,hr.all,rfl⟩
theorem Zgp (ns:List Int)(hn:ns.length<=63)(h0:0<=i)(h1:i<1000)(ms:List Int)(hm:ms.length<=1000)(hms:∀m∈ms,0<m/\m<2 ^ 200):∃os,Xg [.scr ns,.int i,iD ms]=.ok (iD os)/\Row ms os:=Xgo ns hn h0 h1 ms (AT hm (by decide)) hms
theorem Zgz (ws:List Int)(h0:0<=i)(h1:i<ws.length):gIx (.lst (ws.map D.int)) (.int i)=some (.int (ws.getD i.toNat 0)):=Zbo (by omega) (by omega)
theorem Zez (l:List Int):∀n:Nat,(Aa n l).flatten.length=n*l.length
 | 0=>by simp
 | n+1=>by rw [Ba,BM,Ao,Zez l n,Hq,Hs]
theorem Xfy (l:List Int)(n:Nat):(Aa n (l.map D.int)).flatten=(Aa n l).flatten.map D.int:=by rw [List.map_flatten,FN]
theorem Zjp (h0:0<=m)(h1:m<=200)(hl:ws.length<=1000):Zat (.lst (ws.map D.int)) (.int m)=some (iD (Aa m.toNat ws).flatten):=by
  simp only [Zat];rw [if_pos ⟨by omega,by
    rw [Ae];show ws.length*m.toNat<=1000000;have:ws.length*m.toNat<=1000*200:=Nat.mul_le_mul hl (by omega);omega,by omega,Zgi ws⟩,Xfy]
  rfl
theorem Zhs {xs:List Int}(h:xs.length+ys.length<=1000000):Ym (iD xs) (iD ys)=some (iD (xs++ys)):=by show (if (xs.map D.int).length+(ys.map D.int).length<=lim/\Xn (xs.map D.int)/\Xn (ys.map D.int) then some (D.lst (xs.map D.int++ys.map D.int)) else none)=_;rw [if_pos ⟨by rw [Ae,Ae];exact h,Zgi _,Zgi _⟩,<- Bv];rfl
theorem Zrt (x y:Int):∀(n k:Nat),k<n->(Aa n [x,y]).flatten.getD (2*k) 0=x/\(Aa n [x,y]).flatten.getD (2*k+1) 0=y
 | 0,k,h=>by omega
 | n+1,0,_=>by simp [Ba,BM,A4]
 | n+1,k+1,h=>by
  have q:=Zrt x y n k (by omega);have e1:2*(k+1)=2*k+2:=by omega
  rw [Ba,BM,e1];exact q
theorem Zro (x y z:Int):∀(n k:Nat),k<n->(Aa n [x,y,z]).flatten.getD (3*k) 0=x/\(Aa n [x,y,z]).flatten.getD (3*k+1) 0=y/\(Aa n [x,y,z]).flatten.getD (3*k+2) 0=z
 | 0,k,h=>by omega
 | n+1,0,_=>by simp [Ba,BM,A4]
 | n+1,k+1,h=>by
  have q:=Zro x y z n k (by omega);have e1:3*(k+1)=3*k+3:=by omega
  rw [Ba,BM,e1];exact q
theorem Zow {l:List Int}{z:Int}(h:z∈(Aa n l).flatten):z∈l:=by
 obtain ⟨l',hl,hz⟩:=CD.mp h
 rwa [(DD.mp hl).2] at hz
def Zbs:List Str:=["a","ab","abc","b","ba","z","zzzzzzzz","roll","cut","by","aab","zz","kind","qsvw","fghjmp","x"]
theorem Xac:∀j:Nat,j<16->∀k:Nat,k<16->Zbs.getD j ""=Zbs.getD k ""->j=k:=by decide +kernel
def nameAt (s4 s5:Int)(k:Nat):Str:=Zbs.getD ((s4+(2*s5+1)*(k:Int)) % 16).toNat ""
theorem Xco:∀t:Nat,t<4->∀j:Nat,j<8->∀k:Nat,k<8->((2*(t:Int)+1)*j - (2*(t:Int)+1)*k) % 16=0->j=k:=by decide +kernel
theorem Ztv {s4 s5:Int}(h0:0<=s5)(h1:s5<4){j k:Nat}(hj:j<8)(hk:k<8)(e:nameAt s4 s5 j=nameAt s4 s5 k):j=k:=by have lt:∀x:Int,(x % 16).toNat<16:=fun x=>(C5 (BQ x (by decide))).mpr (BF x (by decide));have q:=congrArg Int.ofNat (Xac _ (lt _) _ (lt _) e);have q1:(s4+(2*s5+1)*(j:Int)) % 16=(s4+(2*s5+1)*(k:Int)) % 16:=(Cs (BQ _ (by decide))).symm.trans (q.trans (Cs (BQ _ (by decide))));have q2:=Int.emod_eq_emod_iff_emod_sub_eq_zero.mp q1;rw [Int.add_sub_add_left] at q2;obtain ⟨t,rfl⟩:=E5 h0;exact Xco t (Fi.mp h1) j hj k hk q2
theorem Zst (s4 s5:Int)(k:Nat):nameAt s4 s5 k∈Zbs:=by
 unfold nameAt;have h:((s4+(2*s5+1)*(k:Int)) % 16).toNat<Zbs.length:=by show _<16;omega
 have e:Zbs.getD ((s4+(2*s5+1)*(k:Int)) % 16).toNat ""=Zbs[((s4+(2*s5+1)*(k:Int)) % 16).toNat]:=by simp [A4,h]
 rw [e];exact BC h
structure Zrl (k:Kd):Prop where
 nm:k.name∈Zbs
 w1:1<=k.w
 w2:k.w<=200
 o1:1<=k.wo
 o2:k.wo<=1000000000000000000
 a1:0<=k.al
 a2:k.al<1000000000000000000
structure Zqe (ks:List Kd):Prop where
 ok:∀k∈ks,Zrl k
 nd:(ks.map (·.name)).Nodup
theorem Xhu (h0:0<=i)(h1:i<16):gIx (.lst (Zbs.map D.str)) (.int i)=some (.str (Zbs.getD i.toNat "")):=ix_l (k:=i.toNat) (by omega) (by
  have h:i.toNat<Zbs.length:=by show _<16;omega
  simp [A4,h])
theorem Zqg (h:∀m∈ms,0<m/\m<=1000000):∀m∈ms,0<m/\m<2 ^ 200:=fun m hm=>⟨(h m hm).1,Gj (h m hm).2 (by decide)⟩
theorem four {x:Int}(h:0<=x/\x<4):x=0\/x=1\/x=2\/x=3:=by
 obtain ⟨n,rfl⟩:=E5 h.1
 match n,Fi.mp h.2 with
 | 0,_=>exact .inl rfl
 | 1,_=>exact .inr (.inl rfl)
 | 2,_=>exact .inr (.inr (.inl rfl))
 | 3,_=>exact .inr (.inr (.inr rfl))
theorem Zsc {x:Int}(hm:0<m):0<=x % m/\x % m<m:=⟨BQ _ (Hy hm),BF _ hm⟩
theorem Zzz {d0 d1 d2 o9 o10 o11 o12 o13:Option D}{O:D}{gn bw wd am x3 x4 x5 x6 x7 x8:Int}{k:Nat}
    (j0:gIx O (.int (3*(k:Int)+6))=some (.int x6)) (j1:gIx O (.int (3*(k:Int)+6+1))=some (.int x7)) (j2:gIx O (.int (3*(k:Int)+6+2))=some (.int x8))
    (j3:gIx O (.int 3)=some (.int x3)) (j4:gIx O (.int 4)=some (.int x4)) (j5:gIx O (.int 5)=some (.int x5))
    (ib:gIx (.lst [.int 150,.int 200]) (.int ((k:Int) % 2))=some (.int bw))
    (iw:gIx (.lst [.int 1,.int 2,.int 3,.int 4,.int 5,.int 6,.int 2,.int 3,.int 11,.int 40,.int bw]) (.int x6)=some (.int wd))
    (ia:gIx (.lst [.int 0,.int 0,.int 1,.int 2,.int 3,.int 12]) (.int x8)=some (.int am))
    (iN:gIx (.lst (Zbs.map D.str)) (.int ((x4+(2*x5+1)*(k:Int)) % 16))=some (.str nm))
    (w1:1<=wd/\wd<=200) (c7:0<=x7/\x7<40) (c3:0<=x3/\x3<4) (c5:0<=x5/\x5<4) (m1:0<=am/\am<=12) (sl:T.length<lim) :
    ∃wo:Int,(1<=wo/\wo<=1000)/\Zcj [d0,d1,d2,some (.lst (Zbs.map D.str)),some O,some (.int fl),some (.int gn),some (.lst T),some (.int k),o9,o10,o11,o12,o13] =
      .ok (.nx [d0,d1,d2,some (.lst (Zbs.map D.str)),some O,some (.int fl),some (.int gn),some (.lst (T++[.tup [.str nm,.int wd,.int (min (wo*gn) 1000000000000000000),.int (min (am*fl) 999999999999999999)]])),some (.int k),some (.int (3*(k:Int)+6)),some (.int wd),some (.int wo),some (.int (min (am*fl) 999999999999999999)),some (.str nm)]):=by
  obtain ⟨wo,hb,mid⟩:∃wo:Int,(1<=wo/\wo<=1000)/\∀Q:FS,(Xm (sIf (cE (f2 gEq (f2 gIx (fV 4) (fC (.int 3))) (fC (.int 1)))) (Ya 11 (f2 Ym (f2 Zat (fC (.int 3)) (fV 10)) (f2 Zel (f2 gIx (fV 4) (f2 Ym (fV 9) (fC (.int 1)))) (fC (.int 4))))) sNx)
    (Xm (sIf (cE (f2 gEq (f2 gIx (fV 4) (fC (.int 3))) (fC (.int 2)))) (Ya 11 (f2 Ym (fC (.int 1)) (f2 Zel (f2 gIx (fV 4) (f2 Ym (fV 9) (fC (.int 1)))) (fC (.int 3))))) sNx)
    (Xm (sIf (cE (f2 gEq (f2 gIx (fV 4) (fC (.int 3))) (fC (.int 3)))) (Ya 11 (f1 Xi (fV 10))) sNx) Q))) [d0,d1,d2,some (.lst (Zbs.map D.str)),some O,some (.int fl),some (.int gn),some (.lst T),some (.int k),some (.int (3*(k:Int)+6)),some (.int wd),some (.int (1+x7)),o12,o13] =
      Q [d0,d1,d2,some (.lst (Zbs.map D.str)),some O,some (.int fl),some (.int gn),some (.lst T),some (.int k),some (.int (3*(k:Int)+6)),some (.int wd),some (.int wo),o12,o13]:=by
    rcases four c3 with rfl | rfl | rfl | rfl;exact ⟨1+x7,⟨EM c7.1,AG (FU (D3 c7.2) 1) (by decide)⟩,fun Q=>Zo (Yh (Yk (Zn (Zn rfl rfl j3) rfl rfl)) rfl) (Zo (Yh (Yk (Zn (Zn rfl rfl j3) rfl rfl)) rfl) (Zo (Yh (Yk (Zn (Zn rfl rfl j3) rfl rfl)) rfl) rfl))⟩;exact ⟨3*wd+x7 % 4,⟨AG (show (1:Int)<=3*1+0 by decide) (GY (BK w1.1 (by decide)) (Zsc (by decide)).1),AG (GY (BK w1.2 (by decide)) (D3 (Zsc (by decide)).2)) (by decide)⟩,fun Q=>Zo (Jf (Yk (Zn (Zn rfl rfl j3) rfl rfl)) (Xe (Zn (Zn rfl rfl (Zri (by decide) (by decide))) (Zn (Zn rfl (Zn rfl rfl rfl) j1) rfl (Zbm (by decide))) rfl))) (Zo (Yh (Yk (Zn (Zn rfl rfl j3) rfl rfl)) rfl) (Zo (Yh (Yk (Zn (Zn rfl rfl j3) rfl rfl)) rfl) rfl))⟩;exact ⟨1+x7 % 3,⟨EM (Zsc (by decide)).1,AG (FU (D3 (Zsc (by decide)).2) 1) (by decide)⟩,fun Q=>Zo (Yh (Yk (Zn (Zn rfl rfl j3) rfl rfl)) rfl) (Zo (Jf (Yk (Zn (Zn rfl rfl j3) rfl rfl)) (Xe (Zn rfl (Zn (Zn rfl (Zn rfl rfl rfl) j1) rfl (Zbm (by decide))) rfl))) (Zo (Yh (Yk (Zn (Zn rfl rfl j3) rfl rfl)) rfl) rfl))⟩;exact ⟨wd,⟨w1.1,AG w1.2 (by decide)⟩,fun Q=>Zo (Yh (Yk (Zn (Zn rfl rfl j3) rfl rfl)) rfl) (Zo (Yh (Yk (Zn (Zn rfl rfl j3) rfl rfl)) rfl) (Zo (Jf (Yk (Zn (Zn rfl rfl j3) rfl rfl)) (Xe (Zfn rfl rfl))) rfl))⟩
  exact ⟨wo,hb,Zo (Xe (Zn (Zn rfl rfl (Zri (by decide) (by decide))) rfl rfl)) (Zo (Xe (Zfn (Zn (Jm (Ze rfl (Ze rfl (Ze rfl (Ze rfl (Ze rfl (Ze rfl (Ze rfl (Ze rfl (Ze rfl (Ze rfl (Ze (Zn rfl (Zn rfl rfl (Zbm (by decide))) ib) rfl))))))))))) rfl) (Zn rfl rfl j0) iw) rfl)) (Zo (Xe (Zn rfl (Zn rfl (Zn rfl rfl rfl) j1) rfl)) ((mid _).trans
    (Zo (Xe (Jm (Ze (Zn (Zn rfl (Zn rfl (Zn rfl rfl rfl) j2) ia) rfl (Zri m1.1 (AG m1.2 (by decide)))) (Ze (Zn (Zn rfl rfl Zhn) rfl (show Zbg (.int 1000000000000000000) (.int 1)=some (.int 999999999999999999) from rfl)) rfl)) (Xei _ _)))
    (Zo (Xe (Zfn (Zn rfl (Zn (Zn (Zn rfl rfl j4) (Zn (Zn (Zn rfl (Zn rfl rfl j5) (Zri (by decide) (by decide))) rfl rfl) rfl (Zri (EN (DN (by decide) c5.1) (by decide)) (AG (Fz (BK (D3 c5.2) (by decide)) 1) (by decide)))) rfl) rfl (Zbm (by decide))) iN) rfl))
    (Zlt rfl (Jm (Ze (Zfn rfl rfl) (Ze (Zfn rfl rfl) (Ze (Jm (Ze (Zn rfl rfl (Zri (AG (by decide) hb.1) (AG hb.2 (by decide)))) (Ze (Zn rfl rfl Zhn) rfl)) (Xei _ _)) (Ze (Zfn rfl rfl) rfl)))) rfl) sl))))))⟩
theorem under {x:Int}{k:Nat}(h:k<x.toNat)(hx:x<m+1):k<m.toNat:=by omega
theorem Xas {l:List Int}{b:Int}(h:∀z∈l,P z)(hb:P b):∀z∈l++[b],P z:=DA.mpr ⟨h,fun _ hz=>An.mp hz▸hb⟩
theorem Xqu {k j m:Nat}(h:k<m)(hj:j<3):3*k+(j+6)<6+m*3:=by omega
theorem Xcy (ns:List Int)(hn:ns.length<=63)(h0:0<=i)(h1:i<1000)(m0:0<=m)(m1:m<=8):∃ks,Zas [.scr ns,.int i,.int m]=.ok (tD ks)/\(ks.length:Int)<=m/\Zqe ks:=by
  have m8:m.toNat<=8:=Hx.mpr m1;have m24:6+m.toNat*3<=30:=Nat.add_le_add_left (Nat.mul_le_mul_right 3 m8) 6;have ms_eq:Ym (iD [m+1,4,4,4,16,4]) (iD (Aa m.toNat [11,40,6]).flatten)=some (iD ([m+1,4,4,4,16,4]++(Aa m.toNat [11,40,6]).flatten)):=Zhs (by
    rw [Zez];exact AT m24 (by decide))
  have mr:=Zjp (ws:=[11,40,6]) m0 (AG m1 (by decide)) (by decide);have hml:([m+1,4,4,4,16,4]++(Aa m.toNat [(11:Int),40,6]).flatten).length=6+m.toNat*3:=by rw [Ao,Zez];rfl
  obtain ⟨os,hos,R⟩:=Zgp ns hn h0 h1 ([m+1,4,4,4,16,4]++(Aa m.toNat [11,40,6]).flatten) (by rw [hml];exact AT m24 (by decide)) (Zqg (DA.mpr ⟨AM.mpr ⟨⟨Int.lt_add_one_of_le m0,AG (Fz m1 1) (by decide)⟩,by decide⟩,fun z hz=>(by decide:∀z∈[(11:Int),40,6],0<z/\z<=1000000) z (Zow hz)⟩));have hol:os.length=6+m.toNat*3:=by rw [R.len,hml]
  have hlt:∀{j:Nat},j<6->j<([m+1,4,4,4,16,4]++(Aa m.toNat [(11:Int),40,6]).flatten).length:=fun h=>by rw [hml];exact Ar h (Di _ _)
  have hlo:∀{j:Nat},j<6->j<os.length:=fun h=>by rw [hol];exact Ar h (Di _ _)
  have tri:∀k j:Nat,k<m.toNat->j<3->3*k+(j+6)<6+m.toNat*3:=fun _ _ h hj=>Xqu h hj;have a0:0<=os.getD 0 0/\os.getD 0 0<m+1:=R.at_ 0 (hlt (by decide));have a1:0<=os.getD 1 0/\os.getD 1 0<4:=R.at_ 1 (hlt (by decide));have a2:0<=os.getD 2 0/\os.getD 2 0<4:=R.at_ 2 (hlt (by decide));have a3:0<=os.getD 3 0/\os.getD 3 0<4:=R.at_ 3 (hlt (by decide));have a4:0<=os.getD 4 0/\os.getD 4 0<16:=R.at_ 4 (hlt (by decide));have a5:0<=os.getD 5 0/\os.getD 5 0<4:=R.at_ 5 (hlt (by decide));have b3:∀k:Nat,k<m.toNat->(0<=os.getD (3*k+6) 0/\os.getD (3*k+6) 0<11)/\(0<=os.getD (3*k+7) 0/\os.getD (3*k+7) 0<40)/\(0<=os.getD (3*k+8) 0/\os.getD (3*k+8) 0<6):=fun k hk=>by obtain ⟨g1,g2,g3⟩:=Zro 11 40 6 m.toNat k hk;have e:∀j:Nat,([m+1,4,4,4,16,4]++(Aa m.toNat [(11:Int),40,6]).flatten).getD (j+6) 0=(Aa m.toNat [(11:Int),40,6]).flatten.getD j 0:=fun j=>rfl;have r1:=R.at_ (3*k+6) (by rw [hml];exact tri k 0 hk (by decide));have r2:=R.at_ (3*k+7) (by rw [hml];exact tri k 1 hk (by decide));have r3:=R.at_ (3*k+8) (by rw [hml];exact tri k 2 hk (by decide));rw [e (3*k),g1] at r1;rw [show 3*k+7=(3*k+1)+6 from rfl,e (3*k+1),g2] at r2;rw [show 3*k+8=(3*k+2)+6 from rfl,e (3*k+2),g3] at r3;exact ⟨r1,r2,r3⟩
  have ix:∀k:Nat,k<os.length->∀j:Int,j=(k:Int)->gIx (.lst (os.map D.int)) (.int j)=some (.int (os.getD k 0)):=fun k hk j e=>Zbo e hk;obtain ⟨fl,hfl⟩:∃fl,fl=([1,1,7,100000000000000000]:List Int).getD (os.getD 1 0).toNat 0:=⟨_,rfl⟩;obtain ⟨gn,hgn⟩:∃gn,gn=([1,1,1000000,25000000000000000]:List Int).getD (os.getD 2 0).toNat 0:=⟨_,rfl⟩;have fl1:1<=fl/\fl<=100000000000000000:=by rw [hfl];exact Zbu (P:=fun z=>1<=z/\z<=100000000000000000) (by decide) (show _<4 from (C5 a1.1).mpr a1.2)
  have gn1:1<=gn/\gn<=25000000000000000:=by rw [hgn];exact Zbu (P:=fun z=>1<=z/\z<=25000000000000000) (by decide) (show _<4 from (C5 a2.1).mpr a2.2)
  have i1:gIx (.lst [.int 1,.int 1,.int 7,.int 100000000000000000]) (.int (os.getD 1 0))=some (.int fl):=by rw [hfl];exact Zgz [1,1,7,100000000000000000] a1.1 a1.2
  have i2:gIx (.lst [.int 1,.int 1,.int 1000000,.int 25000000000000000]) (.int (os.getD 2 0))=some (.int gn):=by rw [hgn];exact Zgz [1,1,1000000,25000000000000000] a2.1 a2.2
  have key:=Zei (b:=Zr 8) (s:=Zcj) (xs:=Zhb 0 (os.getD 0 0).toNat) (ρ:=[some (.scr ns),some (.int i),some (.int m),some (.lst (Zbs.map D.str)),some (iD os),some (.int fl),some (.int gn),some (.lst []),none,none,none,none,none,none])
    (P:=fun k ρ=>∃(ks:List Kd) (o8 o9 o10 o11 o12 o13:Option D),ks.length=k/\(∀x∈ks,Zrl x)/\ks.map (·.name)=(AJ k).map (nameAt (os.getD 4 0) (os.getD 5 0))/\ρ=[some (.scr ns),some (.int i),some (.int m),some (.lst (Zbs.map D.str)),some (iD os),some (.int fl),some (.int gn),some (tD ks),o8,o9,o10,o11,o12,o13])
    (Rr:=fun r=>∃(ks:List Kd) (o8 o9 o10 o11 o12 o13:Option D),ks.length=(os.getD 0 0).toNat/\(∀x∈ks,Zrl x)/\ks.map (·.name)=(AJ ks.length).map (nameAt (os.getD 4 0) (os.getD 5 0))/\r=.ok (.nx [some (.scr ns),some (.int i),some (.int m),some (.lst (Zbs.map D.str)),some (iD os),some (.int fl),some (.int gn),some (tD ks),o8,o9,o10,o11,o12,o13]))
    ⟨[],none,none,none,none,none,none,rfl,(fun _ h=>nomatch h),rfl,rfl⟩ ?_ ?_
  · obtain ⟨ks,o8,o9,o10,o11,o12,o13,kl,kok,knm,e⟩:=key;have k8:ks.length<=8:=by rw [kl];exact Hx.mpr (AG (D8.mp a0.2) m1)
    refine ⟨ks,?_,by rw [kl,Cs a0.1];exact D8.mp a0.2,kok,?_⟩
    · have b1:-1000000000<=os.getD 0 0/\os.getD 0 0<=1000000:=⟨AG (by decide) a0.1,AG (D8.mp a0.2) (AG m1 (by decide))⟩;have hp:Ym (.lst [.str ("a":Str),.str ("ab":Str),.str ("abc":Str),.str ("b":Str),.str ("ba":Str),.str ("z":Str),.str ("zzzzzzzz":Str),.str ("roll":Str),.str ("cut":Str),.str ("by":Str)]) (.lst [.str ("aab":Str),.str ("zz":Str),.str ("kind":Str),.str ("qsvw":Str),.str ("fghjmp":Str),.str ("x":Str)])=some (.lst (Zbs.map D.str)):=rfl;have mr':Zat (.lst [.int 11,.int 40,.int 6]) (.int m)=_:=mr;have ms':Ym (.lst [.int (m+1),.int 4,.int 4,.int 4,.int 16,.int 4]) (iD (Aa m.toNat [11,40,6]).flatten)=_:=ms_eq;generalize iD ([m+1,4,4,4,16,4]++(Aa m.toNat [11,40,6]).flatten)=Mv at hos ms';generalize iD (Aa m.toNat [11,40,6]).flatten=Mw at mr' ms';exact Zah (Zo (Xe rfl) (Zo (Xe (Zn rfl rfl hp)) (Zo (Xe (Yc (Ze rfl (Ze rfl (Ze (Zn (Jm (Ze (Zn rfl rfl rfl) rfl) rfl) (Zn rfl rfl mr') ms') rfl))) hos))
        (Zo (Xe (Zfn (Zn (Jm (Ze rfl (Ze rfl (Ze rfl (Ze (Zn rfl rfl Zqk) rfl)))) rfl) (Zn rfl rfl (ix 1 (hlo (by decide)) 1 rfl)) i1) rfl))
        (Zo (Xe (Zfn (Zn (Jm (Ze rfl (Ze rfl (Ze (Zn rfl rfl (show Zgf (.int 10) (.int 6)=some (.int 1000000) by simp)) (Ze (Zn rfl (Zn rfl rfl Zzr) (show Zat (.int 25) (.int 1000000000000000)=some (.int 25000000000000000) from Zri (by decide) (by decide))) rfl)))) rfl) (Zn rfl rfl (ix 2 (hlo (by decide)) 2 rfl)) i2) rfl))
        (Zo (Xe rfl) (Zo (Zhc (Zlg (Ze (Zn rfl rfl (ix 0 (hlo (by decide)) 0 rfl)) rfl) b1) e) (Jd rfl))))))))
    rw [knm,EF,List.pairwise_map];refine Hw ?_ (EF.mp List.nodup_range);intro i j hi hj hij e;have hi:=BE.mp hi;have hj:=BE.mp hj;exact hij (Ztv a5.1 a5.2 (Ar hi (AT k8 (by decide))) (Ar hj (AT k8 (by decide))) e)
  rintro k x ρ hx ⟨ks,o8,o9,o10,o11,o12,o13,kl,kok,knm,rfl⟩;obtain ⟨hk,rfl⟩:=Zpg hx;rw [DH];have hkm:k<m.toNat:=under hk a0.2;obtain ⟨c1,c2,c3⟩:=b3 k hkm;have j0:=ix (3*k+6) (by rw [hol];exact tri k 0 hkm (by decide)) (3*k+6) rfl;have j1:=ix (3*k+7) (by rw [hol];exact tri k 1 hkm (by decide)) (3*k+6+1) (EY _ 6 1);have j2:=ix (3*k+8) (by rw [hol];exact tri k 2 hkm (by decide)) (3*k+6+2) (EY _ 6 2);have j3:=ix 3 (hlo (by decide)) 3 rfl;have j4:=ix 4 (hlo (by decide)) 4 rfl;have j5:=ix 5 (hlo (by decide)) 5 rfl;obtain ⟨bw,hbw⟩:∃bw,bw=([150,200]:List Int).getD ((k:Int) % 2).toNat 0:=⟨_,rfl⟩;have k2:0<=(k:Int) % 2/\(k:Int) % 2<2:=⟨BQ _ (by decide),BF _ (by decide)⟩;have bw1:1<=bw/\bw<=200:=by rw [hbw];exact Zbu (P:=fun z=>1<=z/\z<=200) (by decide) (show _<2 from (C5 k2.1).mpr k2.2)
  have ib:gIx (.lst [.int 150,.int 200]) (.int ((k:Int) % 2))=some (.int bw):=by rw [hbw];exact Zgz [150,200] k2.1 k2.2
  obtain ⟨wd,hwd⟩:∃wd,wd=([1,2,3,4,5,6,2,3,11,40,bw]:List Int).getD (os.getD (3*k+6) 0).toNat 0:=⟨_,rfl⟩;have wd1:1<=wd/\wd<=200:=by rw [hwd];exact Zbu (P:=fun z=>1<=z/\z<=200) (Xas (l:=[1,2,3,4,5,6,2,3,11,40]) (by decide) bw1) (show _<11 from (C5 c1.1).mpr c1.2)
  have iw:gIx (.lst [.int 1,.int 2,.int 3,.int 4,.int 5,.int 6,.int 2,.int 3,.int 11,.int 40,.int bw]) (.int (os.getD (3*k+6) 0))=some (.int wd):=by rw [hwd];exact Zgz [1,2,3,4,5,6,2,3,11,40,bw] c1.1 c1.2
  obtain ⟨am,ham⟩:∃am,am=([0,0,1,2,3,12]:List Int).getD (os.getD (3*k+8) 0).toNat 0:=⟨_,rfl⟩;have am1:0<=am/\am<=12:=by rw [ham];exact Zbu (P:=fun z=>0<=z/\z<=12) (by decide) (show _<6 from (C5 c3.1).mpr c3.2)
  have ia:gIx (.lst [.int 0,.int 0,.int 1,.int 2,.int 3,.int 12]) (.int (os.getD (3*k+8) 0))=some (.int am):=by rw [ham];exact Zgz [0,0,1,2,3,12] c3.1 c3.2
  have iN:=Xhu (i:=(os.getD 4 0+(2*os.getD 5 0+1)*(k:Int)) % 16) (BQ _ (by decide)) (BF _ (by decide));have sl:(ks.map kD).length<lim:=by rw [Ae,kl];exact Ar hkm (AT m8 (by decide))
  obtain ⟨wo,wo1,turn⟩:=Zzz (d0:=some (.scr ns)) (d1:=some (.int i)) (d2:=some (.int m)) (o9:=o9) (o10:=o10) (o11:=o11) (o12:=o12) (o13:=o13) (fl:=fl) (gn:=gn) j0 j1 j2 j3 j4 j5 ib iw ia iN wd1 c2 a3 a5 am1 sl;have pr:0<=am*fl:=DN am1.1 (AG (by decide) fl1.1);have wg:1<=wo*gn:=GX wo1.1 gn1.1 (by decide) (AG (by decide) wo1.1);have kd:Zrl ⟨nameAt (os.getD 4 0) (os.getD 5 0) k,wd,min (wo*gn) 1000000000000000000,min (am*fl) 999999999999999999⟩:=⟨Zst _ _ _,wd1.1,wd1.2,Gk.mpr ⟨wg,by decide⟩,GF _ _,Gk.mpr ⟨pr,by decide⟩,Gj (GF _ _) (by decide)⟩;refine ⟨_,rfl,.inl ⟨[some (.scr ns),some (.int i),some (.int m),some (.lst (Zbs.map D.str)),some (iD os),some (.int fl),some (.int gn),some (tD (ks++[⟨nameAt (os.getD 4 0) (os.getD 5 0) k,wd,min (wo*gn) 1000000000000000000,min (am*fl) 999999999999999999⟩])),some (.int k),some (.int (3*k+6)),some (.int wd),some (.int wo),some (.int (min (am*fl) 999999999999999999)),some (.str (nameAt (os.getD 4 0) (os.getD 5 0) k))],.inl ?_,_,_,_,_,_,_,_,?_,?_,?_,rfl⟩⟩;rw [show tD (ks++[⟨nameAt (os.getD 4 0) (os.getD 5 0) k,wd,min (wo*gn) 1000000000000000000,min (am*fl) 999999999999999999⟩])=.lst (ks.map kD++[.tup [.str (nameAt (os.getD 4 0) (os.getD 5 0) k),.int wd,.int (min (wo*gn) 1000000000000000000),.int (min (am*fl) 999999999999999999)]]) from congrArg D.lst Bv];exact turn;rw [Ao,kl];rfl;intro x hx;rcases Ad.mp hx with h | h;exact kok x h;rw [An.mp h];exact kd;rw [Bv,knm,Ep,Bv];rfl;rintro ρ ⟨ks,o8,o9,o10,o11,o12,o13,kl,kok,knm,rfl⟩;rw [Zcu] at kl;exact ⟨ks,o8,o9,o10,o11,o12,o13,kl,kok,by rw [kl];rw [Zcu] at knm;exact knm,rfl⟩
theorem Xjf (ns:List Int)(hn:ns.length<=63)(h0:0<=i)(h1:i<1000)(m0:0<=m)(m1:m<=1000):∃fl:Int,Zbn [.scr ns,.int i,.int m]=.ok (.int fl)/\1<=fl/\fl<=100000000000000000:=by
 obtain ⟨os,hos,R⟩:=Zgp ns hn h0 h1 [m+1,4] (by decide:2<=1000) (Zqg (AM.mpr ⟨⟨by omega,by omega⟩,by decide⟩));have hol:os.length=2:=R.len;have a1:0<=os.getD 1 0/\os.getD 1 0<4:=R.at_ 1 (by decide:1<2);obtain ⟨fl,hfl⟩:∃fl,fl=([1,1,7,100000000000000000]:List Int).getD (os.getD 1 0).toNat 0:=⟨_,rfl⟩;have fl1:1<=fl/\fl<=100000000000000000:=by rw [hfl];exact Zbu (P:=fun z=>1<=z/\z<=100000000000000000) (by decide) (show _<4 from (C5 a1.1).mpr a1.2)
 have i1:gIx (.lst [.int 1,.int 1,.int 7,.int 100000000000000000]) (.int (os.getD 1 0))=some (.int fl):=by rw [hfl];exact Zgz [1,1,7,100000000000000000] a1.1 a1.2
 have i0:=Zbo (ns:=os) (i:=1) (k:=1) rfl (by rw [hol];decide);exact ⟨fl,Zah (Jd (Zfn (Zn (Jm (Ze rfl (Ze rfl (Ze rfl (Ze (Zn rfl rfl Zqk) rfl)))) rfl) (Zn (Yc (Ze rfl (Ze rfl (Ze (Jm (Ze (Zn rfl rfl rfl) rfl) rfl) rfl))) hos) rfl i0) i1) rfl)),fl1⟩
theorem Xgm (ns:List Int)(hn:ns.length<=63)(h0:0<=i)(h1:i<1000)(m0:0<=m)(m1:m<=200)(f0:1<=fl)(f1:fl<=100000000000000000):∃ws,Zak [.scr ns,.int i,.int m,.int fl]=.ok (iD ws)/\(ws.length:Int)<=m/\∀w∈ws,0<=w/\w<=1000000000000000000:=by
  have ms_eq:Ym (iD [m+1,4,3]) (iD (Aa m.toNat [8,5]).flatten)=some (iD ([m+1,4,3]++(Aa m.toNat [8,5]).flatten)):=Zhs (by
    rw [Zez];show 3+m.toNat*2<=1000000;omega)
  have mr:=Zjp (ws:=[8,5]) m0 (show m<=200 by omega) (by decide);have hml:([m+1,4,3]++(Aa m.toNat [(8:Int),5]).flatten).length=3+m.toNat*2:=by rw [Ao,Zez];rfl
  obtain ⟨os,hos,R⟩:=Zgp ns hn h0 h1 ([m+1,4,3]++(Aa m.toNat [8,5]).flatten) (by omega) (Zqg (DA.mpr ⟨AM.mpr ⟨⟨by omega,by omega⟩,by decide⟩,fun z hz=>(by decide:∀z∈[(8:Int),5],0<z/\z<=1000000) z (Zow hz)⟩));have hol:os.length=3+m.toNat*2:=by rw [R.len,hml]
  have hlt:∀{j:Nat},j<3->j<([m+1,4,3]++(Aa m.toNat [(8:Int),5]).flatten).length:=fun h=>by rw [hml];exact Ar h (Di _ _)
  have hlo:∀{j:Nat},j<3->j<os.length:=fun h=>by rw [hol];exact Ar h (Di _ _)
  have tri:∀k j:Nat,k<m.toNat->j<2->2*k+(j+3)<3+m.toNat*2:=fun k j h hj=>by omega
  have a0:0<=os.getD 0 0/\os.getD 0 0<m+1:=R.at_ 0 (hlt (by decide));have a1:0<=os.getD 1 0/\os.getD 1 0<4:=R.at_ 1 (hlt (by decide));have a2:0<=os.getD 2 0/\os.getD 2 0<3:=R.at_ 2 (hlt (by decide));have b2:∀k:Nat,k<m.toNat->(0<=os.getD (2*k+3) 0/\os.getD (2*k+3) 0<8)/\(0<=os.getD (2*k+4) 0/\os.getD (2*k+4) 0<5):=fun k hk=>by obtain ⟨g1,g2⟩:=Zrt 8 5 m.toNat k hk;have e:∀j:Nat,([m+1,4,3]++(Aa m.toNat [(8:Int),5]).flatten).getD (j+3) 0=(Aa m.toNat [(8:Int),5]).flatten.getD j 0:=fun j=>rfl;have r1:=R.at_ (2*k+3) (by rw [hml];exact tri k 0 hk (by decide));have r2:=R.at_ (2*k+4) (by rw [hml];exact tri k 1 hk (by decide));rw [e (2*k),g1] at r1;rw [show 2*k+4=(2*k+1)+3 from rfl,e (2*k+1),g2] at r2;exact ⟨r1,r2⟩
  have ix:∀k:Nat,k<os.length->∀j:Int,j=(k:Int)->gIx (.lst (os.map D.int)) (.int j)=some (.int (os.getD k 0)):=fun k hk j e=>Zbo e hk;obtain ⟨gr,hgr,gr1⟩:∃gr:Int,gr=(if os.getD 2 0=0 then 1000000000000000000 else 9*fl)/\0<=gr/\gr<=1000000000000000000:=by refine ⟨_,rfl,?_⟩;split;exact ⟨by decide,by decide⟩;exact ⟨DN (by decide) (AG (by decide) f0),AG (BK f1 (by decide)) (by decide)⟩
  obtain ⟨th,hth⟩:∃th,th=([0,1,3,6]:List Int).getD (os.getD 1 0).toNat 0:=⟨_,rfl⟩;have ith:gIx (.lst [.int 0,.int 1,.int 3,.int 6]) (.int (os.getD 1 0))=some (.int th):=by rw [hth];exact Zgz [0,1,3,6] a1.1 a1.2
  have key:=Zei (b:=Zr 7) (s:=Zfh) (xs:=Zhb 0 (os.getD 0 0).toNat) (ρ:=[some (.scr ns),some (.int i),some (.int m),some (.int fl),some (iD os),some (.int gr),some (.lst []),none,none,none])
    (P:=fun k ρ=>∃(ws:List Int) (o7 o8 o9:Option D),ws.length=k/\(∀x∈ws,0<=x/\x<=1000000000000000000)/\ρ=[some (.scr ns),some (.int i),some (.int m),some (.int fl),some (iD os),some (.int gr),some (iD ws),o7,o8,o9])
    (Rr:=fun r=>∃(ws:List Int) (o7 o8 o9:Option D),ws.length=(os.getD 0 0).toNat/\(∀x∈ws,0<=x/\x<=1000000000000000000)/\r=.ok (.nx [some (.scr ns),some (.int i),some (.int m),some (.int fl),some (iD os),some (.int gr),some (iD ws),o7,o8,o9]))
    ⟨[],none,none,none,rfl,(fun _ h=>nomatch h),rfl⟩ ?_ ?_
  obtain ⟨ws,o7,o8,o9,wl,wok,e⟩:=key;refine ⟨ws,?_,by omega,wok⟩;have b1:-1000000000<=os.getD 0 0/\os.getD 0 0<=1000000:=by omega
  have mr':Zat (.lst [.int 8,.int 5]) (.int m)=_:=mr;have ms':Ym (.lst [.int (m+1),.int 4,.int 3]) (iD (Aa m.toNat [8,5]).flatten)=_:=ms_eq;generalize iD ([m+1,4,3]++(Aa m.toNat [8,5]).flatten)=Mv at hos ms';generalize iD (Aa m.toNat [8,5]).flatten=Mw at mr' ms';have t1:Zat (.int 9) (.int fl)=some (.int (9*fl)):=Zri (by decide) (by decide);have body:∀Q r,Q [some (.scr ns),some (.int i),some (.int m),some (.int fl),some (iD os),some (.int gr),none,none,none,none]=r->(Xm (Ya 5 (f2 Zat (fC (.int 9)) (fV 3))) (Xm (sIf (cE (f2 gEq (f2 gIx (fV 4) (fC (.int 2))) (fC (.int 0)))) (Ya 5 (f2 Zgf (fC (.int 10)) (fC (.int 18)))) sNx) Q)) [some (.scr ns),some (.int i),some (.int m),some (.int fl),some (iD os),none,none,none,none,none]=r:=fun Q r h=>by have c:∀z:Option D,(cE (f2 gEq (f2 gIx (fV 4) (fC (.int 2))) (fC (.int 0)))) [some (.scr ns),some (.int i),some (.int m),some (.int fl),some (iD os),z,none,none,none,none]=.ok (os.getD 2 0==0):=fun z=>Yk (Zn (Zn rfl rfl (ix 2 (hlo (by decide)) 2 rfl)) rfl rfl);by_cases d:os.getD 2 0=0;rw [if_pos d] at hgr;exact Zo (Xe (Zn rfl rfl t1)) (Zo (Jf ((c _).trans (by rw [d];rfl)) (Xe (Zn rfl rfl Zhn))) (by rw [hgr] at h;exact h));rw [if_neg d] at hgr;exact Zo (Xe (Zn rfl rfl t1)) (Zo (Yh ((c _).trans (congrArg Dl.R.ok (beq_false_of_ne d))) rfl) (by rw [hgr] at h;exact h))
  exact Zah (Zo (Xe (Yc (Ze rfl (Ze rfl (Ze (Zn (Jm (Ze (Zn rfl rfl rfl) rfl) rfl) (Zn rfl rfl mr') ms') rfl))) hos)) (body _ _ (Zo (Xe rfl) (Zo (Zhc (Zlg (Ze (Zn rfl rfl (ix 0 (hlo (by decide)) 0 rfl)) rfl) b1) e) (Jd rfl)))));rintro k x ρ hx ⟨ws,o7,o8,o9,wl,wok,rfl⟩;obtain ⟨hk,rfl⟩:=Zpg hx;rw [DH];have hkm:k<m.toNat:=under hk a0.2;obtain ⟨c1,c2⟩:=b2 k hkm;have j0:=ix (2*k+3) (by rw [hol];exact tri k 0 hkm (by decide)) (2*k+3) rfl;have j1:=ix (2*k+4) (by rw [hol];exact tri k 1 hkm (by decide)) (2*k+3+1) (EY _ 3 1);have jj:=ix 1 (hlo (by decide)) 1 rfl;have sl:ws.length<lim:=by show _<1000000;omega
  obtain ⟨wt,hwt⟩:∃wt,wt=([fl,fl,2*fl,3*fl,gr]:List Int).getD (os.getD (2*k+4) 0).toNat 0:=⟨_,rfl⟩;have wt1:0<=wt/\wt<=1000000000000000000:=by rw [hwt];have g:∀n:Int,1<=n->n<=3->0<=n*fl/\n*fl<=1000000000000000000:=fun n n0 n1=>⟨DN (AG (by decide) n0) (AG (by decide) f0),AG (GX n1 f1 (AG (by decide) f0) (by decide)) (by decide)⟩;have g1:0<=fl/\fl<=1000000000000000000:=⟨AG (by decide) f0,AG f1 (by decide)⟩;exact Zbu (P:=fun z=>0<=z/\z<=1000000000000000000) (AM.mpr ⟨g1,AM.mpr ⟨g1,AM.mpr ⟨g 2 (by decide) (by decide),AM.mpr ⟨g 3 (by decide) (by decide),AM.mpr ⟨gr1,fun _ h=>nomatch h⟩⟩⟩⟩⟩) (show _<5 from (C5 c2.1).mpr c2.2)
  have iw:gIx (.lst [.int fl,.int fl,.int (2*fl),.int (3*fl),.int gr]) (.int (os.getD (2*k+4) 0))=some (.int wt):=by rw [hwt];exact Zgz [fl,fl,2*fl,3*fl,gr] c2.1 c2.2
  have t1:Zat (.int 2) (.int fl)=some (.int (2*fl)):=Zri (by decide) (by decide);have t2:Zat (.int 3) (.int fl)=some (.int (3*fl)):=Zri (by decide) (by decide);have t3:Zat (.int 2) (.int (k:Int))=some (.int (2*k)):=Zri (by decide) (by decide);have c:(cE (f2 gLt (f2 gIx (fV 4) (fV 8)) (f2 gIx (fA Jq (Zb (fC (.int 0)) (Zb (fC (.int 1)) (Zb (fC (.int 3)) (Zb (fC (.int 6)) Zu))))) (f2 gIx (fV 4) (fC (.int 1)))))) [some (.scr ns),some (.int i),some (.int m),some (.int fl),some (iD os),some (.int gr),some (iD ws),some (.int k),some (.int (2*k+3)),some (.int 0)]=.ok (decide (os.getD (2*k+3) 0<th)):=Yk (Zn (Zn rfl rfl j0) (Zn rfl (Zn rfl rfl jj) ith) (by simp));have sl':(ws.map D.int).length<lim:=by rw [Ae];exact sl
  have all:∀z:Int,0<=z/\z<=1000000000000000000->∀x∈ws++[z],0<=x/\x<=1000000000000000000:=fun z hz x hx=>by rcases Ad.mp hx with h | h;exact wok x h;rw [An.mp h];exact hz
  refine ⟨_,rfl,.inl ?_⟩;by_cases d:os.getD (2*k+3) 0<th;refine ⟨[some (.scr ns),some (.int i),some (.int m),some (.int fl),some (iD os),some (.int gr),some (iD (ws++[wt])),some (.int k),some (.int (2*k+3)),some (.int wt)],.inl ?_,_,_,_,_,by rw [Ao,wl];rfl,all wt wt1,rfl⟩;rw [show iD (ws++[wt])=.lst (ws.map D.int++[.int wt]) from congrArg D.lst Bv];exact Zo (Xe (Zn (Zn rfl rfl t3) rfl rfl)) (Zo (Xe rfl) (Zo (Jf (c.trans (congrArg Dl.R.ok (decide_eq_true d))) (Xe (Zfn (Zn (Jm (Ze rfl (Ze rfl (Ze (Zn rfl rfl t1) (Ze (Zn rfl rfl t2) rfl)))) rfl) (Zn rfl (Zn rfl rfl rfl) j1) iw) rfl))) (Zlt rfl (Zfn rfl rfl) sl')));refine ⟨[some (.scr ns),some (.int i),some (.int m),some (.int fl),some (iD os),some (.int gr),some (iD (ws++[0])),some (.int k),some (.int (2*k+3)),some (.int 0)],.inl ?_,_,_,_,_,by rw [Ao,wl];rfl,all 0 ⟨by decide,by decide⟩,rfl⟩;rw [show iD (ws++[0])=.lst (ws.map D.int++[.int 0]) from congrArg D.lst Bv];exact Zo (Xe (Zn (Zn rfl rfl t3) rfl rfl)) (Zo (Xe rfl) (Zo (Yh (c.trans (congrArg Dl.R.ok (decide_eq_false d))) rfl) (Zlt rfl (Zfn rfl rfl) sl')));rintro ρ ⟨ws,o7,o8,o9,wl,wok,rfl⟩;rw [Zcu] at wl;exact ⟨ws,o7,o8,o9,wl,wok,rfl⟩
end Dl
namespace Dl
def S:Nat->(Nat->Int)->Int
 | 0,_=>0
 | n+1,f=>S n f+f n
def pth (e:Nat->Nat->Int)(a:Nat):Nat->List Int
 | 0=>[1]
 | d+1=>pth e a d++[S (d+1) fun i=>e (a+i) (a+d+1)*(pth e a d).getD i 0]
def W (e:Nat->Nat->Int)(a d:Nat):Int:=(pth e a d).getD d 0
end Dl
namespace Dl
open PySem
variable {d:D}{ns ws os vs qs:List Int}{ks:List Kd}{α β:Type}{b:FB}{s:FS}{Q:Fl->Prop}{ρ ρ1 ρ':Env}{n m j N:Nat}{z x t nm:Str}{y:Int×Str}{xs ds:List D}{i c s3 s0 s1 s2:Int}{zs:List Str}{e:FE}{rs:List (List Int)}{pl:List (List (Int×Str))}{L:List (Kd×Int)}{p:R (D×Env)}{q:Kd×Int}{ps:List (Int×Str)}{lo hi:Option Int}{K:List (Int ⊕ Str)}
def Xhv (ns:List Int)(ks:List Kd)(cs:List Int):Int:=cs.getD (cs.length - 1) 0+((ks.filter fun k=>good ns k ((cs.length:Int) - k.w)).map fun k=>cs.getD ((cs.length:Int) - k.w).toNat 0).sum
def cnts (ns:List Int)(ks:List Kd):Nat->List Int
 | 0=>[1]
 | j+1=>cnts ns ks j++[Xhv ns ks (cnts ns ks j)]
def cnt (ns:List Int)(ks:List Kd)(j:Nat):Int:=(cnts ns ks j).getD j 0
abbrev Cut:=List (Int×Str)×Int
def addK (ns:List Int)(rows:List (List Cut))(e:Nat)(k:Kd):List Cut:=if good ns k ((e:Int) - k.w)=true then (rows.getD ((e:Int) - k.w).toNat []).map fun c=>(c.1++[((e:Int) - k.w,k.name)],c.2+k.wo) else []
def rowOf (ns:List Int)(ks:List Kd)(rows:List (List Cut)):List Cut:=rows.getD (rows.length - 1) []++(ks.map (addK ns rows rows.length)).flatten
def Xog (ns:List Int)(ks:List Kd):Nat->List (List Cut)
 | 0=>[[([],0)]]
 | j+1=>Xog ns ks j++[rowOf ns ks (Xog ns ks j)]
mutual
theorem Zln:∀d:D,dep d<=20->eqv d d=true
 | .non,_=>rfl
 | .bl b,_=>beq_self_eq_true b
 | .int b,_=>beq_self_eq_true b
 | .str b,_=>beq_self_eq_true b
 | .lst xs,h=>Zjm xs (Gm h)
 | .tup xs,h=>Zjm xs (Gm h)
 | .scr _,h=>absurd h (by decide:¬100<=20)
 | .rng _ _,h=>absurd h (by decide:¬100<=20)
 | .exc _ _,h=>absurd h (by decide:¬100<=20)
 | .obj _ _ _,h=>absurd h (by decide:¬100<=20)
 | .dct _ _,h=>absurd h (by decide:¬100<=20)
 | .dtt _ _,h=>absurd h (by decide:¬100<=20)
 | .flst _,h=>absurd h (by decide:¬100<=20)
 | .fdt _ _,h=>absurd h (by decide:¬100<=20)
theorem Zjm:∀xs:List D,Zmb xs<=20->Xkd xs xs=true
 | [],_=>rfl
 | x::xs,h=>by have a:dep x<=20/\Zmb xs<=20:=Nat.max_le.mp h;show (eqv x x&&Xkd xs xs)=true;rw [Zln x a.1,Zjm xs a.2];rfl
end
theorem Zrr (h:dep d<=20):gEq d d=some (.bl true):=by unfold gEq;rw [if_pos ⟨h,h⟩,Zln d h]
theorem Zeg {α:Type}{f:α->D}{n:Nat}(h:∀a,dep (f a)<=n):∀xs:List α,Zmb (xs.map f)<=n
 | []=>D9 _
 | x::xs=>by rw [AH,Zmb];have:=h x;have:=Zeg h xs;omega
theorem Zwi (ns:List Int):dep (iD ns)<=1:=by rw [iD,dep];have:=Zeg (f:=D.int) (n:=0) (fun _=>by simp [dep]) ns;omega
theorem Xov (k:Kd):dep (kD k)<=1:=by simp [kD,dep,Zmb]
theorem Xpt (ks:List Kd):dep (tD ks)<=2:=by rw [tD,dep];have:=Zeg (f:=kD) Xov ks;omega
def hStep (ns:List Int)(ks:List Kd)(ts:List Int):Int:=maxL (ts.getD (ts.length - 1) 0::(ks.filter fun k=>good ns k ((ts.length:Int) - k.w)).map fun k=>ts.getD ((ts.length:Int) - k.w).toNat 0+k.wo)
def hts (ns:List Int)(ks:List Kd):Nat->List Int
 | 0=>[0]
 | j+1=>hts ns ks j++[hStep ns ks (hts ns ks j)]
def ht (ns:List Int)(ks:List Kd)(j:Nat):Int:=(hts ns ks j).getD j 0
theorem eq_str (a b:Str):gEq (.str a) (.str b)=some (.bl (a==b)):=rfl
theorem eq_int (a b:Int):gEq (.int a) (.int b)=some (.bl (a==b)):=rfl
theorem ne_int (a b:Int):gNe (.int a) (.int b)=some (.bl (!(a==b))):=rfl
inductive Way (ns:List Int)(ks:List Kd):Nat->Nat->Int->Prop where
 | nil (a:Nat):Way ns ks a a 0
 | skip {a b:Nat} {w:Int}:Way ns ks a b w->b+1<=ns.length->Way ns ks a (b+1) w
 | piece {a b:Nat} {w:Int} {k:Kd}:Way ns ks a b w->k∈ks->good ns k (b:Int)=true->Way ns ks a (b+k.w.toNat) (w+k.wo)
def V {α:Type}:R α->(α->Prop)->Prop
 | .ok a,Q=>Q a
 | .err _ _,_=>False
 | .bad,_=>False
@[simp] theorem V_ok (a:α)(Q:α->Prop):V (.ok a) Q=Q a:=(rfl)
theorem Zze (r:R α)(f:α->R β)(Q:β->Prop):V (r.bind f) Q=V r fun a=>V (f a) Q:=by cases r<;>rfl
theorem V.imp {r:R α}{Q Q':α->Prop}(h:V r Q)(g:∀a,Q a->Q' a):V r Q':=by
 cases r with
 | ok a=>exact g a h
 | err _ _=>exact h
 | bad=>exact h
theorem V.ex {r:R α}{Q:α->Prop}(h:V r Q):∃a,r=.ok a/\Q a:=by
 cases r with
 | ok a=>exact ⟨a,rfl,h⟩
 | err _ _=>exact h.elim
 | bad=>exact h.elim
theorem V.eq {r:R α}{a:α}(h:V r (·=a)):r=.ok a:=by obtain ⟨b,e,rfl⟩:=h.ex;exact e
theorem V.of {r:R α}{a:α}{Q:α->Prop}(e:r=.ok a)(h:Q a):V r Q:=by rw [e];exact h
def turn (b:FB)(s:FS)(x:D)(ρ:Env):R Fl:=(b x ρ).calm.bind s
def Tn (P:Env->Prop)(Q:Fl->Prop):Fl->Prop
 | .nx ρ=>P ρ
 | .cnt ρ=>P ρ
 | .brk ρ=>Q (.nx ρ)
 | .ret d=>Q (.ret d)
@[simp] theorem Tn_nx (P:Env->Prop)(Q:Fl->Prop)(ρ:Env):Tn P Q (.nx ρ)=P ρ:=(rfl)
@[simp] theorem Tn_cnt (P:Env->Prop)(Q:Fl->Prop)(ρ:Env):Tn P Q (.cnt ρ)=P ρ:=(rfl)
@[simp] theorem Tn_brk (P:Env->Prop)(Q:Fl->Prop)(ρ:Env):Tn P Q (.brk ρ)=Q (.nx ρ):=(rfl)
@[simp] theorem Tn_ret (P:Env->Prop)(Q:Fl->Prop)(d:D):Tn P Q (.ret d)=Q (.ret d):=(rfl)
theorem Xjv {b:FB}{s:FS}{Q:Fl->Prop}{P:List D->Env->Prop}(hs:∀x r ρ,P (x::r) ρ->V (turn b s x ρ) (Tn (P r) Q))(hd:∀ρ,P [] ρ->Q (.nx ρ)):∀{xs:List D} {ρ:Env},P xs ρ->V (Zbx b s xs ρ) Q
 | [],ρ,h=>hd ρ h
 | x::xs,ρ,h=>by
  have t:=hs x xs ρ h;unfold turn at t;rw [Zze] at t;rw [Zij,Zze];refine t.imp fun ρ1 q=>?_;rw [Zze];refine q.imp fun fl q=>?_;cases fl with
  | nx ρ2=>exact Xjv hs hd q
  | cnt ρ2=>exact Xjv hs hd q
  | brk ρ2=>exact q
  | ret d=>exact q
theorem Zqy {enc:α->D}{P:List α->Env->Prop}(hs:∀x r ρ,P (x::r) ρ->V (turn b s (enc x) ρ) (Tn (P r) Q))(hd:∀ρ,P [] ρ->Q (.nx ρ)){xs:List α}(h:P xs ρ):V (Zbx b s (xs.map enc) ρ) Q:=by
 refine Xjv (P:=fun ds ρ=>∃ys:List α,ds=ys.map enc/\P ys ρ) (fun x r ρ p=>?_) (fun ρ p=>?_) ⟨xs,rfl,h⟩;obtain ⟨ys,e,p⟩:=p;cases ys with
 | nil=>cases e
 | cons y ys =>
  rw [AH,Io] at e;obtain ⟨rfl,rfl⟩:=e;refine (hs y ys ρ p).imp fun fl q=>?_;cases fl with
  | nx ρ2=>exact ⟨ys,rfl,q⟩
  | cnt ρ2=>exact ⟨ys,rfl,q⟩
  | brk ρ2=>exact q
  | ret d=>exact q
 obtain ⟨ys,e,p⟩:=p;cases ys with
 | nil=>exact hd ρ p
 | cons y ys=>cases e
@[simp] theorem Zyb (i:Nat)(s:FS)(x:D)(ρ:Env):turn (Zr i) s x ρ=s (ρ.set i (some x)):=(rfl)
@[simp] theorem ev_fJoin (a b:FE)(ρ:Env):Xbu a b ρ=(a ρ).bind fun x=>match x with | .str s=>(b ρ).bind fun y=>oR (Zwk (.str s) y) | _=>.bad:=(rfl)
theorem Zhp (cs:List String)(N:Nat)(b h:FS)(ρ:Env):Zuh cs N b h ρ=match b ρ with
 | .err c _=>if cs.contains c then (h (Aa N none)).calm else .bad
 | r=>r:=(rfl)
@[simp] theorem calm_bad :(R.bad:R α).calm=.bad:=(rfl)
@[simp] theorem gLst_7 (a0 a1 a2 a3 a4 a5 a6:D):Jq [a0,a1,a2,a3,a4,a5,a6]=some (.lst [a0,a1,a2,a3,a4,a5,a6]):=rfl
@[simp] theorem gLst_8 (a0 a1 a2 a3 a4 a5 a6 a7:D):Jq [a0,a1,a2,a3,a4,a5,a6,a7]=some (.lst [a0,a1,a2,a3,a4,a5,a6,a7]):=rfl
@[simp] theorem gLst_9 (a0 a1 a2 a3 a4 a5 a6 a7 a8:D):Jq [a0,a1,a2,a3,a4,a5,a6,a7,a8]=some (.lst [a0,a1,a2,a3,a4,a5,a6,a7,a8]):=rfl
theorem Zbi (h:plain n z=true)(e:n<=m):plain m z=true:=by unfold plain at *;rw [Ax] at *;exact ⟨decide_eq_true (AT (of_decide_eq_true h.1) e),h.2⟩
theorem Znw {y:Str}(h:plain n x=true)(g:plain m y=true):plain (n+m) (x++y)=true:=by
 unfold plain at *;rw [Ax] at *;have hl:(x++y).length=x.length+y.length:=by show (x.cps++y.cps).size=x.cps.size+y.cps.size;exact Array.size_append
 refine ⟨decide_eq_true ?_,?_⟩;have:=of_decide_eq_true h.1;have:=of_decide_eq_true g.1;omega;have e:(x++y).cps.toList=x.cps.toList++y.cps.toList:=Array.toList_append;rw [e,List.all_append,h.2,g.2];rfl
theorem Zjy:∀z∈Zbs,plain 8 z=true:=by decide +kernel
theorem add_str {y:Str}(h:plain n x=true)(g:plain m y=true)(e:n+m<=1000):Ym (.str x) (.str y)=some (.str (x++y)):=by unfold Ym;simp only [];unfold plain at h g;rw [Ax] at h g;have:=of_decide_eq_true h.1;have:=of_decide_eq_true g.1;rw [if_pos (by show _<=1000000;omega)]
@[simp] theorem Xms (i j:Nat)(g:D->D->Option D)(a:FE)(ρ:Env):Xrf i j g a ρ=(a ρ).bind fun x=>Xnf i j g x ρ:=(rfl)
@[simp] theorem ev_sDrop (e:FE)(ρ:Env):sDrop e ρ=(e ρ).bind fun _=>.ok (.nx ρ):=(rfl)
@[simp] theorem Xqi (a b:FE)(ρ:Env):Xng a b ρ=(a ρ).bind fun x=>match x with | .lst ds=>(b ρ).bind fun y=>oR (Xex (.lst ds) y) | _=>.bad:=(rfl)
def rsD (rs:List (List Int)):D:=.lst (rs.map iD)
theorem Xfz (rs:List (List Int)):dep (rsD rs)<=2:=by rw [rsD,dep];have:=Zeg (f:=iD) Zwi rs;omega
theorem Zaf {f:α->D}{xs:List α}(h:xs.length<=n)(hn:n<=1000000:=by omega):(xs.map f).length<=lim:=by rw [Ae];show _<=1000000;omega
theorem Zwp (ws:List Int):Zdm [iD ws]=some (iD ws):=by simp [Zdm,iD]
theorem Xiq (ks:List Kd):Zdm [tD ks]=some (tD ks):=by simp [Zdm,tD]
theorem Xfv {k:Nat}(h:k<ws.length):gIx (iD ws) (.int (k:Int))=some (.int (ws.getD k 0)):=Zbo rfl h
def few (need:Int):List Int->Int->Int->Int
 | [],n,t=>if need<=t then n else n+1
 | x::r,n,t=>if need<=t then n else few need r (n+1) (t+x)
theorem Zau {x:D}(hb:b x ρ=.ok ρ1):Zbx b s (x::xs) ρ=(s ρ1).bind fun fl=>match fl with
  | .nx ρ2=>Zbx b s xs ρ2
  | .cnt ρ2=>Zbx b s xs ρ2
  | .brk ρ2=>.ok (.nx ρ2)
  | .ret d=>.ok (.ret d):=by
 rw [Zij,hb];rfl
def signs:Str:=(" !\"#$&'()*+,-./0123456789:;<=>?@ABCDEFGHIJKLMNOPQRSTUVWXYZ":Str)++("[\\]^_`abcdefghijklmnopqrstuvwxyz{|}~":Str)
def Zdt (i:Int):Str:=⟨#[signs.cps.toList.getD i.toNat 0]⟩
theorem Znn:signs.cps.toList.length=94:=by decide +kernel
theorem Zvn:∀c∈signs.cps.toList,c<128:=by decide +kernel
theorem Xga (h0:0<=i)(h1:i<94):gIx (.str signs) (.int i)=some (.str (Zdt i)):=by
 have hl:=Znn;have hs:signs.length=94:=by rw [<- hl];exact (DR).symm
 unfold gIx;simp only [];rw [if_pos (by rw [hs];show 94<=1000000;omega)];have hi:i.toNat<signs.cps.toList.length:=by omega
 rw [Zlj (k:=i.toNat) (x:=signs.cps.toList.getD i.toNat 0) (by omega) (by rw [C8,Al hi];rfl)];rfl
theorem Zka (h0:0<=i)(h1:i<94):plain 1 (Zdt i)=true:=by
 have hl:=Znn;have hi:i.toNat<signs.cps.toList.length:=by omega
 have hc:=Zvn (signs.cps.toList.getD i.toNat 0) (by rw [C8,Al hi];exact BC hi);unfold plain Zdt;simp only [GW,List.all_nil,Bool.and_true,Ax,decide_eq_true_eq];exact ⟨AI 1,hc⟩
theorem Zki:∀{ts:List Str},(∀t∈ts,plain 1 t=true)->plain ts.length (Cv ("":Str) ts)=true
 | [],_=>by decide +kernel
 | [x],h=>h x (.head _)
 | x::y::r,h=>by show plain _ (x++("":Str)++Cv ("":Str) (y::r))=true;have h1:=Znw (Znw (h x (.head _)) (show plain 0 ("":Str)=true by decide +kernel)) (Zki (ts:=y::r) fun t ht=>h t (.tail _ ht));refine Zbi h1 ?_;simp only [BB];omega
theorem Ztu (zs:List Str):strsOf (zs.map D.str)=some zs:=by
 induction zs with
 | nil=>rfl
 | cons z zs ih=>simp [strsOf,ih]
theorem Zvp {s:Str}(h:∀z∈zs,plain 1000 z=true)(hs:s.length<=10)(hl:zs.length<=900):Zwk (.str s) (.lst (zs.map D.str))=some (.str (Cv s zs)):=by
 have hsum:(zs.map (·.length)).sum<=zs.length*1000:=by
  clear hl
  induction zs with
  | nil=>simp
  | cons z zs ih =>have h1:=h z (.head _);unfold plain at h1;rw [Ax] at h1;have h2:=of_decide_eq_true h1.1;have h3:=ih fun y hy=>h y (.tail _ hy);simp only [AH,List.sum_cons,BB];omega
 have hm:zs.length*s.length<=zs.length*10:=Nat.mul_le_mul_left _ hs;unfold Zwk;simp only [Ztu,FL];rw [if_pos (by show _<=1000000;omega)]
theorem Zom (ns:List Int)(h:ns.length<=63)(i0:0<=i)(i1:i<1000):∃z,Yg [.scr ns,.int i]=.ok (.str z)/\plain 9 z=true:=by
  have e9:(Aa 9 [(94:Int)]).flatten=[94,94,94,94,94,94,94,94,94]:=rfl;obtain ⟨os,hrow,hos⟩:=Zgp ns h (i:=i) i0 i1 [9,94,94,94,94,94,94,94,94,94] (by simp) (by decide);have hm9:Zat (.lst [.int 94]) (.int 9)=some (iD [94,94,94,94,94,94,94,94,94]):=Zjp (ws:=[94]) (m:=9) (by omega) (by omega) (by simp);have ha:Ym (.lst [.int 9]) (iD [94,94,94,94,94,94,94,94,94])=some (iD [9,94,94,94,94,94,94,94,94,94]):=Zhs (xs:=[9]) (by simp);have hol:os.length=10:=by rw [hos.len];rfl
  have h0:=hos.at_ 0 (by simp);have hj:∀j:Nat,1<=j->j<10->0<=os.getD j 0/\os.getD j 0<94:=fun j a b=>by
    have:=hos.at_ j (by simpa using b);have e:[(9:Int),94,94,94,94,94,94,94,94,94].getD j 0=94:=by
      have:j=1\/j=2\/j=3\/j=4\/j=5\/j=6\/j=7\/j=8\/j=9:=by omega
      rcases this with rfl | rfl | rfl | rfl | rfl | rfl | rfl | rfl | rfl<;>rfl
    rw [e] at this;exact this
  have ix0:gIx (iD os) (.int 0)=some (.int (os.getD 0 0)):=Zbo (k:=0) rfl (by omega);have hs:gSl (iD os) (some 1) (some (2+os.getD 0 0))=some (iD (cut os (some 1) (some (2+os.getD 0 0)))):=Xgn _ _ _;have hmem:∀x∈cut os (some 1) (some (2+os.getD 0 0)),0<=x/\x<94:=fun x hx=>by
    have h1:x∈os.drop 1:=by
      unfold cut at hx;have:=Cz hx;have e:Zzj os.length 0 (some 1)=1:=by unfold Zzj;simp only [];rw [if_neg (by omega)];omega
      rw [e] at this;exact this
    obtain ⟨j,hjl,rfl⟩:=List.getElem_of_mem h1;rw [Cp] at hjl;have:=hj (1+j) (by omega) (by omega);rw [List.getElem_drop];have e2:os.getD (1+j) 0=os[1+j]:=by rw [C8,Al (by omega)];rfl
    rw [<- e2];exact this
  have hcl:(cut os (some 1) (some (2+os.getD 0 0))).length<=9:=by
    unfold cut;have e:Zzj os.length 0 (some 1)=1:=by unfold Zzj;simp only [];rw [if_neg (by omega)];omega
    rw [e,Bb,Cp];omega
  generalize cut os (some 1) (some (2+os.getD 0 0))=cs at *;refine ⟨Cv ("":Str) (cs.map Zdt),?_,?_⟩
  · have hc:Zci 1 (Zr 4) Zec (f1 Xi (f2 gIx (fV 2) (fV 4))) [some (.scr ns),some (.int i),some (.str signs),some (iD os)] (cs.map D.int)=.ok (cs.map fun x=>D.str (Zdt x)):=Zeq rfl fun x hx=>by have:=Xga (hmem x hx).1 (hmem x hx).2;simp [this]
    have hjo:Zwk (.str ("":Str)) (.lst (cs.map fun x=>D.str (Zdt x)))=some (.str (Cv ("":Str) (cs.map Zdt))):=by
      have:=Zvp (zs:=cs.map Zdt) (s:=("":Str)) (fun z hz=>by
        obtain ⟨x,hx,rfl⟩:=CZ.mp hz;exact Zbi (Zka (hmem x hx).1 (hmem x hx).2) (by omega)) (by decide +kernel) (by rw [Ae];omega)
      rw [BU] at this;exact this
    have hsg:Ym (.str (" !\"#$&'()*+,-./0123456789:;<=>?@ABCDEFGHIJKLMNOPQRSTUVWXYZ":Str)) (.str ("[\\]^_`abcdefghijklmnopqrstuvwxyz{|}~":Str))=some (.str signs):=add_str (n:=60) (m:=60) (by decide +kernel) (by decide +kernel) (by omega);have hlm:(cs.map D.int).length<=lim:=by rw [Ae];show _<=1000000;omega
    have ecs:iD cs=.lst (cs.map D.int):=rfl;rw [ecs] at hs;clear hmem hos h0;generalize Cv ("":Str) (cs.map Zdt)=z at *;generalize (cs.map fun x=>D.str (Zdt x))=LL at *;generalize cs.map D.int=CC at *;generalize signs=sg at *;generalize iD [94,94,94,94,94,94,94,94,94]=R9 at *;generalize iD [9,94,94,94,94,94,94,94,94,94]=R10 at *;generalize iD os=OO at *;generalize os.getD 0 0=v0 at *;simp [Yg,Zdz,hsg,hm9,ha,hrow,ix0,hs,hlm,hc,hjo]
  have:=Zki (ts:=cs.map Zdt) fun t ht=>by obtain ⟨x,hx,rfl⟩:=CZ.mp ht;exact Zka (hmem x hx).1 (hmem x hx).2
  rw [Ae] at this;exact Zbi this hcl
def Zal:FS:=
 (sIf (cE (f2 gEq (f2 gIx (fV 2) (fC (.int 0))) (fV 1))) (Jx (f1 Xi (fV 2))) sNx)
def Zif:FS:=
  (Xm (Zhu (Zad (fV 0)) (Zr 2) Zal)
    (Zrg "NoKind" (Zb (f1 Xlx (fV 1)) Zu)))
def Zav (ds:List D):R D:=run 3 Zif ds
def Zjn:FS:=
  (Xm (Ya 3 (fA Zdm (Zb (fV 0) Zu)))
    (Xm (Xdz (f1 Xi (f2 gIx (fV 3) (fV 1))) (Zeo (Xr (Zr 4) (Xr (Zr 5) Zej))))
    (Xm (sIf (cE (f2 gEq (f2 gIx (fV 2) (fC (.int 0))) (fC (.int 3)))) (Zth 3 (fV 1) (fA Zcf (Zb (f2 Ym (fV 4) (fC (.int 1))) (Zb (fV 5) Zu)))) sNx)
    (Xm (sIf (cE (f2 gEq (f2 gIx (fV 2) (fC (.int 0))) (fC (.int 4)))) (Xlw 3 (fV 1) (f1 Xi (f2 gIx (fV 3) (fV 1)))) sNx)
    (Xm (sIf (cE (f2 gEq (f2 gIx (fV 2) (fC (.int 0))) (fC (.int 5)))) (Zth 3 (fV 1) (fA Zcf (Zb (fV 4) (Zb (f2 gIx (f2 gIx (fV 2) (fC (.int 4))) (f2 gIx (fV 2) (fC (.int 3)))) Zu)))) sNx)
    (Xm (sIf (cE (f2 gEq (f2 gIx (fV 2) (fC (.int 0))) (fC (.int 6)))) (Zth 3 (fV 1) (fA Zcf (Zb (f2 gIx (fA Jq (Zb (f1 Zzi (fC (.int 1))) (Zb (f2 Zbg (f1 Zzi (fV 4)) (fC (.int 1))) (Zb (f2 Zgf (fC (.int 10)) (fC (.int 30))) (Zb (f1 Zzi (f2 Zgf (fC (.int 10)) (fC (.int 30)))) Zu))))) (f2 gIx (fV 2) (fC (.int 3)))) (Zb (fV 5) Zu)))) sNx)
    (Xm (sIf (cE (f2 gEq (f2 gIx (fV 2) (fC (.int 0))) (fC (.int 7)))) (Zye 3 (f2 Zbg (fV 1) (fC (.int 1))) (fV 1) (fA Zcf (Zb (f2 gIx (fV 3) (fV 1)) (Zb (f2 gIx (fV 3) (f2 Zbg (fV 1) (fC (.int 1)))) Zu)))) sNx)
    (Jx (fV 3)))))))))
def Zao (ds:List D):R D:=(run 6 Zjn ds).calm
def Yq:FS:=
  (Xm (Ya 2 (Zaa 5 1 (Zad (fV 0)) (Zr 5) Zec (fA Zdm (Zb (fV 5) Zu))))
    (Xm (sIf (cE (f2 gEq (f2 gIx (fV 1) (fC (.int 0))) (fC (.int 0)))) (Jx (fSl Xge (fV 2) (Zdk (fC (.int 1))) Zfi)) sNx)
    (Xm (sIf (cE (f2 gEq (f2 gIx (fV 1) (fC (.int 0))) (fC (.int 1)))) (Jx (f2 Zoy (fV 2) (Zaa 5 1 (Zek (Zb (f2 gIx (fA Jq (Zb (fC (.int 1)) (Zb (fC (.int 1)) (Zb (fC (.int 1)) (Zb (fC (.int 195)) Zu))))) (f2 gIx (fV 1) (fC (.int 3)))) Zu)) (Zr 5) Zec (fA Jq Zu)))) sNx)
    (Xm (sIf (cE (f2 gGt (fA Zbc (Zb (fV 2) Zu)) (fC (.int 0)))) (Xm (Ya 3 (f2 Zel (f2 gIx (fV 1) (fC (.int 1))) (fA Zbc (Zb (fV 2) Zu))))
    (Xm (sIf (cE (f2 gEq (f2 gIx (fV 1) (fC (.int 0))) (fC (.int 2)))) (Zoq 2 (f2 Zbg (fV 3) (fC (.int 1))) (fV 3) (fV 3) (f2 Zbg (fV 3) (fC (.int 1)))) sNx)
    (sIf (Zot (cE (f2 gGt (f2 gIx (fV 1) (fC (.int 0))) (fC (.int 2)))) (cE (f2 gGt (fA Zbc (Zb (f2 gIx (fV 2) (fV 3)) Zu)) (fC (.int 0))))) (Xm (Ya 4 (f2 Zel (f2 gIx (fV 1) (fC (.int 2))) (fA Zbc (Zb (f2 gIx (fV 2) (fV 3)) Zu))))
    (Zsm 2 (fV 3) (Xy Zao (Zb (f2 gIx (fV 2) (fV 3)) (Zb (fV 4) (Zb (fV 1) Zu)))))) sNx))) sNx)
    (Jx (fV 2))))))
def Jh (ds:List D):R D:=(run 5 Yq ds).calm
def Zbj:FS:=
  (Xm (Zuh ["NoKind"] 8 (Ya 7 (Xy Zav (Zb (fV 1) (Zb (fV 6) Zu)))) (Jx (fC .non)))
    (Xm (sIf (cOr (cE (f2 gLt (fV 5) (fV 4))) (Zma (cE (Xy Znx (Zb (fV 0) (Zb (fV 7) (Zb (fV 5) Zu))))))) (Jx (fC .non)) sNx)
    (Xm (Xln 3 Xdg (f2 gIx (fV 7) (fC (.int 2))))
    (Ya 4 (f2 Ym (fV 5) (f2 gIx (fV 7) (fC (.int 1))))))))
def Zlf:FS:=
  (Xm (Ya 3 (fC (.int 0)))
    (Xm (Ya 4 (fC (.int 0)))
    (Xm (Zhu (Zad (fV 2)) (Zeo (Xr (Zr 5) (Xr (Zr 6) Zej))) Zbj)
    (Jx (fV 3)))))
def Zbw (ds:List D):R D:=(run 8 Zlf ds).calm
def Zck:FS:=
  (Xm (Ya 9 (f1 Xi (f2 gIx (fV 5) (fV 8))))
    (Xm (sIf (Zot (cE (f2 gEq (fV 8) (fC (.int 0)))) (cE (f2 gEq (f2 gIx (fV 5) (fC (.int 8))) (fC (.int 0))))) (Ya 9 (f2 Zbg (fV 4) (fC (.int 1)))) sNx)
    (Xm (sIf (cE (f2 gGt (f2 Zat (fV 7) (f2 Ym (fV 9) (fC (.int 1)))) (fV 4))) (Ya 9 (fC (.int 0))) sNx)
    (Xm (Ya 7 (f2 Zat (fV 7) (f2 Ym (fV 9) (fC (.int 1)))))
    (Zjr 6 (f1 Xi (fV 9)))))))
def Zme:FS:=
  (Xm (Ya 5 (Xy Xg (Zb (fV 0) (Zb (fV 1) (Zb (f2 Ym (f2 Zat (fA Jq (Zb (f2 Ym (fV 3) (fC (.int 1))) Zu)) (fC (.int 8))) (fA Jq (Zb (fC (.int 16)) Zu))) Zu)))))
    (Xm (Ya 6 (fA Jq Zu))
    (Xm (Ya 7 (fC (.int 1)))
    (Xm (Zhu (Zek (Zb (fA Zbc (Zb (fV 2) Zu)) Zu)) (Zr 8) Zck)
    (Jx (fV 6))))))
def Zay (ds:List D):R D:=(run 10 Zme ds).calm
def Zbf:FS:=
 (Zis 4 (fV 8) (f2 Zbg (f2 Zzh (fV 4) (fV 8)) (fC (.int 1))))
def Xx:FS:=
  (Xm (sIf (cOr (Zma (cE (Xy Xv (Zb (fV 6) Zu)))) (cE (f2 gIs (Xy Yl (Zb (fV 5) (Zb (fV 1) (Zb (fV 6) Zu)))) (fC .non)))) (Jx (fC .non)) sNx)
    (Zhu (Zad (fV 6)) (Zeo (Xr (Zr 7) (Xr (Zr 8) Zej))) Zbf))
def Ziz:FS:=
  (Xm (sIf (cOr (Zma (cE (f1 (Zkm "list") (fV 3)))) (cE (f2 gNe (fA Zbc (Zb (fV 3) Zu)) (fA Zbc (Zb (fV 0) Zu))))) (Jx (fC .non)) sNx)
    (Xm (Ya 4 (fA Zjo (Zb (Zaa 10 2 (Ztz (fV 1) (fV 2)) (Zeo (Xr (Zr 10) (Xr (Zr 11) Zej))) Zec (fA Zcf (Zb (f1 Xi (f2 gIx (fV 10) (fC (.int 0)))) (Zb (f1 Xi (fV 11)) Zu)))) Zu)))
    (Xm (Zhu (Ztz (fV 0) (fV 3)) (Zeo (Xr (Zr 5) (Xr (Zr 6) Zej))) Xx)
    (Xm (Ya 9 (Zaa 10 1 (Zad (fV 1)) (Zr 10) Zec (f2 Zzh (fV 4) (f2 gIx (fV 10) (fC (.int 0))))))
    (Xm (sIf (Zot (cE (f2 gGt (fA Zbc (Zb (fV 9) Zu)) (fC (.int 0)))) (cE (f2 gLt (fA Xax (Zb (fV 9) Zu)) (fC (.int 0))))) (Jx (fC .non)) sNx)
    (Jx (fV 9)))))))
def Zbp (ds:List D):R D:=(run 10 Ziz ds).calm
def Yv:FS:=
 (Xm (Ya 10 (f1 Xi (f2 gIx (fV 4) (f2 Zel (f2 gIx (fV 6) (f2 Zat (fC (.int 2)) (fV 9))) (fA Zbc (Zb (fV 4) Zu)))))) (Xm (Ya 8 (f2 Ym (fV 8) (f2 gIx (fV 6) (f2 Ym (f2 Zat (fC (.int 2)) (fV 9)) (fC (.int 1)))))) (sIf (Zot (cE (Xy Ys (Zb (fV 5) (Zb (fV 10) (Zb (fV 8) Zu))))) (cE (f2 gGt (Zsu (fV 0) (f2 gIx (fV 10) (fC (.int 0))) (fC (.int 99))) (fC (.int 0))))) (Xm (Zjr 7 (fA Zcf (Zb (f1 Xi (fV 8)) (Zb (f1 Xi (f2 gIx (fV 10) (fC (.int 0)))) Zu)))) (Xm (Ya 8 (f2 Ym (fV 8) (f2 gIx (fV 10) (fC (.int 1))))) (sIf (cE (f2 Xpm (f2 gIx (fV 10) (fC (.int 0))) (fV 0))) (Zis 0 (f2 gIx (fV 10) (fC (.int 0))) (f2 Zbg (f2 Zzh (fV 0) (f2 gIx (fV 10) (fC (.int 0)))) (fC (.int 1)))) sNx))) sNx)))
def Zeu:FM:=
  (Zfl (Ya 5 (Xy Jg (Zb (fV 3) Zu)))
    (Zfl (Ya 6 (Xy Xg (Zb (fV 1) (Zb (fV 2) (Zb (f2 Zat (fA Jq (Zb (fC (.int 8)) (Zb (fC (.int 3)) Zu))) (fC (.int 24))) Zu)))))
    (Zfl (Ya 7 (fA Jq Zu))
    (Zfl (Ya 8 (fC (.int 0)))
    (Zfl (Zhu (Zek (Zb (f2 Zat (fC (.int 24)) (fA Xjy (Zb (f2 gGt (fA Zbc (Zb (fV 4) Zu)) (fC (.int 0))) Zu))) Zu)) (Zr 9) (Zno Yv))
    (Zrw 7))))))
def Xw (ds:List D):R (D×D):=(Xqe 11 Zeu ds).calm
def Znz:FS:=
  (Xm (sIf (cE (f2 gNe (fA Zbc (Zb (fV 2) Zu)) (fA Zbc (Zb (fV 0) Zu)))) (Jx (fC (.bl false))) sNx)
    (Jx (fA Xlr (Zb (Zaa 3 2 (Ztz (fV 0) (fV 2)) (Zeo (Xr (Zr 3) (Xr (Zr 4) Zej))) Zec (f2 Zfg (Xy Zbw (Zb (fV 3) (Zb (fV 1) (Zb (fV 4) Zu)))) (fC .non))) Zu))))
def Zdr (ds:List D):R D:=(run 3 Znz ds).calm
def Znk:FS:=
  (Xm (Ya 5 (Xy Zbn (Zb (fV 0) (Zb (fV 1) (Zb (fV 4) Zu)))))
    (Xm (Ya 6 (Xy Zas (Zb (fV 0) (Zb (fV 1) (Zb (fV 4) Zu)))))
    (Xm (Ya 7 (f1 Xi (f2 gIx (Xy Xg (Zb (fV 0) (Zb (f2 Ym (fV 1) (fC (.int 1))) (Zb (fA Jq (Zb (f2 Ym (fV 2) (fC (.int 1))) Zu)) Zu)))) (fC (.int 0)))))
    (Xm (Ya 8 (Zaa 9 1 (Zek (Zb (fV 7) Zu)) (Zr 9) Zec (Xy Zak (Zb (fV 0) (Zb (f2 Ym (f2 Ym (fV 1) (fC (.int 2))) (fV 9)) (Zb (fV 3) (Zb (fV 5) Zu)))))))
    (Jx (fA Zcf (Zb (fV 8) (Zb (fV 6) Zu))))))))
def Zaw (ds:List D):R D:=(run 9 Znk ds).calm
def Zda:FS:=
 (Xgc 4 (Zaa 7 1 (Zad (fV 5)) (Zr 7) Zec (f1 Xi (f2 gIx (fV 7) (fC (.int 1))))))
def Ziw:FS:=
  (Xm (sIf (Zma (cE (Xy Zdr (Zb (fV 0) (Zb (fV 1) (Zb (fV 3) Zu)))))) (Jx (fC .non)) sNx)
    (Xm (Ya 4 (fA Jq Zu))
    (Xm (Zhu (Zad (fV 3)) (Zr 5) Zda)
    (Xm (Ya 6 (Zaa 7 2 (Ztz (Xy Zex (Zb (fV 1) Zu)) (fV 2)) (Zeo (Xr (Zr 7) (Xr (Zr 8) Zej))) Zec (f2 Zbg (fV 8) (Znv (fV 4) (fV 7)))))
    (Xm (sIf (cE (fA Xlv (Zb (Zaa 7 1 (Zad (fV 6)) (Zr 7) Zec (f2 gLt (fV 7) (fC (.int 0)))) Zu))) (Jx (fC .non)) sNx)
    (Jx (fV 6)))))))
def Zam (ds:List D):R D:=(run 7 Ziw ds).calm
def Jz:FS:=
 (sIf (Zma (cE (Xy Xz (Zb (fV 9) Zu)))) (Jx (fC (.bl false))) sNx)
def Jo:FS:=
  (Xm (Ya 8 (Xy Zam (Zb (f2 gIx (fV 4) (fC (.int 0))) (Zb (f2 gIx (fV 4) (fC (.int 1))) (Zb (f2 gIx (fV 4) (fC (.int 2))) (Zb (fV 6) Zu))))))
    (sIf (cE (f2 gIs (fV 5) (fC .non))) (sIf (cE (f2 Zfg (fV 8) (fC .non))) (Jx (fC (.bl false))) sNx) (Xm (sIf (cOr (Zma (cE (f1 (Zkm "list") (fV 8)))) (cE (f2 gNe (fV 8) (fV 5)))) (Jx (fC (.bl false))) sNx)
    (Xm (Zhu (Zad (fV 8)) (Zoz 9) Jz)
    (Zjr 8 (fC (.int 1)))))))
def Zha:FS:=
  (Xm (Ya 4 (Xy Zae (Zb (fV 0) (Zb (fV 1) (Zb (fV 2) Zu)))))
    (Xm (Ya 5 (Xy Zbp (Zb (fV 0) (Zb (fV 1) (Zb (fV 2) (Zb (fV 3) Zu))))))
    (Xm (Ya 6 (Zaa 10 1 (Zad (fV 3)) (Zr 10) Zec (fA Zdm (Zb (fV 10) Zu))))
    (Xm (Zhu (Zek (Zb (fC (.int 2)) Zu)) (Zr 7) Jo)
    (Jx (Xlq (f2 gEq (fV 4) (fA Jq (Zb (fV 0) (Zb (fV 1) (Zb (fV 2) Zu))))) (f2 gEq (fV 6) (fV 3))))))))
def Jw (ds:List D):R D:=(run 10 Zha ds).calm
def Xrb:FS:=
  (Xm (Ya 1 (Xy Xg (Zb (fV 0) (Zb (fC (.int 11)) (Zb (fA Jq (Zb (fC (.int 13)) (Zb (fC (.int 4)) (Zb (fC (.int 24)) (Zb (fC (.int 4)) (Zb (fC (.int 2)) (Zb (fC (.int 8)) (Zb (fC (.int 8)) Zu)))))))) Zu)))))
    (Xm (Xdz (Xy Zaw (Zb (fV 0) (Zb (fC (.int 0)) (Zb (fC (.int 4)) (Zb (f2 gIx (fA Jq (Zb (fC (.int 24)) (Zb (fC (.int 200)) Zu))) (fA Xjy (Zb (f2 gEq (f2 gIx (fV 1) (fC (.int 6))) (fC (.int 0))) Zu))) (Zb (fC (.int 8)) Zu)))))) (Zeo (Xr (Zr 2) (Xr (Zr 3) Zej))))
    (Xm (Ya 4 (Xy Zay (Zb (fV 0) (Zb (fC (.int 10)) (Zb (fV 3) (Zb (fC (.int 3)) (Zb (fC (.int 200)) Zu)))))))
    (Xm (sIf (Zot (cE (f2 gEq (f2 gIx (fV 1) (fC (.int 5))) (fC (.int 0)))) (cE (f2 gGt (fA Zbc (Zb (fV 4) Zu)) (fC (.int 0))))) (Zth 4 (f2 Zel (f2 gIx (fV 1) (fC (.int 2))) (fA Zbc (Zb (fV 4) Zu))) (f2 Ym (f2 Zgf (fC (.int 10)) (fC (.int 30))) (f2 gIx (fV 1) (fC (.int 0))))) sNx)
    (Xm (Ya 5 (fC (.dct [] [])))
    (Xm (sIf (cE (f2 gEq (f2 gIx (fV 1) (fC (.int 4))) (fC (.int 0)))) (Ya 5 (fA Zjo (Zb (Zaa 8 2 (Ztz (fV 3) (fV 4)) (Zeo (Xr (Zr 8) (Xr (Zr 9) Zej))) Zec (fA Zcf (Zb (f1 Xi (f2 gIx (fV 8) (fC (.int 0)))) (Zb (f1 Xi (fV 9)) Zu)))) Zu))) sNx)
    (Xm (Zuy 6 (Zkg 8 5 (Zek (Zb (fA Zbc (Zb (fV 2) Zu)) Zu)) (Zgn 5 Xw (Zb (fV 0) (Zb (f2 Ym (fC (.int 12)) (fV 8)) (Zb (f2 gIx (fV 2) (fV 8)) (Zb (fV 3) Zu)))))))
    (Xm (sIf (Zma (cE (Xy Jw (Zb (fV 2) (Zb (fV 3) (Zb (fV 4) (Zb (fV 6) Zu))))))) (Jx (fC (.bl false))) sNx)
    (Xm (sIf (cE (f2 gLt (f2 gIx (fV 1) (fC (.int 0))) (fC (.int 8)))) (Xm (Ya 7 (f2 Ym (fA Jq (Zb (fC (.str ("":Str))) (Zb (fC (.str ("A":Str))) (Zb (Xy Yg (Zb (fV 0) (Zb (fC (.int 40)) Zu))) Zu)))) (Zaa 8 1 (Zad (fSl gSl (fV 3) Zfi (Zdk (fC (.int 1))))) (Zr 8) Zec (f1 Xi (f2 gIx (fV 8) (fC (.int 0)))))))
    (Xm (Ya 7 (fSl gSl (f2 Ym (fV 7) (fA Jq (Zb (fC (.str ("zzzzzzzzz":Str))) Zu))) Zfi (Zdk (fC (.int 4)))))
    (Jx (Xy Jw (Zb (fV 2) (Zb (fV 3) (Zb (fV 4) (Zb (Xy Jh (Zb (fV 6) (Zb (f2 Zoy (fSl Xge (fV 1) Zfi (Zdk (fC (.int 4)))) (fA Jq (Zb (fV 7) Zu))) Zu))) Zu)))))))) sNx)
    (Jx (fC (.bl true))))))))))))
def Xlh (ds:List D):R D:=(run 8 Xrb ds).calm
theorem Zto (ks:List Kd)(hk:ks.length<=1000)(hp:plain 100 t=true)(hn:∀k∈ks,k.name≠t):Zav [tD ks,.str t]=.err "NoKind" none:=by
  have key:=Zei (b:=Zr 2) (s:=Zal) (xs:=ks.map kD) (ρ:=[some (tD ks),some (.str t),none]) (P:=fun _ ρ=>∃o,ρ=[some (tD ks),some (.str t),o]) (Rr:=fun r=>∃o,r=.ok (.nx [some (tD ks),some (.str t),o])) ⟨none,rfl⟩ (by
    rintro i x ρ hx ⟨o,rfl⟩;rw [Bh] at hx;obtain ⟨k,hk',rfl⟩:=AB.mp hx;have hne:=hn k (AU hk');refine ⟨_,rfl,.inl ⟨[some (tD ks),some (.str t),some (kD k)],.inl ?_,_,rfl⟩⟩;generalize tD ks=T;simp [Zal,eq_str,hne]) (fun ρ h=>by obtain ⟨o,rfl⟩:=h;exact ⟨o,rfl⟩)
  obtain ⟨o,key⟩:=key;have hl:(ks.map kD).length<=lim:=by rw [Ae];show _<=1000000;omega
  have hf:Xlx (.str t)=some (.str t):=by unfold Xlx;simp only [];rw [if_pos hp]
  have ht:tD ks=.lst (ks.map kD):=rfl;rw [ht] at key ⊢;generalize ks.map kD=KK at *;simp [Zav,Zif,hl,key,hf]
theorem Xbx (ks:List Kd)(hk:ks.length<=1000){k:Kd}(hf:(ks.find? fun k=>k.name==t)=some k):Zav [tD ks,.str t]=.ok (kD k):=by
 have key:V (Zbx (Zr 2) Zal (ks.map kD) [some (tD ks),some (.str t),none]) (·=.ret (kD k)):=by refine Zqy (P:=fun r ρ=>(r.find? fun k=>k.name==t)=some k/\∃o,ρ=[some (tD ks),some (.str t),o]) ?_ ?_ ⟨hf,none,rfl⟩;rintro x r ρ ⟨e,o,rfl⟩;rw [CM] at e;generalize tD ks=T;by_cases hx:x.name=t;rw [show (x.name==t)=true by simp [hx]] at e;cases e;simp [Zal,hx];rw [show (x.name==t)=false by simp [hx]] at e;simp [Zal,hx];exact e;rintro ρ ⟨e,-⟩;cases e
 have hl:(ks.map kD).length<=lim:=by rw [Ae];show _<=1000000;omega
 have ht:tD ks=.lst (ks.map kD):=rfl;have key:=key.eq;rw [ht] at key ⊢;generalize ks.map kD=KK at *;simp [Zav,Zif,hl,key]
def amt (ns:List Int)(ks:List Kd):List (Int×Str)->Int->Int->Option Int
 | [],t,_=>some t
 | x::r,t,f=>match ks.find? fun k=>k.name==x.2 with
  | none=>none
  | some k=>if x.1<f\/good ns k x.1=false then none else amt ns ks r (t+k.wo) (x.1+k.w)
def oI:Option Int->D
 | none=>.non
 | some v=>.int v
theorem Zug (ns:List Int)(ks:List Kd)(hk:ks.length<=1000)(hw:∀k∈ks,1<=k.w)(ps:List (Int×Str))(hl:ps.length<=1000)(hp:∀x∈ps,plain 100 x.2=true):Zbw [iD ns,tD ks,psD ps]=.ok (oI (amt ns ks ps 0 0)):=by
 have loop:V (Zbx (Zeo (Xr (Zr 5) (Xr (Zr 6) Zej))) Zbj (ps.map pD) [some (iD ns),some (tD ks),some (psD ps),some (.int 0),some (.int 0),none,none,none]) (fun fl=>(fl=.ret .non/\amt ns ks ps 0 0=none)\/∃t f o5 o6 o7,fl=.nx [some (iD ns),some (tD ks),some (psD ps),some (.int t),some (.int f),o5,o6,o7]/\amt ns ks ps 0 0=some t):=by
  refine Zqy (P:=fun r ρ=>(∀x∈r,plain 100 x.2=true)/\∃t f o5 o6 o7,ρ=[some (iD ns),some (tD ks),some (psD ps),some (.int t),some (.int f),o5,o6,o7]/\amt ns ks ps 0 0=amt ns ks r t f) ?_ ?_ ⟨hp,0,0,none,none,none,rfl,rfl⟩;rintro x r ρ ⟨hp,t,f,o5,o6,o7,rfl,e⟩;rw [e];have hx:=hp x (.head _);have hr:∀x∈r,plain 100 x.2=true:=fun y hy=>hp y (.tail _ hy);cases hf:ks.find? fun k=>k.name==x.2 with
  | none =>
   have h:=Zto ks hk hx fun k hk'=>by simpa using FR.mp hf k hk'
   have ea:amt ns ks (x::r) t f=none:=by rw [amt,hf]
   generalize iD ns=A at *;generalize tD ks=T at *;generalize psD ps=PS at *;simp [turn,pD,Zbj,Zhp,h,ea]
  | some k =>
   have h:=Xbx ks hk hf;have hg:=Xij ns k x.1 (hw k (Dg hf));have ea:amt ns ks (x::r) t f=if x.1<f\/good ns k x.1=false then none else amt ns ks r (t+k.wo) (x.1+k.w):=by rw [amt,hf]
   rw [ea];generalize iD ns=A at *;generalize tD ks=T at *;generalize psD ps=PS at *;by_cases h1:x.1<f;simp [turn,pD,Zbj,Zhp,h,h1];cases h2:good ns k x.1 with
   | false =>rw [h2] at hg;simp [turn,pD,Zbj,Zhp,h,h1,hg]
   | true =>rw [h2] at hg;simp [turn,pD,Zbj,Zhp,h,h1,hg];exact ⟨fun a b hb=>hr (a,b) hb,_,_,⟨rfl,rfl⟩,rfl⟩
  rintro ρ ⟨-,t,f,o5,o6,o7,rfl,e⟩;exact .inr ⟨t,f,o5,o6,o7,rfl,e⟩
 obtain ⟨fl,e,h⟩:=loop.ex;have hlm:(ps.map pD).length<=lim:=Zaf hl;have hps:psD ps=.lst (ps.map pD):=rfl;rw [hps] at e h ⊢;generalize ps.map pD=PS at *;generalize iD ns=A at *;generalize tD ks=T at *;rcases h with ⟨rfl,ea⟩ | ⟨t,f,o5,o6,o7,rfl,ea⟩;rw [ea];simp [Zbw,Zlf,hlm,e,oI];rw [ea];simp [Zbw,Zlf,hlm,e,oI]
theorem Zub (ns:List Int)(ks:List Kd)(hn:ns.length<=900)(hk:ks.length<=1000)(hw:∀k∈ks,1<=k.w)(ps:List (Int×Str))(hl:ps.length<=1000):Yl [iD ns,tD ks,psD ps]=.ok (oI (amt ns ks ps 0 0)):=by
 have hs:=Zws ns (by omega);have loop:V (Zbx (Zeo (Xr (Zr 6) (Xr (Zr 7) Zej))) Yo (ps.map pD) [some (iD ns),some (tD ks),some (psD ps),some (iD (Zab ns)),some (.int 0),some (.int 0),none,none,none]) (fun fl=>(fl=.ret .non/\amt ns ks ps 0 0=none)\/∃t f o5 o6 o7,fl=.nx [some (iD ns),some (tD ks),some (psD ps),some (iD (Zab ns)),some (.int t),some (.int f),o5,o6,o7]/\amt ns ks ps 0 0=some t):=by
  refine Zqy (P:=fun r ρ=>∃t f o5 o6 o7,ρ=[some (iD ns),some (tD ks),some (psD ps),some (iD (Zab ns)),some (.int t),some (.int f),o5,o6,o7]/\amt ns ks ps 0 0=amt ns ks r t f) ?_ ?_ ⟨0,0,none,none,none,rfl,rfl⟩;rintro x r ρ ⟨t,f,o5,o6,o7,rfl,e⟩;rw [e];have hc:∀ρ:Env,ρ.length=9->ρ[7]?=some (some (.str x.2))->Zci 1 (Zr 9) (cE (f2 gEq (f2 gIx (fV 9) (fC (.int 0))) (fV 7))) (f1 Xi (fV 9)) ρ (ks.map kD)=.ok ((ks.filter fun k=>k.name==x.2).map kD):=by
   intro ρ hρ h7;refine Xnc hρ fun k _=>?_;obtain ⟨a0,a1,a2,a3,a4,a5,a6,a7,a8,rfl⟩:∃a0 a1 a2 a3 a4 a5 a6 a7 a8,ρ=[a0,a1,a2,a3,a4,a5,a6,a7,a8]:=by
    match ρ,hρ with
    | [a0,a1,a2,a3,a4,a5,a6,a7,a8],_=>exact ⟨_,_,_,_,_,_,_,_,_,rfl⟩
   simp only [Cf,EX,Cr] at h7;subst h7;by_cases hx:k.name=x.2<;>simp [hx]
  have et:tD ks=.lst (ks.map kD):=rfl;have hkl:(ks.map kD).length<=lim:=Zaf hk;cases hf:ks.find? fun k=>k.name==x.2 with
  | none =>
   have ea:amt ns ks (x::r) t f=none:=by rw [amt,hf]
   have e0:(ks.filter fun k=>k.name==x.2)=[]:=by rw [List.filter_eq_nil_iff];intro k hk';exact FR.mp hf k hk'
   rw [e0] at hc;rw [et];generalize ks.map kD=KK at *;generalize iD ns=A at *;generalize psD ps=PS at *;generalize iD (Zab ns)=SS at *;simp [turn,pD,Yo,ea,hkl,hc]
  | some k =>
   have hg:=Zvf ns k x.1 (hw k (Dg hf));have ea:amt ns ks (x::r) t f=if x.1<f\/good ns k x.1=false then none else amt ns ks r (t+k.wo) (x.1+k.w):=by rw [amt,hf]
   rw [ea];obtain ⟨r',e0⟩:∃r',(ks.filter fun k=>k.name==x.2)=k::r':=by
    have:(ks.filter fun k=>k.name==x.2).head?=some k:=by rw [List.head?_filter];exact hf
    cases h:ks.filter fun k=>k.name==x.2 with
    | nil=>rw [h] at this;cases this
    | cons a l=>rw [h] at this;cases this;exact ⟨l,rfl⟩
   rw [e0,AH] at hc;have z:¬(((r'.map kD).length:Int)+1=0):=by omega
   have z':(((r'.map kD).length:Int)+1==0)=false:=by simpa using z
   rw [et];generalize r'.map kD=RR at *;generalize ks.map kD=KK at *;generalize iD ns=A at *;generalize psD ps=PS at *;generalize iD (Zab ns)=SS at *;by_cases h1:x.1<f;simp [turn,pD,Yo,hkl,hc,h1,z];cases h2:good ns k x.1 with
   | false =>rw [h2] at hg;simp [turn,pD,Yo,hkl,hc,h1,hg,z]
   | true =>rw [h2] at hg;simp [turn,pD,Yo,hkl,hc,h1,hg,z];exact ⟨_,_,⟨rfl,rfl⟩,rfl⟩
  rintro ρ ⟨t,f,o5,o6,o7,rfl,e⟩;exact .inr ⟨t,f,o5,o6,o7,rfl,e⟩
 obtain ⟨fl,e,h⟩:=loop.ex;have hlm:(ps.map pD).length<=lim:=Zaf hl;have hps:psD ps=.lst (ps.map pD):=rfl;rw [hps] at e h ⊢;generalize ps.map pD=PS at *;generalize iD (Zab ns)=SS at *;generalize iD ns=A at *;generalize tD ks=T at *;rcases h with ⟨rfl,ea⟩ | ⟨t,f,o5,o6,o7,rfl,ea⟩;rw [ea];simp [Yl,Zcz,hs,hlm,e,oI];rw [ea];simp [Yl,Zcz,hs,hlm,e,oI]
theorem Xjd (ps:List (Int×Str)):dep (psD ps)<=2:=by rw [psD,dep];have:=Zeg (f:=pD) (n:=1) (fun x=>by simp [pD,dep,Zmb]) ps;omega
def plD (pl:List (List (Int×Str))):D:=.lst (pl.map psD)
def oL:Option (List Int)->D
 | none=>.non
 | some l=>iD l
def Zvl (rs:List (List Int))(ks:List Kd)(pl:List (List (Int×Str))):Bool:=decide (pl.length=rs.length)&&(rs.zip pl).all fun p=>(amt p.1 ks p.2 0 0).isSome
def Zqz (pl:List (List (Int×Str))):List Str:=pl.flatten.map (·.2)
def Zhw (ks:List Kd)(os:List Int)(c:List Str):List Int:=(ks.zip os).map fun p=>p.2 - (c.count p.1.name:Nat)
def Zdn (rs:List (List Int))(ks:List Kd)(os:List Int)(pl:List (List (Int×Str))):Option (List Int):=
 if Zvl rs ks pl=true then (if (Zhw ks os (Zqz pl)).any (fun x=>decide (x<0))=true then none else some (Zhw ks os (Zqz pl))) else none
structure Xep (pl:List (List (Int×Str))):Prop where
 l1:pl.length<=200
 l2:∀ps∈pl,ps.length<=200
 pn:∀ps∈pl,∀x∈ps,plain 100 x.2=true
theorem Zyw {α β:Type}(f:α->D)(g:β->D):∀(xs:List α) (ys:List β),Zxb (xs.map f) (ys.map g)=(xs.zip ys).map fun p=>D.tup [f p.1,g p.2]
 | [],_=>by simp [Zxb]
 | _::_,[]=>by simp [Zxb]
 | x::xs,y::ys=>by have:=Zyw f g xs ys;unfold Zxb at this ⊢;simp only [AH,E2,CU,this]
theorem Zjj {a b:FE}{f:α->D}{g:β->D}{xs:List α}{ys:List β}(ha:a ρ=.ok (.lst (xs.map f)))(hb:b ρ=.ok (.lst (ys.map g)))(hx:xs.length<=1000)(hy:ys.length<=1000):Ztz a b ρ=.ok ((xs.zip ys).map fun p=>D.tup [f p.1,g p.2]):=by unfold Ztz;rw [ha];show (b ρ).bind _=_;rw [hb];show (if (xs.map f).length<=lim/\(ys.map g).length<=lim then R.ok (Zxb (xs.map f) (ys.map g)) else .bad)=_;rw [if_pos ⟨Zaf hx,Zaf hy⟩,Zyw]
theorem all62 (l:List α)(f:α->Bool):Xlr [.lst (l.map fun x=>D.bl (f x))]=some (.bl (l.all f)):=by
 have e:(l.map fun x=>D.bl (f x))=(l.map f).map D.bl:=by rw [BU];rfl
 rw [e,all_bools];simp [List.all_map]
theorem any62 (l:List α)(f:α->Bool):Xlv [.lst (l.map fun x=>D.bl (f x))]=some (.bl (l.any f)):=by
 have e:(l.map fun x=>D.bl (f x))=(l.map f).map D.bl:=by rw [BU];rfl
 rw [e,any_bools];simp [Hd]
theorem ne62 (a b:Int):gNe (.int a) (.int b)=some (.bl (decide (a≠b))):=by by_cases h:a=b<;>simp [gNe,gEq,dep,eqv,h]
theorem Zen {f:α->D}(xs:List α):Zbc [.lst (xs.map f)]=some (.int xs.length):=by simp [Zbc]
theorem Xaq (v:Option Int):Zfg (oI v) .non=some (.bl v.isSome):=by cases v<;>rfl
theorem is_oI (v:Option Int):gIs (oI v) .non=some (.bl v.isNone):=by cases v<;>rfl
theorem Xjn {i:Nat}{ys:List D}(hv:ρ[i]?=some (some (.lst xs)))(h:e ρ=.ok (.lst ys))(hl:xs.length+ys.length<=1000000):Xgc i e ρ=.ok (.nx (ρ.set i (some (.lst (xs++ys))))):=by unfold Xgc;rw [hv];show (e ρ).bind _=_;rw [h];exact if_pos hl
theorem Xff:∀l:List Str,strsOf (l.map D.str)=some l
 | []=>rfl
 | a::l=>by show (strsOf (l.map D.str)).map (a::·)=_;rw [Xff l];rfl
theorem Xko (ks:List Kd)(hk:ks.length<=1000):Zex [tD ks]=.ok (.lst ((ks.map (·.name)).map D.str)):=by
 have hl:(ks.map kD).length<=lim:=by rw [Ae];show _<=1000000;omega
 have c1:=Zeq (n:=1) (ρ:=[some (tD ks)]) (enc:=kD) (v:=fun k:Kd=>D.str k.name) (xs:=ks) (e:=f1 Xi (f2 gIx (fV 1) (fC (.int 0)))) rfl fun k _=>by generalize tD ks=T;simp
 have e1:(ks.map fun k:Kd=>D.str k.name)=(ks.map (·.name)).map D.str:=by rw [BU];rfl
 rw [e1] at c1;generalize (ks.map (·.name)).map D.str=NM at *;have et:tD ks=.lst (ks.map kD):=rfl;rw [et] at c1 ⊢;generalize ks.map kD=KK at *;simp [Zex,Zyi,hl,c1]
section
variable (hr:rs.length<=200)(hk:ks.length<=100)(hw:∀k∈ks,1<=k.w)(hp:Xep pl)
include hr hk hw hp
theorem Zti:Zdr [rsD rs,tD ks,plD pl]=.ok (.bl (Zvl rs ks pl)):=by
 refine Zah ?_;unfold Znz;by_cases h:pl.length=rs.length;refine Zo (Yh (Yk (Zn (Jm (Ze rfl rfl) (Zen _)) (Jm (Ze rfl rfl) (Zen _)) ((ne62 _ _).trans (Zjq (by omega))))) rfl) (Jd ?_);have c:=Zrh (n:=3) (ρ:=[some (rsD rs),some (tD ks),some (plD pl)]) (xs:=rs.zip pl) (f:=fun p=>iD p.1) (g:=fun p=>psD p.2) (v:=fun p=>D.bl (amt p.1 ks p.2 0 0).isSome) (e:=f2 Zfg (Xy Zbw (Zb (fV 3) (Zb (fV 1) (Zb (fV 4) Zu)))) (fC .non)) rfl fun p hpz=>by have m:=(Ds hpz).2;exact Zn (Yc (Ze rfl (Ze rfl (Ze rfl rfl))) (Zug p.1 ks (by omega) hw p.2 (AT (hp.l2 _ m) (by omega)) (hp.pn _ m))) rfl (Xaq _)
 refine Jm (Ze (Zcn rfl (Zjj (f:=iD) (g:=psD) rfl rfl (by omega) (AT hp.l1 (by omega))) c) rfl) ?_;rw [all62];unfold Zvl;rw [decide_eq_true h,Ce];have e:Zvl rs ks pl=false:=by unfold Zvl;rw [decide_eq_false h,DL]
 rw [e];refine Zbq (Jf (Yk (Zn (Jm (Ze rfl rfl) (Zen _)) (Jm (Ze rfl rfl) (Zen _)) ((ne62 _ _).trans (Zja (by omega))))) (Jd rfl))
theorem Zsl:∀(l:List (List (Int×Str))) (c:List Str) (d0 d1 d2 d3:D) (o5:Option D),(∀ps∈l,ps.length<=200)->c.length+200*l.length<=100000->∃o5',Zbx (Zr 5) Zda (l.map psD) [some d0,some d1,some d2,some d3,some (.lst (c.map D.str)),o5,none]=.ok (.nx [some d0,some d1,some d2,some d3,some (.lst ((c++Zqz l).map D.str)),o5',none])
 | [],c,d0,d1,d2,d3,o5,_,_=>⟨o5,by unfold Zqz;simp [Zbx]⟩
 | ps::l,c,d0,d1,d2,d3,o5,h1,h2=>by
  have hps:=h1 ps (.head _);have hl2:(ps::l).length=l.length+1:=rfl;obtain ⟨o5',e⟩:=Zsl l (c++ps.map (·.2)) d0 d1 d2 d3 (some (psD ps)) (fun q hq=>h1 q (.tail _ hq)) (by rw [Ao,Ae];omega);have c1:=Zeq (n:=7) (ρ:=[some d0,some d1,some d2,some d3,some (.lst (c.map D.str)),some (psD ps),none]) (enc:=pD) (v:=fun x:Int×Str=>D.str x.2) (xs:=ps) (e:=f1 Xi (f2 gIx (fV 7) (fC (.int 1)))) rfl fun x _=>by generalize psD ps=PS;generalize c.map D.str=CC;simp [pD]
  have ex:ps.map (fun x:Int×Str=>D.str x.2)=(ps.map (·.2)).map D.str:=by rw [BU];rfl
  have s:=Xjn (i:=4) (ρ:=[some d0,some d1,some d2,some d3,some (.lst (c.map D.str)),some (psD ps),none]) (e:=Zaa 7 1 (Zad (fV 5)) (Zr 7) Zec (f1 Xi (f2 gIx (fV 7) (fC (.int 1))))) rfl (Zcn rfl (Zch rfl (Zaf (n:=200) hps)) c1) (by simp only [Ae];omega);refine ⟨o5',?_⟩;rw [AH,Zau (ρ1:=[some d0,some d1,some d2,some d3,some (.lst (c.map D.str)),some (psD ps),none]) rfl];unfold Zda;rw [s];have e2:c.map D.str++ps.map (fun x:Int×Str=>D.str x.2)=(c++ps.map (·.2)).map D.str:=by rw [ex,Bv]
  rw [e2];have e3:c++Zqz (ps::l)=c++ps.map (·.2)++Zqz l:=by unfold Zqz;simp
  rw [e3];exact e
theorem Zob (ho:os.length=ks.length):Zam [rsD rs,tD ks,iD os,plD pl]=.ok (oL (Zdn rs ks os pl)):=by
  have h1:=Zti hr hk hw hp;refine Zah ?_;unfold Ziw Zdn;by_cases h:Zvl rs ks pl=true
  · rw [h] at h1;rw [if_pos h];have hll:=hp.l1;obtain ⟨o5,e⟩:=Zsl hr hk hw hp pl [] (rsD rs) (tD ks) (iD os) (plD pl) none hp.l2 (by show 0+200*pl.length<=_;omega);rw [Ex] at e;generalize Zqz pl=C at *;have hc:=Zrh (n:=7) (ρ:=[some (rsD rs),some (tD ks),some (iD os),some (plD pl),some (.lst (C.map D.str)),o5,none]) (xs:=ks.zip os) (f:=fun p=>.str p.1.name) (g:=fun p=>.int p.2) (v:=fun p=>D.int (p.2 - (C.count p.1.name:Nat))) (e:=f2 Zbg (fV 8) (Znv (fV 4) (fV 7))) rfl fun p _=>by refine Zn rfl (y:=.int (C.count p.1.name:Nat)) ?_ rfl;unfold Znv;show (match (D.lst (C.map D.str)) with | .lst ds=>_ | _=>R.bad)=_;show oR ((strsOf (C.map D.str)).map fun l=>D.int (l.count p.1.name:Nat))=_;rw [Xff];rfl
    have ev:(ks.zip os).map (fun p:Kd×Int=>D.int (p.2 - (C.count p.1.name:Nat)))=(Zhw ks os C).map D.int:=by unfold Zhw;rw [BU];rfl
    rw [ev] at hc;have hnm:Xy Zex (Zb (fV 1) Zu) [some (rsD rs),some (tD ks),some (iD os),some (plD pl),some (.lst (C.map D.str)),o5,none]=.ok (.lst (ks.map fun k=>D.str k.name)):=Yc (Ze rfl rfl) (by
      have:=Xko ks (by omega);rw [this,BU];rfl)
    have s6:=Zcn (n:=7) (k:=2) (b:=Zeo (Xr (Zr 7) (Xr (Zr 8) Zej))) (c:=Zec) (ρ:=[some (rsD rs),some (tD ks),some (iD os),some (plD pl),some (.lst (C.map D.str)),o5,none]) rfl (Zjj (b:=fV 2) (f:=fun k:Kd=>D.str k.name) (g:=D.int) (ys:=os) hnm rfl (by omega) (by omega)) hc;have hlen:(Zhw ks os C).length<=1000:=by unfold Zhw;simp;omega
    generalize Zhw ks os C=L at *;have c2:=Zeq (n:=7) (ρ:=[some (rsD rs),some (tD ks),some (iD os),some (plD pl),some (.lst (C.map D.str)),o5,some (iD L)]) (enc:=D.int) (v:=fun x:Int=>D.bl (decide (x<0))) (xs:=L) (e:=f2 gLt (fV 7) (fC (.int 0))) rfl fun x _=>Zn rfl rfl rfl;refine Zo (Yh (Zgo (Yk (Yc (Ze rfl (Ze rfl (Ze rfl rfl))) h1))) rfl) (Zo (Xe (d:=.lst []) rfl) (Zo (Zhc (Zch rfl (Zaf (n:=200) hp.l1)) e) (Zo (Xe s6) ?_)));have any:=Jm (Ze (r:=Zu) (Zcn (n:=7) (k:=1) (b:=Zr 7) (c:=Zec) (it:=Zad (fV 6)) (ρ:=[some (rsD rs),some (tD ks),some (iD os),some (plD pl),some (.lst (C.map D.str)),o5,some (iD L)]) rfl (Zch rfl (Zaf hlen)) c2) rfl) (any62 L fun x=>decide (x<0));by_cases hn:L.any (fun x=>decide (x<0))=true;rw [if_pos hn];rw [hn] at any;exact Zbq (Jf (Yk any) (Jd rfl));rw [if_neg hn];rw [En] at hn;rw [hn] at any;exact Zo (Yh (Yk any) rfl) (Jd rfl)
  rw [En] at h;rw [h] at h1;rw [h,if_neg (by decide)];exact Zbq (Jf (Zgo (Yk (Yc (Ze rfl (Ze rfl (Ze rfl rfl))) h1))) (Jd rfl))
end
theorem Zxh (ps:List (Int×Str))(hl:ps.length<=1000):Xv [psD ps]=.ok (.bl true):=by
 have key:V (Zbx (Zr 1) Ju (ps.map pD) [some (psD ps),none]) (fun fl=>∃o,fl=.nx [some (psD ps),o]):=by refine Zqy (P:=fun r ρ=>∃o,ρ=[some (psD ps),o]) (fun p r ρ q=>?_) (fun ρ q=>?_) ⟨none,rfl⟩;obtain ⟨o,rfl⟩:=q;refine V.of (a:=.nx [some (psD ps),some (pD p)]) ?_ (by exact ⟨_,rfl⟩);have w:=Zqn p.1;have z0:gIx (pD p) (.int 0)=some (.int p.1):=rfl;have z1:gIx (pD p) (.int 1)=some (.str p.2):=rfl;have z2:Zkm "tuple" (pD p)=some (.bl true):=rfl;have z3:Zbc [pD p]=some (.int 2):=rfl;have z4:Zkm "str" (.str p.2)=some (.bl true):=rfl;rw [Zyb];generalize psD ps=PP at *;generalize pD p=X at *;simp [Ju,w,z0,z1,z2,z3,z4,ne_int];obtain ⟨o,rfl⟩:=q;exact ⟨o,rfl⟩
 obtain ⟨fl,h1,o,rfl⟩:=key.ex;have hi:Zkm "list" (psD ps)=some (.bl true):=rfl;have el:psD ps=.lst (ps.map pD):=rfl;have h2:(ps.map pD).length<=lim:=by rw [Ae];show _<=1000000;omega
 rw [el] at h1 hi ⊢;generalize ps.map pD=PP at *;simp only [Xv,Zcq];simp [hi,h2,h1]
def kL (L:List (Kd×Int)):List (Int ⊕ Str):=L.map fun p=>.inr p.1.name
def vL (L:List (Kd×Int))(c:List Str):List D:=L.map fun p=>D.int (p.2 - (c.count p.1.name:Nat))
theorem Zkx:∀(L:List (Kd×Int)) (c:List Str),Xn (vL L c)=true
 | [],_=>rfl
 | _::L,c=>by have:=Zkx L c;simp only [vL,AH,Xn,flat,Ce] at this ⊢;exact this
theorem Xlj {t:Str}{c:List Str}:∀{L:List (Kd×Int)},(∃p∈L,p.1.name=t)->∃p∈L,p.1.name=t/\dAt (kL L) (vL L c) (.inr t)=some (.int (p.2 - (c.count t:Nat)))
 | [],h=>by obtain ⟨_,h,_⟩:=h;cases h
 | q::L,h=>by by_cases e:q.1.name=t;refine ⟨q,.head _,e,?_⟩;show (if (B4 q.1.name:Int ⊕ Str)=.inr t then _ else _)=_;rw [if_pos (by rw [e])];show some (D.int (q.2 - (c.count q.1.name:Nat)))=_;rw [e];obtain ⟨p,hp,ht⟩:=h;obtain ⟨p',h1,h2,h3⟩:=Xlj (L:=L) (c:=c) ⟨p,(Aj.mp hp).resolve_left fun z=>e (by rw [<- z];exact ht),ht⟩;refine ⟨p',.tail _ h1,h2,?_⟩;show (if (B4 q.1.name:Int ⊕ Str)=.inr t then _ else _)=_;rw [if_neg fun z=>e (Eb z)];exact h3
theorem Xou {t:Str}{c:List Str}{v:Int}:∀{L:List (Kd×Int)},(∀q∈L,q.1.name=t->q.2 - (c.count t:Nat) - 1=v)->BD (fun j x=>if j=(B4 t:Int ⊕ Str) then D.int v else x) (kL L) (vL L c)=vL L (c++[t])
 | [],_=>rfl
 | q::L,h=>by
  have ih:=Xou (L:=L) fun q hq=>h q (.tail _ hq);show (if (B4 q.1.name:Int ⊕ Str)=.inr t then D.int v else D.int (q.2 - (c.count q.1.name:Nat)))::BD _ (kL L) (vL L c)=D.int (q.2 - ((c++[t]).count q.1.name:Nat))::vL L (c++[t]);rw [ih,List.count_append];by_cases e:q.1.name=t;have:=h q (.head _) e;rw [if_pos (by rw [e]),e,<- this];have:HM t [t]=1:=by simp
  rw [this];congr 2;omega;rw [if_neg fun z=>e (Eb z)];have:HM q.1.name [t]=0:=List.count_eq_zero.mpr fun z=>e (An.mp z);rw [this,Nat.add_zero]
theorem has62 (h:∃p∈L,p.1.name=t):Zuk (kL L) (.inr t)=true:=by obtain ⟨p,hp,e⟩:=h;unfold Zuk kL;rw [Hd];exact CF.mpr ⟨p,hp,by simp [e]⟩
theorem Xea (nd:(L.map fun p=>p.1.name).Nodup){p:Kd×Int}(hp:p∈L)(hq:q∈L)(e:p.1.name=q.1.name):p=q:=by
 induction L with
 | nil=>cases hp
 | cons x L ih =>rw [AH,Ap] at nd;rcases Aj.mp hp with h1 | h1<;>rcases Aj.mp hq with h2 | h2;rw [h1,h2];exact absurd (CZ.mpr ⟨q,h2,by rw [<- e,h1]⟩) nd.1;exact absurd (CZ.mpr ⟨p,h1,by rw [e,h2]⟩) nd.1;exact ih nd.2 h1 h2
def Zjz (d0 d1 d2 d3:D)(L:List (Kd×Int))(c:List Str)(o5 o6 o7 o8:Option D):Env:=[some d0,some d1,some d2,some d3,some (.dct (kL L) (vL L c)),o5,o6,o7,o8,none]
theorem Zra {d0 d1 d2 d3:D}{L:List (Kd×Int)}(nd:(L.map fun p=>p.1.name).Nodup)(hL:L.length<=100){o5 o6:Option D}:∀(ps:List (Int×Str)) (c:List Str) (o7 o8:Option D),(∀x∈ps,∃p∈L,p.1.name=x.2)->∃o7' o8',Zbx (Zeo (Xr (Zr 7) (Xr (Zr 8) Zej))) Zbf (ps.map pD) (Zjz d0 d1 d2 d3 L c o5 o6 o7 o8)=.ok (.nx (Zjz d0 d1 d2 d3 L (c++ps.map (·.2)) o5 o6 o7' o8'))
  | [],c,o7,o8,_=>⟨o7,o8,by simp [Zbx]⟩
  | x::ps,c,o7,o8,h=>by
    obtain ⟨o7',o8',e⟩:=Zra nd hL ps (c++[x.2]) (some (.int x.1)) (some (.str x.2)) fun y hy=>h y (.tail _ hy);obtain ⟨p,hp,hn,hd⟩:=Xlj (c:=c) (h x (.head _));refine ⟨o7',o8',?_⟩;rw [AH,Zau (ρ1:=Zjz d0 d1 d2 d3 L c o5 o6 (some (.int x.1)) (some (.str x.2))) rfl];have hv:f2 Zbg (f2 Zzh (fV 4) (fV 8)) (fC (.int 1)) (Zjz d0 d1 d2 d3 L c o5 o6 (some (.int x.1)) (some (.str x.2)))=.ok (.int (p.2 - (c.count x.2:Nat) - 1)):=Zn (Zn (x:=.dct (kL L) (vL L c)) (y:=.str x.2) rfl rfl (by
      show (if Xn (vL L c) then (Xbh (.str x.2)).bind fun k=>dAt (kL L) (vL L c) k else none)=_;rw [if_pos (Zkx L c)];exact hd)) rfl rfl
    have s:Zbf (Zjz d0 d1 d2 d3 L c o5 o6 (some (.int x.1)) (some (.str x.2)))=.ok (.nx (Zjz d0 d1 d2 d3 L (c++[x.2]) o5 o6 (some (.int x.1)) (some (.str x.2)))):=by unfold Zbf Zis;rw [hv];show (if flat (.int (p.2 - (c.count x.2:Nat) - 1))=true/\Xn (vL L c)=true/\(kL L).length<lim then R.ok (Fl.nx ((Zjz d0 d1 d2 d3 L c o5 o6 (some (.int x.1)) (some (.str x.2))).set 4 (some (Xgw (kL L) (vL L c) (.inr x.2) (.int (p.2 - (c.count x.2:Nat) - 1)))))) else .bad)=_;rw [if_pos ⟨rfl,Zkx L c,by unfold kL;rw [Ae];show _<1000000;omega⟩];unfold Xgw;rw [if_pos (has62 ⟨p,hp,hn⟩),Xou (v:=p.2 - (c.count x.2:Nat) - 1) fun q hq e=>by rw [Xea nd hq hp (e.trans hn.symm)]];rfl
    rw [s];have e3:c++(x::ps).map (·.2)=c++[x.2]++ps.map (·.2):=by simp
    rw [e3];exact e
theorem Zpr (l:List Int):∀a:Int,0<=l.foldl min a↔0<=a/\∀x∈l,0<=x:=by
 induction l with
 | nil=>exact fun a=>⟨fun h=>⟨h,fun _ z=>nomatch z⟩,fun h=>h.1⟩
 | cons x l ih =>intro a;rw [Er,ih,AM,Gk];exact and_assoc
theorem Xqj {l:List Int}(h:l≠[]):0<=Xed l↔∀x∈l,0<=x:=by
 cases l with
 | nil=>exact absurd rfl h
 | cons x l=>rw [AM];exact Zpr l x
theorem Zmw {ns:List Int}{ks:List Kd}:∀{ps:List (Int×Str)} {t f:Int},(amt ns ks ps t f).isSome=true->∀x∈ps,∃k∈ks,k.name=x.2
 | [],_,_,_=>fun _ h=>nomatch h
 | x::r,t,f,h=>by unfold amt at h;split at h;cases h;rename_i k hk;split at h;cases h;intro y hy;rcases Aj.mp hy with rfl | hy;exact ⟨k,Dg hk,by simpa using List.find?_some hk⟩;exact Zmw h y hy
section
variable {d0 d2 d3:D}(hk:ks.length<=100)(hw:∀k∈ks,1<=k.w)(nd:(L.map fun p=>p.1.name).Nodup)(hL:L.length<=100)(hLk:∀k∈ks,∃p∈L,p.1=k)
include hk hw nd hL hLk
theorem Znu:∀(z:List (List Int×List (Int×Str))) (c:List Str) (o5 o6 o7 o8:Option D),(∀q∈z,q.1.length<=900/\q.2.length<=200)->
  ((z.all fun q=>(amt q.1 ks q.2 0 0).isSome)=true->∃o5' o6' o7' o8',Zbx (Zeo (Xr (Zr 5) (Xr (Zr 6) Zej))) Xx (z.map fun q=>D.tup [iD q.1,psD q.2]) (Zjz d0 (tD ks) d2 d3 L c o5 o6 o7 o8)=.ok (.nx (Zjz d0 (tD ks) d2 d3 L (c++Zqz (z.map (·.2))) o5' o6' o7' o8')))/\
  ((z.all fun q=>(amt q.1 ks q.2 0 0).isSome)=false->Zbx (Zeo (Xr (Zr 5) (Xr (Zr 6) Zej))) Xx (z.map fun q=>D.tup [iD q.1,psD q.2]) (Zjz d0 (tD ks) d2 d3 L c o5 o6 o7 o8)=.ok (.ret .non))
 | [],c,o5,o6,o7,o8,_=>⟨fun _=>⟨o5,o6,o7,o8,by unfold Zqz;simp [Zbx]⟩,fun h=>by cases h⟩
 | q::z,c,o5,o6,o7,o8,h=>by
  obtain ⟨q1,q2⟩:=h q (.head _);have ic:=Zxh q.2 (by omega);have am:=Zub q.1 ks q1 (by omega) hw q.2 (by omega);have st:Zbx (Zeo (Xr (Zr 5) (Xr (Zr 6) Zej))) Xx ((q::z).map fun q=>D.tup [iD q.1,psD q.2]) (Zjz d0 (tD ks) d2 d3 L c o5 o6 o7 o8)=(Xx (Zjz d0 (tD ks) d2 d3 L c (some (iD q.1)) (some (psD q.2)) o7 o8)).bind fun fl=>match fl with
   | .nx ρ2=>Zbx (Zeo (Xr (Zr 5) (Xr (Zr 6) Zej))) Xx (z.map fun q=>D.tup [iD q.1,psD q.2]) ρ2
   | .cnt ρ2=>Zbx (Zeo (Xr (Zr 5) (Xr (Zr 6) Zej))) Xx (z.map fun q=>D.tup [iD q.1,psD q.2]) ρ2
   | .brk ρ2=>.ok (.nx ρ2)
   | .ret d=>.ok (.ret d):=by
   rw [AH,Zau (ρ1:=Zjz d0 (tD ks) d2 d3 L c (some (iD q.1)) (some (psD q.2)) o7 o8) rfl];all_goals rfl
  have c1:Zma (cE (Xy Xv (Zb (fV 6) Zu))) (Zjz d0 (tD ks) d2 d3 L c (some (iD q.1)) (some (psD q.2)) o7 o8)=.ok false:=Zgo (Yk (Yc (Ze rfl rfl) ic));have c2:f2 gIs (Xy Yl (Zb (fV 5) (Zb (fV 1) (Zb (fV 6) Zu)))) (fC .non) (Zjz d0 (tD ks) d2 d3 L c (some (iD q.1)) (some (psD q.2)) o7 o8)=.ok (.bl (amt q.1 ks q.2 0 0).isNone):=Zn (Yc (Ze rfl (Ze rfl (Ze rfl rfl))) am) rfl (is_oI _);rw [GW];cases ha:(amt q.1 ks q.2 0 0).isSome with
  | false =>
   have hn:(amt q.1 ks q.2 0 0).isNone=true:=by rw [<- Fv,ha];rfl
   rw [hn] at c2;refine ⟨fun z=>(by cases z),fun _=>?_⟩;rw [st];unfold Xx;rw [Zbq (Jf (Zfp c1 (Yk c2)) (Jd rfl))];rfl
  | true =>
   have hn:(amt q.1 ks q.2 0 0).isNone=false:=by rw [<- Fv,ha];rfl
   rw [hn] at c2;obtain ⟨o7',o8',e⟩:=Zra (d0:=d0) (d1:=tD ks) (d2:=d2) (d3:=d3) (o5:=some (iD q.1)) (o6:=some (psD q.2)) nd hL q.2 c o7 o8 fun x hx=>by obtain ⟨k,hk,e⟩:=Zmw ha x hx;obtain ⟨p,hp,rfl⟩:=hLk k hk;exact ⟨p,hp,e⟩
   have sb:Xx (Zjz d0 (tD ks) d2 d3 L c (some (iD q.1)) (some (psD q.2)) o7 o8)=.ok (.nx (Zjz d0 (tD ks) d2 d3 L (c++q.2.map (·.2)) (some (iD q.1)) (some (psD q.2)) o7' o8')):=by unfold Xx;exact Zo (Yh (Zfp c1 (Yk c2)) rfl) (Zhc (Zch rfl (Zaf (n:=200) q2)) e)
   obtain ⟨i1,i2⟩:=Znu z (c++q.2.map (·.2)) (some (iD q.1)) (some (psD q.2)) o7' o8' fun y hy=>h y (.tail _ hy);rw [st,sb,Ce];refine ⟨fun hz=>?_,fun hz=>i2 hz⟩;obtain ⟨a5,a6,a7,a8,e2⟩:=i1 hz;refine ⟨a5,a6,a7,a8,?_⟩;have e3:c++Zqz ((q::z).map (·.2))=c++q.2.map (·.2)++Zqz (z.map (·.2)):=by unfold Zqz;simp
   rw [e3];exact e2
end
theorem Zxw:∀L:List (Kd×Int),Zgm (L.map fun p=>D.tup [.str p.1.name,.int p.2])=some (L.map fun p=>(B4 p.1.name,D.int p.2))
 | []=>rfl
 | p::L=>by show (Zgm (L.map fun p=>D.tup [.str p.1.name,.int p.2])).map _=_;rw [Zxw L];rfl
theorem Xek (nd:(L.map fun p=>p.1.name).Nodup)(hL:L.length<=100):Zjo [.lst (L.map fun p=>D.tup [.str p.1.name,.int p.2])]=some (.dct (kL L) (vL L [])):=by
 show (Zgm (L.map fun p=>D.tup [.str p.1.name,.int p.2])).bind _=_;rw [Zxw];show (if (L.map fun p=>((B4 p.1.name:Int ⊕ Str),D.int p.2)).length<=1000/\((L.map fun p=>((B4 p.1.name:Int ⊕ Str),D.int p.2)).map (·.1)).Nodup then some (D.dct ((L.map fun p=>((B4 p.1.name:Int ⊕ Str),D.int p.2)).map (·.1)) ((L.map fun p=>((B4 p.1.name:Int ⊕ Str),D.int p.2)).map (·.2))) else none)=_;have e1:(L.map fun p=>((B4 p.1.name:Int ⊕ Str),D.int p.2)).map (·.1)=kL L:=by rw [BU];rfl
 have e2:(L.map fun p=>((B4 p.1.name:Int ⊕ Str),D.int p.2)).map (·.2)=vL L []:=by rw [BU];exact CQ fun p _=>by simp
 suffices hnd:(kL L).Nodup by rw [e1,e2,if_pos ⟨by rw [Ae];omega,hnd⟩]
 have:kL L=(L.map fun p=>p.1.name).map B4:=by rw [BU];rfl
 rw [this];exact Hv _ (fun a b h z=>h (Eb z)) nd
theorem Zzd (h:dep d<=20):gNe d d=some (.bl false):=by unfold gNe;rw [if_pos ⟨h,h⟩,Zln d h];rfl
theorem Xjb (pl:List (List (Int×Str))):dep (plD pl)<=3:=by rw [plD,dep];have:=Zeg (f:=psD) (n:=2) (fun x=>Xjd x) pl;omega
theorem Zkt (ps:List (Int×Str)):Zdm [psD ps]=some (psD ps):=by simp [Zdm,psD]
theorem Xqn (v:Option (List Int)):gIs (oL v) .non=some (.bl v.isNone):=by cases v<;>rfl
theorem Xak (v:Option (List Int)):Zfg (oL v) .non=some (.bl v.isSome):=by cases v<;>rfl
theorem Xca (hn:ρ.length=n)(rs:List (List Int)):Zci 1 (Zr n) Zec (fA Zdm (Zb (fV n) Zu)) ρ (rs.map iD)=.ok (rs.map iD):=Zeq hn fun r _=>Jm (Ze (by
    subst hn;unfold fV;rw [Bp (AI _),DZ];rfl) rfl) (Zwp r)
theorem Zvz (rs:List (List Int))(ks:List Kd)(ws:List Int)(hr:rs.length<=1000):Zae [rsD rs,tD ks,iD ws]=.ok (.lst [rsD rs,tD ks,iD ws]):=Zah (Jd (Jm (Ze (Zcn rfl (Zch rfl (by rw [Ae];exact AT hr (by decide))) (Xca (n:=3) (by rfl) rs)) (Ze (Jm (Ze rfl rfl) (Xiq ks)) (Ze (Jm (Ze rfl rfl) (Zwp ws)) rfl))) rfl))
section
variable (hr:rs.length<=200)(hrl:∀r∈rs,r.length<=900)(hk:ks.length<=100)(ht:Zqe ks)(ho:os.length=ks.length)(hp:Xep pl)
include hr hrl hk ht ho hp
theorem Zpy:Zbp [rsD rs,tD ks,iD os,plD pl]=.ok (oL (Zdn rs ks os pl)):=by
  have hw:∀k∈ks,1<=k.w:=fun k hk=>(ht.ok k hk).w1;refine Zah ?_;unfold Ziz Zdn;have hpl:=hp.l1;by_cases h:pl.length=rs.length
  · have hfst:(ks.zip os).map (·.1)=ks:=Gq (by omega);have hsnd:(rs.zip pl).map (·.2)=pl:=List.map_snd_zip (by omega);have hks:ks.map kD=(ks.zip os).map fun p=>kD p.1:=by
      conv=>lhs;rw [<- hfst,BU]
      rfl
    have hnd:((ks.zip os).map fun p=>p.1.name).Nodup:=by
      have:((ks.zip os).map fun p=>p.1.name)=ks.map (·.name):=by
        conv=>rhs;rw [<- hfst,BU]
        rfl
      rw [this];exact ht.nd
    have hLl:(ks.zip os).length<=100:=by rw [CL];omega
    have hLk:∀k∈ks,∃p∈ks.zip os,p.1=k:=fun k hk=>by rw [<- hfst] at hk;obtain ⟨p,h1,h2⟩:=CZ.mp hk;exact ⟨p,h1,h2⟩
    have hall:Zvl rs ks pl=(rs.zip pl).all fun p=>(amt p.1 ks p.2 0 0).isSome:=by unfold Zvl;rw [decide_eq_true h,Ce]
    have hrest:∀C,Zhw ks os C=(ks.zip os).map fun p=>p.2 - ((C.count p.1.name:Nat):Int):=fun _=>rfl;generalize hLe:ks.zip os=L at *;have c1:cOr (Zma (cE (f1 (Zkm "list") (fV 3)))) (cE (f2 gNe (fA Zbc (Zb (fV 3) Zu)) (fA Zbc (Zb (fV 0) Zu)))) [some (rsD rs),some (tD ks),some (iD os),some (plD pl),none,none,none,none,none,none]=.ok false:=Zfp (Zgo (b:=true) (Yk (Zfn rfl rfl))) (Yk (Zn (Jm (Ze rfl rfl) (Zen _)) (Jm (Ze rfl rfl) (Zen _)) ((ne62 _ _).trans (Zjq (by omega)))));have cm:=Zrh (n:=10) (ρ:=[some (rsD rs),some (tD ks),some (iD os),some (plD pl),none,none,none,none,none,none]) (xs:=L) (f:=fun p=>kD p.1) (g:=fun p=>.int p.2) (v:=fun p=>D.tup [.str p.1.name,.int p.2]) (e:=fA Zcf (Zb (f1 Xi (f2 gIx (fV 10) (fC (.int 0)))) (Zb (f1 Xi (fV 11)) Zu))) rfl fun p _=>by generalize rsD rs=a0;generalize tD ks=a1;generalize iD os=a2;generalize plD pl=a3;simp [kD]
    have s4:fA Zjo (Zb (Zaa 10 2 (Ztz (fV 1) (fV 2)) (Zeo (Xr (Zr 10) (Xr (Zr 11) Zej))) Zec (fA Zcf (Zb (f1 Xi (f2 gIx (fV 10) (fC (.int 0)))) (Zb (f1 Xi (fV 11)) Zu)))) Zu) [some (rsD rs),some (tD ks),some (iD os),some (plD pl),none,none,none,none,none,none]=.ok (.dct (kL L) (vL L [])):=Jm (Ze (Zcn rfl (by
      have:=Zjj (a:=fV 1) (b:=fV 2) (ρ:=[some (rsD rs),some (tD ks),some (iD os),some (plD pl),none,none,none,none,none,none]) (f:=kD) (g:=D.int) (xs:=ks) (ys:=os) rfl rfl (by omega) (by omega);rw [hLe] at this;exact this) cm) rfl) (Xek hnd hLl)
    obtain ⟨i1,i2⟩:=Znu (d0:=rsD rs) (d2:=iD os) (d3:=plD pl) hk hw hnd hLl hLk (rs.zip pl) [] none none none none fun q hq=>⟨hrl _ (Ds hq).1,hp.l2 _ (Ds hq).2⟩;have it:Ztz (fV 0) (fV 3) (Zjz (rsD rs) (tD ks) (iD os) (plD pl) L [] none none none none)=.ok ((rs.zip pl).map fun q=>D.tup [iD q.1,psD q.2]):=Zjj (f:=iD) (g:=psD) rfl rfl (by omega) (by omega);refine Zo (Yh c1 rfl) (Zo (Xe s4) ?_);cases ha:Zvl rs ks pl with
    | false =>rw [if_neg (by decide)];exact Zbq (Zhc it (i2 (by rw [<- hall,ha])))
    | true =>
      rw [if_pos rfl];obtain ⟨o5,o6,o7,o8,e⟩:=i1 (by rw [<- hall,ha]);rw [hsnd,Ex] at e;refine Zo (Zhc it e) ?_;generalize Zqz pl=C at *;have cr:=Zeq (n:=10) (ρ:=Zjz (rsD rs) (tD ks) (iD os) (plD pl) L C o5 o6 o7 o8) (enc:=fun p:Kd×Int=>kD p.1) (v:=fun p:Kd×Int=>D.int (p.2 - (C.count p.1.name:Nat))) (xs:=L) (e:=f2 Zzh (fV 4) (f2 gIx (fV 10) (fC (.int 0)))) rfl fun p hpL=>by obtain ⟨p',h1,h2,h3⟩:=Xlj (c:=C) (t:=p.1.name) ⟨p,hpL,rfl⟩;have:=Xea hnd h1 hpL h2;subst this;refine Zn (x:=.dct (kL L) (vL L C)) (y:=.str p'.1.name) rfl (Zn (x:=kD p'.1) rfl rfl rfl) ?_;show (if Xn (vL L C) then (Xbh (.str p'.1.name)).bind fun k=>dAt (kL L) (vL L C) k else none)=_;rw [if_pos (Zkx L C)];exact h3
      have ev:L.map (fun p:Kd×Int=>D.int (p.2 - (C.count p.1.name:Nat)))=(Zhw ks os C).map D.int:=by rw [hrest,BU];rfl
      rw [ev] at cr;have s9:=Zcn (n:=10) (k:=1) (b:=Zr 10) (c:=Zec) (it:=Zad (fV 1)) (ρ:=Zjz (rsD rs) (tD ks) (iD os) (plD pl) L C o5 o6 o7 o8) rfl (Zch (xs:=L.map fun p=>kD p.1) (by rw [<- hks];rfl) (Zaf (n:=100) hLl)) cr;refine Zo (Xe s9) ?_;generalize Zhw ks os C=Rr at *;have hmin:∀ρ:Env,ρ[9]?=some (some (iD Rr))->Zot (cE (f2 gGt (fA Zbc (Zb (fV 9) Zu)) (fC (.int 0)))) (cE (f2 gLt (fA Xax (Zb (fV 9) Zu)) (fC (.int 0)))) ρ=.ok (Rr.any fun x=>decide (x<0)):=fun ρ h9=>by
        have v9:fV 9 ρ=.ok (iD Rr):=by unfold fV;rw [h9]
        have ln:=Jm (Ze (r:=Zu) v9 rfl) (Zen (f:=D.int) Rr);by_cases hz:Rr=[];subst hz;exact Zft (Yk (Zn ln rfl rfl))
        · refine Zdc (Yk (Zn ln rfl (Zja (p:=(Rr.length:Int) > 0) (by have:=CS.mpr hz;omega)))) (Yk (Zn (Jm (Ze (r:=Zu) v9 rfl) (z:=.int (Xed Rr)) (by
            show (intsOf (Rr.map D.int)).bind _=_;rw [ints_map];exact if_neg hz)) rfl ?_))
          show some (D.bl (decide (Xed Rr<0)))=_;congr 2;rw [Cc,decide_eq_true_iff,CF];have:=Xqj hz;constructor;intro hlt;refine CT fun hno=>?_;have:0<=Xed Rr:=this.mpr fun x hx=>by refine CT fun hx0=>hno ⟨x,hx,decide_eq_true (by omega)⟩
          omega;rintro ⟨x,hx,hx0⟩;have hx0:=of_decide_eq_true hx0;refine CT fun hno=>?_;have:=this.mp (by omega) x hx;omega
      by_cases hn:Rr.any (fun x=>decide (x<0))=true;rw [if_pos hn];exact Zbq (Jf ((hmin _ rfl).trans (by rw [hn])) (Jd rfl));rw [if_neg hn];rw [En] at hn;exact Zo (Yh ((hmin _ rfl).trans (by rw [hn])) rfl) (Jd rfl)
  have e:Zvl rs ks pl=false:=by unfold Zvl;rw [decide_eq_false h,DL]
  rw [e,if_neg (by decide)];exact Zbq (Jf (Zfp (Zgo (b:=true) (Yk (Zfn rfl rfl))) (Yk (Zn (Jm (Ze rfl rfl) (Zen _)) (Jm (Ze rfl rfl) (Zen _)) ((ne62 _ _).trans (Zja (by omega)))))) (Jd rfl))
end
def Zqj (rs:List (List Int))(ks:List Kd)(os:List Int)(pl:List (List (Int×Str)))(d:Option (List Int))(o7 o8 o9:Option D):Env:=[some (rsD rs),some (tD ks),some (iD os),some (plD pl),some (.lst [rsD rs,tD ks,iD os]),some (oL d),some (plD pl),o7,o8,o9]
theorem Zgs {rs:List (List Int)}{ks:List Kd}{os:List Int}{pl:List (List (Int×Str))}{d:Option (List Int)}{o7 o8:Option D}:∀(l:List Int) (o9:Option D),∃o9',Zbx (Zoz 9) Jz (l.map D.int) (Zqj rs ks os pl d o7 o8 o9)=.ok (.nx (Zqj rs ks os pl d o7 o8 o9'))
 | [],o9=>⟨o9,rfl⟩
 | x::l,o9=>by
  obtain ⟨o9',e⟩:=Zgs l (some (.int x));refine ⟨o9',?_⟩;rw [AH,Zau (ρ1:=Zqj rs ks os pl d o7 o8 (some (.int x))) rfl];have s:Jz (Zqj rs ks os pl d o7 o8 (some (.int x)))=.ok (.nx (Zqj rs ks os pl d o7 o8 (some (.int x)))):=by unfold Jz;exact Yh (Zgo (b:=true) (Yk (Yc (Ze rfl rfl) (Zqn x)))) rfl
  rw [s];exact e
section
variable (hr:rs.length<=200)(hrl:∀r∈rs,r.length<=900)(hk:ks.length<=100)(ht:Zqe ks)(ho:os.length=ks.length)(hp:Xep pl)
include hr hrl hk ht ho hp
theorem Zke (o7 o8 o9:Option D):∃o8' o9',Jo (Zqj rs ks os pl (Zdn rs ks os pl) o7 o8 o9)=.ok (.nx (Zqj rs ks os pl (Zdn rs ks os pl) o7 o8' o9')):=by
 have hw:∀k∈ks,1<=k.w:=fun k hk=>(ht.ok k hk).w1;have h1:=Zob hr hk hw hp ho;have hlen:∀l,Zdn rs ks os pl=some l->l.length<=1000:=fun l h=>by unfold Zdn at h;split at h;split at h;cases h;cases h;unfold Zhw;rw [Ae,CL];omega;cases h
 unfold Jo;have s8:Ya 8 (Xy Zam (Zb (f2 gIx (fV 4) (fC (.int 0))) (Zb (f2 gIx (fV 4) (fC (.int 1))) (Zb (f2 gIx (fV 4) (fC (.int 2))) (Zb (fV 6) Zu))))) (Zqj rs ks os pl (Zdn rs ks os pl) o7 o8 o9)=.ok (.nx (Zqj rs ks os pl (Zdn rs ks os pl) o7 (some (oL (Zdn rs ks os pl))) o9)):=Xe (Yc (Ze (Zn (x:=.lst [rsD rs,tD ks,iD os]) rfl rfl rfl) (Ze (Zn (x:=.lst [rsD rs,tD ks,iD os]) rfl rfl rfl) (Ze (Zn (x:=.lst [rsD rs,tD ks,iD os]) rfl rfl rfl) (Ze rfl rfl)))) h1);generalize Zdn rs ks os pl=d at *;cases d with
 | none=>exact ⟨_,_,Zo s8 (Jf (Yk (Zn rfl rfl (Xqn none))) (Yh (Yk (Zn rfl rfl (Xak none))) rfl))⟩
 | some l =>have hl:=hlen l rfl;obtain ⟨o9',e⟩:=Zgs (rs:=rs) (ks:=ks) (os:=os) (pl:=pl) (d:=some l) (o7:=o7) (o8:=some (iD l)) l o9;have dl:=Zwi l;exact ⟨_,_,Zo s8 (Yh (Yk (Zn rfl rfl (Xqn (some l)))) (Zo (Yh (Zfp (Zgo (b:=true) (Yk (Zfn rfl rfl))) (Yk (Zn (x:=iD l) (y:=iD l) rfl rfl (Zzd (by omega))))) rfl) (Zo (Zhc (Zch (xs:=l.map D.int) rfl (Zaf hl)) e) (Zlt (xs:=l.map D.int) rfl rfl (by rw [Ae];show _<1000000;omega)))))⟩
theorem Ztm:Jw [rsD rs,tD ks,iD os,plD pl]=.ok (.bl true):=by
  have h1:=Zpy hr hrl hk ht ho hp;have h2:=Zvz rs ks os (by omega);have hpl:=hp.l1;refine Zah ?_;unfold Zha;have c6:=Zeq (n:=10) (ρ:=[some (rsD rs),some (tD ks),some (iD os),some (plD pl),some (.lst [rsD rs,tD ks,iD os]),some (oL (Zdn rs ks os pl)),none,none,none,none]) (enc:=psD) (v:=psD) (xs:=pl) (e:=fA Zdm (Zb (fV 10) Zu)) rfl fun x _=>Jm (Ze rfl rfl) (Zkt x);obtain ⟨a8,a9,e1⟩:=Zke hr hrl hk ht ho hp (some (.int 0)) none none;obtain ⟨b8,b9,e2⟩:=Zke hr hrl hk ht ho hp (some (.int 1)) a8 a9;have loop:Zbx (Zr 7) Jo (Zhb 0 2) (Zqj rs ks os pl (Zdn rs ks os pl) none none none)=.ok (.nx (Zqj rs ks os pl (Zdn rs ks os pl) (some (.int 1)) b8 b9)):=by have r2:Zhb 0 2=[.int 0,.int 1]:=rfl;rw [r2,Zau (ρ1:=Zqj rs ks os pl (Zdn rs ks os pl) (some (.int 0)) none none) rfl,e1];show Zbx (Zr 7) Jo [.int 1] (Zqj rs ks os pl (Zdn rs ks os pl) (some (.int 0)) a8 a9)=_;rw [Zau (ρ1:=Zqj rs ks os pl (Zdn rs ks os pl) (some (.int 1)) a8 a9) rfl,e2];rfl
  have q1:gEq (.lst [rsD rs,tD ks,iD os]) (.lst [rsD rs,tD ks,iD os])=some (.bl true):=Zrr (by
    have:=Zwi os;have:=Xpt ks;have:=Xfz rs;simp only [dep,Zmb];omega)
  have q2:gEq (plD pl) (plD pl)=some (.bl true):=Zrr (AT (Xjb pl) (by omega));exact Zo (Xe (Yc (Ze rfl (Ze rfl (Ze rfl rfl))) h2)) (Zo (Xe (Yc (Ze rfl (Ze rfl (Ze rfl (Ze rfl rfl)))) h1)) (Zo (Xe (Zcn (k:=1) rfl (Zch rfl (Zaf (n:=200) hp.l1)) c6)) (Zo (Zhc (Zlg rfl (by omega)) loop) (Jd (Xhy (Zn rfl (Jm (Ze rfl (Ze rfl (Ze rfl rfl))) rfl) q1) (Zn rfl rfl q2))))))
end
theorem Zzg {i:Nat}{k:FE}{n:Int}(he:e ρ=.ok d)(hi:ρ[i]?=some (some (.lst xs)))(hk:k ρ=.ok (.int n))(hf:flat d=true)(hx:Xn xs=true)(hj:ixD xs.length n=some j):Zth i k e ρ=.ok (.nx (ρ.set i (some (.lst (xs.set j d))))):=by unfold Zth;rw [he];show (match ρ[i]? with | some (some (.lst xs))=>_ | _=>_)=_;rw [hi];show (k ρ).bind _=_;rw [hk];show (if flat d=true/\Xn xs=true then _ else _)=_;rw [if_pos ⟨hf,hx⟩,hj]
theorem Xcr {i:Nat}{k:FE}{n:Int}(he:e ρ=.ok d)(hi:ρ[i]?=some (some (.lst xs)))(hk:k ρ=.ok (.int n))(hj:ixD xs.length n=some j):Zsm i k e ρ=.ok (.nx (ρ.set i (some (.lst (xs.set j d))))):=by unfold Zsm;rw [he,Jv,hi];show (k ρ).bind _=_;rw [hk,Jv];show (match ixD xs.length n with | some j=>R.ok (Fl.nx (ρ.set i (some (.lst (xs.set j d))))) | none=>.bad)=_;rw [hj]
theorem if62 {v:Int}{x:FE}(hx:x ρ=.ok (.int v))(h:v=c->s ρ=.ok (.nx ρ1)):sIf (cE (f2 gEq x (fC (.int c)))) s sNx ρ=.ok (.nx (if v=c then ρ1 else ρ)):=by by_cases e:v=c;rw [if_pos e];exact Jf (Yk (Zn hx rfl ((Zdl _ _).trans (Zja e)))) (h e);rw [if_neg e];exact Yh (Yk (Zn hx rfl ((Zdl _ _).trans (Zjq e)))) rfl
theorem Zap {k:Nat}(h:k<n):ixD n (k:Int)=some k:=by unfold ixD;rw [if_pos (by omega),if_pos (by omega),Ek]
theorem Zww {k:Nat}(h:k<n):∃j,j<n/\ixD n ((k:Int) - 1)=some j:=by unfold ixD;by_cases hz:k=0;exact ⟨n - 1,by omega,by rw [if_neg (by omega),if_pos (by omega)];congr 1;omega⟩;exact ⟨k - 1,by omega,by rw [if_pos (by omega),if_pos (by omega)];congr 1;omega⟩
theorem Xdf {f:α->D}{xs:List α}(h:ixD xs.length i=some j)(hj:j<xs.length):gIx (.lst (xs.map f)) (.int i)=some (f xs[j]):=by show atD (xs.map f) i=_;unfold atD;rw [Ae,h];show (xs.map f)[j]?=_;rw [Bh,Al hj];rfl
def Zcl (s0 s1 s2 s3:Int)(zs:List Str):D:=.lst [.int s0,.int s1,.int s2,.int s3,.lst (zs.map D.str)]
def eB (a0:D)(k:Nat)(S:D)(ps:List (Int×Str))(p:Int)(nm:Str):Env:=[some a0,some (.int (k:Int)),some S,some (psD ps),some (.int p),some (.str nm)]
def Bn (k m:Nat)(ps:List (Int×Str)):Prop:=k<ps.length/\ps.length<=m/\∀x∈ps,plain 100 x.2=true
theorem Bn.set {k m j:Nat}{ps:List (Int×Str)}{y:Int×Str}(h:Bn k m ps)(hy:plain 100 y.2=true):Bn k m (ps.set j y):=⟨by rw [Bw];exact h.1,by rw [Bw];exact h.2.1,fun x hx=>by
  rcases BZ hx with q | q;exact h.2.2 x q
  · rw [q];exact hy⟩
theorem putB {a0 S:D}{k:Nat}{p:Int}(h:Bn k m ps)(he:e (eB a0 k S ps p nm)=.ok (pD y)):Zth 3 (fV 1) e (eB a0 k S ps p nm)=.ok (.nx (eB a0 k S (ps.set k y) p nm)):=by have:=Zzg (i:=3) (k:=fV 1) (ρ:=eB a0 k S ps p nm) (xs:=ps.map pD) (n:=(k:Int)) (j:=k) he rfl rfl rfl (Zrz _) (by rw [Ae];exact Zap h.1);rw [this,<- Ga];rfl
theorem Xen (h0:0<=s3)(h1:s3<4):s3=0\/s3=1\/s3=2\/s3=3:=by omega
theorem Zvb {k:Nat}(hm:m<=1000)(h:Bn k m ps)(h0:0<=s3)(h1:s3<4)(hz:zs.length=4)(hzp:∀z∈zs,plain 100 z=true):∃ps',Zao [psD ps,.int (k:Int),Zcl s0 s1 s2 s3 zs]=.ok (psD ps')/\ps'.length<=m+1/\∀x∈ps',plain 100 x.2=true:=by
  obtain ⟨⟨pl,nm⟩,hpk⟩:∃y,ps[k]'h.1=y:=⟨_,rfl⟩;have ix0:∀ps' p nm,f2 gIx (fV 2) (fC (.int 0)) (eB (psD ps) k (Zcl s0 s1 s2 s3 zs) ps' p nm)=.ok (.int s0):=fun _ _ _=>Zn (x:=Zcl s0 s1 s2 s3 zs) rfl rfl rfl;have pn:plain 100 nm=true:=by have:=h.2.2 (ps[k]'h.1) (BC _);rw [hpk] at this;exact this
  have sA:Xdz (f1 Xi (f2 gIx (fV 3) (fV 1))) (Zeo (Xr (Zr 4) (Xr (Zr 5) Zej))) [some (psD ps),some (.int (k:Int)),some (Zcl s0 s1 s2 s3 zs),some (psD ps),none,none]=.ok (.nx (eB (psD ps) k (Zcl s0 s1 s2 s3 zs) ps pl nm)):=Xmw (d:=pD (pl,nm)) (Zfn (x:=pD (pl,nm)) (Zn (x:=psD ps) rfl rfl (by
    have:=Xdf (f:=pD) (Zap h.1) h.1;rw [hpk] at this;exact this)) rfl) rfl
  have st:∀{c:Int} {s:FS} {ps1:List (Int×Str)} {m1 m2:Nat},Bn k m1 ps1->m1<=m2->(s0=c->∃ps2,s (eB (psD ps) k (Zcl s0 s1 s2 s3 zs) ps1 pl nm)=.ok (.nx (eB (psD ps) k (Zcl s0 s1 s2 s3 zs) ps2 pl nm))/\Bn k m2 ps2)->∃ps2,sIf (cE (f2 gEq (f2 gIx (fV 2) (fC (.int 0))) (fC (.int c)))) s sNx (eB (psD ps) k (Zcl s0 s1 s2 s3 zs) ps1 pl nm)=.ok (.nx (eB (psD ps) k (Zcl s0 s1 s2 s3 zs) ps2 pl nm))/\Bn k m2 ps2:=fun {c s ps1 m1 m2} hb hmm hs=>by by_cases e:s0=c;obtain ⟨ps2,e2,b2⟩:=hs e;refine ⟨ps2,?_,b2⟩;have:=if62 (c:=c) (s:=s) (ix0 ps1 pl nm) fun _=>e2;rw [if_pos e] at this;exact this;refine ⟨ps1,?_,hb.1,by have:=hb.2.1;omega,hb.2.2⟩;have:=if62 (c:=c) (s:=s) (ρ1:=eB (psD ps) k (Zcl s0 s1 s2 s3 zs) ps1 pl nm) (ix0 ps1 pl nm) fun z=>absurd z e;rw [if_neg e] at this;exact this
  obtain ⟨p3,e3,b3⟩:=st (c:=3) (s:=Zth 3 (fV 1) (fA Zcf (Zb (f2 Ym (fV 4) (fC (.int 1))) (Zb (fV 5) Zu)))) h (AI _) fun _=>⟨_,putB (y:=(pl+1,nm)) h (Jm (Ze (Zn rfl rfl rfl) (Ze rfl rfl)) rfl),h.set pn⟩;obtain ⟨p4,e4,b4⟩:=st (c:=4) (s:=Xlw 3 (fV 1) (f1 Xi (f2 gIx (fV 3) (fV 1)))) (m2:=m+1) b3 (by omega) fun _=>by refine ⟨p3.take k++(p3[k]'b3.1)::p3.drop k,?_,?_⟩;have e:f1 Xi (f2 gIx (fV 3) (fV 1)) (eB (psD ps) k (Zcl s0 s1 s2 s3 zs) p3 pl nm)=.ok (pD (p3[k]'b3.1)):=Zfn (Zn (x:=psD p3) rfl rfl (Xdf (f:=pD) (Zap b3.1) b3.1)) rfl;have hb:=b3.2.1;unfold Xlw;show (R.ok (D.int (k:Int))).bind _=_;rw [Jv,e,Jv];show (if 0<=(k:Int)/\(k:Int)<=((p3.map pD).length:Nat)/\(p3.map pD).length<lim then _ else _)=_;have hk:=b3.1;rw [if_pos ⟨by omega,by rw [Ae];omega,by rw [Ae];show _<1000000;omega⟩,Ek,<- D1,<- Ez];show R.ok (Fl.nx (eB (psD ps) k (Zcl s0 s1 s2 s3 zs) p3 pl nm |>.set 3 _))=_;have:p3.take k++(p3[k]'b3.1)::p3.drop k=p3.take k++(p3[k]'b3.1)::p3.drop k:=rfl;unfold eB psD;rw [Bv,AH];rfl;refine ⟨?_,?_,fun x hx=>?_⟩;have:=b3.1;rw [Ao,BB,Bb,Cp];omega;have:=b3.1;have:=b3.2.1;rw [Ao,BB,Bb,Cp];omega;rcases Ad.mp hx with q | q;exact b3.2.2 x (Cz q);rcases Aj.mp q with q | q;rw [q];exact b3.2.2 _ (BC _);exact b3.2.2 x (Fo q)
  obtain ⟨p5,e5,b5⟩:=st (c:=5) (s:=Zth 3 (fV 1) (fA Zcf (Zb (fV 4) (Zb (f2 gIx (f2 gIx (fV 2) (fC (.int 4))) (f2 gIx (fV 2) (fC (.int 3)))) Zu)))) b4 (AI _) fun _=>by
    have hi:s3.toNat<zs.length:=by omega
    exact ⟨_,putB (y:=(pl,zs[s3.toNat])) b4 (Jm (Ze rfl (Ze (Zn (Zn (x:=Zcl s0 s1 s2 s3 zs) (z:=.lst (zs.map D.str)) rfl rfl rfl) (Zn (x:=Zcl s0 s1 s2 s3 zs) rfl rfl rfl) (Xdf (f:=D.str) (by
      have:=Zap hi;rw [Cs h0] at this;exact this) hi)) rfl)) rfl),b4.set (hzp _ (BC _))⟩
  obtain ⟨p6,e6,b6⟩:=st (c:=6) (s:=Zth 3 (fV 1) (fA Zcf (Zb (f2 gIx (fA Jq (Zb (f1 Zzi (fC (.int 1))) (Zb (f2 Zbg (f1 Zzi (fV 4)) (fC (.int 1))) (Zb (f2 Zgf (fC (.int 10)) (fC (.int 30))) (Zb (f1 Zzi (f2 Zgf (fC (.int 10)) (fC (.int 30)))) Zu))))) (f2 gIx (fV 2) (fC (.int 3)))) (Zb (fV 5) Zu)))) b5 (AI _) fun _=>by
    have hg:∃v,gIx (.lst [.int (-1),.int (-pl - 1),.int (10 ^ 30),.int (-(10 ^ 30))]) (.int s3)=some (.int v):=by rcases Xen h0 h1 with rfl | rfl | rfl | rfl;exact ⟨_,rfl⟩;exact ⟨_,rfl⟩;exact ⟨_,rfl⟩;exact ⟨_,rfl⟩
    obtain ⟨v,hv⟩:=hg;exact ⟨_,putB (y:=(v,nm)) b5 (Jm (Ze (Zn (Jm (z:=.lst [.int (-1),.int (-pl - 1),.int (10 ^ 30),.int (-(10 ^ 30))]) (Ze rfl (Ze rfl (Ze (Zn rfl rfl rfl) (Ze (Zfn (Zn rfl rfl rfl) rfl) rfl)))) rfl) (Zn (x:=Zcl s0 s1 s2 s3 zs) rfl rfl rfl) hv) (Ze rfl rfl)) rfl),b5.set pn⟩
  obtain ⟨p7,e7,b7⟩:=st (c:=7) (s:=Zye 3 (f2 Zbg (fV 1) (fC (.int 1))) (fV 1) (fA Zcf (Zb (f2 gIx (fV 3) (fV 1)) (Zb (f2 gIx (fV 3) (f2 Zbg (fV 1) (fC (.int 1)))) Zu)))) b6 (AI _) fun _=>by
    obtain ⟨j,hj,ej⟩:=Zww b6.1;refine ⟨(p6.set j (p6[k]'b6.1)).set k p6[j],?_,(b6.set (b6.2.2 _ (BC _))).set (b6.2.2 _ (BC _))⟩;have et:fA Zcf (Zb (f2 gIx (fV 3) (fV 1)) (Zb (f2 gIx (fV 3) (f2 Zbg (fV 1) (fC (.int 1)))) Zu)) (eB (psD ps) k (Zcl s0 s1 s2 s3 zs) p6 pl nm)=.ok (.tup [pD (p6[k]'b6.1),pD p6[j]]):=Jm (Ze (Zn (x:=psD p6) rfl rfl (Xdf (f:=pD) (Zap b6.1) b6.1)) (Ze (Zn (x:=psD p6) rfl (Zn rfl rfl rfl) (Xdf (f:=pD) ej hj)) rfl)) rfl;have bp:∀{q:List (Int×Str)} {kk:FE} {n:Int} {i:Nat} {y:Int×Str},kk (eB (psD ps) k (Zcl s0 s1 s2 s3 zs) q pl nm)=.ok (.int n)->ixD q.length n=some i->Xma 3 kk (pD y) (eB (psD ps) k (Zcl s0 s1 s2 s3 zs) q pl nm)=.ok (eB (psD ps) k (Zcl s0 s1 s2 s3 zs) (q.set i y) pl nm):=fun {q kk n i y} h1 h2=>by unfold Xma;show (kk (eB (psD ps) k (Zcl s0 s1 s2 s3 zs) q pl nm)).bind _=_;rw [h1,Jv];show (if flat (pD y)=true/\Xn (q.map pD)=true then _ else _)=_;rw [if_pos ⟨rfl,Zrz _⟩,Ae,h2];show R.ok ((eB (psD ps) k (Zcl s0 s1 s2 s3 zs) q pl nm).set 3 (some (.lst ((q.map pD).set i (pD y)))))=_;rw [<- Ga];rfl
    unfold Zye;rw [et,Jv];show (if flat (pD (p6[k]'b6.1))=true/\flat (pD p6[j])=true then _ else _)=_;rw [if_pos ⟨rfl,rfl⟩,bp (n:=(k:Int) - 1) (Zn rfl rfl rfl) ej,Jv,bp (n:=(k:Int)) rfl (by rw [Bw];exact Zap b6.1),Jv]
  refine ⟨p7,Zah ?_,b7.2.1,b7.2.2⟩;unfold Zjn;exact Zo (Xe (Jm (Ze rfl rfl) (Zkt ps))) (Zo sA (Zo e3 (Zo e4 (Zo e5 (Zo e6 (Zo e7 (Jd rfl)))))))
def Zon (a0 S:D)(pl:List (List (Int×Str)))(o3 o4:Option D):Env:=[some a0,some S,some (plD pl),o3,o4]
theorem Zhx (f:α->β)(xs:List α)(lo hi:Option Int):cut (xs.map f) lo hi=(cut xs lo hi).map f:=by unfold cut;rw [Ae,D1,Ez]
theorem Zof {xs:List α}{x:α}(h:x∈cut xs lo hi):x∈xs:=Fo (Cz h)
theorem Zvm {xs:List α}:(cut xs lo hi).length<=xs.length:=by unfold cut;rw [Bb,Cp];omega
theorem Zxi (h0:0<=s3)(h1:s3<4):∃m:Nat,m<=195/\gIx (.lst [.int 1,.int 1,.int 1,.int 195]) (.int s3)=some (.int (m:Int)):=by rcases Xen h0 h1 with rfl | rfl | rfl | rfl;exact ⟨1,by omega,rfl⟩;exact ⟨1,by omega,rfl⟩;exact ⟨1,by omega,rfl⟩;exact ⟨195,by omega,rfl⟩
theorem Zoo (hl:pl.length<=4)(h2:∀ps∈pl,ps.length<=100)(hp:∀ps∈pl,∀x∈ps,plain 100 x.2=true)(h0:0<=s3)(h1:s3<4)(hz:zs.length=4)(hzp:∀z∈zs,plain 100 z=true) :
    ∃pl',Jh [plD pl,Zcl s0 s1 s2 s3 zs]=.ok (plD pl')/\Xep pl':=by
  have hS:∀(q:List (List (Int×Str))) (o3 o4:Option D) (i:Int) (d:D),gIx (Zcl s0 s1 s2 s3 zs) (.int i)=some d->f2 gIx (fV 1) (fC (.int i)) (Zon (plD pl) (Zcl s0 s1 s2 s3 zs) q o3 o4)=.ok d:=fun q o3 o4 i d h=>Zn (x:=Zcl s0 s1 s2 s3 zs) rfl rfl h;have okp:Xep pl:=⟨by omega,fun ps h=>AT (h2 ps h) (by omega),hp⟩;have c2:=Zeq (n:=5) (ρ:=[some (plD pl),some (Zcl s0 s1 s2 s3 zs),none,none,none]) (enc:=psD) (v:=psD) (xs:=pl) (e:=fA Zdm (Zb (fV 5) Zu)) rfl fun x _=>Jm (Ze rfl rfl) (Zkt x);have s2':Ya 2 (Zaa 5 1 (Zad (fV 0)) (Zr 5) Zec (fA Zdm (Zb (fV 5) Zu))) [some (plD pl),some (Zcl s0 s1 s2 s3 zs),none,none,none]=.ok (.nx (Zon (plD pl) (Zcl s0 s1 s2 s3 zs) pl none none)):=Xe (Zcn (k:=1) rfl (Zch rfl (Zaf (n:=200) okp.l1)) c2);have i0:=fun q o3 o4=>hS q o3 o4 0 (.int s0) rfl;by_cases e0:s0=0;refine ⟨cut pl (some 1) none,Zah ?_,⟨AT Zvm okp.l1,fun ps h=>okp.l2 ps (Zof h),fun ps h=>okp.pn ps (Zof h)⟩⟩;unfold Yq;refine Zo s2' (Zbq (Jf (Yk (Zn (i0 pl none none) rfl ((Zdl _ _).trans (Zja e0)))) (Jd (r_sl (x:=plD pl) (lo:=some 1) (hi:=none) rfl rfl rfl ?_))));show some (D.lst (cut (pl.map psD) (some 1) none))=_;rw [Zhx];rfl;have t0:=Yh (a:=Jx (fSl Xge (fV 2) (Zdk (fC (.int 1))) Zfi)) (b:=sNx) (Yk (Zn (b:=fC (.int 0)) (i0 pl none none) rfl ((Zdl s0 0).trans (Zjq e0)))) rfl;by_cases e1:s0=1;obtain ⟨m,hm,em⟩:=Zxi h0 h1;refine ⟨pl++Aa m [],Zah ?_,⟨by rw [Ao,Ct];omega,fun ps h=>?_,fun ps h=>?_⟩⟩;unfold Yq;have cr:=Zeq (n:=5) (ρ:=Zon (plD pl) (Zcl s0 s1 s2 s3 zs) pl none none) (enc:=fun k:Nat=>D.int (0+(k:Int))) (v:=fun _:Nat=>psD []) (xs:=AJ m) (e:=fA Jq Zu) rfl fun x _=>rfl;have er:(AJ m).map (fun _:Nat=>psD [])=(Aa m []).map psD:=by rw [List.map_const',FN,Cu]
  rw [er] at cr;refine Zo s2' (Zo t0 (Zbq (Jf (Yk (Zn (i0 pl none none) rfl ((Zdl _ _).trans (Zja e1)))) (Jd (Zn (x:=plD pl) rfl (Zcn (k:=1) rfl (Zlg (Ze (Zn (x:=.lst [.int 1,.int 1,.int 1,.int 195]) (Jm (Ze rfl (Ze rfl (Ze rfl (Ze rfl rfl)))) rfl) (hS pl none none 3 (.int s3) rfl) em) rfl) (by omega)) cr) ?_)))));show (if (pl.map psD).length+((Aa m []).map psD).length<=lim then some (D.lst (pl.map psD++(Aa m []).map psD)) else none)=_;rw [if_pos (by rw [Ae,Ae,Ct];show _<=1000000;omega),<- Bv];rfl;rcases Ad.mp h with q | q;exact okp.l2 ps q;rw [(DD.mp q).2];exact D9 _;rcases Ad.mp h with q | q;exact okp.pn ps q;rw [(DD.mp q).2];exact fun _ z=>nomatch z;have t1:=Yh (a:=Jx (f2 Zoy (fV 2) (Zaa 5 1 (Zek (Zb (f2 gIx (fA Jq (Zb (fC (.int 1)) (Zb (fC (.int 1)) (Zb (fC (.int 1)) (Zb (fC (.int 195)) Zu))))) (f2 gIx (fV 1) (fC (.int 3)))) Zu)) (Zr 5) Zec (fA Jq Zu)))) (b:=sNx) (Yk (Zn (b:=fC (.int 1)) (i0 pl none none) rfl ((Zdl s0 1).trans (Zjq e1)))) rfl;have ln:∀(q:List (List (Int×Str))) (o3 o4:Option D),fA Zbc (Zb (fV 2) Zu) (Zon (plD pl) (Zcl s0 s1 s2 s3 zs) q o3 o4)=.ok (.int (q.length:Int)):=fun q o3 o4=>Jm (Ze rfl rfl) (Zen (f:=psD) q);by_cases hz0:pl=[];subst hz0;refine ⟨[],Zah ?_,okp⟩;unfold Yq;exact Zo s2' (Zo t0 (Zo t1 (Zo (Yh (Yk (Zn (ln [] none none) rfl rfl)) rfl) (Jd rfl))))
  · have hpos:(0:Int)<pl.length:=by have:=CS.mpr hz0;omega
    have hgt:=Yk (Zn (ln pl none none) (b:=fC (.int 0)) (y:=.int 0) rfl (show gGt (.int (pl.length:Int)) (.int 0)=some (.bl true) from Zja (p:=(pl.length:Int) > 0) hpos));have md:∀{n:Nat} (s:Int),(0:Int)<n->∃j:Nat,j<n/\Zel (.int s) (.int (n:Int))=some (.int (j:Int)):=fun {n} s hn=>by have r3:=BQ s (show (n:Int)≠0 by omega);have r4:=BF s hn;exact ⟨(s % n).toNat,by omega,by rw [Zbm hn];congr 2;omega⟩
    obtain ⟨j,hj,mj⟩:=md s1 hpos;have s3':Ya 3 (f2 Zel (f2 gIx (fV 1) (fC (.int 1))) (fA Zbc (Zb (fV 2) Zu))) (Zon (plD pl) (Zcl s0 s1 s2 s3 zs) pl none none)=.ok (.nx (Zon (plD pl) (Zcl s0 s1 s2 s3 zs) pl (some (.int (j:Int))) none)):=Xe (Zn (hS pl none none 1 (.int s1) rfl) (ln pl none none) mj);by_cases e2:s0=2;obtain ⟨i,hi,ei⟩:=Zww hj;have hnd:∀q∈(pl.set i (pl.getD j [])).set j (pl.getD i []),q∈pl:=fun q hq=>by rcases BZ hq with h | h;rcases BZ h with h | h;exact h;rw [h];simp [A4,hj];rw [h];simp [A4,hi]
    refine ⟨(pl.set i (pl.getD j [])).set j (pl.getD i []),Zah ?_,⟨by rw [Bw,Bw];omega,fun ps h=>okp.l2 ps (hnd ps h),fun ps h=>okp.pn ps (hnd ps h)⟩⟩;have gd:∀a,a<pl.length->(pl.map psD).getD a .non=psD (pl.getD a []):=fun a ha=>by simp [A4,ha]
    have sw:Zoq 2 (f2 Zbg (fV 3) (fC (.int 1))) (fV 3) (fV 3) (f2 Zbg (fV 3) (fC (.int 1))) (Zon (plD pl) (Zcl s0 s1 s2 s3 zs) pl (some (.int (j:Int))) none)=.ok (.nx (Zon (plD pl) (Zcl s0 s1 s2 s3 zs) ((pl.set i (pl.getD j [])).set j (pl.getD i [])) (some (.int (j:Int))) none)):=by
      have k1:Zya (pl.map psD).length (.int (j:Int))=some j:=by show ixD _ _=_;rw [Ae];exact Zap hj
      have k2:Zya (pl.map psD).length (.int ((j:Int) - 1))=some i:=by show ixD _ _=_;rw [Ae];exact ei
      unfold Zoq;show (match Zya (pl.map psD).length (.int (j:Int)) with | some j1=>_ | none=>R.bad)=_;rw [k1];show (match Zya (pl.map psD).length (.int ((j:Int) - 1)) with | some j2=>_ | none=>R.bad)=_;rw [k2];show (if Zya (pl.map psD).length (.int ((j:Int) - 1))=some i then (if Zya (pl.map psD).length (.int (j:Int))=some j then R.ok (Fl.nx ((Zon (plD pl) (Zcl s0 s1 s2 s3 zs) pl (some (.int (j:Int))) none).set 2 (some (.lst (((pl.map psD).set i ((pl.map psD).getD j .non)).set j ((pl.map psD).getD i .non)))))) else .bad) else .bad)=_;rw [if_pos k2,if_pos k1,gd j hj,gd i hi,<- Ga,<- Ga];rfl
    unfold Yq;refine Zo s2' (Zo t0 (Zo t1 (Zo (Jf hgt (Zo s3' (Zo (Jf (Yk (Zn (i0 pl _ none) rfl ((Zdl _ _).trans (Zja e2)))) sw) (Yh (Zft (Yk (Zn (i0 _ _ none) rfl (show gGt (.int s0) (.int 2)=some (.bl false) from Zjq (p:=s0 > 2) (by omega))))) rfl)))) (Jd rfl))))
    · have t2:=Yh (a:=Zoq 2 (f2 Zbg (fV 3) (fC (.int 1))) (fV 3) (fV 3) (f2 Zbg (fV 3) (fC (.int 1)))) (b:=sNx) (Yk (Zn (b:=fC (.int 2)) (i0 pl (some (.int (j:Int))) none) rfl ((Zdl s0 2).trans (Zjq e2)))) rfl;have g3:f2 gGt (f2 gIx (fV 1) (fC (.int 0))) (fC (.int 2)) (Zon (plD pl) (Zcl s0 s1 s2 s3 zs) pl (some (.int (j:Int))) none)=.ok (.bl (decide (s0 > 2))):=Zn (i0 pl _ none) rfl rfl;have pj:f2 gIx (fV 2) (fV 3) (Zon (plD pl) (Zcl s0 s1 s2 s3 zs) pl (some (.int (j:Int))) none)=.ok (psD pl[j]):=Zn (x:=plD pl) rfl rfl (Xdf (f:=psD) (Zap hj) hj);have lj:=Jm (Ze (r:=Zu) pj rfl) (Zen (f:=pD) pl[j]);have stay:sIf (Zot (cE (f2 gGt (f2 gIx (fV 1) (fC (.int 0))) (fC (.int 2)))) (cE (f2 gGt (fA Zbc (Zb (f2 gIx (fV 2) (fV 3)) Zu)) (fC (.int 0))))) (Xm (Ya 4 (f2 Zel (f2 gIx (fV 1) (fC (.int 2))) (fA Zbc (Zb (f2 gIx (fV 2) (fV 3)) Zu)))) (Zsm 2 (fV 3) (Xy Zao (Zb (f2 gIx (fV 2) (fV 3)) (Zb (fV 4) (Zb (fV 1) Zu)))))) sNx (Zon (plD pl) (Zcl s0 s1 s2 s3 zs) pl (some (.int (j:Int))) none)=.ok (.nx (Zon (plD pl) (Zcl s0 s1 s2 s3 zs) pl (some (.int (j:Int))) none))->∃pl',Jh [plD pl,Zcl s0 s1 s2 s3 zs]=.ok (plD pl')/\Xep pl':=fun hst=>⟨pl,Zah (by
        unfold Yq;exact Zo s2' (Zo t0 (Zo t1 (Zo (Jf hgt (Zo s3' (Zo t2 hst))) (Jd rfl))))),okp⟩
      by_cases e3:s0 > 2;rw [decide_eq_true e3] at g3;by_cases hn:pl[j]=[];refine stay (Yh (Zdc (Yk g3) (Yk (Zn lj rfl ?_))) rfl);rw [hn];rfl;have hpj:(0:Int)<(pl[j]).length:=by have:=CS.mpr hn;omega
      obtain ⟨k,hk,mk⟩:=md s2 hpj;have hmem:=BC hj;obtain ⟨ps',eb,hb1,hb2⟩:=Zvb (s0:=s0) (s1:=s1) (s2:=s2) (m:=100) (by omega) ⟨hk,h2 _ hmem,hp _ hmem⟩ h0 h1 hz hzp;have pj4:f2 gIx (fV 2) (fV 3) (Zon (plD pl) (Zcl s0 s1 s2 s3 zs) pl (some (.int (j:Int))) (some (.int (k:Int))))=.ok (psD pl[j]):=Zn (x:=plD pl) rfl rfl (Xdf (f:=psD) (Zap hj) hj);have pn:=Xcr (i:=2) (j:=j) (k:=fV 3) (ρ:=Zon (plD pl) (Zcl s0 s1 s2 s3 zs) pl (some (.int (j:Int))) (some (.int (k:Int)))) (xs:=pl.map psD) (n:=(j:Int)) (Yc (Ze pj4 (Ze (a:=fV 4) rfl (Ze (a:=fV 1) (r:=Zu) rfl rfl))) eb) rfl rfl (by rw [Ae];exact Zap hj);have en:(pl.map psD).set j (psD ps')=(pl.set j ps').map psD:=Ga.symm;rw [en] at pn;refine ⟨pl.set j ps',Zah ?_,⟨by rw [Bw];omega,fun ps h=>?_,fun ps h=>?_⟩⟩;unfold Yq;exact Zo s2' (Zo t0 (Zo t1 (Zo (Jf hgt (Zo s3' (Zo t2 (Jf (Zdc (Yk g3) (Yk (Zn lj rfl (Zja (p:=((pl[j]).length:Int) > 0) hpj)))) (Zo (Xe (Zn (hS pl _ none 2 (.int s2) rfl) lj mk)) pn))))) (Jd rfl))));rcases BZ h with q | q;exact okp.l2 ps q;rw [q];omega;rcases BZ h with q | q;exact okp.pn ps q;rw [q];exact hb2;rw [decide_eq_false e3] at g3;exact stay (Yh (Zft (Yk g3)) rfl)
theorem Zml {r:FM}(h:s ρ=.ok (.nx ρ'))(h2:r ρ'=p):Zfl s r ρ=p:=by unfold Zfl;rw [h];exact h2
theorem Xlc {G:FM}{o:D}(h:G (ds.map some++Aa (N - ds.length) none)=.ok (d,ρ))(h0:ρ[0]?=some (some o)):(Xqe N G ds).calm=.ok (d,o):=by unfold Xqe;rw [h];show (match ρ[0]? with | some (some d')=>R.ok (d,d') | _=>.bad).calm=_;rw [h0];rfl
theorem Xbi {f:FS}(h:f ρ=.ok (.nx ρ')):Zno f ρ=.ok (.nx ρ'):=by unfold Zno;rw [h];rfl
def wD (K:List (Int ⊕ Str))(vs:List Int):D:=.dct K (vs.map D.int)
theorem Zds:∀vs:List Int,Xn (vs.map D.int)=true
 | []=>rfl
 | _::vs=>by have:=Zds vs;simp only [AH,Xn,flat,Ce];exact this
theorem Zwu {k:Int ⊕ Str}:∀(K:List (Int ⊕ Str)) (vs:List Int),∃v,(dAt K (vs.map D.int) k).getD (.int 99)=.int v
 | [],_=>⟨99,rfl⟩
 | _::_,[]=>⟨99,rfl⟩
 | j::K,v::vs=>by by_cases e:j=k;exact ⟨v,by show (if j=k then some (D.int v) else _).getD _=_;rw [if_pos e];rfl⟩;obtain ⟨w,h⟩:=Zwu (k:=k) K vs;exact ⟨w,by show (if j=k then _ else dAt K (vs.map D.int) k).getD _=_;rw [if_neg e];exact h⟩
theorem Xfb {k:Int ⊕ Str}:∀{K:List (Int ⊕ Str)} {vs:List Int},K.length=vs.length->Zuk K k=true->∃v,dAt K (vs.map D.int) k=some (.int v)
  | [],_,_,h=>by cases h
  | _::_,[],h,_=>by cases h
  | j::K,v::vs,h,hh=>by
    by_cases e:j=k;exact ⟨v,by show (if j=k then some (D.int v) else _)=_;rw [if_pos e]⟩
    · obtain ⟨w,h⟩:=Xfb (k:=k) (K:=K) (vs:=vs) (by simpa using h) (by
        unfold Zuk at hh ⊢;rw [D4,decide_eq_false e,GZ] at hh;exact hh)
      exact ⟨w,by show (if j=k then _ else dAt K (vs.map D.int) k)=_;rw [if_neg e];exact h⟩
theorem Zvj {k:Int ⊕ Str}{d:Int}:∀{K:List (Int ⊕ Str)} {vs:List Int},K.length=vs.length->∃vs':List Int,BD (fun j x=>if j=k then D.int d else x) K (vs.map D.int)=vs'.map D.int/\K.length=vs'.length
 | [],[],_=>⟨[],rfl,rfl⟩
 | [],_::_,h=>by cases h
 | _::_,[],h=>by cases h
 | j::K,v::vs,h=>by obtain ⟨vs',h1,h2⟩:=Zvj (k:=k) (d:=d) (K:=K) (vs:=vs) (by simpa using h);refine ⟨(if j=k then d else v)::vs',?_,by simp [h2]⟩;show (if j=k then D.int d else D.int v)::BD _ K (vs.map D.int)=_;rw [h1,AH];split<;>rfl
def Zee (K:List (Int ⊕ Str))(vs:List Int)(ns:List Int)(i:Int)(ws:List Int)(ks:List Kd)(os:List Int)(ps:List (Int×Str))(a:Int)(o9 o10:Option D):Env:=[some (wD K vs),some (.scr ns),some (.int i),some (iD ws),some (tD ks),some (iD (Zab ws)),some (iD os),some (psD ps),some (.int a),o9,o10]
section
variable (hK:K.length<=100)(hk:ks.length<=100)(hk0:(0:Int)<ks.length)(ht:Zqe ks)(hol:os.length=48)
include hK hk hk0 ht hol
theorem Zxj {k:Nat}(h24:k<24)(a:Int)(o10:Option D)(hv:K.length=vs.length)(hl:ps.length<=24)(hp:∀x∈ps,plain 100 x.2=true) :
    ∃vs' ps' a' o10',Yv (Zee K vs ns i ws ks os ps a (some (.int (0+(k:Int)))) o10)=.ok (.nx (Zee K vs' ns i ws ks os ps' a' (some (.int (0+(k:Int)))) o10'))/\K.length=vs'.length/\ps'.length<=ps.length+1/\∀x∈ps',plain 100 x.2=true:=by
  rw [DH];have x1:f2 gIx (fV 6) (f2 Zat (fC (.int 2)) (fV 9)) (Zee K vs ns i ws ks os ps a (some (.int (k:Int))) o10)=.ok (.int (os.getD (2*k) 0)):=Zn (x:=iD os) rfl (Zn rfl rfl (Zqt (by omega))) (Zbo (k:=2*k) (by omega) (by omega));obtain ⟨j,hj,mj⟩:∃j:Nat,j<ks.length/\Zel (.int (os.getD (2*k) 0)) (.int (ks.length:Int))=some (.int (j:Int)):=by have r3:=BQ (os.getD (2*k) 0) (show (ks.length:Int)≠0 by omega);have r4:=BF (os.getD (2*k) 0) hk0;exact ⟨(os.getD (2*k) 0 % ks.length).toNat,by omega,by rw [Zbm hk0];congr 2;omega⟩
  have hm:=BC hj;have pz:plain 100 (ks[j]).name=true:=Zbi (Zjy _ (ht.ok ks[j] hm).nm) (by omega);have hw:=(ht.ok ks[j] hm).w1;have s10:Ya 10 (f1 Xi (f2 gIx (fV 4) (f2 Zel (f2 gIx (fV 6) (f2 Zat (fC (.int 2)) (fV 9))) (fA Zbc (Zb (fV 4) Zu))))) (Zee K vs ns i ws ks os ps a (some (.int (k:Int))) o10)=.ok (.nx (Zee K vs ns i ws ks os ps a (some (.int (k:Int))) (some (kD ks[j])))):=Xe (Zfn (x:=kD ks[j]) (Zn (x:=tD ks) rfl (Zn x1 (Jm (Ze rfl rfl) (Zen (f:=kD) ks)) mj) (Xdf (f:=kD) (Zap hj) hj)) rfl);generalize ks[j]=kk at *;have s8:Ya 8 (f2 Ym (fV 8) (f2 gIx (fV 6) (f2 Ym (f2 Zat (fC (.int 2)) (fV 9)) (fC (.int 1))))) (Zee K vs ns i ws ks os ps a (some (.int (k:Int))) (some (kD kk)))=.ok (.nx (Zee K vs ns i ws ks os ps (a+os.getD (2*k+1) 0) (some (.int (k:Int))) (some (kD kk)))):=Xe (Zn rfl (Zn (x:=iD os) rfl (Zn (Zn rfl rfl (Zqt (by omega))) rfl rfl) (Zbo (k:=2*k+1) (by omega) (by omega))) rfl);generalize a+os.getD (2*k+1) 0=b at *;have gd:Xy Ys (Zb (fV 5) (Zb (fV 10) (Zb (fV 8) Zu))) (Zee K vs ns i ws ks os ps b (some (.int (k:Int))) (some (kD kk)))=.ok (.bl (good ws kk b)):=Yc (Ze rfl (Ze rfl (Ze rfl rfl))) (Zvf ws kk b hw);have nm:∀(vs:List Int) (ps:List (Int×Str)) (b:Int),f2 gIx (fV 10) (fC (.int 0)) (Zee K vs ns i ws ks os ps b (some (.int (k:Int))) (some (kD kk)))=.ok (.str kk.name):=fun _ _ _=>Zn (x:=kD kk) rfl rfl rfl;have no:∀{c:FT},c (Zee K vs ns i ws ks os ps b (some (.int (k:Int))) (some (kD kk)))=.ok false->∃vs' ps' a' o10',sIf c (Xm (Zjr 7 (fA Zcf (Zb (f1 Xi (fV 8)) (Zb (f1 Xi (f2 gIx (fV 10) (fC (.int 0)))) Zu)))) (Xm (Ya 8 (f2 Ym (fV 8) (f2 gIx (fV 10) (fC (.int 1))))) (sIf (cE (f2 Xpm (f2 gIx (fV 10) (fC (.int 0))) (fV 0))) (Zis 0 (f2 gIx (fV 10) (fC (.int 0))) (f2 Zbg (f2 Zzh (fV 0) (f2 gIx (fV 10) (fC (.int 0)))) (fC (.int 1)))) sNx))) sNx (Zee K vs ns i ws ks os ps b (some (.int (k:Int))) (some (kD kk)))=.ok (.nx (Zee K vs' ns i ws ks os ps' a' (some (.int (k:Int))) o10'))/\K.length=vs'.length/\ps'.length<=ps.length+1/\∀x∈ps',plain 100 x.2=true:=fun hc=>⟨vs,ps,b,_,Yh hc rfl,hv,by omega,hp⟩;suffices hs:∃vs' ps' a' o10',sIf (Zot (cE (Xy Ys (Zb (fV 5) (Zb (fV 10) (Zb (fV 8) Zu))))) (cE (f2 gGt (Zsu (fV 0) (f2 gIx (fV 10) (fC (.int 0))) (fC (.int 99))) (fC (.int 0))))) (Xm (Zjr 7 (fA Zcf (Zb (f1 Xi (fV 8)) (Zb (f1 Xi (f2 gIx (fV 10) (fC (.int 0)))) Zu)))) (Xm (Ya 8 (f2 Ym (fV 8) (f2 gIx (fV 10) (fC (.int 1))))) (sIf (cE (f2 Xpm (f2 gIx (fV 10) (fC (.int 0))) (fV 0))) (Zis 0 (f2 gIx (fV 10) (fC (.int 0))) (f2 Zbg (f2 Zzh (fV 0) (f2 gIx (fV 10) (fC (.int 0)))) (fC (.int 1)))) sNx))) sNx (Zee K vs ns i ws ks os ps b (some (.int (k:Int))) (some (kD kk)))=.ok (.nx (Zee K vs' ns i ws ks os ps' a' (some (.int (k:Int))) o10'))/\K.length=vs'.length/\ps'.length<=ps.length+1/\∀x∈ps',plain 100 x.2=true by obtain ⟨vs',ps',a',o10',e,q⟩:=hs;refine ⟨vs',ps',a',o10',?_,q⟩;unfold Yv;exact Zo s10 (Zo s8 e)
  cases hg:good ws kk b with
  | false =>rw [hg] at gd;exact no (Zft (Yk gd))
  | true =>
    rw [hg] at gd;obtain ⟨v,hv99⟩:=Zwu (k:=.inr kk.name) K vs;have dg:Zsu (fV 0) (f2 gIx (fV 10) (fC (.int 0))) (fC (.int 99)) (Zee K vs ns i ws ks os ps b (some (.int (k:Int))) (some (kD kk)))=.ok (.int v):=by unfold Zsu;rw [show fV 0 (Zee K vs ns i ws ks os ps b (some (.int (k:Int))) (some (kD kk)))=.ok (.dct K (vs.map D.int)) from rfl,Jv];show (f2 gIx (fV 10) (fC (.int 0)) (Zee K vs ns i ws ks os ps b (some (.int (k:Int))) (some (kD kk)))).bind _=_;rw [nm,Jv];show (if Xn (vs.map D.int)=true/\flat (.int 99)=true then R.ok ((dAt K (vs.map D.int) (.inr kk.name)).getD (.int 99)) else .bad)=_;rw [if_pos ⟨Zds vs,rfl⟩,hv99]
    by_cases h0:v > 0
    · have cond:=Zdc (Yk gd) (Yk (Zn (b:=fC (.int 0)) dg rfl (show gGt (.int v) (.int 0)=some (.bl true) from Zja (p:=v > 0) h0)));have sA:Zjr 7 (fA Zcf (Zb (f1 Xi (fV 8)) (Zb (f1 Xi (f2 gIx (fV 10) (fC (.int 0)))) Zu))) (Zee K vs ns i ws ks os ps b (some (.int (k:Int))) (some (kD kk)))=.ok (.nx (Zee K vs ns i ws ks os (ps++[(b,kk.name)]) b (some (.int (k:Int))) (some (kD kk)))):=by have et:fA Zcf (Zb (f1 Xi (fV 8)) (Zb (f1 Xi (f2 gIx (fV 10) (fC (.int 0)))) Zu)) (Zee K vs ns i ws ks os ps b (some (.int (k:Int))) (some (kD kk)))=.ok (pD (b,kk.name)):=Jm (Ze (Zfn rfl rfl) (Ze (Zfn (nm _ _ _) rfl) rfl)) rfl;rw [Zlt (i:=7) (xs:=ps.map pD) rfl et (by rw [Ae];show _<1000000;omega)];unfold Zee psD;rw [Bv];rfl
      have s8b:Ya 8 (f2 Ym (fV 8) (f2 gIx (fV 10) (fC (.int 1)))) (Zee K vs ns i ws ks os (ps++[(b,kk.name)]) b (some (.int (k:Int))) (some (kD kk)))=.ok (.nx (Zee K vs ns i ws ks os (ps++[(b,kk.name)]) (b+kk.w) (some (.int (k:Int))) (some (kD kk)))):=Xe (Zn rfl (Zn (x:=kD kk) rfl rfl rfl) rfl);have hl':(ps++[(b,kk.name)]).length<=ps.length+1:=by rw [Ao];exact AI _
      have hp':∀x∈ps++[(b,kk.name)],plain 100 x.2=true:=fun x hx=>by rcases Ad.mp hx with q | q;exact hp x q;rw [An.mp q];exact pz
      cases hd:Zuk K (.inr kk.name) with
      | false=>exact ⟨vs,_,_,_,Jf cond (Zo sA (Zo s8b (Yh (Yk (Zn (nm _ _ _) rfl (show some (D.bl (Zuk K (.inr kk.name)))=some (D.bl false) by rw [hd]))) rfl))),hv,hl',hp'⟩
      | true =>
        obtain ⟨u,hu⟩:=Xfb (vs:=vs) hv hd;obtain ⟨vs',h1,h2⟩:=Zvj (k:=.inr kk.name) (d:=u - 1) hv;refine ⟨vs',ps++[(b,kk.name)],b+kk.w,some (kD kk),Jf cond (Zo sA (Zo s8b (Jf (Yk (Zn (nm _ _ _) rfl (show some (D.bl (Zuk K (.inr kk.name)))=some (D.bl true) by rw [hd]))) ?_))),h2,hl',hp'⟩;have ev:f2 Zbg (f2 Zzh (fV 0) (f2 gIx (fV 10) (fC (.int 0)))) (fC (.int 1)) (Zee K vs ns i ws ks os (ps++[(b,kk.name)]) (b+kk.w) (some (.int (k:Int))) (some (kD kk)))=.ok (.int (u - 1)):=Zn (Zn (x:=wD K vs) rfl (nm _ _ _) (by
          show (if Xn (vs.map D.int) then dAt K (vs.map D.int) (.inr kk.name) else none)=_;rw [if_pos (Zds vs)];exact hu)) rfl rfl
        unfold Zis;rw [ev,Jv];show (f2 gIx (fV 10) (fC (.int 0)) (Zee K vs ns i ws ks os (ps++[(b,kk.name)]) (b+kk.w) (some (.int (k:Int))) (some (kD kk)))).bind _=_;rw [nm,Jv];show (if flat (.int (u - 1))=true/\Xn (vs.map D.int)=true/\K.length<lim then R.ok (Fl.nx ((Zee K vs ns i ws ks os (ps++[(b,kk.name)]) (b+kk.w) (some (.int (k:Int))) (some (kD kk))).set 0 (some (Xgw K (vs.map D.int) (.inr kk.name) (.int (u - 1)))))) else .bad)=_;rw [if_pos ⟨rfl,Zds vs,by show _<1000000;omega⟩];unfold Xgw;rw [if_pos hd,h1];rfl
    exact no (Zdc (Yk gd) (Yk (Zn (b:=fC (.int 0)) dg rfl (show gGt (.int v) (.int 0)=some (.bl false) from Zjq (p:=v > 0) h0))))
theorem Zmm:∀(l:List Nat),(∀k∈l,k<24)->∀(vs:List Int) (ps:List (Int×Str)) (a:Int) (o9 o10:Option D),K.length=vs.length->ps.length+l.length<=24->(∀x∈ps,plain 100 x.2=true)->∃vs' ps' a' o9' o10',Zbx (Zr 9) (Zno Yv) (l.map fun k:Nat=>D.int (0+(k:Int))) (Zee K vs ns i ws ks os ps a o9 o10)=.ok (.nx (Zee K vs' ns i ws ks os ps' a' o9' o10'))/\K.length=vs'.length/\ps'.length<=24/\∀x∈ps',plain 100 x.2=true
 | [],_,vs,ps,a,o9,o10,h1,h2,h3=>⟨vs,ps,a,o9,o10,rfl,h1,by simpa using h2,h3⟩
 | k::l,hl,vs,ps,a,o9,o10,h1,h2,h3=>by have h2':ps.length+(l.length+1)<=24:=h2;obtain ⟨vs1,ps1,a1,o1,e1,q1,q2,q3⟩:=Zxj hK hk hk0 ht hol (ns:=ns) (ws:=ws) (i:=i) (hl k (.head _)) a o10 h1 (by omega) h3;obtain ⟨vs',ps',a',o9',o10',e,q⟩:=Zmm l (fun k hk=>hl k (.tail _ hk)) vs1 ps1 a1 (some (.int (0+(k:Int)))) o1 q1 (by omega) q3;refine ⟨vs',ps',a',o9',o10',?_,q⟩;rw [AH,Zau (ρ1:=Zee K vs ns i ws ks os ps a (some (.int (0+(k:Int)))) o10) rfl,Xbi e1];exact e
end
theorem Zwt (hn:ns.length<=63)(i0:0<=i)(i1:i<1000)(hw:ws.length<=900)(hK:K.length<=100)(hk:ks.length<=100)(ht:Zqe ks)(hv:K.length=vs.length) :
    ∃ps vs',Xw [wD K vs,.scr ns,.int i,iD ws,tD ks]=.ok (psD ps,wD K vs')/\K.length=vs'.length/\ps.length<=24/\∀x∈ps,plain 100 x.2=true:=by
  obtain ⟨os,hrow,hos⟩:=Zgp ns hn (i:=i) i0 i1 (Aa 24 [8,3]).flatten (by rw [Zez];simp) (fun m hm=>by
    have:=Zow hm;simp only [Aj,BA,or_false] at this;rcases this with rfl | rfl<;>decide)
  have hm8:Zat (.lst [.int 8,.int 3]) (.int 24)=some (iD (Aa 24 [8,3]).flatten):=Zjp (ws:=[8,3]) (m:=24) (by omega) (by omega) (by simp);have hol:os.length=48:=by rw [hos.len,Zez];rfl
  have hs:=Zws ws (by omega);have ln:∀o9 o10,fA Zbc (Zb (fV 4) Zu) (Zee K vs ns i ws ks os [] 0 o9 o10)=.ok (.int (ks.length:Int)):=fun _ _=>Jm (Ze rfl rfl) (Zen (f:=kD) ks);have fin:∀{n:Int} {vs' ps' a' o9' o10'},0<=n/\n<=24->f2 Zat (fC (.int 24)) (fA Xjy (Zb (f2 gGt (fA Zbc (Zb (fV 4) Zu)) (fC (.int 0))) Zu)) (Zee K vs ns i ws ks os [] 0 none none)=.ok (.int n)->Zbx (Zr 9) (Zno Yv) (Zhb 0 n.toNat) (Zee K vs ns i ws ks os [] 0 none none)=.ok (.nx (Zee K vs' ns i ws ks os ps' a' o9' o10'))->Xw [wD K vs,.scr ns,.int i,iD ws,tD ks]=.ok (psD ps',wD K vs'):=fun {n vs' ps' a' o9' o10'} hn h1 h2=>by refine Xlc (ρ:=(Zee K vs' ns i ws ks os ps' a' o9' o10').set 7 none) ?_ rfl;unfold Zeu;refine Zml (Xe (Yc (Ze rfl rfl) hs)) (Zml (Xe (Yc (Ze rfl (Ze rfl (Ze (Zn (Jm (Ze rfl (Ze rfl rfl)) rfl) rfl hm8) rfl))) hrow)) (Zml (Xe (d:=.lst []) rfl) (Zml (Xe (d:=.int 0) rfl) (Zml (Zhc (Zlg (Ze h1 rfl) (by omega)) h2) rfl))))
  by_cases h0:(0:Int)<ks.length;obtain ⟨vs',ps',a',o9',o10',e,q1,q2,q3⟩:=Zmm (ns:=ns) (ws:=ws) (i:=i) hK hk h0 ht hol (AJ 24) (fun k hk=>BE.mp hk) vs [] 0 none none hv (by simp) (fun _ z=>nomatch z);refine ⟨ps',vs',fin (n:=24) (by omega) (Zn rfl (Jm (Ze (Zn (ln _ _) rfl (show gGt (.int (ks.length:Int)) (.int 0)=some (.bl true) from Zja (p:=(ks.length:Int) > 0) h0)) rfl) rfl) rfl) e,q1,q2,q3⟩;refine ⟨[],vs,fin (n:=0) (by omega) (Zn rfl (Jm (Ze (Zn (ln _ _) rfl (show gGt (.int (ks.length:Int)) (.int 0)=some (.bl false) from Zjq (p:=(ks.length:Int) > 0) (by omega))) rfl) rfl) rfl) rfl,hv,by simp,fun _ z=>nomatch z⟩
theorem Zmd {n:Nat}{e:FE}{ρ:Env}{α β:Type}{enc:α->D}{f:β->D}{Q:β->Prop}(hn:ρ.length=n):∀{xs:List α},(∀x∈xs,∃v,e (ρ++[some (enc x)])=.ok (f v)/\Q v)->∃vs:List β,Zci 1 (Zr n) Zec e ρ (xs.map enc)=.ok (vs.map f)/\vs.length=xs.length/\∀v∈vs,Q v
 | [],_=>⟨[],rfl,rfl,fun _ z=>nomatch z⟩
 | x::xs,h=>by
  obtain ⟨v,h1,h2⟩:=h x (.head _);obtain ⟨vs,g1,g2,g3⟩:=Zmd hn (xs:=xs) (f:=f) (Q:=Q) fun y hy=>h y (.tail _ hy);refine ⟨v::vs,?_,congrArg Il g2,AM.mpr ⟨h2,g3⟩⟩;rw [AH];unfold Zci;have hb:Zr n (enc x) (ρ++Aa 1 none)=.ok (ρ++[some (enc x)]):=by show R.ok ((ρ++[none]).set n (some (enc x)))=_;rw [<- hn,Ca _ _ (AI _),DZ];rfl
  rw [hb,Zea];show (e (ρ++[some (enc x)])).bind _=_;rw [h1,Jv,g1];rfl
theorem Xfs (ns:List Int)(hn:ns.length<=63)(c0:0<=c)(c1:c<=200):∃rs ks,Zaw [.scr ns,.int 0,.int 4,.int c,.int 8]=.ok (.tup [rsD rs,tD ks])/\rs.length<=4/\(∀r∈rs,r.length<=200)/\ks.length<=8/\Zqe ks:=by
 obtain ⟨fl,hf,ff0,ff1⟩:=Xjf ns hn (i:=0) (m:=8) (by decide) (by decide) (by decide) (by decide);obtain ⟨ks,ht,hk,tk⟩:=Xcy ns hn (i:=0) (m:=8) (by decide) (by decide) (by decide) (by decide);obtain ⟨os,hr,ro⟩:=Zgp ns hn (i:=1) (by decide) (by decide) [5] (by decide) (by decide);have b:=ro.at_ 0 (by decide);have i0:gIx (iD os) (.int 0)=some (.int (os.getD 0 0)):=Xfv (k:=0) (by rw [ro.len];decide);generalize os.getD 0 0=n at b i0;have b:0<=n/\n<5:=b;obtain ⟨rs,h1,h2,h3⟩:=Zmd (n:=9) (e:=Xy Zak (Zb (fV 0) (Zb (f2 Ym (f2 Ym (fV 1) (fC (.int 2))) (fV 9)) (Zb (fV 3) (Zb (fV 5) Zu))))) (ρ:=[some (.scr ns),some (.int 0),some (.int 4),some (.int c),some (.int 8),some (.int fl),some (tD ks),some (.int n),none]) (enc:=fun k:Nat=>D.int (k:Int)) (f:=iD) (Q:=fun r:List Int=>r.length<=200) rfl (xs:=AJ n.toNat) fun k hk=>by have hk:=BE.mp hk;obtain ⟨ws,w1,w2,-⟩:=Xgm ns hn (i:=0+2+(k:Int)) (m:=c) (fl:=fl) (by omega) (by omega) c0 (by omega) ff0 ff1;exact ⟨ws,Yc (Ze rfl (Ze (Zn (Zn rfl rfl rfl) rfl rfl) (Ze rfl (Ze rfl rfl)))) w1,by omega⟩
 refine ⟨rs,ks,Zah (Zo (Xe (Yc (Ze rfl (Ze rfl (Ze rfl rfl))) hf)) (Zo (Xe (Yc (Ze rfl (Ze rfl (Ze rfl rfl))) ht)) (Zo (Xe (Zfn (Zn (Yc (Ze rfl (Ze (Zn rfl rfl rfl) (Ze (Jm (Ze (Zn rfl rfl rfl) rfl) rfl) rfl))) hr) rfl i0) rfl)) (Zo (Xe (Zcn rfl ((Zlg (Ze rfl rfl) (by omega)).trans (congrArg R.ok (CQ fun k _=>by rw [DH]))) h1)) (Jd (Jm (Ze rfl (Ze rfl rfl)) rfl)))))),by rw [h2,Cu];omega,h3,by omega,tk⟩
def Zud (ns:List Int)(i:Int)(ks:List Kd)(qs os:List Int)(p:Int)(o8 o9:Option D):Env:=[some (.scr ns),some (.int i),some (tD ks),some (.int 3),some (.int 200),some (iD qs),some (iD os),some (.int p),o8,o9]
section
variable (hql:qs.length=9)(bq:∀k:Nat,k<8->0<=qs.getD k 0/\qs.getD k 0<4)
include hql bq
theorem Ztp {k:Nat}(hk:k<8)(p:Int)(o9:Option D)(ho:os.length<=8):∃x p' o9',Zck (Zud ns i ks qs os p (some (.int (0+(k:Int)))) o9)=.ok (.nx (Zud ns i ks qs (os++[x]) p' (some (.int (0+(k:Int)))) o9')):=by
 rw [DH];obtain ⟨b1,b2⟩:=bq k hk;have ix:gIx (iD qs) (.int (k:Int))=some (.int (qs.getD k 0)):=Xfv (by omega);have ix8:gIx (iD qs) (.int 8)=some (.int (qs.getD 8 0)):=Xfv (k:=8) (by omega);generalize qs.getD k 0=w at *;have s1:Ya 9 (f1 Xi (f2 gIx (fV 5) (fV 8))) (Zud ns i ks qs os p (some (.int (k:Int))) o9)=.ok (.nx (Zud ns i ks qs os p (some (.int (k:Int))) (some (.int w)))):=Xe (Zfn (Zn (x:=iD qs) rfl rfl ix) rfl);obtain ⟨v,s2,v0,v1⟩:∃v:Int,sIf (Zot (cE (f2 gEq (fV 8) (fC (.int 0)))) (cE (f2 gEq (f2 gIx (fV 5) (fC (.int 8))) (fC (.int 0))))) (Ya 9 (f2 Zbg (fV 4) (fC (.int 1)))) sNx (Zud ns i ks qs os p (some (.int (k:Int))) (some (.int w)))=.ok (.nx (Zud ns i ks qs os p (some (.int (k:Int))) (some (.int v))))/\0<=v/\v<=199:=by by_cases q1:(k:Int)=0;by_cases q2:qs.getD 8 0=0;exact ⟨199,Jf (Zdc (Yk (Zn rfl rfl ((Zdl _ _).trans (Zja q1)))) (Yk (Zn (Zn (x:=iD qs) rfl rfl ix8) rfl ((Zdl _ _).trans (Zja q2))))) (Xe (Zn rfl rfl rfl)),by omega,by omega⟩;exact ⟨w,Yh (Zdc (Yk (Zn rfl rfl ((Zdl _ _).trans (Zja q1)))) (Yk (Zn (Zn (x:=iD qs) rfl rfl ix8) rfl ((Zdl _ _).trans (Zjq q2))))) rfl,by omega,by omega⟩;exact ⟨w,Yh (Zft (Yk (Zn rfl rfl ((Zdl _ _).trans (Zjq q1))))) rfl,by omega,by omega⟩
 have mu:∀x:Int,0<=x->x<=199->f2 Zat (fV 7) (f2 Ym (fV 9) (fC (.int 1))) (Zud ns i ks qs os p (some (.int (k:Int))) (some (.int x)))=.ok (.int (p*(x+1))):=fun x h0 h1=>Zn rfl (Zn rfl rfl rfl) (mulR (by omega) (by omega));obtain ⟨x,s3,x0,x1⟩:∃x:Int,sIf (cE (f2 gGt (f2 Zat (fV 7) (f2 Ym (fV 9) (fC (.int 1)))) (fV 4))) (Ya 9 (fC (.int 0))) sNx (Zud ns i ks qs os p (some (.int (k:Int))) (some (.int v)))=.ok (.nx (Zud ns i ks qs os p (some (.int (k:Int))) (some (.int x))))/\0<=x/\x<=199:=by by_cases q:p*(v+1) > 200;exact ⟨0,Jf (Yk (Zn (mu v v0 v1) rfl (Zja (p:=p*(v+1) > 200) q))) (Xe rfl),by omega,by omega⟩;exact ⟨v,Yh (Yk (Zn (mu v v0 v1) rfl (Zjq (p:=p*(v+1) > 200) q))) rfl,v0,v1⟩
 refine ⟨x,p*(x+1),some (.int x),Zo s1 (Zo s2 (Zo s3 (Zo (Xe (mu x x0 x1)) ?_)))⟩;have ap:Zjr 6 (f1 Xi (fV 9)) (Zud ns i ks qs os (p*(x+1)) (some (.int (k:Int))) (some (.int x)))=_:=Zlt (xs:=os.map D.int) rfl (Zfn (x:=.int x) rfl rfl) (by rw [Ae];show _<1000000;omega);have e:os.map D.int++[D.int x]=(os++[x]).map D.int:=by rw [Bv];rfl
 rw [e] at ap;exact ap
theorem Zkk:∀(l:List Nat),(∀k∈l,k<8)->∀(os:List Int) (p:Int) (o8 o9:Option D),os.length+l.length<=8->∃os' p' o8' o9',Zbx (Zr 8) Zck (l.map fun k:Nat=>D.int (0+(k:Int))) (Zud ns i ks qs os p o8 o9)=.ok (.nx (Zud ns i ks qs os' p' o8' o9'))/\os'.length=os.length+l.length
 | [],_,os,p,o8,o9,_=>⟨os,p,o8,o9,rfl,rfl⟩
 | k::l,hl,os,p,o8,o9,h=>by have h':os.length+(l.length+1)<=8:=h;obtain ⟨x,p1,o1,e1⟩:=Ztp hql bq (ns:=ns) (i:=i) (ks:=ks) (hl k (.head _)) (os:=os) p o9 (by omega);obtain ⟨os',p',o8',o9',e,q⟩:=Zkk l (fun k hk=>hl k (.tail _ hk)) (os++[x]) p1 (some (.int (0+(k:Int)))) o1 (by rw [Ao];show os.length+1+_<=8;omega);refine ⟨os',p',o8',o9',?_,by rw [q,Ao];show os.length+1+_=os.length+(l.length+1);omega⟩;rw [AH,Zau (ρ1:=Zud ns i ks qs os p (some (.int (0+(k:Int)))) o9) rfl,e1];exact e
end
theorem Xiw (ns:List Int)(hn:ns.length<=63)(i0:0<=i)(i1:i<1000)(hk:ks.length<=8):∃os:List Int,Zay [.scr ns,.int i,tD ks,.int 3,.int 200]=.ok (iD os)/\os.length=ks.length:=by
 obtain ⟨qs,hrow,hqs⟩:=Zgp ns hn (i:=i) i0 i1 ((Aa 8 [(4:Int)]).flatten++[16]) (by decide) (by decide);have hql:qs.length=9:=hqs.len;have bq:∀k:Nat,k<8->0<=qs.getD k 0/\qs.getD k 0<4:=fun k hk=>by
  have:=hqs.at_ k (by show k<9;omega);have e:∀k:Nat,k<8->((Aa 8 [(4:Int)]).flatten++[16]).getD k 0=4:=by decide
  rw [e k hk] at this;exact this
 obtain ⟨os,p,o8,o9,e,h⟩:=Zkk hql bq (ns:=ns) (i:=i) (ks:=ks) (AJ ks.length) (fun k h=>Ar (BE.mp h) hk) [] 1 none none (by rw [Cu];exact (Ho _).symm▸hk);rw [Cu] at h;have m8:Zat (.lst ([4].map D.int)) (.int 8)=some (iD (Aa 8 [(4:Int)]).flatten):=Zjp (ws:=[4]) (m:=8) (by decide) (by decide) (by decide);have a8:Ym (iD (Aa 8 [(4:Int)]).flatten) (iD [16])=some (iD ((Aa 8 [(4:Int)]).flatten++[16])):=Zhs (by decide);exact ⟨os,Zah (Zo (Xe (Yc (Ze rfl (Ze rfl (Ze (Zn (Zn (Jm (Ze (Zn rfl rfl rfl) rfl) rfl) rfl m8) (Jm (Ze rfl rfl) rfl) a8) rfl))) hrow)) (Zo (Xe (d:=.lst []) rfl) (Zo (Xe (d:=.int 1) rfl) (Zo (Zhc (Zlg (j:=(ks.length:Int)) (Ze (Jm (Ze rfl rfl) (Zen (f:=kD) ks)) rfl) (by omega)) e) (Jd rfl))))),h.trans (Ho _)⟩
def Xgj (ns qs:List Int)(rs:List (List Int))(ks:List Kd)(os:List Int)(K:List (Int ⊕ Str))(vs:List Int):Env:=[some (.scr ns),some (iD qs),some (rsD rs),some (tD ks),some (iD os),some (wD K vs),none,none]
theorem Zmn {ns qs os:List Int}{rs:List (List Int)}{ks:List Kd}{K:List (Int ⊕ Str)}(hn:ns.length<=63)(hrl:∀r∈rs,r.length<=900)(hr:rs.length<=4)(hK:K.length<=100)(hk:ks.length<=100)(ht:Zqe ks):∀(l:List Nat),(∀k∈l,k<rs.length)->∀vs:List Int,K.length=vs.length->
  ∃(pl:List (List (Int×Str))) (vs':List Int),goW 5 (Zgn 5 Xw (Zb (fV 0) (Zb (f2 Ym (fC (.int 12)) (fV 8)) (Zb (f2 gIx (fV 2) (fV 8)) (Zb (fV 3) Zu))))) (Xgj ns qs rs ks os K vs) (l.map fun k:Nat=>D.int (0+(k:Int)))=.ok (pl.map psD,Xgj ns qs rs ks os K vs')/\pl.length=l.length/\(∀ps∈pl,ps.length<=24/\∀x∈ps,plain 100 x.2=true)
 | [],_,vs,_=>⟨[],vs,rfl,rfl,fun _ z=>nomatch z⟩
 | k::l,hl,vs,hv=>by
  have hk':=hl k (.head _);obtain ⟨ps,vs1,e1,q1,q2,q3⟩:=Zwt (K:=K) (vs:=vs) (ns:=ns) (ws:=rs[k]) (i:=12+(0+(k:Int))) (ks:=ks) hn (by omega) (by omega) (hrl _ (BC hk')) hK hk ht hv;obtain ⟨pl,vs',e,p1,p2⟩:=Zmn (qs:=qs) (os:=os) hn hrl hr hK hk ht l (fun k hk=>hl k (.tail _ hk)) vs1 q1;refine ⟨ps::pl,vs',?_,by simp [p1],fun q hq=>?_⟩;rw [AH];unfold goW;have c:Zgn 5 Xw (Zb (fV 0) (Zb (f2 Ym (fC (.int 12)) (fV 8)) (Zb (f2 gIx (fV 2) (fV 8)) (Zb (fV 3) Zu)))) (Xgj ns qs rs ks os K vs++[some (.int (0+(k:Int)))])=.ok (psD ps,wD K vs1):=by have fa:Zb (fV 0) (Zb (f2 Ym (fC (.int 12)) (fV 8)) (Zb (f2 gIx (fV 2) (fV 8)) (Zb (fV 3) Zu))) (Xgj ns qs rs ks os K vs++[some (.int (0+(k:Int)))])=.ok [.scr ns,.int (12+(0+(k:Int))),iD rs[k],tD ks]:=Ze rfl (Ze (Zn rfl rfl rfl) (Ze (Zn (x:=rsD rs) (y:=.int (0+(k:Int))) rfl rfl (Xdf (f:=iD) (by rw [DH];exact Zap hk') hk')) (Ze rfl rfl)));unfold Zgn;show (Zb (fV 0) (Zb (f2 Ym (fC (.int 12)) (fV 8)) (Zb (f2 gIx (fV 2) (fV 8)) (Zb (fV 3) Zu))) (Xgj ns qs rs ks os K vs++[some (.int (0+(k:Int)))])).bind _=_;rw [fa,Jv];exact e1
  rw [c];show (goW 5 _ (Xgj ns qs rs ks os K vs1) _).bind _=_;rw [e];rfl;rcases Aj.mp hq with z | z;rw [z];exact ⟨q2,q3⟩;exact p2 q z
theorem Zcp:∀zs:List Str,Xn (zs.map D.str)=true
 | []=>rfl
 | _::zs=>by have:=Zcp zs;simp only [AH,Xn,flat,Ce];exact this
theorem Zql:∀ks:List Kd,Xn (ks.map kD)=true
 | []=>rfl
 | _::ks=>by have:=Zql ks;simp only [AH,Xn,kD,flat,Ce];exact this
theorem Zrm (xs:List α)(n:Nat):cut xs none (some (n:Int))=xs.take n:=by show (xs.drop 0).take ((if (n:Int)<0 then (max ((n:Int)+(xs.length:Int)) 0).toNat else min (n:Int).toNat xs.length) - 0)=_;rw [if_neg (by omega),Ek,GL,Hr];by_cases h:n<=xs.length;rw [DE h];rw [Gz (by omega),Gn,B5 (by omega)]
theorem seven (h:Row [13,4,24,4,2,8,8] qs):∃s0 s1 s2 s3 s4 s5 s6,qs=[s0,s1,s2,s3,s4,s5,s6]/\0<=s3/\s3<4:=by
 have hl:qs.length=7:=h.len
 match qs,hl with
 | [s0,s1,s2,s3,s4,s5,s6],_ =>have:=h.at_ 3 (by decide);exact ⟨s0,s1,s2,s3,s4,s5,s6,rfl,this.1,this.2⟩
def Zld (ns:List Int)(S:List Int)(rs:List (List Int))(ks:List Kd)(os:List Int)(o5 o6 o7:Option D):Env:=[some (.scr ns),some (iD S),some (rsD rs),some (tD ks),some (iD os),o5,o6,o7]
theorem Ztw (ns:List Int)(h:ns.length<=63):Xlh [.scr ns]=.ok (.bl true):=by
  obtain ⟨qs,hrow,hq⟩:=Zgp ns h (i:=11) (by decide) (by decide) [13,4,24,4,2,8,8] (by decide) (by decide);obtain ⟨s0,s1,s2,s3,s4,s5,s6,rfl,h30,h31⟩:=seven hq;obtain ⟨c,hc,c0,c1⟩:∃c:Int,gIx (.lst [.int 24,.int 200]) (.int (if s6=0 then 1 else 0))=some (.int c)/\0<=c/\c<=200:=by by_cases e:s6=0;rw [if_pos e];exact ⟨200,rfl,by omega,by omega⟩;rw [if_neg e];exact ⟨24,rfl,by omega,by omega⟩
  obtain ⟨rs,ks,hrs,r1,r2,k1,ht⟩:=Xfs ns h c0 c1;obtain ⟨os,hos,ho⟩:=Xiw ns h (i:=10) (by decide) (by decide) k1;obtain ⟨z,hz,hzp⟩:=Zom ns h (i:=40) (by decide) (by decide);have hS:∀(os:List Int) (o5 o6 o7:Option D) (i:Int) (d:D),gIx (iD [s0,s1,s2,s3,s4,s5,s6]) (.int i)=some d->f2 gIx (fV 1) (fC (.int i)) (Zld ns [s0,s1,s2,s3,s4,s5,s6] rs ks os o5 o6 o7)=.ok d:=fun os o5 o6 o7 i d h=>Zn (x:=iD [s0,s1,s2,s3,s4,s5,s6]) rfl rfl h;obtain ⟨os',sP,ho'⟩:∃os':List Int,sIf (Zot (cE (f2 gEq (f2 gIx (fV 1) (fC (.int 5))) (fC (.int 0)))) (cE (f2 gGt (fA Zbc (Zb (fV 4) Zu)) (fC (.int 0))))) (Zth 4 (f2 Zel (f2 gIx (fV 1) (fC (.int 2))) (fA Zbc (Zb (fV 4) Zu))) (f2 Ym (f2 Zgf (fC (.int 10)) (fC (.int 30))) (f2 gIx (fV 1) (fC (.int 0))))) sNx (Zld ns [s0,s1,s2,s3,s4,s5,s6] rs ks os none none none)=.ok (.nx (Zld ns [s0,s1,s2,s3,s4,s5,s6] rs ks os' none none none))/\os'.length=ks.length:=by
    have ln:fA Zbc (Zb (fV 4) Zu) (Zld ns [s0,s1,s2,s3,s4,s5,s6] rs ks os none none none)=.ok (.int (os.length:Int)):=Jm (Ze rfl rfl) (Zen (f:=D.int) os);by_cases q:s5=0;have c1:=Yk (Zn (b:=fC (.int 0)) (hS os none none none 5 (.int s5) rfl) rfl ((Zdl _ _).trans (Zja q)));by_cases q2:(os.length:Int) > 0;have hp:(0:Int)<os.length:=q2;obtain ⟨j,hj,mj⟩:∃j:Nat,j<os.length/\Zel (.int s2) (.int (os.length:Int))=some (.int (j:Int)):=by have r3:=BQ s2 (show (os.length:Int)≠0 by omega);have r4:=BF s2 hp;exact ⟨(s2 % os.length).toNat,by omega,by rw [Zbm hp];congr 2;omega⟩
    have pt:=Zzg (i:=4) (k:=f2 Zel (f2 gIx (fV 1) (fC (.int 2))) (fA Zbc (Zb (fV 4) Zu))) (e:=f2 Ym (f2 Zgf (fC (.int 10)) (fC (.int 30))) (f2 gIx (fV 1) (fC (.int 0)))) (ρ:=Zld ns [s0,s1,s2,s3,s4,s5,s6] rs ks os none none none) (d:=.int (10 ^ 30+s0)) (xs:=os.map D.int) (j:=j) (n:=(j:Int)) (Zn (Zn (z:=.int (10 ^ 30)) rfl rfl rfl) (hS os none none none 0 (.int s0) rfl) rfl) rfl (Zn (hS os none none none 2 (.int s2) rfl) ln mj) rfl (Zds os) (by rw [Ae];exact Zap hj);have en:(os.map D.int).set j (.int (10 ^ 30+s0))=(os.set j (10 ^ 30+s0)).map D.int:=Ga.symm;rw [en] at pt;exact ⟨os.set j (10 ^ 30+s0),Jf (Zdc c1 (Yk (Zn (b:=fC (.int 0)) ln rfl (Zja (p:=(os.length:Int) > 0) q2)))) pt,by rw [Bw];exact ho⟩;exact ⟨os,Yh (Zdc c1 (Yk (Zn (b:=fC (.int 0)) ln rfl (Zjq (p:=(os.length:Int) > 0) q2)))) rfl,ho⟩;exact ⟨os,Yh (Zft (Yk (Zn (b:=fC (.int 0)) (hS os none none none 5 (.int s5) rfl) rfl ((Zdl _ _).trans (Zjq q))))) rfl,ho⟩
  obtain ⟨K,vs,sD,hK,hv⟩:∃(K:List (Int ⊕ Str)) (vs:List Int),sIf (cE (f2 gEq (f2 gIx (fV 1) (fC (.int 4))) (fC (.int 0)))) (Ya 5 (fA Zjo (Zb (Zaa 8 2 (Ztz (fV 3) (fV 4)) (Zeo (Xr (Zr 8) (Xr (Zr 9) Zej))) Zec (fA Zcf (Zb (f1 Xi (f2 gIx (fV 8) (fC (.int 0)))) (Zb (f1 Xi (fV 9)) Zu)))) Zu))) sNx (Zld ns [s0,s1,s2,s3,s4,s5,s6] rs ks os' (some (.dct [] [])) none none)=.ok (.nx (Zld ns [s0,s1,s2,s3,s4,s5,s6] rs ks os' (some (wD K vs)) none none))/\K.length<=100/\K.length=vs.length:=by
    by_cases q:s4=0;have hfst:(ks.zip os').map (·.1)=ks:=Gq (by omega);have hnd:((ks.zip os').map fun p=>p.1.name).Nodup:=by
      have:((ks.zip os').map fun p=>p.1.name)=ks.map (·.name):=by
        conv=>rhs;rw [<- hfst,BU]
        rfl
      rw [this];exact ht.nd
    have hLl:(ks.zip os').length<=100:=by rw [CL];omega
    have cm:=Zrh (n:=8) (ρ:=Zld ns [s0,s1,s2,s3,s4,s5,s6] rs ks os' (some (.dct [] [])) none none) (xs:=ks.zip os') (f:=fun p=>kD p.1) (g:=fun p=>.int p.2) (v:=fun p=>D.tup [.str p.1.name,.int p.2]) (e:=fA Zcf (Zb (f1 Xi (f2 gIx (fV 8) (fC (.int 0)))) (Zb (f1 Xi (fV 9)) Zu))) rfl fun p _=>Jm (Ze (Zfn (Zn (x:=kD p.1) rfl rfl rfl) rfl) (Ze (Zfn (x:=.int p.2) rfl rfl) rfl)) rfl;have s5':fA Zjo (Zb (Zaa 8 2 (Ztz (fV 3) (fV 4)) (Zeo (Xr (Zr 8) (Xr (Zr 9) Zej))) Zec (fA Zcf (Zb (f1 Xi (f2 gIx (fV 8) (fC (.int 0)))) (Zb (f1 Xi (fV 9)) Zu)))) Zu) (Zld ns [s0,s1,s2,s3,s4,s5,s6] rs ks os' (some (.dct [] [])) none none)=.ok (.dct (kL (ks.zip os')) (vL (ks.zip os') [])):=Jm (Ze (r:=Zu) (Zcn (n:=8) (k:=2) rfl (Zjj (a:=fV 3) (b:=fV 4) (f:=kD) (g:=D.int) (xs:=ks) (ys:=os') rfl rfl (by omega) (by omega)) cm) rfl) (Xek hnd hLl);have ev:vL (ks.zip os') []=((ks.zip os').map (·.2)).map D.int:=by unfold vL;rw [BU];exact CQ fun p _=>by simp
    rw [ev] at s5';exact ⟨kL (ks.zip os'),(ks.zip os').map (fun p:Kd×Int=>p.2),Jf (Yk (Zn (b:=fC (.int 0)) (hS os' _ none none 4 (.int s4) rfl) rfl ((Zdl _ _).trans (Zja q)))) (Xe s5'),by unfold kL;rw [Ae];exact hLl,by unfold kL;rw [Ae,Ae]⟩;exact ⟨[],[],Yh (Yk (Zn (b:=fC (.int 0)) (hS os' _ none none 4 (.int s4) rfl) rfl ((Zdl _ _).trans (Zjq q)))) rfl,by simp,rfl⟩
  have r2':∀r∈rs,r.length<=900:=fun r hr=>AT (r2 r hr) (by omega);obtain ⟨pl,vs',eg,p1,p2⟩:=Zmn (qs:=[s0,s1,s2,s3,s4,s5,s6]) (os:=os') (K:=K) h r2' r1 hK (by omega) ht (AJ rs.length) (fun k hk=>BE.mp hk) vs hv;rw [Cu] at p1;have sM:Zuy 6 (Zkg 8 5 (Zek (Zb (fA Zbc (Zb (fV 2) Zu)) Zu)) (Zgn 5 Xw (Zb (fV 0) (Zb (f2 Ym (fC (.int 12)) (fV 8)) (Zb (f2 gIx (fV 2) (fV 8)) (Zb (fV 3) Zu)))))) (Zld ns [s0,s1,s2,s3,s4,s5,s6] rs ks os' (some (wD K vs)) none none)=.ok (.nx (Zld ns [s0,s1,s2,s3,s4,s5,s6] rs ks os' (some (wD K vs')) (some (plD pl)) none)):=by have it:Zek (Zb (fA Zbc (Zb (fV 2) Zu)) Zu) (Zld ns [s0,s1,s2,s3,s4,s5,s6] rs ks os' (some (wD K vs)) none none)=.ok (Zhb 0 rs.length):=Zlg (j:=(rs.length:Int)) (Ze (Jm (Ze rfl rfl) (Zen (f:=iD) rs)) rfl) (by omega);unfold Zuy Zkg;rw [if_pos (show (Zld ns [s0,s1,s2,s3,s4,s5,s6] rs ks os' (some (wD K vs)) none none).length=8 from rfl),it,Jv];show ((goW 5 _ (Xgj ns [s0,s1,s2,s3,s4,s5,s6] rs ks os' K vs) ((AJ rs.length).map fun k:Nat=>D.int (0+(k:Int)))).calm.bind _).bind _=_;rw [eg];rfl
  have okp:Xep pl:=⟨by omega,fun ps hp=>AT (p2 ps hp).1 (by omega),fun ps hp=>(p2 ps hp).2⟩;have right:=fun {pl:List (List (Int×Str))} (hp:Xep pl)=>Ztm (rs:=rs) (ks:=ks) (os:=os') (pl:=pl) (by omega) r2' (by omega) ht ho' hp;have nmL:∃zs:List Str,zs.length=4/\(∀y∈zs,plain 100 y=true)/\∀ρ:Env,(∃o5 o6 o7,ρ=Zld ns [s0,s1,s2,s3,s4,s5,s6] rs ks os' o5 o6 o7)->(f2 Ym (fA Jq (Zb (fC (.str ("":Str))) (Zb (fC (.str ("A":Str))) (Zb (Xy Yg (Zb (fV 0) (Zb (fC (.int 40)) Zu))) Zu)))) (Zaa 8 1 (Zad (fSl gSl (fV 3) Zfi (Zdk (fC (.int 1))))) (Zr 8) Zec (f1 Xi (f2 gIx (fV 8) (fC (.int 0)))))) ρ=.ok (.lst ((([("":Str),"A",z]:List Str)++(ks.take 1).map Kd.name).map D.str))/\zs=(([("":Str),"A",z]:List Str)++(ks.take 1).map Kd.name++([("zzzzzzzzz":Str)]:List Str)).take 4:=by
    have pe:plain 100 ("":Str)=true:=by decide +kernel
    have pA:plain 100 ("A":Str)=true:=by decide +kernel
    have pZ:plain 100 ("zzzzzzzzz":Str)=true:=by decide +kernel
    have pz:=Zbi hzp (show 9<=100 by omega);refine ⟨(([("":Str),"A",z]:List Str)++(ks.take 1).map Kd.name++([("zzzzzzzzz":Str)]:List Str)).take 4,?_,fun y hy=>?_,?_⟩;rw [Bb,Ao,Ao];show min 4 (3+_+1)=4;omega;have hy:=Cz hy;rcases Ad.mp hy with q | q;rcases Ad.mp q with q | q;simp only [Aj,BA,or_false] at q;rcases q with rfl | rfl | rfl;exact pe;exact pA;exact pz;obtain ⟨k,hk,rfl⟩:=CZ.mp q;exact Zbi (Zjy _ (ht.ok k (Cz hk)).nm) (by omega);rw [An.mp q];exact pZ
    · rintro ρ ⟨o5,o6,o7,rfl⟩;refine ⟨?_,rfl⟩;have sl:fSl gSl (fV 3) Zfi (Zdk (fC (.int 1))) (Zld ns [s0,s1,s2,s3,s4,s5,s6] rs ks os' o5 o6 o7)=.ok (.lst ((ks.take 1).map kD)):=r_sl (x:=tD ks) (lo:=none) (hi:=some 1) rfl rfl rfl (by
        show (if Xn (ks.map kD) then some (D.lst (cut (ks.map kD) none (some 1))) else none)=_;rw [if_pos (Zql ks),Zhx,show (1:Int)=((1:Nat):Int) from rfl,Zrm])
      have c1:=Zeq (n:=8) (ρ:=Zld ns [s0,s1,s2,s3,s4,s5,s6] rs ks os' o5 o6 o7) (enc:=kD) (v:=fun k:Kd=>D.str k.name) (xs:=ks.take 1) (e:=f1 Xi (f2 gIx (fV 8) (fC (.int 0)))) rfl fun k _=>Zfn (Zn (x:=kD k) rfl rfl rfl) rfl;have e1:(ks.take 1).map (fun k:Kd=>D.str k.name)=((ks.take 1).map Kd.name).map D.str:=by rw [BU];rfl
      rw [e1] at c1;have hl1:(ks.take 1).length<=1:=by rw [Bb];omega
      refine Zn (x:=.lst (([("":Str),"A",z]:List Str).map D.str)) (Jm (Ze rfl (Ze rfl (Ze (Yc (Ze rfl (Ze rfl rfl)) hz) rfl))) rfl) (Zcn (k:=1) rfl (Zch sl (Zaf (n:=1) hl1)) c1) ?_;show (if (([("":Str),"A",z]:List Str).map D.str).length+(((ks.take 1).map Kd.name).map D.str).length<=lim/\Xn (([("":Str),"A",z]:List Str).map D.str)/\Xn (((ks.take 1).map Kd.name).map D.str) then some (D.lst (([("":Str),"A",z]:List Str).map D.str++((ks.take 1).map Kd.name).map D.str)) else none)=_;rw [if_pos ⟨by rw [Ae,Ae,Ae];show 3+_<=1000000;omega,Zcp _,Zcp _⟩,<- Bv]
  obtain ⟨zs,z1,z2,z3⟩:=nmL;refine Zah ?_;unfold Xrb;have gi:fA Xjy (Zb (f2 gEq (f2 gIx (fV 1) (fC (.int 6))) (fC (.int 0))) Zu) [some (.scr ns),some (iD [s0,s1,s2,s3,s4,s5,s6]),none,none,none,none,none,none]=.ok (.int (if s6=0 then 1 else 0)):=Jm (Ze (Zn (Zn (x:=iD [s0,s1,s2,s3,s4,s5,s6]) (z:=.int s6) rfl rfl rfl) rfl (Zdl _ _)) rfl) (by by_cases e:s6=0<;>simp [e,Xjy]);refine Zo (Xe (Yc (Ze rfl (Ze rfl (Ze (Jm (Ze rfl (Ze rfl (Ze rfl (Ze rfl (Ze rfl (Ze rfl (Ze rfl rfl))))))) rfl) rfl))) hrow)) (Zo (Xmw (Yc (Ze rfl (Ze rfl (Ze rfl (Ze (Zn (x:=.lst [.int 24,.int 200]) (Jm (Ze rfl (Ze rfl rfl)) rfl) gi hc) (Ze rfl rfl))))) hrs) rfl) (Zo (Xe (Yc (Ze rfl (Ze rfl (Ze rfl (Ze rfl (Ze rfl rfl))))) hos)) (Zo sP (Zo (Xe (d:=.dct [] []) rfl) (Zo sD (Zo sM (Zo (Yh (Zgo (b:=true) (Yk (Yc (Ze rfl (Ze rfl (Ze rfl (Ze rfl rfl)))) (right okp)))) rfl) ?_)))))));by_cases q:s0<8
  · obtain ⟨pl',es,okp'⟩:=Zoo (pl:=pl) (s0:=s0) (s1:=s1) (s2:=s2) (s3:=s3) (zs:=zs) (by omega) (fun ps hp=>AT (p2 ps hp).1 (by omega)) (fun ps hp=>(p2 ps hp).2) h30 h31 z1 z2;obtain ⟨n1,n2⟩:=z3 (Zld ns [s0,s1,s2,s3,s4,s5,s6] rs ks os' (some (wD K vs')) (some (plD pl)) none) ⟨_,_,_,rfl⟩;have hl1:(ks.take 1).length<=1:=by rw [Bb];omega
    have s7:fSl gSl (f2 Ym (fV 7) (fA Jq (Zb (fC (.str ("zzzzzzzzz":Str))) Zu))) Zfi (Zdk (fC (.int 4))) (Zld ns [s0,s1,s2,s3,s4,s5,s6] rs ks os' (some (wD K vs')) (some (plD pl)) (some (.lst ((([("":Str),"A",z]:List Str)++(ks.take 1).map Kd.name).map D.str))))=.ok (.lst (zs.map D.str)):=r_sl (x:=.lst ((([("":Str),"A",z]:List Str)++(ks.take 1).map Kd.name++([("zzzzzzzzz":Str)]:List Str)).map D.str)) (lo:=none) (hi:=some 4) (Zn (x:=.lst ((([("":Str),"A",z]:List Str)++(ks.take 1).map Kd.name).map D.str)) (y:=.lst (([("zzzzzzzzz":Str)]:List Str).map D.str)) rfl rfl (by
      show (if ((([("":Str),"A",z]:List Str)++(ks.take 1).map Kd.name).map D.str).length+(([("zzzzzzzzz":Str)]:List Str).map D.str).length<=lim/\Xn ((([("":Str),"A",z]:List Str)++(ks.take 1).map Kd.name).map D.str)/\Xn (([("zzzzzzzzz":Str)]:List Str).map D.str) then some (D.lst ((([("":Str),"A",z]:List Str)++(ks.take 1).map Kd.name).map D.str++([("zzzzzzzzz":Str)]:List Str).map D.str)) else none)=_;rw [if_pos ⟨by rw [Ae,Ao,Ae,Ae];show 3+_+1<=1000000;omega,Zcp _,Zcp _⟩,<- Bv])) rfl rfl (by
      show (if Xn ((([("":Str),"A",z]:List Str)++(ks.take 1).map Kd.name++([("zzzzzzzzz":Str)]:List Str)).map D.str) then some (D.lst (cut ((([("":Str),"A",z]:List Str)++(ks.take 1).map Kd.name++([("zzzzzzzzz":Str)]:List Str)).map D.str) none (some 4))) else none)=_;rw [if_pos (Zcp _),Zhx,show (4:Int)=((4:Nat):Int) from rfl,Zrm,n2])
    have sv:f2 Zoy (fSl Xge (fV 1) Zfi (Zdk (fC (.int 4)))) (fA Jq (Zb (fV 7) Zu)) (Zld ns [s0,s1,s2,s3,s4,s5,s6] rs ks os' (some (wD K vs')) (some (plD pl)) (some (.lst (zs.map D.str))))=.ok (Zcl s0 s1 s2 s3 zs):=Zn (x:=.lst [.int s0,.int s1,.int s2,.int s3]) (y:=.lst [.lst (zs.map D.str)]) (r_sl (x:=iD [s0,s1,s2,s3,s4,s5,s6]) (lo:=none) (hi:=some 4) rfl rfl rfl rfl) (Jm (Ze rfl rfl) rfl) rfl;exact Zbq (Jf (Yk (Zn (b:=fC (.int 8)) (hS os' _ _ none 0 (.int s0) rfl) rfl (Zja (p:=s0<8) q))) (Zo (Xe n1) (Zo (Xe s7) (Jd (Yc (Ze rfl (Ze rfl (Ze rfl (Ze (Yc (Ze rfl (Ze sv rfl)) es) rfl)))) (right okp'))))))
  exact Zo (Yh (Yk (Zn (b:=fC (.int 8)) (hS os' _ _ none 0 (.int s0) rfl) rfl (Zjq (p:=s0<8) q))) rfl) (Jd rfl)
end Dl
set_option maxHeartbeats 4000000
namespace K62
open PySem PySem.Spec PyProof.Rows L2
open Dl (D R FE FT FA FO FS FI FB Fl)
variable {P q:Aw}{w:AS}{K:AE}{C:String->Addr}{mg:Str->Option Value}{f a:Addr}{fd:B3}{xs:List V}{h:AZ}{loose:List Str}{XP:(Str->Option Value)->AZ->Prop}{YP:AS->AZ->Prop}{d:DefRec}
def top (i:Nat):Stmt:=PySem.Challenge.pw_selvage_k62_what_plans_leave.main.body.getD i (.Pass ⟨0,0,0,0⟩)
abbrev Zop:Stmt:=top 5
abbrev Zlz:Stmt:=top 7
abbrev Zsk:Stmt:=top 8
abbrev Xld:Stmt:=top 10
abbrev Zpt:Stmt:=top 12
abbrev Zhk:Stmt:=top 14
abbrev Zbk:Stmt:=top 15
abbrev Zfv:Stmt:=top 17
abbrev Zic:Stmt:=top 18
abbrev Zjd:Stmt:=top 19
abbrev Zew:Stmt:=top 20
abbrev Zgh:Stmt:=top 21
abbrev Zga:Stmt:=top 22
abbrev Zfu:Stmt:=top 23
abbrev Zgd:Stmt:=top 24
abbrev Zbt:Stmt:=top 25
abbrev Zcg:Stmt:=top 26
abbrev Zba:Stmt:=top 27
abbrev Zcw:Stmt:=top 28
abbrev Zey:Stmt:=top 29
abbrev Zcm:Stmt:=top 30
abbrev Zcb:Stmt:=top 31
abbrev Zko:Stmt:=top 32
abbrev Zaq:Stmt:=top 33
abbrev Zfw:Stmt:=top 34
abbrev Zax:Stmt:=top 35
abbrev Zcx:Stmt:=top 36
abbrev Xcd:Stmt:=top 37
abbrev Zdb:Stmt:=top 32
theorem Zsh:Xd ["roll","begin","end"] ["roll","begin","end"] (Zl Zop):=⟨rfl,rfl,rfl,by decide +kernel,rfl,by decide +kernel,by decide +kernel⟩
theorem Zne:Xd ["table","name","kind"] ["table","name"] (Zl Zlz):=⟨rfl,rfl,rfl,by decide +kernel,rfl,by decide +kernel,by decide +kernel⟩
theorem Zyf:Xd ["table"] ["table"] (Zl Zsk):=⟨rfl,rfl,rfl,by decide +kernel,rfl,by decide +kernel,by decide +kernel⟩
theorem Xem:Xd ["roll","kind","place","end"] ["roll","kind","place"] (Zl Xld):=⟨rfl,rfl,rfl,by decide +kernel,rfl,by decide +kernel,by decide +kernel⟩
theorem Zqi:Xd ["roll","table","cutting","worth","free_from","place","name","kind"] ["roll","table","cutting"] (Zl Zpt):=⟨rfl,rfl,rfl,by decide +kernel,rfl,by decide +kernel,by decide +kernel⟩
theorem Znd:Xd ["rolls","table","plan"] ["rolls","table","plan"] (Zl Zhk):=⟨rfl,rfl,rfl,by decide +kernel,rfl,by decide +kernel,by decide +kernel⟩
theorem Zjc:Xd ["rolls","table","order","plan","cut","cutting","left"] ["rolls","table","order","plan"] (Zl Zbk):=⟨rfl,rfl,rfl,by decide +kernel,rfl,by decide +kernel,by decide +kernel⟩
theorem Zhy:Xd ["_law_script","_law_place","_law_seed","_law_cell_here"] ["_law_script","_law_place"] (Zl Zfv):=⟨rfl,rfl,rfl,by decide +kernel,rfl,by decide +kernel,by decide +kernel⟩
theorem Zkb:Xd ["_law_cell_here","_law_k","_law_one","_law_two"] ["_law_cell_here","_law_k"] (Zl Zic):=⟨rfl,rfl,rfl,by decide +kernel,rfl,by decide +kernel,by decide +kernel⟩
theorem Zkc:Xd ["_law_script","_law_place","_law_sizes","_law_cell_here","_law_left_here","_law_some","_law_k","_law_other"] ["_law_script","_law_place","_law_sizes"] (Zl Zjd):=⟨rfl,rfl,rfl,by decide +kernel,rfl,by decide +kernel,by decide +kernel⟩
theorem Zgw:Xd ["_law_script","_law_place","_law_most","_law_pool","_law_some","_law_flaw_here","_law_gain","_law_table_here","_law_k","_law_at","_law_width","_law_worth","_law_allowed","_law_name"] ["_law_script","_law_place","_law_most"] (Zl Zew):=⟨rfl,rfl,rfl,by decide +kernel,rfl,by decide +kernel,by decide +kernel⟩
theorem Zil:Xd ["_law_script","_law_place","_law_most"] ["_law_script","_law_place","_law_most"] (Zl Zgh):=⟨rfl,rfl,rfl,by decide +kernel,rfl,by decide +kernel,by decide +kernel⟩
theorem Zjf:Xd ["_law_script","_law_place","_law_most","_law_flaw_here","_law_some","_law_great","_law_roll_here","_law_k","_law_at","_law_weight"] ["_law_script","_law_place","_law_most","_law_flaw_here"] (Zl Zga):=⟨rfl,rfl,rfl,by decide +kernel,rfl,by decide +kernel,by decide +kernel⟩
theorem Zjb:Xd ["_law_roll_here","_law_sums_here","_law_weight"] ["_law_roll_here"] (Zl Zfu):=⟨rfl,rfl,rfl,by decide +kernel,rfl,by decide +kernel,by decide +kernel⟩
theorem Ziu:Xd ["_law_sums_here","_law_kind","_law_at","_law_end"] ["_law_sums_here","_law_kind","_law_at"] (Zl Zgd):=⟨rfl,rfl,rfl,by decide +kernel,rfl,by decide +kernel,by decide +kernel⟩
theorem Zfd:Xd ["_law_roll_here","_law_table_here","_law_cutting","_law_sums_here","_law_total","_law_free","_law_place","_law_name","_law_found"] ["_law_roll_here","_law_table_here","_law_cutting"] (Zl Zbt):=⟨rfl,rfl,rfl,by decide +kernel,rfl,by decide +kernel,by decide +kernel⟩
theorem Zdy:Xd ["_law_one"] ["_law_one"] (Zl Zcg):=⟨rfl,rfl,rfl,by decide +kernel,rfl,by decide +kernel,by decide +kernel⟩
theorem Zco:Xd ["_law_found","_law_one"] ["_law_found"] (Zl Zba):=⟨rfl,rfl,rfl,by decide +kernel,rfl,by decide +kernel,by decide +kernel⟩
theorem Zgl:Xd ["_law_script","_law_place","_law_most","_law_cells","_law_kinds","_law_flaw_here","_law_table_here","_law_count","_law_rolls_here"] ["_law_script","_law_place","_law_most","_law_cells","_law_kinds"] (Zl Zcw):=⟨rfl,rfl,rfl,by decide +kernel,rfl,by decide +kernel,by decide +kernel⟩
theorem Zgx:Xd ["_law_script","_law_place","_law_table_here","_law_most","_law_limit","_law_some","_law_order_here","_law_product","_law_k","_law_wanted"] ["_law_script","_law_place","_law_table_here","_law_most","_law_limit"] (Zl Zey):=⟨rfl,rfl,rfl,by decide +kernel,rfl,by decide +kernel,by decide +kernel⟩
theorem Zig:Xd ["_law_rolls_here","_law_table_here","_law_order_here","_law_plan","_law_left_here","_law_roll_here","_law_cutting","_law_place","_law_name","_law_rest"] ["_law_rolls_here","_law_table_here","_law_order_here","_law_plan"] (Zl Zcm):=⟨rfl,rfl,rfl,by decide +kernel,rfl,by decide +kernel,by decide +kernel⟩
theorem Zfo:Xd ["_law_rolls_here","_law_table_here","_law_order_here"] ["_law_rolls_here","_law_table_here","_law_order_here"] (Zl Zcb):=⟨rfl,rfl,rfl,by decide +kernel,rfl,by decide +kernel,by decide +kernel⟩
theorem Xjr:Xd ["_law_script","_law_place","_law_roll_here","_law_table_here","_law_wanted","_law_sums_here","_law_some","_law_found","_law_at","_law_k","_law_kind"] ["_law_script","_law_place","_law_roll_here","_law_table_here","_law_wanted"] (Zl Zko):=⟨rfl,rfl,rfl,by decide +kernel,rfl,by decide +kernel,by decide +kernel⟩
theorem Zdu:Xd ["_law_script","_law_place","_law_signs","_law_some"] ["_law_script","_law_place"] (Zl Zaq):=⟨rfl,rfl,rfl,by decide +kernel,rfl,by decide +kernel,by decide +kernel⟩
theorem Zix:Xd ["_law_cutting","_law_k","_law_some","_law_found","_law_place","_law_name"] ["_law_cutting","_law_k","_law_some"] (Zl Zfw):=⟨rfl,rfl,rfl,by decide +kernel,rfl,by decide +kernel,by decide +kernel⟩
theorem Zff:Xd ["_law_plan","_law_some","_law_bent_here","_law_at","_law_k"] ["_law_plan","_law_some"] (Zl Zax):=⟨rfl,rfl,rfl,by decide +kernel,rfl,by decide +kernel,by decide +kernel⟩
theorem Zgv:Xd ["_law_rolls_here","_law_table_here","_law_order_here","_law_plan","_law_handed","_law_due","_law_given","_law_k","_law_found","_law_one"] ["_law_rolls_here","_law_table_here","_law_order_here","_law_plan"] (Zl Zcx):=⟨rfl,rfl,rfl,by decide +kernel,rfl,by decide +kernel,by decide +kernel⟩
theorem Xre:Xd ["_law_script","_law_some","_law_rolls_here","_law_table_here","_law_order_here","_law_wanted","_law_plan","_law_names_told"] ["_law_script"] (Zl Xcd):=⟨rfl,rfl,rfl,by decide +kernel,rfl,by decide +kernel,by decide +kernel⟩
theorem Zep:Xd ["_law_script","_law_place","_law_roll_here","_law_table_here","_law_wanted","_law_sums_here","_law_some","_law_found","_law_at","_law_k","_law_kind"] ["_law_script","_law_place","_law_roll_here","_law_table_here","_law_wanted"] (Zl Zdb):=⟨rfl,rfl,rfl,by decide +kernel,rfl,by decide +kernel,by decide +kernel⟩
structure Txt (mg:Str->Option Value)(K:AE)(C:String->Addr):Prop where
 sum:mg "sum"=none
 len:mg "len"=none
 all:mg "all"=none
 zip:mg "zip"=none
 any:mg "any"=none
 range:mg "range"=none
 min:mg "min"=none
 isinstance:mg "isinstance"=none
 int:mg "int"=none
 bool:mg "bool"=none
 list:mg "list"=none
 tuple:mg "tuple"=none
 str:mg "str"=none
 dict:mg "dict"=none
 mNoKind:mg "NoKind"=some (.ref (C "NoKind"))
 eNoKind:Zuf K (C "NoKind")
 mNoPlace:mg "NoPlace"=some (.ref (C "NoPlace"))
 eNoPlace:Zuf K (C "NoPlace")
 sNoKind_NoPlace:C6 K (.ref (C "NoKind")) (.ref (C "NoPlace"))=some false
section
variable {base:AZ}
theorem Xai (F:Fun K "spoilt" "spoilt" Zop f fd)(T:Txt mg K C):Zbd P w K mg base CX0 7 f fd ["roll","begin","end"] (spD K C 3 2 Dl.Zed):=by
  refine F.okC Zsh (Γ':=[]) (Δ':=[]) rfl fun cdv A outer s H E hr=>?_;have sc:=Zsh;have hu:_+64<Bi:=hr.units;exact ⟨_,(Zg [] [] (Yn (Zpe (Zhh (Xf Ziy Zdq (Zk 1) Zc (Zy _)) (Zhh (Xf Zhi Zdh (Zk 2) (Xj (r:=Zaj K) Xo Yi rfl T.len PySem.boot_len (Zd (Zk 0) Zj Za) (he:=Za)) (Zy _)) (Zer (Xf Zhi Zdh (Zk 1) (Zk 2) (Zy _)))))) (Zm Xbq) Xb)
      (Zm (Xl (Xj (r:=rSum K) (Xch rfl) Xgt rfl T.sum HF (Zd (Zum K (Zk 0) (Zde (Zk 1)) (Zde (Zk 2))) Zj Xa) (he:=Xa)))))⟩
theorem Zwx (F:Fun K "kind_of" "kind_of" Zlz f fd)(T:Txt mg K C):Zbd P w K mg base (CXE P w) 7 f fd ["table","name"] (spD K C 2 2 Dl.Zav):=by
  refine F.okCE Zne (Γ':=[]) (Δ':=[]) rfl fun cdv A outer s H E hr=>?_;have sc:=Zne;have hu:_+64<Bi:=hr.units;exact ⟨_,(Zg [] [] (Xox (Zca [] [] AL rfl (Yr (Zk 0)) (Yx (i:=2) (hN:=sc.nd) (hi:=rfl) (hx:=Af rfl)) (Zm (Yn (Xf (r:=Zho K) (Jj hu) Ji (Zs K (Zk 2) Zc Zh) (Zk 1) (Zy _)) (Zm (Xl (Xp (Zk 2)))) Xb))))
      (Zm (Zvs T.eNoKind.exc T.mNoKind (Xmt (Xqt (Zk 1) Xpf)))))⟩
theorem Xht (F:Fun K "names" "names" Zsk f fd)(T:Txt mg K C):Zbd P w K mg base CX0 7 f fd ["table"] (spD K C 1 2 Dl.Zex):=by
 refine F.okC Zyf (Γ':=[]) (Δ':=[]) rfl fun cdv A outer s H E hr=>?_;have sc:=Zyf;have hu:_+64<Bi:=hr.units;have nd0:Bf (["table","kind"]:List Str):=by decide +kernel
 exact ⟨_,(Zm (Xl (Zcd (n:=1) (Zl Zsk) ["table"] ["table"] ["kind"] ⟨rfl,by decide +kernel,by decide +kernel,by decide +kernel,by decide +kernel,by decide +kernel,rfl,by decide +kernel⟩ (Yr (Zk 0)) (fun _ _ _ _ _=>(Yp 1 (hN:=nd0))) (fun _ _ _ _ _=>Jr) (fun _ _ _ _ _=>(Xp (Zs K (Zk 1 (hv:=Af rfl)) Zc Zh))))))⟩
theorem Zor (F:Fun K "_law_cell" "_law_cell" Zfv f fd)(T:Txt mg K C):Zbd P w K mg base CX0 7 f fd ["_law_script","_law_place"] (spD K C 2 2 Dl.Zan):=by
  refine F.okC Zhy (Γ':=[]) (Δ':=[]) rfl fun cdv A outer s H E hr=>?_;have sc:=Zhy;have hu:_+64<Bi:=hr.units;exact ⟨_,(Zg [] [] (Yn (Xf Ziy Zdq (Zk 1) (Xj (r:=Zaj K) Xo Yi rfl T.len PySem.boot_len (Zd (Zk 0) Zj Za) (he:=Za)) (Zy _)) (Zm (Xl (Xp (Zs K (Zk 0) (Zk 1) Xh)))) Xb)
      (Zg [2] [2] (Zw (i:=2) sc.nd rfl (Af rfl) Zc)
      (Zg [2] [2] (Zca [2] [2] AL rfl (Yr (Zum K (Zk 0) Zid (Zde Zc))) (Yx (i:=3) (hN:=sc.nd) (hi:=rfl) (hx:=Af rfl)) (Zm (Zw (i:=2) sc.nd rfl (Af rfl) (Zp Zai Yz (Zp Zt Zv (Zp Zt Zv (Zp Xt Xu (Zk 2) Zc) (Zp Zai Yz (Zk 3) Zc)) Zc) Zc))))
      (Zm (Xl (Zp Zai Yz (Zp Zt Zv (Zk 2) (Zp Xt Xu Zc (Zk 1))) Zc))))))⟩
theorem Zsz (F:Fun K "_law_mix" "_law_mix" Zic f fd)(T:Txt mg K C):Zbd P w K mg base CX0 7 f fd ["_law_cell_here","_law_k"] (spD K C 2 2 Dl.Zbh):=by
  refine F.okC Zkb (Γ':=[]) (Δ':=[]) rfl fun cdv A outer s H E hr=>?_;have sc:=Zkb;have hu:_+64<Bi:=hr.units;exact ⟨_,(Zg [2] [2] (Zw (i:=2) sc.nd rfl (Af rfl) (Zp Zai Yz (Zp Zdi Zbb (Zp Zt Zv (Zp Zt Zv (Zp Zai Yz (Zk 0) Zc) (Zp Xt Xu Zc (Zk 1))) Zc) Zc) Zc))
      (Zg [2,3] [2,3] (Zw (i:=3) sc.nd rfl (Af rfl) (Zp Zai Yz (Zp Zt Zv (Zp Zt Zv (Zp Xt Xu (Zk 2) Zc) (Zp Xt Xu (Zp Xt Xu Zc (Zk 1)) (Zk 1))) Zc) Zc))
      (Zm (Xl (Zp Zru Zyq (Zk 3) Zc)))))⟩
theorem Zpm (F:Fun K "_law_sums" "_law_sums" Zfu f fd)(T:Txt mg K C):Zbd P w K mg base CX0 7 f fd ["_law_roll_here"] (spD K C 1 2 Dl.Jg):=by
  refine F.okC Zjb (Γ':=[]) (Δ':=[]) rfl fun cdv A outer s H E hr=>?_;have sc:=Zjb;have hu:_+64<Bi:=hr.units;exact ⟨_,(Zg [1] [1] (Zw (i:=1) sc.nd rfl (Af rfl) (Yd (Zi Zc Zj Zf)))
      (Zg [1] [1] (Zca [1] [1] AL rfl (Yr (Zk 0)) (Yx (i:=2) (hN:=sc.nd) (hi:=rfl) (hx:=Af rfl)) (Zm (Zgk (i:=1) (he:=(Zp Zt Zv (Zs K (Zk 1) (Zsa Zc) Xdi) (Zk 2))) (hse:=Zx))))
      (Zm (Xl (Zhj 1)))))⟩
theorem Zos (F:Fun K "_law_good" "_law_good" Zgd f fd)(T:Txt mg K C):Zbd P w K mg base CX0 7 f fd ["_law_sums_here","_law_kind","_law_at"] (spD K C 3 2 Dl.Ys):=by
  refine F.okC Ziu (Γ':=[]) (Δ':=[]) rfl fun cdv A outer s H E hr=>?_;have sc:=Ziu;have hu:_+64<Bi:=hr.units;exact ⟨_,(Zg [3] [3] (Zw (i:=3) sc.nd rfl (Af rfl) (Zp Zt Zv (Zk 2) (Zs K (Zk 1) Zc Zh)))
      (Zg [3] [3] (Yn (Zpe (Zhh (Xf Ziy Zdq (Zk 2) Zc (Zy _)) (Zer (Xf op_ge Xmj (Zk 3) (Xj (r:=Zaj K) Xo Yi rfl T.len PySem.boot_len (Zd (Zk 0) Zj Za) (he:=Za)) (Zy _))))) (Zm (Xl Zhf)) Xb)
      (Zm (Xl (Zgu Xnv Xfj (Zp Zdg Zaz (Zs K (Zk 0) (Zk 3) Xh) (Zs K (Zk 0) (Zk 2) Xh)) (Zs K (Zk 1) Zc Zh) (Zy _))))))⟩
theorem Zio (F:Fun K "_law_is_whole" "_law_is_whole" Zcg f fd)(T:Txt mg K C):Zbd P w K mg base CX0 7 f fd ["_law_one"] (spD K C 1 2 Dl.Xz):=by refine F.okC Zdy (Γ':=[]) (Δ':=[]) rfl fun cdv A outer s H E hr=>?_;have sc:=Zdy;have hu:_+64<Bi:=hr.units;exact ⟨_,(Zm (Xl (Xeb (Zje K (ty:="int") Xip rfl T.isinstance rfl T.int De (Zk 0) Za) (Xes (Xnl (Zje K (ty:="bool") Xbe rfl T.isinstance rfl T.bool HI (Zk 0) Za))))))⟩
theorem Zks (F:Fun K "_law_copies" "_law_copies" Zcb f fd)(T:Txt mg K C):Zbd P w K mg base CX0 7 f fd ["_law_rolls_here","_law_table_here","_law_order_here"] (spD K C 3 2 Dl.Zae):=by
 refine F.okC Zfo (Γ':=[]) (Δ':=[]) rfl fun cdv A outer s H E hr=>?_;have sc:=Zfo;have hu:_+64<Bi:=hr.units;have nd0:Bf (["_law_rolls_here","_law_table_here","_law_order_here","_law_roll_here"]:List Str):=by decide +kernel
 exact ⟨_,(Zm (Xl (Yd (Zi (Zcd (n:=3) (Zl Zcb) ["_law_rolls_here","_law_table_here","_law_order_here"] ["_law_rolls_here","_law_table_here","_law_order_here"] ["_law_roll_here"] ⟨rfl,by decide +kernel,by decide +kernel,by decide +kernel,by decide +kernel,by decide +kernel,rfl,by decide +kernel⟩ (Yr (Zk 0)) (fun _ _ _ _ _=>(Yp 3 (hN:=nd0))) (fun _ _ _ _ _=>Jr) (fun _ _ _ _ _=>(Jp (r:=Zjs K) (Zbl rfl) Zeh rfl T.list AX (Zd (Zk 3 (hv:=Af rfl)) Zj Za) (he:=Za)))) (Zi (Jp (r:=Zjs K) (Zbl rfl) Zeh rfl T.list AX (Zd (Zk 1) Zj Za) (he:=Za)) (Zi (Jp (r:=Zjs K) (Zbl rfl) Zeh rfl T.list AX (Zd (Zk 2) Zj Za) (he:=Za)) Zj Jy) Jy) Jc))))⟩
theorem Zov (F:Fun K "_law_bent" "_law_bent" Zfw f fd)(T:Txt mg K C):Zbd P w K mg base CX0 7 f fd ["_law_cutting","_law_k","_law_some"] (spD K C 3 2 Dl.Zao):=by
  refine F.okC Zix (Γ':=[]) (Δ':=[]) rfl fun cdv A outer s H E hr=>?_;have sc:=Zix;have hu:_+64<Bi:=hr.units;exact ⟨_,(Zg [3] [3] (Zw (i:=3) sc.nd rfl (Af rfl) (Jp (r:=Zjs K) (Zbl rfl) Zeh rfl T.list AX (Zd (Zk 0) Zj Za) (he:=Za)))
      (Zg [3,4,5] [3,4,5] (Znm rfl (Xp (Zs K (Zk 3) (Zk 1) Xh)) (Zlq (i:=4) sc.nd rfl (Af rfl) (Zlq (i:=5) sc.nd rfl (Af rfl) Xee)))
      (Zg [3,4,5] [3,4,5] (Yn (Xf (r:=Zho K) (Jj hu) Ji (Zs K (Zk 2) Zc Zh) Zc (Zy _)) (Zm (Zrc (i:=3) (he:=(Zih (Zd (Zp Zt Zv (Zk 4) Zc) (Zd (Zk 5) Zj Za) Zx))) (hk:=(Zk 1)))) Xb)
      (Zg [3,4,5] [3,4,5] (Yn (Xf (r:=Zho K) (Jj hu) Ji (Zs K (Zk 2) Zc Zh) Zc (Zy _)) (Zm (Xni (i:=3) (hk:=(Zk 1)) (he:=(Xp (Zs K (Zk 3) (Zk 1) Xh))) (hse:=Za) (hse2:=Xa))) Xb)
      (Zg [3,4,5] [3,4,5] (Yn (Xf (r:=Zho K) (Jj hu) Ji (Zs K (Zk 2) Zc Zh) Zc (Zy _)) (Zm (Zrc (i:=3) (he:=(Zih (Zd (Zk 4) (Zd (Zs K (Zs K (Zk 2) Zc Zh) (Zs K (Zk 2) Zc Zh) Jn) Zj Xa) Za))) (hk:=(Zk 1)))) Xb)
      (Zg [3,4,5] [3,4,5] (Yn (Xf (r:=Zho K) (Jj hu) Ji (Zs K (Zk 2) Zc Zh) Zc (Zy _)) (Zm (Zrc (i:=3) (he:=(Zih (Zd (Zs K (Yd (Zi (Zsa Zc) (Zi (Zp Zdg Zaz (Zsa (Zk 4)) Zc) (Zi (Zp Zdi Zbb Zc Zc) (Zi (Zsa (Zp Zdi Zbb Zc Zc)) Zj Zxk) Zx) Zx) Zxk)) (Zs K (Zk 2) Zc Zh) Jn) (Zd (Zk 5) Zj Za) Xa))) (hk:=(Zk 1)))) Xb)
      (Zg [3,4,5] [3,4,5] (Yn (Xf (r:=Zho K) (Jj hu) Ji (Zs K (Zk 2) Zc Zh) Zc (Zy _)) (Zm (Xgr (i:=3) (he:=(Zih (Zd (Zs K (Zk 3) (Zk 1) Xh) (Zd (Zs K (Zk 3) (Zp Zdg Zaz (Zk 1) Zc) plain_bin) Zj Xa) Xa))) (hk1:=(Zp Zdg Zaz (Zk 1) Zc)) (hk2:=(Zk 1)))) Xb)
      (Zm (Xl (Zhj 3))))))))))⟩
theorem Xra (F:Fun K "fits" "fits" Xld f fd)(T:Txt mg K C)(Dspoilt:Def P w K mg base CX0 7 "spoilt" ["roll","begin","end"] (spD K C 3 2 Dl.Zed)):Zbd P w K mg base CX0 8 f fd ["roll","kind","place"] (spD K C 3 2 Dl.Znx):=by
  refine F.okC Xem (Γ':=[]) (Δ':=[]) rfl fun cdv A outer s H E hr=>?_;have sc:=Xem;have hu:_+64<Bi:=hr.units;exact ⟨_,(Zg [3] [3] (Zw (i:=3) sc.nd rfl (Af rfl) (Zp Zt Zv (Zk 2) (Zs K (Zk 1) Zc Zh)))
      (Zg [3] [3] (Yn (Zpe (Zhh (Xf Ziy Zdq (Zk 2) Zc (Zy _)) (Zer (Xf Zhi Zdh (Zk 3) (Xj (r:=Zaj K) Xo Yi rfl T.len PySem.boot_len (Zd (Zk 0) Zj Za) (he:=Za)) (Zy _))))) (Zm (Xl Zhf)) Xb)
      (Zm (Xl (Zgu Xnv Xfj (Xc Dspoilt (hr.mono (by decide)) rfl Yu (Zd (Zk 0) (Zd (Zk 2) (Zd (Zk 3) Zj Za) Za) Za) (he:=Za)) (Zs K (Zk 1) Zc Zh) (Zy _))))))⟩
theorem Ztl (F:Fun K "_law_row" "_law_row" Zjd f fd)(T:Txt mg K C)(D_law_cell:Def P w K mg base CX0 7 "_law_cell" ["_law_script","_law_place"] (spD K C 2 2 Dl.Zan))(D_law_mix:Def P w K mg base CX0 7 "_law_mix" ["_law_cell_here","_law_k"] (spD K C 2 2 Dl.Zbh)):Zbd P w K mg base CX0 8 f fd ["_law_script","_law_place","_law_sizes"] (spD K C 3 2 Dl.Xg):=by
  refine F.okC Zkc (Γ':=[]) (Δ':=[]) rfl fun cdv A outer s H E hr=>?_;have sc:=Zkc;have hu:_+64<Bi:=hr.units;exact ⟨_,(Zg [3] [3] (Zw (i:=3) sc.nd rfl (Af rfl) (Xc D_law_cell (hr.mono (by decide)) rfl Yu (Zd (Zk 0) (Zd (Zk 1) Zj Za) Za) (he:=Za)))
      (Zg [3,4] [3,4] (Zw (i:=4) sc.nd rfl (Af rfl) (Xp (Zk 3)))
      (Zg [3,4,5] [3,4,5] (Zw (i:=5) sc.nd rfl (Af rfl) (Yd Zj))
      (Zg [3,4,5] [3,4,5] (Zca [3,4,5] [3,4,5] AL rfl (Zcs rfl T.range (Zd (Xj (r:=Zaj K) Xo Yi rfl T.len PySem.boot_len (Zd (Zk 2) Zj Za) (he:=Za)) Zj Jy)) (Yx (i:=6) (hN:=sc.nd) (hi:=rfl) (hx:=Af rfl)) (Zm (Yn (Xf Ziy Zdq (Zk 3) (Zp Zdi Zbb Zc Zc) (Zy _)) (Zm (Zgk (i:=5) (he:=(Zp Zai Yz (Xc D_law_mix (hr.mono (by decide)) rfl Yu (Zd (Zk 3) (Zd (Zk 6) Zj Za) Za) (he:=Za)) (Zs K (Zk 2) (Zk 6) Xh))) (hse:=Zx))) (Zm (Yn (Xf Zhi Zdh (Zk 4) Zc (Zy _)) (Zg [3,4,5] [3,4,5] (Zgk (i:=5) (he:=(Zp Zai Yz (Zk 4) (Zs K (Zk 2) (Zk 6) Xh))) (hse:=Zx))
      (Zm (Zw (i:=4) sc.nd rfl (Af rfl) (Zp Zru Zyq (Zk 4) (Zs K (Zk 2) (Zk 6) Xh))))) (Zbe [3,4,5,7] [3,4,5,7] (Zg [3,4,5,7] [3,4,5,7] (Zw (i:=7) sc.nd rfl (Af rfl) (Xc D_law_cell (hr.mono (by decide)) rfl Yu (Zd (Zk 0) (Zd (Zp Zai Yz (Zp Zt Zv (Zp Zt Zv (Zk 1) Zc) (Zk 6)) Zc) Zj Zx) Za) (he:=Za)))
      (Zm (Zgk (i:=5) (he:=(Zp Zai Yz (Xc D_law_mix (hr.mono (by decide)) rfl Yu (Zd (Zk 7) (Zd (Zk 6) Zj Za) Za) (he:=Za)) (Zs K (Zk 2) (Zk 6) Xh))) (hse:=Zx))))))))))
      (Zm (Xl (Zhj 5)))))))⟩
theorem Zlv (F:Fun K "_law_amount" "_law_amount" Zbt f fd)(T:Txt mg K C)(D_law_sums:Def P w K mg base CX0 7 "_law_sums" ["_law_roll_here"] (spD K C 1 2 Dl.Jg))(D_law_good:Def P w K mg base CX0 7 "_law_good" ["_law_sums_here","_law_kind","_law_at"] (spD K C 3 2 Dl.Ys)):Zbd P w K mg base CX0 8 f fd ["_law_roll_here","_law_table_here","_law_cutting"] (spD K C 3 2 Dl.Yl):=by
  refine F.okC Zfd (Γ':=[]) (Δ':=[]) rfl fun cdv A outer s H E hr=>?_;have sc:=Zfd;have hu:_+64<Bi:=hr.units;have nd0:Bf (["_law_roll_here","_law_table_here","_law_cutting","_law_sums_here","_law_total","_law_free","_law_place","_law_name","_law_found","_law_kind"]:List Str):=by decide +kernel
  exact ⟨_,(Zg [3] [3] (Zw (i:=3) sc.nd rfl (Af rfl) (Xc D_law_sums (hr.mono (by decide)) rfl Yu (Zd (Zk 0) Zj Za) (he:=Za)))
      (Zg [3,4] [3,4] (Zw (i:=4) sc.nd rfl (Af rfl) Zc)
      (Zg [3,4,5] [3,4,5] (Zw (i:=5) sc.nd rfl (Af rfl) Zc)
      (Zg [3,4,5] [3,4,5] (Zca [3,4,5] [3,4,5] AL rfl (Yr (Zk 2)) (Zre rfl (Zby (Yx (i:=6) (hN:=sc.nd) (hi:=rfl) (hx:=Af rfl)) (Zby (Yx (i:=7) (hN:=sc.nd) (hi:=rfl) (hx:=BL rfl)) Zly))) (Zbe [3,4,5,8] [3,4,5,8] (Zg [3,4,5,8] [3,4,5,8] (Zfz (i:=8) (n:=9) (Zl Zbt) ["_law_roll_here","_law_table_here","_law_cutting","_law_sums_here","_law_total","_law_free","_law_place","_law_name","_law_found"] ["_law_roll_here","_law_table_here","_law_cutting","_law_sums_here","_law_total","_law_free","_law_place","_law_name","_law_found"] ["_law_kind"] ⟨rfl,by decide +kernel,by decide +kernel,by decide +kernel,by decide +kernel,by decide +kernel,rfl,by decide +kernel⟩ rfl rfl (Yr (Zk 1)) (fun _ _ _ _ _=>(Yp 9 (hN:=nd0))) (fun _ _ _ _ _=>Xjh (Xf (r:=Zho K) (Jj hu) Ji (Zs K (Zk 9 (hv:=Af rfl)) Zc Zh) (Zk 7 (hv:=BL (Af rfl))) (Zy _))) (fun _ _ _ _ _=>(Xp (Zk 9 (hv:=Af rfl)))))
      (Zg [3,4,5,8] [3,4,5,8] (Yn (Zpe (Zhh (Xf (r:=Zho K) (Jj hu) Ji (Xj (r:=Zaj K) Xo Yi rfl T.len PySem.boot_len (Zd (Zk 8) Zj Za) (he:=Za)) Zc (Zy _)) (Zhh (Xf Ziy Zdq (Zk 6) (Zk 5) (Zy _)) (Zer (Zdj (Zcc (Xc D_law_good (hr.mono (by decide)) rfl Yu (Zd (Zk 3) (Zd (Zs K (Zk 8) Zc Zh) (Zd (Zk 6) Zj Za) Xa) Za) (he:=Za)))))))) (Zm (Xl Zdf)) Xb)
      (Zg [3,4,5,8] [3,4,5,8] (Zw (i:=4) sc.nd rfl (Af rfl) (Zp Zt Zv (Zk 4) (Zs K (Zs K (Zk 8) Zc Zh) Zc Zh)))
      (Zm (Zw (i:=5) sc.nd rfl (Af rfl) (Zp Zt Zv (Zk 6) (Zs K (Zs K (Zk 8) Zc Zh) Zc Zh)))))))))
      (Zm (Xl (Zhj 4)))))))⟩
theorem Zgg (F:Fun K "_law_is_cutting" "_law_is_cutting" Zba f fd)(T:Txt mg K C)(D_law_is_whole:Def P w K mg base CX0 7 "_law_is_whole" ["_law_one"] (spD K C 1 2 Dl.Xz)):Zbd P w K mg base CX0 8 f fd ["_law_found"] (spD K C 1 2 Dl.Xv):=by
  refine F.okC Zco (Γ':=[]) (Δ':=[]) rfl fun cdv A outer s H E hr=>?_;have sc:=Zco;have hu:_+64<Bi:=hr.units;exact ⟨_,(Zg [] [] (Yn (Zdj (Zcc (Zje K (ty:="list") Zls rfl T.isinstance rfl T.list AX (Zk 0) Za))) (Zm (Xl Zhf)) Xb)
      (Zg [] [] (Zca [] [] AL rfl (Yr (Zk 0)) (Yx (i:=1) (hN:=sc.nd) (hi:=rfl) (hx:=Af rfl)) (Zg [] [] (Yn (Zpe (Zhh (Zdj (Zcc (Zje K (ty:="tuple") kit_tuple rfl T.isinstance rfl T.tuple HE (Zk 1) Za))) (Zer (Xf (r:=Xlo K) (Zqu hu) Zrn (Xj (r:=Zaj K) Xo Yi rfl T.len PySem.boot_len (Zd (Zk 1) Zj Za) (he:=Za)) Zc (Zy _))))) (Zm (Xl Zhf)) Xb)
      (Zm (Yn (Zpe (Zhh (Zdj (Zcc (Xc D_law_is_whole (hr.mono (by decide)) rfl Yu (Zd (Zs K (Zk 1) Zc Zh) Zj Xa) (he:=Xa)))) (Zer (Zdj (Zcc (Zje K (ty:="str") Xkc rfl T.isinstance rfl T.str HG (Zs K (Zk 1) Zc Zh) Xa)))))) (Zm (Xl Zhf)) Xb))))
      (Zm (Xl Zhf))))⟩
theorem Zlx (F:Fun K "_law_spoilt" "_law_spoilt" Zax f fd)(T:Txt mg K C)(D_law_bent:Def P w K mg base CX0 7 "_law_bent" ["_law_cutting","_law_k","_law_some"] (spD K C 3 2 Dl.Zao)):Zbd P w K mg base CX0 8 f fd ["_law_plan","_law_some"] (spD K C 2 0 Dl.Jh):=by
  refine F.okC Zff (Γ':=[]) (Δ':=[]) rfl fun cdv A outer s H E hr=>?_;have sc:=Zff;have hu:_+64<Bi:=hr.units;have nd0:Bf (["_law_plan","_law_some","_law_bent_here","_law_at","_law_k","_law_cutting"]:List Str):=by decide +kernel
  have nd1:Bf (["_law_plan","_law_some","_law_bent_here","_law_at","","_law_k"]:List Str):=by decide +kernel
  exact ⟨_,(Zg [2] [2] (Zfz (i:=2) (n:=5) (Zl Zax) ["_law_plan","_law_some","_law_bent_here","_law_at","_law_k"] ["_law_plan","_law_some","_law_bent_here","_law_at","_law_k"] ["_law_cutting"] ⟨rfl,by decide +kernel,by decide +kernel,by decide +kernel,by decide +kernel,by decide +kernel,rfl,by decide +kernel⟩ rfl rfl (Yr (Zk 0)) (fun _ _ _ _ _=>(Yp 5 (hN:=nd0))) (fun _ _ _ _ _=>Jr) (fun _ _ _ _ _=>(Jp (r:=Zjs K) (Zbl rfl) Zeh rfl T.list AX (Zd (Zk 5 (hv:=Af rfl)) Zj Za) (he:=Za))))
      (Zg [2] [2] (Yn (Xf (r:=Zho K) (Jj hu) Ji (Zs K (Zk 1) Zc Zh) Zc (Zy _)) (Zm (Zpv (Xew K (Zk 2) (Zde Zc) Zid))) Xb)
      (Zg [2] [2] (Yn (Xf (r:=Zho K) (Jj hu) Ji (Zs K (Zk 1) Zc Zh) Zc (Zy _)) (Zm (Zpv (Zvy (Zk 2) (Zcd (n:=5) (Zl Zax) ["_law_plan","_law_some","_law_bent_here","_law_at","_law_k"] ["_law_plan","_law_some","_law_bent_here","_law_at",""] ["_law_k"] ⟨rfl,by decide +kernel,by decide +kernel,by decide +kernel,by decide +kernel,by decide +kernel,rfl,by decide +kernel⟩ (Zcs rfl T.range (Zd (Zs K (Yd (Zi Zc (Zi Zc (Zi Zc (Zi Zc Zj Zf) Zf) Zf) Zf)) (Zs K (Zk 1) Zc Zh) Jn) Zj Xa)) (fun _ _ _ _ _=>(Yp 5 (hN:=nd1))) (fun _ _ _ _ _=>Jr) (fun _ _ _ _ _=>(Yd Zj)))))) Xb)
      (Zg [2] [2] (Yn (Xf Zhi Zdh (Xj (r:=Zaj K) Xo Yi rfl T.len PySem.boot_len (Zd (Zk 2) Zj Za) (he:=Za)) Zc (Zy _)) (Zbe [2,3] [2,3] (Zg [2,3] [2,3] (Zw (i:=3) sc.nd rfl (Af rfl) (Zp Zai Yz (Zs K (Zk 1) Zc Zh) (Xj (r:=Zaj K) Xo Yi rfl T.len PySem.boot_len (Zd (Zk 2) Zj Za) (he:=Za))))
      (Zg [2,3] [2,3] (Yn (Xf (r:=Zho K) (Jj hu) Ji (Zs K (Zk 1) Zc Zh) Zc (Zy _)) (Zm (Xjt (i:=2) (he:=(Zih (Zd (Zs K (Zk 2) (Zk 3) Xh) (Zd (Zs K (Zk 2) (Zp Zdg Zaz (Zk 3) Zc) plain_bin) Zj Xa) Xa))) (hl1:=(Zk 3)) (hl2:=(Zp Zdg Zaz (Zk 3) Zc)) (hk1:=(Zp Zdg Zaz (Zk 3) Zc)) (hk2:=(Zk 3)))) Xb)
      (Zm (Yn (Zpe (Zmx (Xf Zhi Zdh (Zs K (Zk 1) Zc Zh) Zc (Zy _)) (Zia (Xf Zhi Zdh (Xj (r:=Zaj K) Xo Yi rfl T.len PySem.boot_len (Zd (Zs K (Zk 2) (Zk 3) Xh) Zj Xa) (he:=Xa)) Zc (Zy _))))) (Zbe [2,3,4] [2,3,4] (Zg [2,3,4] [2,3,4] (Zw (i:=4) sc.nd rfl (Af rfl) (Zp Zai Yz (Zs K (Zk 1) Zc Zh) (Xj (r:=Zaj K) Xo Yi rfl T.len PySem.boot_len (Zd (Zs K (Zk 2) (Zk 3) Xh) Zj Xa) (he:=Xa))))
      (Zm (Xgp (i:=2) (he:=(Xc D_law_bent (hr.mono (by decide)) rfl Yu (Zd (Zs K (Zk 2) (Zk 3) Xh) (Zd (Zk 4) (Zd (Zk 1) Zj Za) Za) Xa) (he:=Xa))) (hk:=(Zk 3)))))) Xb))))) Xb)
      (Zm (Zpv (Zk 2)))))))⟩
theorem Xbn (F:Fun K "amount" "amount" Zpt f fd)(T:Txt mg K C)(Dkind_of:Def P w K mg base (CXE P w) 7 "kind_of" ["table","name"] (spD K C 2 2 Dl.Zav))(Dfits:Def P w K mg base CX0 8 "fits" ["roll","kind","place"] (spD K C 3 2 Dl.Znx)):Zbd P w K mg base CX0 9 f fd ["roll","table","cutting"] (spD K C 3 2 Dl.Zbw):=by
  refine F.okC Zqi (Γ':=[]) (Δ':=[]) rfl fun cdv A outer s H E hr=>?_;have sc:=Zqi;have hu:_+64<Bi:=hr.units;exact ⟨_,(Zg [3] [3] (Zw (i:=3) sc.nd rfl (Af rfl) Zc)
      (Zg [3,4] [3,4] (Zw (i:=4) sc.nd rfl (Af rfl) Zc)
      (Zg [3,4] [3,4] (Zca [3,4] [3,4] AL rfl (Yr (Zk 2)) (Zre rfl (Zby (Yx (i:=5) (hN:=sc.nd) (hi:=rfl) (hx:=Af rfl)) (Zby (Yx (i:=6) (hN:=sc.nd) (hi:=rfl) (hx:=Af rfl)) Zly))) (Zbe [3,4,7] [3,4,7] (Zg [7] [7] (Xfq (E0:=E) (Γ1:=[7]) (Δ1:=[7]) ["NoKind"] T.mNoKind (fun E pn=>(Zm (Zw (i:=7) sc.nd rfl (Af rfl) (Xc Dkind_of (hr.mono (by decide)) rfl passE (Zd (Zk 1) (Zd (Zk 6) Zj Za) Za) (he:=Za)))))
      (fun ea=>(Zm (Xl Zdf))) (all_cons (T.eNoKind.k.exm T.eNoKind.se) all_nil))
      (Zg [7] [7] (Yn (Zpe (Zhh (Xf Ziy Zdq (Zk 5) (Zk 4) (Zy _)) (Zer (Zdj (Zcc (Xc Dfits (hr.mono (by decide)) rfl Yu (Zd (Zk 0) (Zd (Zk 7) (Zd (Zk 5) Zj Za) Za) Za) (he:=Za))))))) (Zm (Xl Zdf)) Xb)
      (Zg [3,7] [3,7] (Xnp (i:=3) Xkw Xpa sc.nd rfl (Af rfl) (Zs K (Zk 7) Zc Zh))
      (Zm (Zw (i:=4) sc.nd rfl (Af rfl) (Zp Zt Zv (Zk 5) (Zs K (Zk 7) Zc Zh)))))))))
      (Zm (Xl (Zhj 3))))))⟩
theorem Zmc (F:Fun K "_law_table" "_law_table" Zew f fd)(T:Txt mg K C)(D_law_row:Def P w K mg base CX0 8 "_law_row" ["_law_script","_law_place","_law_sizes"] (spD K C 3 2 Dl.Xg)):Zbd P w K mg base CX0 9 f fd ["_law_script","_law_place","_law_most"] (spD K C 3 2 Dl.Zas):=by
  refine F.okC Zgw (Γ':=[]) (Δ':=[]) rfl fun cdv A outer s H E hr=>?_;have sc:=Zgw;have hu:_+64<Bi:=hr.units;exact ⟨_,(Zg [3] [3] (Zw (i:=3) sc.nd rfl (Af rfl) (Yd (Zi Jk (Zi Jk (Zi Jk (Zi Jk (Zi Jk (Zi Jk (Zi Jk (Zi Jk (Zi Jk (Zi Jk Zj Zf) Zf) Zf) Zf) Zf) Zf) Zf) Zf) Zf) Zf)))
      (Zg [3] [3] (Zw (i:=3) sc.nd rfl (Af rfl) (Zp Zt Zv (Zk 3) (Yd (Zi Jk (Zi Jk (Zi Jk (Zi Jk (Zi Jk (Zi Jk Zj Zf) Zf) Zf) Zf) Zf) Zf))))
      (Zg [3,4] [3,4] (Zw (i:=4) sc.nd rfl (Af rfl) (Xc D_law_row (hr.mono (by decide)) rfl Yu (Zd (Zk 0) (Zd (Zk 1) (Zd (Zp Zt Zv (Yd (Zi (Zp Zt Zv (Zk 2) Zc) (Zi Zc (Zi Zc (Zi Zc (Zi Zc (Zi Zc Zj Zf) Zf) Zf) Zf) Zf) Zx)) (Zp Xt Xu (Yd (Zi Zc (Zi Zc (Zi Zc Zj Zf) Zf) Zf)) (Zk 2))) Zj Zx) Za) Za) (he:=Za)))
      (Zg [3,4,5] [3,4,5] (Zw (i:=5) sc.nd rfl (Af rfl) (Xp (Zs K (Yd (Zi Zc (Zi Zc (Zi Zc (Zi (Zp Zdi Zbb Zc Zc) Zj Zx) Zf) Zf) Zf)) (Zs K (Zk 4) Zc Zh) Jn)))
      (Zg [3,4,5,6] [3,4,5,6] (Zw (i:=6) sc.nd rfl (Af rfl) (Xp (Zs K (Yd (Zi Zc (Zi Zc (Zi (Zp Zdi Zbb Zc Zc) (Zi (Zp Xt Xu Zc (Zp Zdi Zbb Zc Zc)) Zj Zx) Zx) Zf) Zf)) (Zs K (Zk 4) Zc Zh) Jn)))
      (Zg [3,4,5,6,7] [3,4,5,6,7] (Zw (i:=7) sc.nd rfl (Af rfl) (Yd Zj))
      (Zg [3,4,5,6,7] [3,4,5,6,7] (Zca [3,4,5,6,7] [3,4,5,6,7] AL rfl (Zcs rfl T.range (Zd (Zs K (Zk 4) Zc Zh) Zj Xa)) (Yx (i:=8) (hN:=sc.nd) (hi:=rfl) (hx:=Af rfl)) (Zbe [3,4,5,6,7,9,10,11,12,13] [3,4,5,6,7,9,10,11,12,13] (Zg [3,4,5,6,7,9] [3,4,5,6,7,9] (Zw (i:=9) sc.nd rfl (Af rfl) (Zp Zt Zv (Zp Xt Xu Zc (Zk 8)) Zc))
      (Zg [3,4,5,6,7,9,10] [3,4,5,6,7,9,10] (Zw (i:=10) sc.nd rfl (Af rfl) (Xp (Zs K (Zlr (Zd Zc (Zd Zc (Zd Zc (Zd Zc (Zd Zc (Zd Zc (Zd Zc (Zd Zc (Zd Zc (Zd Zc (Zd (Zs K (Yd (Zi Zc (Zi Zc Zj Zf) Zf)) (Zp Zai Yz (Zk 8) Zc) plain_bin) Zj Xa) Zf) Zf) Zf) Zf) Zf) Zf) Zf) Zf) Zf) Zf)) (Zs K (Zk 4) (Zk 9) Xh) Jn)))
      (Zg [3,4,5,6,7,9,10,11] [3,4,5,6,7,9,10,11] (Zw (i:=11) sc.nd rfl (Af rfl) (Zp Zt Zv Zc (Zs K (Zk 4) (Zp Zt Zv (Zk 9) Zc) plain_bin)))
      (Zg [3,4,5,6,7,9,10,11] [3,4,5,6,7,9,10,11] (Yn (Xf (r:=Zho K) (Jj hu) Ji (Zs K (Zk 4) Zc Zh) Zc (Zy _)) (Zm (Zw (i:=11) sc.nd rfl (Af rfl) (Zp Zt Zv (Zp Xt Xu Zc (Zk 10)) (Zp Zai Yz (Zs K (Zk 4) (Zp Zt Zv (Zk 9) Zc) plain_bin) Zc)))) Xb)
      (Zg [3,4,5,6,7,9,10,11] [3,4,5,6,7,9,10,11] (Yn (Xf (r:=Zho K) (Jj hu) Ji (Zs K (Zk 4) Zc Zh) Zc (Zy _)) (Zm (Zw (i:=11) sc.nd rfl (Af rfl) (Zp Zt Zv Zc (Zp Zai Yz (Zs K (Zk 4) (Zp Zt Zv (Zk 9) Zc) plain_bin) Zc)))) Xb)
      (Zg [3,4,5,6,7,9,10,11] [3,4,5,6,7,9,10,11] (Yn (Xf (r:=Zho K) (Jj hu) Ji (Zs K (Zk 4) Zc Zh) Zc (Zy _)) (Zm (Zw (i:=11) sc.nd rfl (Af rfl) (Xp (Zk 10)))) Xb)
      (Zg [3,4,5,6,7,9,10,11,12] [3,4,5,6,7,9,10,11,12] (Zw (i:=12) sc.nd rfl (Af rfl) (Xj (r:=Zwa) (Zib rfl) Zvk rfl T.min Dc (Zd (Zp Xt Xu (Zs K (Yd (Zi Zc (Zi Zc (Zi Zc (Zi Zc (Zi Zc (Zi Zc Zj Zf) Zf) Zf) Zf) Zf) Zf)) (Zs K (Zk 4) (Zp Zt Zv (Zk 9) Zc) plain_bin) Jn) (Zk 5)) (Zd (Zp Zdg Zaz (Zp Zdi Zbb Zc Zc) Zc) Zj Zx) Zx) (he:=Zx)))
      (Zg [3,4,5,6,7,9,10,11,12,13] [3,4,5,6,7,9,10,11,12,13] (Zw (i:=13) sc.nd rfl (Af rfl) (Xp (Zs K (Zk 3) (Zp Zai Yz (Zp Zt Zv (Zs K (Zk 4) Zc Zh) (Zp Xt Xu (Zp Zt Zv (Zp Xt Xu Zc (Zs K (Zk 4) Zc Zh)) Zc) (Zk 8))) Zc) plain_bin)))
      (Zm (Zgk (i:=7) (he:=(Zmj (Zi (Xp (Zk 13)) (Zi (Xp (Zk 10)) (Zi (Xj (r:=Zwa) (Zib rfl) Zvk rfl T.min Dc (Zd (Zp Xt Xu (Zk 11) (Zk 6)) (Zd (Zp Zdi Zbb Zc Zc) Zj Zx) Zx) (he:=Zx)) (Zi (Xp (Zk 12)) Zj Za) Jy) Za) Za))) (hse:=Zsj)))))))))))))
      (Zm (Xl (Zhj 7))))))))))⟩
theorem Zpn (F:Fun K "_law_flaw" "_law_flaw" Zgh f fd)(T:Txt mg K C)(D_law_row:Def P w K mg base CX0 8 "_law_row" ["_law_script","_law_place","_law_sizes"] (spD K C 3 2 Dl.Xg)):Zbd P w K mg base CX0 9 f fd ["_law_script","_law_place","_law_most"] (spD K C 3 2 Dl.Zbn):=by refine F.okC Zil (Γ':=[]) (Δ':=[]) rfl fun cdv A outer s H E hr=>?_;have sc:=Zil;have hu:_+64<Bi:=hr.units;exact ⟨_,(Zm (Xl (Xp (Zs K (Yd (Zi Zc (Zi Zc (Zi Zc (Zi (Zp Zdi Zbb Zc Zc) Zj Zx) Zf) Zf) Zf)) (Zs K (Xc D_law_row (hr.mono (by decide)) rfl Yu (Zd (Zk 0) (Zd (Zk 1) (Zd (Yd (Zi (Zp Zt Zv (Zk 2) Zc) (Zi Zc Zj Zf) Zx)) Zj Ziv) Za) Za) (he:=Za)) Zc Zh) Jn))))⟩
theorem Zpf (F:Fun K "_law_roll" "_law_roll" Zga f fd)(T:Txt mg K C)(D_law_row:Def P w K mg base CX0 8 "_law_row" ["_law_script","_law_place","_law_sizes"] (spD K C 3 2 Dl.Xg)):Zbd P w K mg base CX0 9 f fd ["_law_script","_law_place","_law_most","_law_flaw_here"] (spD K C 4 2 Dl.Zak):=by
  refine F.okC Zjf (Γ':=[]) (Δ':=[]) rfl fun cdv A outer s H E hr=>?_;have sc:=Zjf;have hu:_+64<Bi:=hr.units;exact ⟨_,(Zg [4] [4] (Zw (i:=4) sc.nd rfl (Af rfl) (Xc D_law_row (hr.mono (by decide)) rfl Yu (Zd (Zk 0) (Zd (Zk 1) (Zd (Zp Zt Zv (Yd (Zi (Zp Zt Zv (Zk 2) Zc) (Zi Zc (Zi Zc Zj Zf) Zf) Zx)) (Zp Xt Xu (Yd (Zi Zc (Zi Zc Zj Zf) Zf)) (Zk 2))) Zj Zx) Za) Za) (he:=Za)))
      (Zg [4,5] [4,5] (Zw (i:=5) sc.nd rfl (Af rfl) (Zp Xt Xu Zc (Zk 3)))
      (Zg [4,5] [4,5] (Yn (Xf (r:=Zho K) (Jj hu) Ji (Zs K (Zk 4) Zc Zh) Zc (Zy _)) (Zm (Zw (i:=5) sc.nd rfl (Af rfl) (Zp Zdi Zbb Zc Zc))) Xb)
      (Zg [4,5,6] [4,5,6] (Zw (i:=6) sc.nd rfl (Af rfl) (Yd Zj))
      (Zg [4,5,6] [4,5,6] (Zca [4,5,6] [4,5,6] AL rfl (Zcs rfl T.range (Zd (Zs K (Zk 4) Zc Zh) Zj Xa)) (Yx (i:=7) (hN:=sc.nd) (hi:=rfl) (hx:=Af rfl)) (Zbe [4,5,6,8,9] [4,5,6,8,9] (Zg [4,5,6,8] [4,5,6,8] (Zw (i:=8) sc.nd rfl (Af rfl) (Zp Zt Zv (Zp Xt Xu Zc (Zk 7)) Zc))
      (Zg [4,5,6,8,9] [4,5,6,8,9] (Zw (i:=9) sc.nd rfl (Af rfl) Zc)
      (Zg [4,5,6,8,9] [4,5,6,8,9] (Yn (Xf Ziy Zdq (Zs K (Zk 4) (Zk 8) Xh) (Zs K (Yd (Zi Zc (Zi Zc (Zi Zc (Zi Zc Zj Zf) Zf) Zf) Zf)) (Zs K (Zk 4) Zc Zh) Jn) (Zy _)) (Zm (Zw (i:=9) sc.nd rfl (Af rfl) (Xp (Zs K (Zlr (Zd (Zk 3) (Zd (Zk 3) (Zd (Zp Xt Xu Zc (Zk 3)) (Zd (Zp Xt Xu Zc (Zk 3)) (Zd (Zk 5) Zj Za) Zx) Zx) Za) Za)) (Zs K (Zk 4) (Zp Zt Zv (Zk 8) Zc) plain_bin) Jn)))) Xb)
      (Zm (Zgk (i:=6) (he:=(Xp (Zk 9))) (hse:=Za))))))))
      (Zm (Xl (Zhj 6))))))))⟩
theorem Zok (F:Fun K "_law_order" "_law_order" Zey f fd)(T:Txt mg K C)(D_law_row:Def P w K mg base CX0 8 "_law_row" ["_law_script","_law_place","_law_sizes"] (spD K C 3 2 Dl.Xg)):Zbd P w K mg base CX0 9 f fd ["_law_script","_law_place","_law_table_here","_law_most","_law_limit"] (spD K C 5 2 Dl.Zay):=by
  refine F.okC Zgx (Γ':=[]) (Δ':=[]) rfl fun cdv A outer s H E hr=>?_;have sc:=Zgx;have hu:_+64<Bi:=hr.units;exact ⟨_,(Zg [5] [5] (Zw (i:=5) sc.nd rfl (Af rfl) (Xc D_law_row (hr.mono (by decide)) rfl Yu (Zd (Zk 0) (Zd (Zk 1) (Zd (Zp Zt Zv (Zp Xt Xu (Yd (Zi (Zp Zt Zv (Zk 3) Zc) Zj Zx)) Zc) (Yd (Zi Zc Zj Zf))) Zj Zx) Za) Za) (he:=Za)))
      (Zg [5,6] [5,6] (Zw (i:=6) sc.nd rfl (Af rfl) (Yd Zj))
      (Zg [5,6,7] [5,6,7] (Zw (i:=7) sc.nd rfl (Af rfl) Zc)
      (Zg [5,6,7] [5,6,7] (Zca [5,6,7] [5,6,7] AL rfl (Zcs rfl T.range (Zd (Xj (r:=Zaj K) Xo Yi rfl T.len PySem.boot_len (Zd (Zk 2) Zj Za) (he:=Za)) Zj Jy)) (Yx (i:=8) (hN:=sc.nd) (hi:=rfl) (hx:=Af rfl)) (Zbe [5,6,7,9] [5,6,7,9] (Zg [5,6,7,9] [5,6,7,9] (Zw (i:=9) sc.nd rfl (Af rfl) (Xp (Zs K (Zk 5) (Zk 8) Xh)))
      (Zg [5,6,7,9] [5,6,7,9] (Yn (Zpe (Zmx (Xf (r:=Zho K) (Jj hu) Ji (Zk 8) Zc (Zy _)) (Zia (Xf (r:=Zho K) (Jj hu) Ji (Zs K (Zk 5) Zc Zh) Zc (Zy _))))) (Zm (Zw (i:=9) sc.nd rfl (Af rfl) (Zp Zdg Zaz (Zk 4) Zc))) Xb)
      (Zg [5,6,7,9] [5,6,7,9] (Yn (Xf Zhi Zdh (Zp Xt Xu (Zk 7) (Zp Zt Zv (Zk 9) Zc)) (Zk 4) (Zy _)) (Zm (Zw (i:=9) sc.nd rfl (Af rfl) Zc)) Xb)
      (Zg [5,6,7,9] [5,6,7,9] (Zw (i:=7) sc.nd rfl (Af rfl) (Zp Xt Xu (Zk 7) (Zp Zt Zv (Zk 9) Zc)))
      (Zm (Zgk (i:=6) (he:=(Xp (Zk 9))) (hse:=Za)))))))))
      (Zm (Xl (Zhj 6)))))))⟩
theorem Zpc (F:Fun K "_law_left" "_law_left" Zcm f fd)(T:Txt mg K C)(D_law_is_cutting:Def P w K mg base CX0 8 "_law_is_cutting" ["_law_found"] (spD K C 1 2 Dl.Xv))(D_law_amount:Def P w K mg base CX0 8 "_law_amount" ["_law_roll_here","_law_table_here","_law_cutting"] (spD K C 3 2 Dl.Yl)):Zbd P w K mg base CX0 9 f fd ["_law_rolls_here","_law_table_here","_law_order_here","_law_plan"] (spD K C 4 2 Dl.Zbp):=by
  refine F.okC Zig (Γ':=[]) (Δ':=[]) rfl fun cdv A outer s H E hr=>?_;have sc:=Zig;have hu:_+64<Bi:=hr.units;have nd0:Bf (["_law_rolls_here","_law_table_here","_law_order_here","_law_plan","_law_left_here","_law_roll_here","_law_cutting","_law_place","_law_name","_law_rest","_law_kind","_law_number"]:List Str):=by decide +kernel
  have nd1:Bf (["_law_rolls_here","_law_table_here","_law_order_here","_law_plan","_law_left_here","_law_roll_here","_law_cutting","_law_place","_law_name","_law_rest","_law_kind"]:List Str):=by decide +kernel
  exact ⟨_,(Zg [] [] (Yn (Zpe (Zhh (Zdj (Zcc (Zje K (ty:="list") Zls rfl T.isinstance rfl T.list AX (Zk 3) Za))) (Zer (Xf (r:=Xlo K) (Zqu hu) Zrn (Xj (r:=Zaj K) Xo Yi rfl T.len PySem.boot_len (Zd (Zk 3) Zj Za) (he:=Za)) (Xj (r:=Zaj K) Xo Yi rfl T.len PySem.boot_len (Zd (Zk 0) Zj Za) (he:=Za)) (Zy _))))) (Zm (Xl Zdf)) Xb)
      (Zg [4] [4] (Zw (i:=4) sc.nd rfl (BL rfl) (Jp (r:=Zrf) (Zkl rfl) Zog rfl T.dict Em (Zd (Zcd (n:=10) (Zl Zcm) ["_law_rolls_here","_law_table_here","_law_order_here","_law_plan","_law_left_here","_law_roll_here","_law_cutting","_law_place","_law_name","_law_rest"] ["_law_rolls_here","_law_table_here","_law_order_here","_law_plan","_law_left_here","_law_roll_here","_law_cutting","_law_place","_law_name","_law_rest"] ["_law_kind","_law_number"] ⟨rfl,by decide +kernel,by decide +kernel,by decide +kernel,by decide +kernel,by decide +kernel,rfl,by decide +kernel⟩ (Znl rfl T.zip (Zk 1) (Zk 2) Za Za) (fun _ _ _ _ _=>(Zqq K (Zbz (Yp 10 (hN:=nd0)) (Zbz (Yp 11 (hN:=nd0)) Zkv)))) (fun _ _ _ _ _=>Jr) (fun _ _ _ _ _=>(Zmj (Zi (Xp (Zs K (Zk 10 (hv:=Af rfl)) Zc Zh)) (Zi (Xp (Zk 11 (hv:=Af rfl))) Zj Za) Xa)))) Zj Jc) (he:=Jc)))
      (Zg [4] [4] (Zca [4] [4] AL rfl (Znl rfl T.zip (Zk 0) (Zk 3) Za Za) (Zre rfl (Zby (Yx (i:=5) (hN:=sc.nd) (hi:=rfl) (hx:=Af rfl)) (Zby (Yx (i:=6) (hN:=sc.nd) (hi:=rfl) (hx:=Af rfl)) Zly))) (Zg [4] [4] (Yn (Zpe (Zhh (Zdj (Zcc (Xc D_law_is_cutting (hr.mono (by decide)) rfl Yu (Zd (Zk 6) Zj Za) (he:=Za)))) (Zer (Xf Xev Xfe (Xc D_law_amount (hr.mono (by decide)) rfl Yu (Zd (Zk 5) (Zd (Zk 1) (Zd (Zk 6) Zj Za) Za) Za) (he:=Za)) Zdf (Zy _))))) (Zm (Xl Zdf)) Xb)
      (Zm (Zca [4] [4] AL rfl (Yr (Zk 6)) (Zre rfl (Zby (Yx (i:=7) (hN:=sc.nd) (hi:=rfl) (hx:=Af rfl)) (Zby (Yx (i:=8) (hN:=sc.nd) (hi:=rfl) (hx:=Af rfl)) Zly))) (Zm (Xhq (i:=4) (he:=(Zp Zdg Zaz (Zxa (Zk 4) (Zk 8) hu) Zc)) (hk:=(Zk 8)) (hu:=hu)))))))
      (Zg [4,9] [4,9] (Zfz (i:=9) (n:=10) (Zl Zcm) ["_law_rolls_here","_law_table_here","_law_order_here","_law_plan","_law_left_here","_law_roll_here","_law_cutting","_law_place","_law_name","_law_rest"] ["_law_rolls_here","_law_table_here","_law_order_here","_law_plan","_law_left_here","_law_roll_here","_law_cutting","_law_place","_law_name","_law_rest"] ["_law_kind"] ⟨rfl,by decide +kernel,by decide +kernel,by decide +kernel,by decide +kernel,by decide +kernel,rfl,by decide +kernel⟩ rfl rfl (Yr (Zk 1)) (fun _ _ _ _ _=>(Yp 10 (hN:=nd1))) (fun _ _ _ _ _=>Jr) (fun _ _ _ _ _=>(Zxa (Zk 4 (hv:=BL (Af rfl))) (Zs K (Zk 10 (hv:=Af rfl)) Zc Zh) hu)))
      (Zg [4,9] [4,9] (Yn (Zpe (Zmx (Xf Zhi Zdh (Xj (r:=Zaj K) Xo Yi rfl T.len PySem.boot_len (Zd (Zk 9) Zj Za) (he:=Za)) Zc (Zy _)) (Zia (Xf Ziy Zdq (Xj (r:=Xhn K) (Zyd rfl) Xbo rfl T.min Dc (Zd (Zk 9) Zj Za) (he:=Za)) Zc (Zy _))))) (Zm (Xl Zdf)) Xb)
      (Zm (Xl (Zhj 9))))))))⟩
theorem Zjw (F:Fun K "_law_laid" "_law_laid" Zdb f fd)(T:Txt mg K C)(D_law_sums:Def P w K mg base CX0 7 "_law_sums" ["_law_roll_here"] (spD K C 1 2 Dl.Jg))(D_law_row:Def P w K mg base CX0 8 "_law_row" ["_law_script","_law_place","_law_sizes"] (spD K C 3 2 Dl.Xg))(D_law_good:Def P w K mg base CX0 7 "_law_good" ["_law_sums_here","_law_kind","_law_at"] (spD K C 3 2 Dl.Ys)):Zbd P w K mg base CX0 9 f fd ["_law_script","_law_place","_law_roll_here","_law_table_here","_law_wanted"] (Xgv K C 4 Dl.Xw):=by
  refine F.okML Zep rfl (by decide) fun cdv A outer s H E hr=>?_;have sc:=Zep;have hu:_+64<Bi:=hr.units;exact ⟨_,(Zir [0,5] [0,5] (Zip (i:=5) (Zgy (by decide) sc.nd) rfl (Af rfl) (Xc D_law_sums (hr.mono (by decide)) rfl Yu (Zd (Zk 3) Zj Za) (he:=Za)))
      (Zir [0,5,6] [0,5,6] (Zip (i:=6) (Zgy (by decide) sc.nd) rfl (Af rfl) (Xc D_law_row (hr.mono (by decide)) rfl Yu (Zd (Zk 1) (Zd (Zk 2) (Zd (Zp Xt Xu (Yd (Zi Zc (Zi Zc Zj Zf) Zf)) Zc) Zj Zx) Za) Za) (he:=Za)))
      (Zir [0,5,6,7] [0,5,6,7] (Zip (i:=7) (Zgy (by decide) sc.nd) rfl (Af rfl) (Yd Zj))
      (Zir [0,5,6,7,8] [0,5,6,7,8] (Zip (i:=8) (Zgy (by decide) sc.nd) rfl (Af rfl) Zc)
      (Zir [0,5,6,7,8] [0,5,6,7,8] (Xpk [0,5,6,7,8] [0,5,6,7,8] AL rfl (Zcs rfl T.range (Zd (Zp Xt Xu Zc (Jp Zmh Zzc rfl T.int De (Zd (Zgu Zhi Zdh (Xj (r:=Zaj K) Xo Yi rfl T.len PySem.boot_len (Zd (Zk 4) Zj Za) (he:=Za)) Zc (Zy _)) Zj Zhm) (he:=Zhm))) Zj Zx)) (Xdp (i:=9) (hN:=(Zgy (by decide) sc.nd)) (hi:=rfl) (hx:=Af rfl)) (Xcn [0,5,6,7,8,10] [0,5,6,7,8,10] (Zhr [0,5,6,7,8,10] [0,5,6,7,8,10] (Zip (i:=10) (Zgy (by decide) sc.nd) rfl (Af rfl) (Xp (Zs K (Zk 4) (Zp Zai Yz (Zs K (Zk 6) (Zp Xt Xu Zc (Zk 9)) plain_bin) (Xj (r:=Zaj K) Xo Yi rfl T.len PySem.boot_len (Zd (Zk 4) Zj Za) (he:=Za))) plain_bin))) (Zhr [0,5,6,7,8,10] [0,5,6,7,8,10] (Zip (i:=8) (Zgy (by decide) sc.nd) rfl (Af rfl) (Zp Zt Zv (Zk 8) (Zs K (Zk 6) (Zp Zt Zv (Zp Xt Xu Zc (Zk 9)) Zc) plain_bin))) (Zou (Xpr (Zpe (Zmx (Zcc (Xc D_law_good (hr.mono (by decide)) rfl Yu (Zd (Zk 5) (Zd (Zk 10) (Zd (Zk 8) Zj Za) Za) Za) (he:=Za))) (Zia (Xf Zhi Zdh (Xhw (Zk 0) (Zs K (Zk 10) Zc Zh) Zc hu) Zc (Zy _))))) (Zhr [0,5,6,7,8,10] [0,5,6,7,8,10] (Xqc (i:=7) (he:=(Zmj (Zi (Xp (Zk 8)) (Zi (Xp (Zs K (Zk 10) Zc Zh)) Zj Xa) Za))) (hse:=Zsj)) (Zhr [0,5,6,7,8,10] [0,5,6,7,8,10] (Zip (i:=8) (Zgy (by decide) sc.nd) rfl (Af rfl) (Zp Zt Zv (Zk 8) (Zs K (Zk 10) Zc Zh))) (Zou (Xpr (Xf (Xoh hu) Xkb (Zs K (Zk 10) Zc Zh) (Zk 0) rfl) (Zou (Xhj (i:=0) (he:=(Zp Zdg Zaz (Zxa (Zk 0) (Zs K (Zk 10) Zc Zh) hu) Zc)) (hk:=(Zs K (Zk 10) Zc Zh)) (hu:=hu))) Zuv)))) Zuv))))))
      (Xjj (i:=7)))))))⟩
theorem Zim (F:Fun K "_law_any_word" "_law_any_word" Zaq f fd)(T:Txt mg K C)(D_law_row:Def P w K mg base CX0 8 "_law_row" ["_law_script","_law_place","_law_sizes"] (spD K C 3 2 Dl.Xg)):Zbd P w K mg base CX0 9 f fd ["_law_script","_law_place"] (spD K C 2 2 Dl.Yg):=by
  refine F.okC Zdu (Γ':=[]) (Δ':=[]) rfl fun cdv A outer s H E hr=>?_;have sc:=Zdu;have hu:_+64<Bi:=hr.units;have nd0:Bf (["_law_script","_law_place","_law_signs","_law_some","_law_one"]:List Str):=by decide +kernel
  exact ⟨_,(Zg [2] [2] (Zw (i:=2) sc.nd rfl (BL rfl) Jk)
      (Zg [2] [2] (Zw (i:=2) sc.nd rfl (BL rfl) (Zp Zt Zv (Zk 2) Jk))
      (Zg [2,3] [2,3] (Zw (i:=3) sc.nd rfl (Af rfl) (Xc D_law_row (hr.mono (by decide)) rfl Yu (Zd (Zk 0) (Zd (Zk 1) (Zd (Zp Zt Zv (Yd (Zi Zc Zj Zf)) (Zp Xt Xu (Yd (Zi Zc Zj Zf)) Zc)) Zj Zx) Za) Za) (he:=Za)))
      (Zm (Xl (Xkh K Jk (Zcd (n:=4) (Zl Zaq) ["_law_script","_law_place","_law_signs","_law_some"] ["_law_script","_law_place","_law_signs","_law_some"] ["_law_one"] ⟨rfl,by decide +kernel,by decide +kernel,by decide +kernel,by decide +kernel,by decide +kernel,rfl,by decide +kernel⟩ (Yr (Zum K (Zk 3) (Zde Zc) (Zde (Zp Zt Zv Zc (Zs K (Zk 3) Zc Zh))))) (fun _ _ _ _ _=>(Yp 4 (hN:=nd0))) (fun _ _ _ _ _=>Jr) (fun _ _ _ _ _=>(Xp (Zs K (Zk 2 (hv:=BL (Af rfl))) (Zk 4 (hv:=Af rfl)) Xh)))) Jc))))))⟩
theorem Zza (F:Fun K "is_plan" "is_plan" Zhk f fd)(T:Txt mg K C)(Damount:Def P w K mg base CX0 9 "amount" ["roll","table","cutting"] (spD K C 3 2 Dl.Zbw)):Zbd P w K mg base CX0 10 f fd ["rolls","table","plan"] (spD K C 3 2 Dl.Zdr):=by
  refine F.okC Znd (Γ':=[]) (Δ':=[]) rfl fun cdv A outer s H E hr=>?_;have sc:=Znd;have hu:_+64<Bi:=hr.units;have nd0:Bf (["rolls","table","plan","roll","cutting"]:List Str):=by decide +kernel
  exact ⟨_,(Zg [] [] (Yn (Xf (r:=Xlo K) (Zqu hu) Zrn (Xj (r:=Zaj K) Xo Yi rfl T.len PySem.boot_len (Zd (Zk 2) Zj Za) (he:=Za)) (Xj (r:=Zaj K) Xo Yi rfl T.len PySem.boot_len (Zd (Zk 0) Zj Za) (he:=Za)) (Zy _)) (Zm (Xl Zhf)) Xb)
      (Zm (Xl (Xj (r:=Xdn K) (Zwv rfl) Xia rfl T.all HK (Zd (Zcd (n:=3) (Zl Zhk) ["rolls","table","plan"] ["rolls","table","plan"] ["roll","cutting"] ⟨rfl,by decide +kernel,by decide +kernel,by decide +kernel,by decide +kernel,by decide +kernel,rfl,by decide +kernel⟩ (Znl rfl T.zip (Zk 0) (Zk 2) Za Za) (fun _ _ _ _ _=>(Zqq K (Zbz (Yp 3 (hN:=nd0)) (Zbz (Yp 4 (hN:=nd0)) Zkv)))) (fun _ _ _ _ _=>Jr) (fun _ _ _ _ _=>(Zgu Zuq Znp (Xc Damount (hr.mono (by decide)) rfl Yu (Zd (Zk 3 (hv:=Af rfl)) (Zd (Zk 1 (hv:=BL (Af rfl))) (Zd (Zk 4 (hv:=Af rfl)) Zj Za) Za) Za) (he:=Za)) Zdf (Zy _)))) Zj Jc) (he:=Jc)))))⟩
theorem Zmz (F:Fun K "_law_rolls" "_law_rolls" Zcw f fd)(T:Txt mg K C)(D_law_flaw:Def P w K mg base CX0 9 "_law_flaw" ["_law_script","_law_place","_law_most"] (spD K C 3 2 Dl.Zbn))(D_law_table:Def P w K mg base CX0 9 "_law_table" ["_law_script","_law_place","_law_most"] (spD K C 3 2 Dl.Zas))(D_law_row:Def P w K mg base CX0 8 "_law_row" ["_law_script","_law_place","_law_sizes"] (spD K C 3 2 Dl.Xg))(D_law_roll:Def P w K mg base CX0 9 "_law_roll" ["_law_script","_law_place","_law_most","_law_flaw_here"] (spD K C 4 2 Dl.Zak)):Zbd P w K mg base CX0 10 f fd ["_law_script","_law_place","_law_most","_law_cells","_law_kinds"] (spD K C 5 2 Dl.Zaw):=by
  refine F.okC Zgl (Γ':=[]) (Δ':=[]) rfl fun cdv A outer s H E hr=>?_;have sc:=Zgl;have hu:_+64<Bi:=hr.units;have nd0:Bf (["_law_script","_law_place","_law_most","_law_cells","_law_kinds","_law_flaw_here","_law_table_here","_law_count","_law_rolls_here","_law_k"]:List Str):=by decide +kernel
  exact ⟨_,(Zg [5] [5] (Zw (i:=5) sc.nd rfl (BL rfl) (Xc D_law_flaw (hr.mono (by decide)) rfl Yu (Zd (Zk 0) (Zd (Zk 1) (Zd (Zk 4) Zj Za) Za) Za) (he:=Za)))
      (Zg [5,6] [5,6] (Zw (i:=6) sc.nd rfl (Af rfl) (Xc D_law_table (hr.mono (by decide)) rfl Yu (Zd (Zk 0) (Zd (Zk 1) (Zd (Zk 4) Zj Za) Za) Za) (he:=Za)))
      (Zg [5,6,7] [5,6,7] (Zw (i:=7) sc.nd rfl (Af rfl) (Xp (Zs K (Xc D_law_row (hr.mono (by decide)) rfl Yu (Zd (Zk 0) (Zd (Zp Zt Zv (Zk 1) Zc) (Zd (Yd (Zi (Zp Zt Zv (Zk 2) Zc) Zj Zx)) Zj Ziv) Zx) Za) (he:=Za)) Zc Zh)))
      (Zg [5,6,7,8] [5,6,7,8] (Zfz (i:=8) (n:=9) (Zl Zcw) ["_law_script","_law_place","_law_most","_law_cells","_law_kinds","_law_flaw_here","_law_table_here","_law_count","_law_rolls_here"] ["_law_script","_law_place","_law_most","_law_cells","_law_kinds","_law_flaw_here","_law_table_here","_law_count","_law_rolls_here"] ["_law_k"] ⟨rfl,by decide +kernel,by decide +kernel,by decide +kernel,by decide +kernel,by decide +kernel,rfl,by decide +kernel⟩ rfl rfl (Zcs rfl T.range (Zd (Zk 7) Zj Za)) (fun _ _ _ _ _=>(Yp 9 (hN:=nd0))) (fun _ _ _ _ _=>Jr) (fun _ _ _ _ _=>(Xc D_law_roll (hr.mono (by decide)) rfl Yu (Zd (Zk 0 (hv:=BL (Af rfl))) (Zd (Zp Zt Zv (Zp Zt Zv (Zk 1 (hv:=BL (Af rfl))) Zc) (Zk 9 (hv:=Af rfl))) (Zd (Zk 3 (hv:=BL (Af rfl))) (Zd (Zk 5 (hv:=BL (Af rfl))) Zj Za) Za) Zx) Za) (he:=Za))))
      (Zm (Xl (Zmj (Zqr [(8,false),(6,false)] (Zhj 8) (Zqr [(6,false)] (Zhj 6) Zj Za) Za))))))))⟩
theorem Zpw (F:Fun K "plan_left" "plan_left" Zbk f fd)(T:Txt mg K C)(Dis_plan:Def P w K mg base CX0 10 "is_plan" ["rolls","table","plan"] (spD K C 3 2 Dl.Zdr))(Dnames:Def P w K mg base CX0 7 "names" ["table"] (spD K C 1 2 Dl.Zex)):Zbd P w K mg base CX0 11 f fd ["rolls","table","order","plan"] (spD K C 4 2 Dl.Zam):=by
  refine F.okC Zjc (Γ':=[]) (Δ':=[]) rfl fun cdv A outer s H E hr=>?_;have sc:=Zjc;have hu:_+64<Bi:=hr.units;have nd0:Bf (["rolls","table","order","plan","cut","cutting","left","piece"]:List Str):=by decide +kernel
  have nd1:Bf (["rolls","table","order","plan","cut","cutting","left","name","number"]:List Str):=by decide +kernel
  have nd2:Bf (["rolls","table","order","plan","cut","cutting","left","number"]:List Str):=by decide +kernel
  exact ⟨_,(Zg [] [] (Yn (Zdj (Zcc (Xc Dis_plan (hr.mono (by decide)) rfl Yu (Zd (Zk 0) (Zd (Zk 1) (Zd (Zk 3) Zj Za) Za) Za) (he:=Za)))) (Zm (Xl Zdf)) Xb)
      (Zg [4] [4] (Zw (i:=4) sc.nd rfl (BL rfl) (Yd Zj))
      (Zg [4] [4] (Zca [4] [4] AL rfl (Yr (Zk 3)) (Yx (i:=5) (hN:=sc.nd) (hi:=rfl) (hx:=Af rfl)) (Zm (Xhi K (i:=4) (Zcd (n:=7) (Zl Zbk) ["rolls","table","order","plan","cut","cutting","left"] ["rolls","table","order","plan","cut","cutting","left"] ["piece"] ⟨rfl,by decide +kernel,by decide +kernel,by decide +kernel,by decide +kernel,by decide +kernel,rfl,by decide +kernel⟩ (Yr (Zk 5)) (fun _ _ _ _ _=>(Yp 7 (hN:=nd0))) (fun _ _ _ _ _=>Jr) (fun _ _ _ _ _=>(Xp (Zs K (Zk 7 (hv:=Af rfl)) Zc Zh)))) Jc)))
      (Zg [4,6] [4,6] (Zfz (i:=6) (n:=7) (Zl Zbk) ["rolls","table","order","plan","cut","cutting","left"] ["rolls","table","order","plan","cut","cutting","left"] ["name","number"] ⟨rfl,by decide +kernel,by decide +kernel,by decide +kernel,by decide +kernel,by decide +kernel,rfl,by decide +kernel⟩ rfl rfl (Znl rfl T.zip (Xc Dnames (hr.mono (by decide)) rfl Yu (Zd (Zk 1) Zj Za) (he:=Za)) (Zk 2) Jy Za) (fun _ _ _ _ _=>(Zqq K (Zbz (Yp 7 (hN:=nd1)) (Zbz (Yp 8 (hN:=nd1)) Zkv)))) (fun _ _ _ _ _=>Jr) (fun _ _ _ _ _=>(Zp Zdg Zaz (Zk 8 (hv:=Af rfl)) (Zzt K (Zk 4 (hv:=BL (Af rfl))) (Zk 7 (hv:=Af rfl)) Za))))
      (Zg [4,6] [4,6] (Yn (Zcc (Xj (r:=Xbb K) (Zym rfl) Xiz rfl T.any HJ (Zd (Zcd (n:=7) (Zl Zbk) ["rolls","table","order","plan","cut","cutting","left"] ["rolls","table","order","plan","cut","cutting","left"] ["number"] ⟨rfl,by decide +kernel,by decide +kernel,by decide +kernel,by decide +kernel,by decide +kernel,rfl,by decide +kernel⟩ (Yr (Zk 6)) (fun _ _ _ _ _=>(Yp 7 (hN:=nd2))) (fun _ _ _ _ _=>Jr) (fun _ _ _ _ _=>(Zgu Ziy Zdq (Zk 7 (hv:=Af rfl)) Zc (Zy _)))) Zj Jc) (he:=Jc))) (Zm (Xl Zdf)) Xb)
      (Zm (Xl (Zhj 6))))))))⟩
theorem Znr (F:Fun K "_law_right" "_law_right" Zcx f fd)(T:Txt mg K C)(D_law_copies:Def P w K mg base CX0 7 "_law_copies" ["_law_rolls_here","_law_table_here","_law_order_here"] (spD K C 3 2 Dl.Zae))(D_law_left:Def P w K mg base CX0 9 "_law_left" ["_law_rolls_here","_law_table_here","_law_order_here","_law_plan"] (spD K C 4 2 Dl.Zbp))(Dplan_left:Def P w K mg base CX0 11 "plan_left" ["rolls","table","order","plan"] (spD K C 4 2 Dl.Zam))(D_law_is_whole:Def P w K mg base CX0 7 "_law_is_whole" ["_law_one"] (spD K C 1 2 Dl.Xz)):Zbd P w K mg base CX0 12 f fd ["_law_rolls_here","_law_table_here","_law_order_here","_law_plan"] (spD K C 4 2 Dl.Jw):=by
  refine F.okC Zgv (Γ':=[]) (Δ':=[]) rfl fun cdv A outer s H E hr=>?_;have sc:=Zgv;have hu:_+64<Bi:=hr.units;have nd0:Bf (["_law_rolls_here","_law_table_here","_law_order_here","_law_plan","_law_handed","_law_due","_law_given","_law_k","_law_found","_law_one","_law_cutting"]:List Str):=by decide +kernel
  exact ⟨_,(Zg [4] [4] (Zw (i:=4) sc.nd rfl (Af rfl) (Xc D_law_copies (hr.mono (by decide)) rfl Yu (Zd (Zk 0) (Zd (Zk 1) (Zd (Zk 2) Zj Za) Za) Za) (he:=Za)))
      (Zg [4,5] [4,5] (Zw (i:=5) sc.nd rfl (Af rfl) (Xc D_law_left (hr.mono (by decide)) rfl Yu (Zd (Zk 0) (Zd (Zk 1) (Zd (Zk 2) (Zd (Zk 3) Zj Za) Za) Za) Za) (he:=Za)))
      (Zg [4,5,6] [4,5,6] (Zfz (i:=6) (n:=10) (Zl Zcx) ["_law_rolls_here","_law_table_here","_law_order_here","_law_plan","_law_handed","_law_due","_law_given","_law_k","_law_found","_law_one"] ["_law_rolls_here","_law_table_here","_law_order_here","_law_plan","_law_handed","_law_due","_law_given","_law_k","_law_found","_law_one"] ["_law_cutting"] ⟨rfl,by decide +kernel,by decide +kernel,by decide +kernel,by decide +kernel,by decide +kernel,rfl,by decide +kernel⟩ rfl rfl (Yr (Zk 3)) (fun _ _ _ _ _=>(Yp 10 (hN:=nd0))) (fun _ _ _ _ _=>Jr) (fun _ _ _ _ _=>(Jp (r:=Zjs K) (Zbl rfl) Zeh rfl T.list AX (Zd (Zk 10 (hv:=Af rfl)) Zj Za) (he:=Za))))
      (Zg [4,5,6] [4,5,6] (Zca [4,5,6] [4,5,6] AL rfl (Zcs rfl T.range (Zd Zc Zj Zf)) (Yx (i:=7) (hN:=sc.nd) (hi:=rfl) (hx:=Af rfl)) (Zbe [4,5,6,8] [4,5,6,8] (Zg [4,5,6,8] [4,5,6,8] (Zw (i:=8) sc.nd rfl (Af rfl) (Xc Dplan_left (hr.mono (by decide)) rfl Yu (Zd (Zs K (Zk 4) Zc Zh) (Zd (Zs K (Zk 4) Zc Zh) (Zd (Zs K (Zk 4) Zc Zh) (Zd (Zk 6) Zj Za) Xa) Xa) Xa) (he:=Xa)))
      (Zm (Yn (Xf Xev Xfe (Zk 5) Zdf (Zy _)) (Zm (Yn (Xf Zuq Znp (Zk 8) Zdf (Zy _)) (Zm (Xl Zhf)) Xb)) (Zg [4,5,6,8] [4,5,6,8] (Yn (Zpe (Zhh (Zdj (Zcc (Zje K (ty:="list") Zls rfl T.isinstance rfl T.list AX (Zk 8) Za))) (Zer (Xf (r:=Xlo K) (Zqu hu) Zrn (Zk 8) (Zk 5) (Zy _))))) (Zm (Xl Zhf)) Xb)
      (Zg [4,5,6,8] [4,5,6,8] (Xgx (k:=9) [4,5,6,8] [4,5,6,8] AL rfl (Yr (Zk 8)) sc.nd rfl (Af rfl) (Zdj (Zcc (Xc D_law_is_whole (hr.mono (by decide)) rfl Yu (Zd (Zk 9) Zj Za) (he:=Za)))) (Zm (Xl Zhf)) Xdv)
      (Zm (Zgk (i:=8) (he:=Zc) (hse:=Zf))))))))))
      (Zm (Xl (Xeb (Zgu (r:=Zho K) (Jj hu) Ji (Zk 4) (Zlr (Zd (Zk 0) (Zd (Zk 1) (Zd (Zk 2) Zj Za) Za) Za)) (Zy _)) (Xes (Zgu (r:=Zho K) (Jj hu) Ji (Zk 6) (Zk 3) (Zy _))))))))))⟩
theorem oklaw (F:Fun K "law" "law" Xcd f fd)(T:Txt mg K C)(D_law_row:Def P w K mg base CX0 8 "_law_row" ["_law_script","_law_place","_law_sizes"] (spD K C 3 2 Dl.Xg))(D_law_rolls:Def P w K mg base CX0 10 "_law_rolls" ["_law_script","_law_place","_law_most","_law_cells","_law_kinds"] (spD K C 5 2 Dl.Zaw))(D_law_order:Def P w K mg base CX0 9 "_law_order" ["_law_script","_law_place","_law_table_here","_law_most","_law_limit"] (spD K C 5 2 Dl.Zay))(D_law_laid__W:Def P w K mg base CX0 9 "_law_laid" ["_law_script","_law_place","_law_roll_here","_law_table_here","_law_wanted"] (Xgv K C 4 Dl.Xw))(D_law_right:Def P w K mg base CX0 12 "_law_right" ["_law_rolls_here","_law_table_here","_law_order_here","_law_plan"] (spD K C 4 2 Dl.Jw))(D_law_spoilt:Def P w K mg base CX0 8 "_law_spoilt" ["_law_plan","_law_some"] (spD K C 2 0 Dl.Jh))(D_law_any_word:Def P w K mg base CX0 9 "_law_any_word" ["_law_script","_law_place"] (spD K C 2 2 Dl.Yg)):Zbd P w K mg base CX0 13 f fd ["_law_script"] (spD K C 1 2 Dl.Xlh):=by
  refine F.okC Xre (Γ':=[]) (Δ':=[]) rfl fun cdv A outer s H E hr=>?_;have sc:=Xre;have hu:_+64<Bi:=hr.units;have nd0:Bf (["_law_script","_law_some","_law_rolls_here","_law_table_here","_law_order_here","_law_wanted","_law_plan","_law_names_told","_law_kind","_law_number"]:List Str):=by decide +kernel
  have nd1:Bf (["_law_script","_law_some","_law_rolls_here","_law_table_here","_law_order_here","_law_wanted","_law_plan","_law_names_told","_law_k"]:List Str):=by decide +kernel
  have nd2:Bf (["_law_script","_law_some","_law_rolls_here","_law_table_here","_law_order_here","_law_wanted","_law_plan","_law_names_told","_law_kind"]:List Str):=by decide +kernel
  exact ⟨_,(Zg [1] [1] (Zw (i:=1) sc.nd rfl (Af rfl) (Xc D_law_row (hr.mono (by decide)) rfl Yu (Zd (Zk 0) (Zd Zc (Zd (Yd (Zi Zc (Zi Zc (Zi Zc (Zi Zc (Zi Zc (Zi Zc (Zi Zc Zj Zf) Zf) Zf) Zf) Zf) Zf) Zf)) Zj Ziv) Zf) Za) (he:=Za)))
      (Zg [1,2,3] [1,2,3] (Znm rfl (Xc D_law_rolls (hr.mono (by decide)) rfl Yu (Zd (Zk 0) (Zd Zc (Zd Zc (Zd (Zs K (Yd (Zi Zc (Zi Zc Zj Zf) Zf)) (Jp Zmh Zzc rfl T.int De (Zd (Zgu (r:=Zho K) (Jj hu) Ji (Zs K (Zk 1) Zc Zh) Zc (Zy _)) Zj Zhm) (he:=Zhm)) Ztf) (Zd Zc Zj Zf) Xa) Zf) Zf) Za) (he:=Za)) (Zlq (i:=2) sc.nd rfl (BL rfl) (Zlq (i:=3) sc.nd rfl (BL rfl) Xee)))
      (Zg [1,2,3,4] [1,2,3,4] (Zw (i:=4) sc.nd rfl (Af rfl) (Xc D_law_order (hr.mono (by decide)) rfl Yu (Zd (Zk 0) (Zd Zc (Zd (Zk 3) (Zd Zc (Zd Zc Zj Zf) Zf) Za) Zf) Za) (he:=Za)))
      (Zg [1,2,3,4] [1,2,3,4] (Yn (Zpe (Zmx (Xf (r:=Zho K) (Jj hu) Ji (Zs K (Zk 1) Zc Zh) Zc (Zy _)) (Zia (Xf Zhi Zdh (Xj (r:=Zaj K) Xo Yi rfl T.len PySem.boot_len (Zd (Zk 4) Zj Za) (he:=Za)) Zc (Zy _))))) (Zm (Zrc (i:=4) (he:=(Zp Zt Zv (Zp Zdi Zbb Zc Zc) (Zs K (Zk 1) Zc Zh))) (hk:=(Zp Zai Yz (Zs K (Zk 1) Zc Zh) (Xj (r:=Zaj K) Xo Yi rfl T.len PySem.boot_len (Zd (Zk 4) Zj Za) (he:=Za)))))) Xb)
      (Zg [1,2,3,4,5] [1,2,3,4,5] (Zw (i:=5) sc.nd rfl (BL rfl) Xkq)
      (Zg [1,2,3,4,5] [1,2,3,4,5] (Yn (Xf (r:=Zho K) (Jj hu) Ji (Zs K (Zk 1) Zc Zh) Zc (Zy _)) (Zm (Zw (i:=5) sc.nd rfl (BL rfl) (Jp (r:=Zrf) (Zkl rfl) Zog rfl T.dict Em (Zd (Zcd (n:=8) (Zl Xcd) ["_law_script","_law_some","_law_rolls_here","_law_table_here","_law_order_here","_law_wanted","_law_plan","_law_names_told"] ["_law_script","_law_some","_law_rolls_here","_law_table_here","_law_order_here","_law_wanted","_law_plan","_law_names_told"] ["_law_kind","_law_number"] ⟨rfl,by decide +kernel,by decide +kernel,by decide +kernel,by decide +kernel,by decide +kernel,rfl,by decide +kernel⟩ (Znl rfl T.zip (Zk 3) (Zk 4) Za Za) (fun _ _ _ _ _=>(Zqq K (Zbz (Yp 8 (hN:=nd0)) (Zbz (Yp 9 (hN:=nd0)) Zkv)))) (fun _ _ _ _ _=>Jr) (fun _ _ _ _ _=>(Zmj (Zi (Xp (Zs K (Zk 8 (hv:=Af rfl)) Zc Zh)) (Zi (Xp (Zk 9 (hv:=Af rfl))) Zj Za) Xa)))) Zj Jc) (he:=Jc)))) Xb)
      (Zg [5,6] [5,6] (Xbj (i:=6) (n:=8) 5 (Zl Xcd) ["_law_script","_law_some","_law_rolls_here","_law_table_here","_law_order_here","_law_wanted","_law_plan","_law_names_told"] ["_law_script","_law_some","_law_rolls_here","_law_table_here","_law_order_here","_law_wanted","_law_plan","_law_names_told"] ("_law_k":Str) ⟨rfl,by decide +kernel,by decide +kernel,by decide +kernel,by decide +kernel,by decide +kernel,rfl,by decide +kernel⟩ rfl rfl (Zcs rfl T.range (Zd (Xj (r:=Zaj K) Xo Yi rfl T.len PySem.boot_len (Zd (Zk 2) Zj Za) (he:=Za)) Zj Jy)) (fun _ _ _ _ _=>(Zfx nd1 rfl (.inl rfl) (.inr rfl))) (fun _ _ _ _ _=>(Xdo D_law_laid__W (hr.mono (by decide)) (by rfl) Yu (Zd (Zk 0 (hv:=BL (Af rfl))) (Zd (Zp Zt Zv Zc (Zk 8 (hv:=Af rfl))) (Zd (Zs K (Zk 2 (hv:=BL (Af rfl))) (Zk 8 (hv:=Af rfl)) Xh) (Zd (Zk 3 (hv:=BL (Af rfl))) Zj Za) Xa) Zx) Za) (Yy (JE.q (E:=E0) (Γ:=[]) (Δ:=[]) (C:=C) (Zk 0 (hv:=BL (Af rfl)))) (Yy (JE.q (E:=E0) (Γ:=[]) (Δ:=[]) (C:=C) (Zp Zt Zv Zc (Zk 8 (hv:=Af rfl)))) (Yy (JE.q (E:=E0) (Γ:=[]) (Δ:=[]) (C:=C) (Zs K (Zk 2 (hv:=BL (Af rfl))) (Zk 8 (hv:=Af rfl)) Xh)) (Yy (JE.q (E:=E0) (Γ:=[]) (Δ:=[]) (C:=C) (Zk 3 (hv:=BL (Af rfl)))) (Yy (qv 5) Zes Za) Za) Xa) Zx) Za))))
      (Zg [5,6] [5,6] (Yn (Zdj (Zcc (Xc D_law_right (hr.mono (by decide)) rfl Yu (Zd (Zk 2) (Zd (Zk 3) (Zd (Zk 4) (Zd (Zk 6) Zj Za) Za) Za) Za) (he:=Za)))) (Zm (Xl Zhf)) Xb)
      (Zg [5,6] [5,6] (Yn (Xf Ziy Zdq (Zs K (Zk 1) Zc Zh) Zc (Zy _)) (Zg [5,6,7] [5,6,7] (Zw (i:=7) sc.nd rfl (Af rfl) (Zp Zt Zv (Yd (Zi Jk (Zi Jk (Zi (Xc D_law_any_word (hr.mono (by decide)) rfl Yu (Zd (Zk 0) (Zd Zc Zj Zf) Za) (he:=Za)) Zj Jy) Zf) Zf)) (Zcd (n:=8) (Zl Xcd) ["_law_script","_law_some","_law_rolls_here","_law_table_here","_law_order_here","_law_wanted","_law_plan","_law_names_told"] ["_law_script","_law_some","_law_rolls_here","_law_table_here","_law_order_here","_law_wanted","_law_plan","_law_names_told"] ["_law_kind"] ⟨rfl,by decide +kernel,by decide +kernel,by decide +kernel,by decide +kernel,by decide +kernel,rfl,by decide +kernel⟩ (Yr (Zum K (Zk 3) Zid (Zde Zc))) (fun _ _ _ _ _=>(Yp 8 (hN:=nd2))) (fun _ _ _ _ _=>Jr) (fun _ _ _ _ _=>(Xp (Zs K (Zk 8 (hv:=Af rfl)) Zc Zh))))))
      (Zg [5,6,7] [5,6,7] (Zw (i:=7) sc.nd rfl (Af rfl) (Zum K (Zp Zt Zv (Zk 7) (Yd (Zi Jk Zj Zf))) Zid (Zde Zc)))
      (Zm (Xl (Xc D_law_right (hr.mono (by decide)) rfl Yu (Zd (Zk 2) (Zd (Zk 3) (Zd (Zk 4) (Zd (Xc D_law_spoilt (hr.mono (by decide)) rfl Yu (Zd (Zk 6) (Zd (Zvy (Xew K (Zk 1) Zid (Zde Zc)) (Zlr (Zd (Zk 7) Zj Za))) Zj Zx) Za) (he:=Za)) Zj Jy) Za) Za) Za) (he:=Za)))))) Xb)
      (Zm (Xl Zhf)))))))))))⟩
end
def Xjw (K:AE):Sp:=fun vs H Q _=>∃(a:Addr) (ns:List Int),vs=[.ref a]/\FzL K H a (ns.map V.int)/\ns.length<=63/\∀H',Q (.bl true) H'
theorem fz_of {H:Hp}(hO:Only H)(h:SqL K H a xs):FzL K H a xs:=by rcases h with (h | h) | h;rcases hO a with z | ⟨o,ys,z⟩;rw [h] at z;cases z;rw [h] at z;cases z;exact .inl h;exact .inr h
theorem Xcl (ns:List Int)(h:ns.length<=63):Dl.Xlh [.scr ns]=.ok (.bl true):=Dl.Ztw ns h
theorem all_mk {l:PySem.W.OpenLaw}{fa f1 f2 f3 f4 f5 f6 f7 f8 f9 f10 f11 f12 f13 f14 f15 f16 f17 f18 f19 f20 f21 f22 f23 f24 f25 f26 f27 f28 f29:Addr}(X:K.In h)(G:h.Ns Ag mg)(hfa:mg "law"=some (.ref fa))
  {fd1 fd2 fd3 fd4 fd5 fd6 fd7 fd8 fd9 fd10 fd11 fd12 fd13 fd14 fd15 fd16 fd17 fd18 fd19 fd20 fd21 fd22 fd23 fd24 fd25 fd26 fd27 fd28 fd29:B3}
  (a1:BY K Ag "spoilt"=some (some (.ref f1))) (F1:Fun K "spoilt" "spoilt" Zop f1 fd1)
  (a2:BY K Ag "kind_of"=some (some (.ref f2))) (F2:Fun K "kind_of" "kind_of" Zlz f2 fd2)
  (a3:BY K Ag "names"=some (some (.ref f3))) (F3:Fun K "names" "names" Zsk f3 fd3)
  (a4:BY K Ag "fits"=some (some (.ref f4))) (F4:Fun K "fits" "fits" Xld f4 fd4)
  (a5:BY K Ag "amount"=some (some (.ref f5))) (F5:Fun K "amount" "amount" Zpt f5 fd5)
  (a6:BY K Ag "is_plan"=some (some (.ref f6))) (F6:Fun K "is_plan" "is_plan" Zhk f6 fd6)
  (a7:BY K Ag "plan_left"=some (some (.ref f7))) (F7:Fun K "plan_left" "plan_left" Zbk f7 fd7)
  (a8:BY K Ag "_law_cell"=some (some (.ref f8))) (F8:Fun K "_law_cell" "_law_cell" Zfv f8 fd8)
  (a9:BY K Ag "_law_mix"=some (some (.ref f9))) (F9:Fun K "_law_mix" "_law_mix" Zic f9 fd9)
  (a10:BY K Ag "_law_row"=some (some (.ref f10))) (F10:Fun K "_law_row" "_law_row" Zjd f10 fd10)
  (a11:BY K Ag "_law_table"=some (some (.ref f11))) (F11:Fun K "_law_table" "_law_table" Zew f11 fd11)
  (a12:BY K Ag "_law_flaw"=some (some (.ref f12))) (F12:Fun K "_law_flaw" "_law_flaw" Zgh f12 fd12)
  (a13:BY K Ag "_law_roll"=some (some (.ref f13))) (F13:Fun K "_law_roll" "_law_roll" Zga f13 fd13)
  (a14:BY K Ag "_law_sums"=some (some (.ref f14))) (F14:Fun K "_law_sums" "_law_sums" Zfu f14 fd14)
  (a15:BY K Ag "_law_good"=some (some (.ref f15))) (F15:Fun K "_law_good" "_law_good" Zgd f15 fd15)
  (a16:BY K Ag "_law_amount"=some (some (.ref f16))) (F16:Fun K "_law_amount" "_law_amount" Zbt f16 fd16)
  (a17:BY K Ag "_law_is_whole"=some (some (.ref f17))) (F17:Fun K "_law_is_whole" "_law_is_whole" Zcg f17 fd17)
  (a18:BY K Ag "_law_is_cutting"=some (some (.ref f18))) (F18:Fun K "_law_is_cutting" "_law_is_cutting" Zba f18 fd18)
  (a19:BY K Ag "_law_rolls"=some (some (.ref f19))) (F19:Fun K "_law_rolls" "_law_rolls" Zcw f19 fd19)
  (a20:BY K Ag "_law_order"=some (some (.ref f20))) (F20:Fun K "_law_order" "_law_order" Zey f20 fd20)
  (a21:BY K Ag "_law_left"=some (some (.ref f21))) (F21:Fun K "_law_left" "_law_left" Zcm f21 fd21)
  (a22:BY K Ag "_law_copies"=some (some (.ref f22))) (F22:Fun K "_law_copies" "_law_copies" Zcb f22 fd22)
  (a23:BY K Ag "_law_laid"=some (some (.ref f23))) (F23:Fun K "_law_laid" "_law_laid" Zko f23 fd23)
  (a24:BY K Ag "_law_any_word"=some (some (.ref f24))) (F24:Fun K "_law_any_word" "_law_any_word" Zaq f24 fd24)
  (a25:BY K Ag "_law_bent"=some (some (.ref f25))) (F25:Fun K "_law_bent" "_law_bent" Zfw f25 fd25)
  (a26:BY K Ag "_law_spoilt"=some (some (.ref f26))) (F26:Fun K "_law_spoilt" "_law_spoilt" Zax f26 fd26)
  (a27:BY K Ag "_law_right"=some (some (.ref f27))) (F27:Fun K "_law_right" "_law_right" Zcx f27 fd27)
  (a28:BY K Ag "law"=some (some (.ref f28))) (F28:Fun K "law" "law" Xcd f28 fd28)
  (a29:BY K Ag "_law_laid"=some (some (.ref f29))) (F29:Fun K "_law_laid" "_law_laid" Zdb f29 fd29)
  (z1:BY K Ag "sum"=some none)
  (z2:BY K Ag "len"=some none)
  (z3:BY K Ag "all"=some none)
  (z4:BY K Ag "zip"=some none)
  (z5:BY K Ag "any"=some none)
  (z6:BY K Ag "range"=some none)
  (z7:BY K Ag "min"=some none)
  (z8:BY K Ag "isinstance"=some none)
  (z9:BY K Ag "int"=some none)
  (z10:BY K Ag "bool"=some none)
  (z11:BY K Ag "list"=some none)
  (z12:BY K Ag "tuple"=some none)
  (z13:BY K Ag "str"=some none)
  (z14:BY K Ag "dict"=some none)
  {cNoKind cNoPlace:Addr} {kNoKind kNoPlace:_}
  (gNoKind:BY K Ag "NoKind"=some (some (.ref cNoKind)))
  (xNoKind:ET K cNoKind bmV "ValueError.__new__"=true)
  (tNoKind:EH K (.ref cNoKind)=some (.type "type"))
  (kNoKind:Gx K cNoKind=some kNoKind)
  (gaNoKind:Cm K (.ref cNoKind) "__getattribute__"=some (some (.builtin "BaseException.__getattribute__")))
  (geNoKind:Cm K (.ref cNoKind) "__getattr__"=some none)
  (lkNoKind:Cm K (.ref cNoKind) "__class__"=some (some (.builtin "object.__class__")))
  (soNoKind:C6 K (.ref cNoKind) (.type "object")=some true)
  (sbNoKind:C6 K (.ref cNoKind) (.type "BaseException")=some true)
  (seNoKind:C6 K (.ref cNoKind) (.ref cNoKind)=some true)
  (gNoPlace:BY K Ag "NoPlace"=some (some (.ref cNoPlace)))
  (xNoPlace:ET K cNoPlace bmV "ValueError.__new__"=true)
  (tNoPlace:EH K (.ref cNoPlace)=some (.type "type"))
  (kNoPlace:Gx K cNoPlace=some kNoPlace)
  (gaNoPlace:Cm K (.ref cNoPlace) "__getattribute__"=some (some (.builtin "BaseException.__getattribute__")))
  (geNoPlace:Cm K (.ref cNoPlace) "__getattr__"=some none)
  (lkNoPlace:Cm K (.ref cNoPlace) "__class__"=some (some (.builtin "object.__class__")))
  (soNoPlace:C6 K (.ref cNoPlace) (.type "object")=some true)
  (sbNoPlace:C6 K (.ref cNoPlace) (.type "BaseException")=some true)
  (seNoPlace:C6 K (.ref cNoPlace) (.ref cNoPlace)=some true)
  (sNoKind_NoPlace:C6 K (.ref cNoKind) (.ref cNoPlace)=some false)
  : ∃fd:B3,(∀(s:Ac) (v:Value),Ef s fd ⟨[v],[]⟩ [("_law_script",v)])/\∀base:AZ,K.In base->base.Ns Ag mg->Zbd l.prog w K mg base CX0 13 fa fd ["_law_script"] (Xjw K):=by
 have e:=hfa.symm.trans (B6 X G a28);cases e;obtain ⟨C,hNoKind,hNoPlace⟩:∃C:String->Addr,C "NoKind"=cNoKind/\C "NoPlace"=cNoPlace:=⟨fun x=>if x="NoKind" then cNoKind else if x="NoPlace" then cNoPlace else 0,by simp,by simp⟩;subst hNoKind;subst hNoPlace;have T:Txt mg K C:=⟨BJ X G z1,BJ X G z2,BJ X G z3,BJ X G z4,BJ X G z5,BJ X G z6,BJ X G z7,BJ X G z8,BJ X G z9,BJ X G z10,BJ X G z11,BJ X G z12,BJ X G z13,BJ X G z14,B6 X G gNoKind,⟨xNoKind,tNoKind,⟨_,kNoKind⟩,gaNoKind,geNoKind,lkNoKind,soNoKind,sbNoKind,seNoKind⟩,B6 X G gNoPlace,⟨xNoPlace,tNoPlace,⟨_,kNoPlace⟩,gaNoPlace,geNoPlace,lkNoPlace,soNoPlace,sbNoPlace,seNoPlace⟩,sNoKind_NoPlace⟩;obtain ⟨oc,od,kV,doc,pm,an,cdv,ct,osl,rfl,lk,hcd⟩:=F28.ex;refine ⟨Gc "law" "law" (Zdo Xcd) (Js Xcd) (Zl Xcd) .none kV doc pm an cdv ct,fun s v=>.of_eq rfl,fun base _ _=>?_⟩;have b1:=F1.binds (ps:=["roll","begin","end"]) fun _ _ _ _ _ _=>Zhd (fun _ _ _=>rfl);have Dspoilt:Def l.prog w K mg base CX0 7 "spoilt" ["roll","begin","end"] (spD K (C) 3 2 Dl.Zed):=⟨f1,_,B6 X G a1,F1.kp,b1,Xai F1 T⟩;have b2:=F2.binds (ps:=["table","name"]) fun _ _ _ _ _ _=>Zsv (fun _ _=>rfl);have Dkind_of:Def l.prog w K mg base (CXE l.prog w) 7 "kind_of" ["table","name"] (spD K (C) 2 2 Dl.Zav):=⟨f2,_,B6 X G a2,F2.kp,b2,Zwx F2 T⟩;have b3:=F3.binds (ps:=["table"]) fun _ _ _ _ _ _=>Zvr (fun _=>rfl);have Dnames:Def l.prog w K mg base CX0 7 "names" ["table"] (spD K (C) 1 2 Dl.Zex):=⟨f3,_,B6 X G a3,F3.kp,b3,Xht F3 T⟩;have b8:=F8.binds (ps:=["_law_script","_law_place"]) fun _ _ _ _ _ _=>Zsv (fun _ _=>rfl);have D_law_cell:Def l.prog w K mg base CX0 7 "_law_cell" ["_law_script","_law_place"] (spD K (C) 2 2 Dl.Zan):=⟨f8,_,B6 X G a8,F8.kp,b8,Zor F8 T⟩;have b9:=F9.binds (ps:=["_law_cell_here","_law_k"]) fun _ _ _ _ _ _=>Zsv (fun _ _=>rfl);have D_law_mix:Def l.prog w K mg base CX0 7 "_law_mix" ["_law_cell_here","_law_k"] (spD K (C) 2 2 Dl.Zbh):=⟨f9,_,B6 X G a9,F9.kp,b9,Zsz F9 T⟩;have b14:=F14.binds (ps:=["_law_roll_here"]) fun _ _ _ _ _ _=>Zvr (fun _=>rfl);have D_law_sums:Def l.prog w K mg base CX0 7 "_law_sums" ["_law_roll_here"] (spD K (C) 1 2 Dl.Jg):=⟨f14,_,B6 X G a14,F14.kp,b14,Zpm F14 T⟩;have b15:=F15.binds (ps:=["_law_sums_here","_law_kind","_law_at"]) fun _ _ _ _ _ _=>Zhd (fun _ _ _=>rfl);have D_law_good:Def l.prog w K mg base CX0 7 "_law_good" ["_law_sums_here","_law_kind","_law_at"] (spD K (C) 3 2 Dl.Ys):=⟨f15,_,B6 X G a15,F15.kp,b15,Zos F15 T⟩;have b17:=F17.binds (ps:=["_law_one"]) fun _ _ _ _ _ _=>Zvr (fun _=>rfl);have D_law_is_whole:Def l.prog w K mg base CX0 7 "_law_is_whole" ["_law_one"] (spD K (C) 1 2 Dl.Xz):=⟨f17,_,B6 X G a17,F17.kp,b17,Zio F17 T⟩;have b22:=F22.binds (ps:=["_law_rolls_here","_law_table_here","_law_order_here"]) fun _ _ _ _ _ _=>Zhd (fun _ _ _=>rfl);have D_law_copies:Def l.prog w K mg base CX0 7 "_law_copies" ["_law_rolls_here","_law_table_here","_law_order_here"] (spD K (C) 3 2 Dl.Zae):=⟨f22,_,B6 X G a22,F22.kp,b22,Zks F22 T⟩;have b25:=F25.binds (ps:=["_law_cutting","_law_k","_law_some"]) fun _ _ _ _ _ _=>Zhd (fun _ _ _=>rfl);have D_law_bent:Def l.prog w K mg base CX0 7 "_law_bent" ["_law_cutting","_law_k","_law_some"] (spD K (C) 3 2 Dl.Zao):=⟨f25,_,B6 X G a25,F25.kp,b25,Zov F25 T⟩;have b4:=F4.binds (ps:=["roll","kind","place"]) fun _ _ _ _ _ _=>Zhd (fun _ _ _=>rfl);have Dfits:Def l.prog w K mg base CX0 8 "fits" ["roll","kind","place"] (spD K (C) 3 2 Dl.Znx):=⟨f4,_,B6 X G a4,F4.kp,b4,Xra F4 T Dspoilt⟩;have b10:=F10.binds (ps:=["_law_script","_law_place","_law_sizes"]) fun _ _ _ _ _ _=>Zhd (fun _ _ _=>rfl);have D_law_row:Def l.prog w K mg base CX0 8 "_law_row" ["_law_script","_law_place","_law_sizes"] (spD K (C) 3 2 Dl.Xg):=⟨f10,_,B6 X G a10,F10.kp,b10,Ztl F10 T D_law_cell D_law_mix⟩;have b16:=F16.binds (ps:=["_law_roll_here","_law_table_here","_law_cutting"]) fun _ _ _ _ _ _=>Zhd (fun _ _ _=>rfl);have D_law_amount:Def l.prog w K mg base CX0 8 "_law_amount" ["_law_roll_here","_law_table_here","_law_cutting"] (spD K (C) 3 2 Dl.Yl):=⟨f16,_,B6 X G a16,F16.kp,b16,Zlv F16 T D_law_sums D_law_good⟩;have b18:=F18.binds (ps:=["_law_found"]) fun _ _ _ _ _ _=>Zvr (fun _=>rfl);have D_law_is_cutting:Def l.prog w K mg base CX0 8 "_law_is_cutting" ["_law_found"] (spD K (C) 1 2 Dl.Xv):=⟨f18,_,B6 X G a18,F18.kp,b18,Zgg F18 T D_law_is_whole⟩;have b26:=F26.binds (ps:=["_law_plan","_law_some"]) fun _ _ _ _ _ _=>Zsv (fun _ _=>rfl);have D_law_spoilt:Def l.prog w K mg base CX0 8 "_law_spoilt" ["_law_plan","_law_some"] (spD K (C) 2 0 Dl.Jh):=⟨f26,_,B6 X G a26,F26.kp,b26,Zlx F26 T D_law_bent⟩;have b5:=F5.binds (ps:=["roll","table","cutting"]) fun _ _ _ _ _ _=>Zhd (fun _ _ _=>rfl);have Damount:Def l.prog w K mg base CX0 9 "amount" ["roll","table","cutting"] (spD K (C) 3 2 Dl.Zbw):=⟨f5,_,B6 X G a5,F5.kp,b5,Xbn F5 T Dkind_of Dfits⟩;have b11:=F11.binds (ps:=["_law_script","_law_place","_law_most"]) fun _ _ _ _ _ _=>Zhd (fun _ _ _=>rfl);have D_law_table:Def l.prog w K mg base CX0 9 "_law_table" ["_law_script","_law_place","_law_most"] (spD K (C) 3 2 Dl.Zas):=⟨f11,_,B6 X G a11,F11.kp,b11,Zmc F11 T D_law_row⟩;have b12:=F12.binds (ps:=["_law_script","_law_place","_law_most"]) fun _ _ _ _ _ _=>Zhd (fun _ _ _=>rfl);have D_law_flaw:Def l.prog w K mg base CX0 9 "_law_flaw" ["_law_script","_law_place","_law_most"] (spD K (C) 3 2 Dl.Zbn):=⟨f12,_,B6 X G a12,F12.kp,b12,Zpn F12 T D_law_row⟩;have b13:=F13.binds (ps:=["_law_script","_law_place","_law_most","_law_flaw_here"]) fun _ _ _ _ _ _=>Zwd (fun _ _ _ _=>rfl);have D_law_roll:Def l.prog w K mg base CX0 9 "_law_roll" ["_law_script","_law_place","_law_most","_law_flaw_here"] (spD K (C) 4 2 Dl.Zak):=⟨f13,_,B6 X G a13,F13.kp,b13,Zpf F13 T D_law_row⟩;have b20:=F20.binds (ps:=["_law_script","_law_place","_law_table_here","_law_most","_law_limit"]) fun _ _ _ _ _ _=>Xcz (fun _ _ _ _ _=>rfl);have D_law_order:Def l.prog w K mg base CX0 9 "_law_order" ["_law_script","_law_place","_law_table_here","_law_most","_law_limit"] (spD K (C) 5 2 Dl.Zay):=⟨f20,_,B6 X G a20,F20.kp,b20,Zok F20 T D_law_row⟩;have b21:=F21.binds (ps:=["_law_rolls_here","_law_table_here","_law_order_here","_law_plan"]) fun _ _ _ _ _ _=>Zwd (fun _ _ _ _=>rfl);have D_law_left:Def l.prog w K mg base CX0 9 "_law_left" ["_law_rolls_here","_law_table_here","_law_order_here","_law_plan"] (spD K (C) 4 2 Dl.Zbp):=⟨f21,_,B6 X G a21,F21.kp,b21,Zpc F21 T D_law_is_cutting D_law_amount⟩;have b23:=F23.binds (ps:=["_law_script","_law_place","_law_roll_here","_law_table_here","_law_wanted"]) fun _ _ _ _ _ _=>Xcz (fun _ _ _ _ _=>rfl);have b24:=F24.binds (ps:=["_law_script","_law_place"]) fun _ _ _ _ _ _=>Zsv (fun _ _=>rfl);have D_law_any_word:Def l.prog w K mg base CX0 9 "_law_any_word" ["_law_script","_law_place"] (spD K (C) 2 2 Dl.Yg):=⟨f24,_,B6 X G a24,F24.kp,b24,Zim F24 T D_law_row⟩;have b29:=F29.binds (ps:=["_law_script","_law_place","_law_roll_here","_law_table_here","_law_wanted"]) fun _ _ _ _ _ _=>Xcz (fun _ _ _ _ _=>rfl);have D_law_laid__W:Def l.prog w K mg base CX0 9 "_law_laid" ["_law_script","_law_place","_law_roll_here","_law_table_here","_law_wanted"] (Xgv K (C) 4 Dl.Xw):=⟨f29,_,B6 X G a29,F29.kp,b29,Zjw F29 T D_law_sums D_law_row D_law_good⟩;have b6:=F6.binds (ps:=["rolls","table","plan"]) fun _ _ _ _ _ _=>Zhd (fun _ _ _=>rfl);have Dis_plan:Def l.prog w K mg base CX0 10 "is_plan" ["rolls","table","plan"] (spD K (C) 3 2 Dl.Zdr):=⟨f6,_,B6 X G a6,F6.kp,b6,Zza F6 T Damount⟩;have b19:=F19.binds (ps:=["_law_script","_law_place","_law_most","_law_cells","_law_kinds"]) fun _ _ _ _ _ _=>Xcz (fun _ _ _ _ _=>rfl);have D_law_rolls:Def l.prog w K mg base CX0 10 "_law_rolls" ["_law_script","_law_place","_law_most","_law_cells","_law_kinds"] (spD K (C) 5 2 Dl.Zaw):=⟨f19,_,B6 X G a19,F19.kp,b19,Zmz F19 T D_law_flaw D_law_table D_law_row D_law_roll⟩;have b7:=F7.binds (ps:=["rolls","table","order","plan"]) fun _ _ _ _ _ _=>Zwd (fun _ _ _ _=>rfl);have Dplan_left:Def l.prog w K mg base CX0 11 "plan_left" ["rolls","table","order","plan"] (spD K (C) 4 2 Dl.Zam):=⟨f7,_,B6 X G a7,F7.kp,b7,Zpw F7 T Dis_plan Dnames⟩;have b27:=F27.binds (ps:=["_law_rolls_here","_law_table_here","_law_order_here","_law_plan"]) fun _ _ _ _ _ _=>Zwd (fun _ _ _ _=>rfl);have D_law_right:Def l.prog w K mg base CX0 12 "_law_right" ["_law_rolls_here","_law_table_here","_law_order_here","_law_plan"] (spD K (C) 4 2 Dl.Jw):=⟨f27,_,B6 X G a27,F27.kp,b27,Znr F27 T D_law_copies D_law_left Dplan_left D_law_is_whole⟩;exact (oklaw (C:=C) F28 T D_law_row D_law_rolls D_law_order D_law_laid__W D_law_right D_law_spoilt D_law_any_word).imp fun vs H Q E h=>by obtain ⟨a,ns,rfl,hz,hl,q⟩:=h;refine ⟨[.scr ns],[],rfl,⟨.ref a,[],[],[],rfl,⟨a,rfl,hz,rfl⟩,⟨rfl,rfl⟩,rfl⟩,?_⟩;rw [Xcl ns hl];rintro v H' _ ⟨B,r,_⟩;obtain ⟨rfl,_⟩:=r;exact q H'
theorem walk {l:PySem.W.OpenLaw}{K:Params->AE}(hn:l.most=some 63)(hdf:d.params.defaults=[])
    (hY:∀(w:AS) (h:AZ),YP w h->(K w.params).In h)
    (F:∀(w:AS) (mg:Str->Option Value) (fa:Addr) (h:AZ),(K w.params).In h->h.Ns Ag mg->mg d.name=some (.ref fa)->
      ∃fd:B3,(∀(s:Ac) (u:Value),Ef s fd ⟨[u],[]⟩ [("_law_script",u)])/\∀base:AZ,(K w.params).In base->base.Ns Ag mg->Zbd l.prog w (K w.params) mg base CX0 13 fa fd ["_law_script"] (Xjw (K w.params))) :
    PySem.W.WalkO q loose XP YP l.row.toRowW d [] (fun f vs=>PySem.call f vs):=
  L2.Xhc (n:=63) (k:=13) (x:="_law_script") (CX:=fun _=>CX0) (sp:=fun w=>Xjw (K w.params)) hn (by decide) hdf ⟨rfl,by decide,by decide,rfl⟩ hY F (fun _ H a ns hl hO hS=>⟨a,ns,rfl,fz_of hO hS,hl,fun _=>rfl⟩) fun _ _ _ _ _ z=>z
end K62
open PySem PySem.W PyProof.Rows
set_option maxRecDepth 100000 in
set_option maxHeartbeats 0 in
theorem PySem.Challenge.cw_selvage_k62_what_plans_leave_holds : PySem.Challenge.rw_selvage_k62_what_plans_leave.Holds := by
 w_on;o_law;z_head;(case hw=>w_witness2)
 k_fill
 refine L2.Xdb (fun _=>by kernel_rfl) (K62.walk (l:=PySem.Challenge.rw_selvage_k62_what_plans_leave) rfl rfl (fun w h Y=>Y) ?F)
 case F =>
  intro w mg fa h KX G hmg;refine' K62.all_mk KX G hmg ?a1 (L2.Yj ?l1 ?c1 ?k1) ?a2 (L2.Yj ?l2 ?c2 ?k2) ?a3 (L2.Yj ?l3 ?c3 ?k3) ?a4 (L2.Yj ?l4 ?c4 ?k4) ?a5 (L2.Yj ?l5 ?c5 ?k5) ?a6 (L2.Yj ?l6 ?c6 ?k6) ?a7 (L2.Yj ?l7 ?c7 ?k7) ?a8 (L2.Yj ?l8 ?c8 ?k8) ?a9 (L2.Yj ?l9 ?c9 ?k9) ?a10 (L2.Yj ?l10 ?c10 ?k10) ?a11 (L2.Yj ?l11 ?c11 ?k11) ?a12 (L2.Yj ?l12 ?c12 ?k12) ?a13 (L2.Yj ?l13 ?c13 ?k13) ?a14 (L2.Yj ?l14 ?c14 ?k14) ?a15 (L2.Yj ?l15 ?c15 ?k15) ?a16 (L2.Yj ?l16 ?c16 ?k16) ?a17 (L2.Yj ?l17 ?c17 ?k17) ?a18 (L2.Yj ?l18 ?c18 ?k18) ?a19 (L2.Yj ?l19 ?c19 ?k19) ?a20 (L2.Yj ?l20 ?c20 ?k20) ?a21 (L2.Yj ?l21 ?c21 ?k21) ?a22 (L2.Yj ?l22 ?c22 ?k22) ?a23 (L2.Yj ?l23 ?c23 ?k23) ?a24 (L2.Yj ?l24 ?c24 ?k24) ?a25 (L2.Yj ?l25 ?c25 ?k25) ?a26 (L2.Yj ?l26 ?c26 ?k26) ?a27 (L2.Yj ?l27 ?c27 ?k27) ?a28 (L2.Yj ?l28 ?c28 ?k28) ?a29 (L2.Yj ?l29 ?c29 ?k29) ?z1 ?z2 ?z3 ?z4 ?z5 ?z6 ?z7 ?z8 ?z9 ?z10 ?z11 ?z12 ?z13 ?z14 ?gNoKind ?xNoKind ?tNoKind ?kNoKind ?gaNoKind ?geNoKind ?lkNoKind ?soNoKind ?sbNoKind ?seNoKind ?gNoPlace ?xNoPlace ?tNoPlace ?kNoPlace ?gaNoPlace ?geNoPlace ?lkNoPlace ?soNoPlace ?sbNoPlace ?seNoPlace ?sNoKind_NoPlace
  (case a1=>k_is)
  (case l1=>k_is)
  (case c1=>k_is)
  (case k1=>k_is)
  (case a2=>k_is)
  (case l2=>k_is)
  (case c2=>k_is)
  (case k2=>k_is)
  (case a3=>k_is)
  (case l3=>k_is)
  (case c3=>k_is)
  (case k3=>k_is)
  (case a4=>k_is)
  (case l4=>k_is)
  (case c4=>k_is)
  (case k4=>k_is)
  (case a5=>k_is)
  (case l5=>k_is)
  (case c5=>k_is)
  (case k5=>k_is)
  (case a6=>k_is)
  (case l6=>k_is)
  (case c6=>k_is)
  (case k6=>k_is)
  (case a7=>k_is)
  (case l7=>k_is)
  (case c7=>k_is)
  (case k7=>k_is)
  (case a8=>k_is)
  (case l8=>k_is)
  (case c8=>k_is)
  (case k8=>k_is)
  (case a9=>k_is)
  (case l9=>k_is)
  (case c9=>k_is)
  (case k9=>k_is)
  (case a10=>k_is)
  (case l10=>k_is)
  (case c10=>k_is)
  (case k10=>k_is)
  (case a11=>k_is)
  (case l11=>k_is)
  (case c11=>k_is)
  (case k11=>k_is)
  (case a12=>k_is)
  (case l12=>k_is)
  (case c12=>k_is)
  (case k12=>k_is)
  (case a13=>k_is)
  (case l13=>k_is)
  (case c13=>k_is)
  (case k13=>k_is)
  (case a14=>k_is)
  (case l14=>k_is)
  (case c14=>k_is)
  (case k14=>k_is)
  (case a15=>k_is)
  (case l15=>k_is)
  (case c15=>k_is)
  (case k15=>k_is)
  (case a16=>k_is)
  (case l16=>k_is)
  (case c16=>k_is)
  (case k16=>k_is)
  (case a17=>k_is)
  (case l17=>k_is)
  (case c17=>k_is)
  (case k17=>k_is)
  (case a18=>k_is)
  (case l18=>k_is)
  (case c18=>k_is)
  (case k18=>k_is)
  (case a19=>k_is)
  (case l19=>k_is)
  (case c19=>k_is)
  (case k19=>k_is)
  (case a20=>k_is)
  (case l20=>k_is)
  (case c20=>k_is)
  (case k20=>k_is)
  (case a21=>k_is)
  (case l21=>k_is)
  (case c21=>k_is)
  (case k21=>k_is)
  (case a22=>k_is)
  (case l22=>k_is)
  (case c22=>k_is)
  (case k22=>k_is)
  (case a23=>k_is)
  (case l23=>k_is)
  (case c23=>k_is)
  (case k23=>k_is)
  (case a24=>k_is)
  (case l24=>k_is)
  (case c24=>k_is)
  (case k24=>k_is)
  (case a25=>k_is)
  (case l25=>k_is)
  (case c25=>k_is)
  (case k25=>k_is)
  (case a26=>k_is)
  (case l26=>k_is)
  (case c26=>k_is)
  (case k26=>k_is)
  (case a27=>k_is)
  (case l27=>k_is)
  (case c27=>k_is)
  (case k27=>k_is)
  (case a28=>k_is)
  (case l28=>k_is)
  (case c28=>k_is)
  (case k28=>k_is)
  (case a29=>k_is)
  (case l29=>k_is)
  (case c29=>k_is)
  (case k29=>k_is)
  (case z1=>k_is)
  (case z2=>k_is)
  (case z3=>k_is)
  (case z4=>k_is)
  (case z5=>k_is)
  (case z6=>k_is)
  (case z7=>k_is)
  (case z8=>k_is)
  (case z9=>k_is)
  (case z10=>k_is)
  (case z11=>k_is)
  (case z12=>k_is)
  (case z13=>k_is)
  (case z14=>k_is)
  (case gNoKind=>k_is)
  (case xNoKind=>kernel_rfl)
  (case tNoKind=>k_is)
  (case kNoKind=>k_is)
  (case gaNoKind=>k_is)
  (case geNoKind=>k_is)
  (case lkNoKind=>k_is)
  (case soNoKind=>k_is)
  (case sbNoKind=>k_is)
  (case seNoKind=>k_is)
  (case gNoPlace=>k_is)
  (case xNoPlace=>kernel_rfl)
  (case tNoPlace=>k_is)
  (case kNoPlace=>k_is)
  (case gaNoPlace=>k_is)
  (case geNoPlace=>k_is)
  (case lkNoPlace=>k_is)
  (case soNoPlace=>k_is)
  (case sbNoPlace=>k_is)
  (case seNoPlace=>k_is)
  (case sNoKind_NoPlace=>k_is)
